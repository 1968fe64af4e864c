/- Steps of the program (14); no conditions. -/
import Derived.Test.YtfohooineeijkaaGreatM13
set_option linter.all false
set_option maxRecDepth 100000
set_option maxHeartbeats 16000000
namespace Go.Proofs.YtfohooineeijkaaGreat.aj
open Go Fix Go.RowKit
open List renaming mem_cons_of_mem → ja7,mem_cons_self → jb1,all_eq_true → jb6,foldl_cons → jb9,contains_iff_mem → jb'
variable {v:Nat->Value}{listed:Array Bool}{a:Act}{i fuel:Nat}{q:Nat->Bool}{I:List Nat}
section
variable {P:Program} {ops:Array Oper} {Q:Exit->Act->World->Prop} {md:Region.Mode} {S:World->Prop} {m:Nat}
def mW(ops:Array Oper)(i:Nat):Option Tmp:=(ops[i]?).bind (·.dst)
def mH(ops:Array Oper)(v:Nat->Value)(a:Act)(l:List Nat):Act:=l.foldl (λa i=>a.put (mW ops i) (v i)) a
def setOf(s:Array Bool)(l:List Nat):Array Bool:=l.foldl (λs i=>s.setIfInBounds i true) s
def subs:List Nat->List (List Nat)
 | []=>[[]]
 | x::l=>subs l++(subs l).map (x :: ·)
theorem ND(d:Nat->Bool):∀I:List Nat,I.filter d∈subs I
 | []=>by simp[subs]
 | x::l=>by
   rw[List.filter_cons,subs];have:=ND d l;split
   . exact List.mem_append_right _ (List.mem_map.2 ⟨_,this,rfl⟩)
   . exact List.mem_append_left _ this
def DZ(md:Region.Mode)(ops:Array Oper)(listed:Array Bool)(I:List Nat)(dep:Nat->List Nat):Bool :=
 ((subs I).all λD=>D==I || !(D.all λi=>(dep i).all D.contains) ||
   (!(Region.ready md ops (setOf listed D)).isEmpty&&(Region.ready md ops (setOf listed D)).all λi=>I.contains i&&(!D.contains i&&(dep i).all D.contains))) &&
 (I.all λi=>I.all λj=>i==j||((mW ops i).isNone||mW ops i != mW ops j)&&((dep i).contains j||((dep j).contains i||match ops[i]?,ops[j]? with
  | some x,some y=>y.apart ops x
  | _,_=>false)))
theorem Fz{β:Type}(f:β->Nat->β):∀(l:List Nat) (b:β),(∀j∈l,∀c,f (f c i) j=f (f c j) i)->l.foldl f (f b i)=f (l.foldl f b) i
 | [],_,_=>rfl
 | x::l,b,h=>by
   rw[jb9,jb9,h x jb1,Fz f l _ λj hj=>h j (ja7 _ hj)]
theorem yY{β:Type}(f:β->Nat->β){d:Nat->Bool}(hd:d i=false):∀(l:List Nat) (b:β),l.Nodup->i∈l->(∀j∈l,j≠i->∀c,f (f c i) j=f (f c j) i)->(l.filter λj=>j==i||d j).foldl f b=f ((l.filter d).foldl f b) i
 | [],_,_,h,_=>by cases h
 | x::l,b,hn,hi,hc=>by
   rw[List.nodup_cons]at hn;by_cases hx:x=i
   . subst hx
     have e:l.filter (λj=>j==x||d j)=l.filter d:=List.filter_congr λj hj=>by
      have:j≠x:=λh=>hn.1 (h▸hj);simp[this]
     rw[List.filter_cons,List.filter_cons,e];simp only[BEq.rfl,Bool.true_or,if_true,hd,Bool.false_eq_true,if_false,jb9];exact Fz f _ _ λj hj c=>hc j (ja7 _ (List.mem_filter.1 hj).1) (λh=>hn.1 (h▸(List.mem_filter.1 hj).1)) c
   . have hi':i∈l:=by simpa[Ne.symm hx]using hi
     have ih:=λb=>yY f hd l b hn.2 hi' λj hj=>hc j (ja7 _ hj);rw[List.filter_cons,List.filter_cons];have:(x==i||d x)=d x:=by simp[hx]
     rw[this];cases d x
     . exact ih b
     . exact ih _
theorem Cu{ops:Array Oper}{v v':Nat->Value}:∀(l:List Nat) (a:Act),(∀j∈l,v j=v' j)->mH ops v a l=mH ops v' a l
 | [],_,_=>rfl
 | x::l,a,h=>by
   unfold mH at *;rw[jb9,jb9,h x jb1];exact Cu l _ λj hj=>h j (ja7 _ hj)
theorem yZ:∀(l:List Nat) (a:Act),(mH ops v a l).tmps.size=a.tmps.size
 | [],_=>rfl
 | x::l,a=>by
   show(mH ops v (a.put (mW ops x) (v x)) l).tmps.size=_;rw[yZ l];unfold Act.put;split<;>simp
theorem YK{a a':Act}{d:Option Tmp}{v:Value}{x:Operand}(hs:a.tmps.size=a'.tmps.size)(h:a.eval x=a'.eval x):(a.put d v).eval x=(a'.put d v).eval x:=by
 cases d with
 | none=>exact h
 | some d =>
   by_cases hx:x=.tmp d
   . subst hx
     simp[Act.eval,Act.put,Array.getElem?_setIfInBounds,hs]
   . rw[Act.eval_put λe he h=>hx (by cases he;exact h),Act.eval_put λe he h=>hx (by cases he;exact h)];exact h
theorem FB(l:List Nat)(x:Nat)(a:Act):mH ops v a (l++[x])=(mH ops v a l).put (mW ops x) (v x):=by
 unfold mH;rw[List.foldl_append];rfl
theorem za{x:Operand}:∀(l:List Nat),(∀j∈l.reverse,q j=true\/∀d,mW ops j=some d->x ≠ .tmp d)->(mH ops v a l.reverse).eval x=(mH ops v a (l.reverse.filter q)).eval x
 | [],_=>rfl
 | y::l,h=>by
   rw[List.reverse_cons,FB,List.filter_append];have ih:=za l λj hj=>h j (by rw[List.reverse_cons];exact List.mem_append_left _ hj);cases hy:q y
   . rw[List.filter_cons,hy]
     simp only[Bool.false_eq_true,if_false,List.filter_nil,List.append_nil];rw[Act.eval_put,ih];exact λd hd=>(h y bI).resolve_left (by simp[hy]) d hd
   . rw[List.filter_cons,hy]
     simp only[if_true,List.filter_nil];rw[FB];exact YK (by rw[yZ,yZ]) ih
def YL(P:Program)(ops:Array Oper)(S:World->Prop)(m:Nat)(a:Act)(dep:Nat->List Nat)(I:List Nat)(Inv:(Nat->Bool)->(Nat->Value)->World->Prop)(i:Nat):Prop:=∃o,ops.toList[i]? = some o/\o.guard=none/\∀d v w,Inv d v w->(∀j∈dep i,d j=true)->d i=false->Step P (λu w'=>(i<m->S w')/\Inv (λj=>j==i||d j) (λj=>if j=i then u else v j) w') ((execOp (mH ops v a (I.filter (dep i).contains)).eval o).run P w)
def Each(p:Nat->Prop):List Nat->Prop
 | []=>True
 | i::l=>p i/\Each p l
theorem Each.at{p:Nat->Prop}:∀{l:List Nat},Each p l->i∈l->p i
 | [],_,h=>by cases h
 | x::l,hs,h=>by
   rcases List.mem_cons.1 h with rfl|h
   . exact hs.1
   . exact hs.2.at h
theorem QJ{d:Nat->Bool}{i n:Nat}(hd:d i=false):∀(l:List Nat),l.Nodup->i∈l->(l.filter λj => !d j).length=n+1->(l.filter λj => !(j==i||d j)).length=n
 | l,hn,hi,h=>by
   have e:(l.filter λj => !(j==i||d j))=(l.filter λj => !d j).erase i:=by
    rw[List.Nodup.erase_eq_filter (hn.filter _),List.filter_filter];exact List.filter_congr λj _=>by cases d j<;>simp[bne]
   rw[e,List.length_erase_of_mem (List.mem_filter.2 ⟨hi,by simp[hd]⟩),h];rfl
theorem SQ(I:List Nat)(dep:Nat->List Nat)(Inv:(Nat->Bool)->(Nat->Value)->World->Prop)
  (hc:DZ md ops listed I dep=true) (hns:Region.noSelect ops=true) (hn:I.Nodup) (hst:∀i∈I,YL P ops S m a dep I Inv i)
  (hend:∀d v w,(∀i∈I,d i=true)->Inv d v w->bL P md ops Q S m fuel (setOf listed I) (mH ops v a I) w) :
  ∀(n:Nat) (d:Nat->Bool) (v:Nat->Value) (w:World),(I.filter λi => !d i).length=n->Inv d v w->(∀i∈I,d i=true->∀j∈dep i,j∈I/\d j=true)->bL P md ops Q S m (fuel+n) (setOf listed (I.filter d)) (mH ops v a (I.filter d)) w:=by
 obtain⟨hc1,hc2⟩:_/\_:=by simpa only[DZ,Bool.and_eq_true]using hc
 intro n
 induction n with
 | zero =>
   intro d v w hl hI _
   have hall:∀i∈I,d i=true:=λi hi=>by
    have h0:=List.eq_nil_of_length_eq_zero hl;rw[List.filter_eq_nil_iff]at h0;simpa using h0 i hi
   rw[List.filter_eq_self.2 hall];exact hend d v w hall hI
 | succ n ih =>
   intro d v w hl hI hcl
   have hne:I.filter d≠I:=λe=>by
    rw[List.filter_eq_self]at e;have:I.filter (λi => !d i)=[]:=List.filter_eq_nil_iff.2 λi hi=>by simp[e i hi]
    rw[this]at hl;cases hl
   have h1:=List.all_eq_true.1 hc1 _ (ND d I);have aiH:((I.filter d).all λi=>(dep i).all (I.filter d).contains)=true:=by
    rw[jb6];intro i hi;rw[jb6];intro j hj;obtain⟨hi1,hi2⟩:=List.mem_filter.1 hi;rw[jb'];exact List.mem_filter.2 (hcl i hi1 hi2 j hj)
   rw[aiH,beq_false_of_ne hne]at h1;simp only[Bool.not_true,Bool.or_false,Bool.false_or,Bool.and_eq_true,Bool.not_eq_true',List.isEmpty_eq_false_iff,jb6,jb']at h1;refine⟨h1.1,λi hi => ?_⟩;obtain⟨hiI,hiD,aiI⟩:=h1.2 i hi;have hd:d i=false:=by
    cases e:d i with
    | false=>rfl
    | true=>rw[show(I.filter d).contains i=true from List.contains_iff_mem.2 (List.mem_filter.2 ⟨hiI,e⟩)]at hiD;cases hiD
   have hdd:∀j∈dep i,j∈I/\d j=true:=λj hj=>List.mem_filter.1 (aiI j hj);obtain⟨o,ho,hg,hstep⟩:=hst i hiI;have ho':=uL ho;have hdst:mW ops i=o.dst:=by unfold mW;rw[ho'];rfl
   have pair:∀j∈I,j≠i->((mW ops j).isNone=true\/mW ops j≠mW ops i)/\(i∈dep j\/j∈dep i\/∃y,ops[j]? = some y/\o.apart ops y=true):=λj hj hji=>by
    have:=List.all_eq_true.1 (List.all_eq_true.1 hc2 j hj) i hiI;simp only[beq_false_of_ne hji,Bool.false_or,Bool.and_eq_true,Bool.or_eq_true,bne_iff_ne,jb',ho']at this;refine⟨this.1,this.2.imp id λh=>h.imp id λh => ?_⟩;cases hy:ops[j]? with
    | none=>rw[hy]at h;cases h
    | some y=>rw[hy]at h;exact⟨y,rfl,h⟩
   refine⟨o,ho',.inl ⟨by unfold Region.wanted;rw[hg],?_⟩⟩;have heq:execOp (mH ops v a (I.filter d)).eval o=execOp (mH ops v a (I.filter (dep i).contains)).eval o:=by
    refine execOp_congr o (λcs b e => ?_) λx hx => ?_
    . exact Region.noSelect_spec hns i o cs b ho' e
    . have:=za (ops:=ops) (v:=v) (a:=a) (x:=x) (q:=(dep i).contains) (I.filter d).reverse (λj hj=>by
       rw[List.reverse_reverse]at hj;obtain⟨hj1,hj2⟩:=List.mem_filter.1 hj;have hji:j≠i:=λe=>by rw[e,hd]at hj2;cases hj2
       rcases(pair j hj1 hji).2 with h|h|⟨y,hy,hap⟩
       . have:=(hcl j hj1 hj2 i h).2;rw[hd]at this;cases this
       . exact .inl (List.contains_iff_mem.2 h)
       . refine .inr λdd hdd hxe => ?_
         obtain⟨a1,a2,a3⟩:=Oper.apart_spec hap;have:y.dst=some dd:=by unfold mW at hdd;rw[hy]at hdd;exact hdd
         refine a3 dd this ?_;subst hxe
         exact List.mem_append_left _ (List.mem_filterMap.2 ⟨.tmp dd,by simpa using hx,rfl⟩))
      rw[List.reverse_reverse,List.filter_filter]at this;rw[this];congr 2
      exact List.filter_congr λj hj=>by
       cases hq:(dep i).contains j with
       | false=>rfl
       | true=>simp[(hdd j (List.contains_iff_mem.1 hq)).2]
   rw[heq];refine(hstep d v w hI (λj hj=>(hdd j hj).2) hd).mono λu w' ⟨hS,hI'⟩=>⟨hS,?_⟩
   have key:=ih (λj=>j==i||d j) (λj=>if j=i then u else v j) w' (QJ hd I hn hiI hl) hI' (λj hj hjd k hk=>by
    simp only[Bool.or_eq_true,beq_iff_eq]at hjd;rcases hjd with h|h
    . subst h
      exact⟨(hdd k hk).1,by simp[(hdd k hk).2]⟩
    . exact⟨(hcl j hj h k hk).1,by simp[(hcl j hj h k hk).2]⟩)
   have e1:setOf listed (I.filter λj=>j==i||d j)=(setOf listed (I.filter d)).setIfInBounds i true :=
    yY (λ(s:Array Bool) i=>s.setIfInBounds i true) hd I listed hn hiI λj _ hji c=>Array.setIfInBounds_comm _ _ (Ne.symm hji)
   have e2:mH ops (λj=>if j=i then u else v j) a (I.filter λj=>j==i||d j)=(mH ops v a (I.filter d)).put o.dst u:=by
    have:=yY (λa j=>a.put (mW ops j) (if j=i then u else v j)) hd I a hn hiI λj hj hji c =>
     (Act.put_comm c (x:=mW ops i) (y:=mW ops j) (if i=i then u else v i) (if j=i then u else v j) λdd h1 h2=>by
      rcases(pair j hj hji).1 with h|h
      . rw[h2]at h;cases h
      . exact h (h2.trans h1.symm))
    show(I.filter λj=>j==i||d j).foldl _ a=_;rw[this,hdst];simp only[if_true];congr 1
    exact Cu (ops:=ops) (I.filter d) a λj hj=>by
     have:j≠i:=λe=>by rw[e,List.mem_filter,hd]at hj;cases hj.2
     rw[if_neg this]
   rw[e1,e2]at key;exact key
def ze(a:Act):List Tmp->List Value->Act
 | t::ts,x::xs=>ze (a.put (some t) x) ts xs
 | _,_=>a
theorem oF(a:Act):ze a [] []=a:=rfl
theorem kY(a:Act)(t:Tmp)(ts:List Tmp)(x:Value)(xs:List Value):ze a (t::ts) (x::xs)=ze (a.put (some t) x) ts xs:=rfl
theorem qd(s:Array Bool):setOf s []=s:=rfl
theorem oG(s:Array Bool)(i:Nat)(l:List Nat):setOf s (i::l)=setOf (s.setIfInBounds i true) l:=rfl
theorem vg:∀(I:List Nat) (T:List Tmp) (a:Act),I.map (mW ops)=T.map some->mH ops v a I=ze a T (I.map v)
 | [],[],_,_=>rfl
 | [],_::_,_,h=>by cases h
 | _::_,[],_,h=>by cases h
 | i::l,t::ts,a,h=>by
   simp only[List.map_cons,List.cons.injEq]at h;rw[List.map_cons,kY,<-vg l ts _ h.2,<-h.1];rfl
theorem SS{t:Tmp}{x:Value}(hI:I.filter q=[i])(hd:mW ops i=some t)(hv:v i=x):mH ops v a (I.filter q)=a.put (some t) x:=by
 rw[hI,<-hv];unfold mH;rw[jb9,hd];rfl
theorem YM{w:World}(n:Nat)(I:List Nat)(T:List Tmp)(dep:Nat->List Nat)(Inv:(Nat->Bool)->(Nat->Value)->World->Prop)
  (hst:Each (YL P ops S m a dep I Inv) I) (h0:Inv (λ_=>false) (λ_=>undef) w)
  (hend:∀d v w,(∀i∈I,d i=true)->Inv d v w->bL P md ops Q S m fuel (setOf listed I) (ze a T (I.map v)) w)
  (hc:DZ md ops listed I dep=true:=by kernel_rfl) (hns:Region.noSelect ops=true:=by kernel_rfl) (hT:I.map (mW ops)=T.map some:=by kernel_rfl) (hn:I.Nodup:=by decide) (hl:I.length=n:=by rfl):bL P md ops Q S m (fuel+n) listed a w:=by
 have key:=SQ (P:=P) (Q:=Q) (S:=S) (m:=m) (fuel:=fuel) (listed:=listed) (a:=a) I dep Inv hc hns hn (λi hi=>hst.at hi) (λd v w hd hI=>by rw[vg I T a hT];exact hend d v w hd hI) n (λ_=>false) (λ_=>undef) w (by rw[<-hl,List.filter_eq_self.2 bI]) h0 bI;have e:I.filter (λ_=>false)=[]:=by simp
 rw[e]at key;exact key
def Rv(x:Value):Value->Nat->Nat->World->Prop:=λv _ _ _=>v=x
def Ra(o:Obj):Value->Nat->Nat->World->Prop:=λv s e w=>v=.pointer (some ⟨s,0,none⟩)/\s<e/\At w s o
theorem Ra.keep{o:Obj}{v:Value}{s e:Nat}{w w':World}(h:Ra o v s e w)(hb:Below w w w'):Ra o v s e w':=⟨h.1,h.2.1,At.keep h.2.2 hb⟩
theorem Ra.made{o:Obj}{w:World}{r:Result Next}(hr:r=.ok (.value (.pointer w)) (w.alloc o)):Step P (λu w'=>Below w w w'/\Ra o u w.heap.size w'.heap.size w') r :=
 Step.value hr ⟨aD aG _,rfl,by simp,At.new _ _⟩
def YN(ops:Array Oper)(I:List Nat)(dep:Nat->List Nat):Bool:=I.all λi=>(I.filter (dep i).contains).all λj=>match ops[i]?,ops[j]? with
 | some x,some y=>x.apart ops y
 | _,_=>false
theorem qg(hI:I.filter q=[]):mH ops v a (I.filter q)=a:=by rw[hI];rfl
theorem Bu{dep:Nat->List Nat}(h:YN ops I dep=true)(hns:Region.noSelect ops=true)(hi:i∈I){o:Oper}(ho:ops[i]? = some o)(v:Nat->Value)(a:Act):execOp (mH ops v a (I.filter (dep i).contains)).eval o=execOp a.eval o:=by
 have h1:=List.all_eq_true.1 (List.all_eq_true.1 h i hi);refine execOp_congr o (λcs b e=>Region.noSelect_spec hns i o cs b ho e) λx hx => ?_
 have:=za (ops:=ops) (v:=v) (a:=a) (x:=x) (q:=λ_=>false) (I.filter (dep i).contains).reverse (λj hj=>by
  rw[List.reverse_reverse]at hj;have h2:=h1 j hj;rw[ho]at h2;cases hy:ops[j]? with
  | none=>rw[hy]at h2;cases h2
  | some y =>
    rw[hy]at h2;refine .inr λdd hdd hxe => ?_;have:y.dst=some dd:=by unfold mW at hdd;rw[hy]at hdd;exact hdd
    refine(Oper.apart_spec h2).2.2 dd this ?_;subst hxe
    exact List.mem_append_left _ (List.mem_filterMap.2 ⟨.tmp dd,by simpa using hx,rfl⟩))
 rw[List.reverse_reverse,show(I.filter (dep i).contains).filter (λ_=>false)=[]by simp]at this;exact this
def aiJ(P:Program)(ops:Array Oper)(a:Act)(w0:World)(R:Nat->Value->Nat->Nat->World->Prop)(i:Nat):Prop:=(∀v s e w w',R i v s e w->Below w.heap.size w w'->R i v s e w')/\∃o,ops.toList[i]? = some o/\o.guard=none/\∀w,Below w0 w0 w->Step P (λu w'=>Below w.heap.size w w'/\R i u w.heap.size w'.heap.size w') ((execOp a.eval o).run P w)
theorem vk{w0:World}(n:Nat)(I:List Nat)(T:List Tmp)(dep:Nat->List Nat)(R:Nat->Value->Nat->Nat->World->Prop)
  (hst:Each (aiJ P ops a w0 R) I) (hS:∀X,Below w0 w0 X->S X)
  (hend:∀(v:Nat->Value) (s e:Nat->Nat) (w:World),Below w0 w0 w->(∀i∈I,w0.heap.size<=s i/\s i<=e i/\R i (v i) (s i) (e i) w)->(∀i∈I,∀j∈I,i≠j->e i<=s j\/e j<=s i)->bL P md ops Q S m fuel (setOf listed I) (ze a T (I.map v)) w)
  (hc:DZ md ops listed I dep=true:=by kernel_rfl) (hns:Region.noSelect ops=true:=by kernel_rfl) (hT:I.map (mW ops)=T.map some:=by kernel_rfl) (hn:I.Nodup:=by decide) (hl:I.length=n:=by rfl) (hlk:YN ops I dep=true:=by kernel_rfl):bL P md ops Q S m (fuel+n) listed a w0:=by
 have key:=SQ (P:=P) (Q:=Q) (S:=S) (m:=m) (fuel:=fuel) (a:=a) I dep
  (λd v w=>Below w0 w0 w/\∃s e:Nat->Nat,(∀i∈I,d i=true->w0.heap.size<=s i/\s i<=e i/\e i<=w.heap.size/\R i (v i) (s i) (e i) w)/\(∀i∈I,∀j∈I,d i=true->d j=true->i≠j->e i<=s j\/e j<=s i))
  hc hns hn (λi hi=>by
   obtain⟨_,o,ho,hg,hstep⟩:=hst.at hi;refine⟨o,ho,hg,λd v w hI _ hd => ?_⟩;obtain⟨hB,s,e,h1,h2⟩:=hI;rw[Bu hlk hns hi (uL ho)];refine(hstep w hB).mono ?_;rintro u w' ⟨hb,hr⟩;have hB':Below w0 w0 w':=hB.trans (hb.mono hB.size);have hsz:=hb.size;refine⟨λ_=>hS _ hB',hB',λj=>if j=i then w.heap.size else s j,λj=>if j=i then w'.heap.size else e j,λj hj hjd => ?_,λj hj k hk hjd hkd hne => ?_⟩
   . by_cases hji:j=i
     . subst hji
       simp only[if_true];exact⟨hB.size,hsz,aO _,hr⟩
     . simp only[if_neg hji]
       obtain⟨q1,q2,q3,q4⟩:=h1 j hj (by simpa[hji]using hjd);exact⟨q1,q2,aK q3 hsz,(hst.at hj).1 _ _ _ _ _ q4 hb⟩
   . by_cases hji:j=i
     . have hki:k≠i:=λh=>hne (hji.trans h.symm)
       simp only[if_pos hji,if_neg hki];exact .inr (h1 k hk (by simpa[hki]using hkd)).2.2.1
     . have agd:d j=true:=by simpa[hji]using hjd
       by_cases hki:k=i
       . simp only[if_neg hji,if_pos hki]
         exact .inl (h1 j hj agd).2.2.1
       . simp only[if_neg hji,if_neg hki]
         exact h2 j hj k hk agd (by simpa[hki]using hkd) hne)
  (λd v w hd hI=>by
   obtain⟨hB,s,e,h1,h2⟩:=hI;rw[vg I T a hT]
   exact hend v s e w hB (λi hi=>⟨(h1 i hi (hd i hi)).1,(h1 i hi (hd i hi)).2.1,(h1 i hi (hd i hi)).2.2.2⟩) λi hi j hj hne=>h2 i hi j hj (hd i hi) (hd j hj) hne)
  n (λ_=>false) (λ_=>undef) w0 (by rw[<-hl,List.filter_eq_self.2 bI]) ⟨Below.refl _ _,λ_=>0,λ_=>0,by simp,by simp⟩ bI
 have e:I.filter (λ_=>false)=[]:=by simp
 rw[e]at key;exact key
end
end Go.Proofs.YtfohooineeijkaaGreat.aj
namespace Go.Proofs.YtfohooineeijkaaGreat.Fix
open Go.ChangeShapes Go.WideShapes Go.ChangeAt Go.RowKit
open Go.Proofs.Tryz renaming prog → ja0
open World renaming alloc → ja5
open List renaming getElem?_eq_getElem → ja6,getD_eq_getElem?_getD → jc2
variable {k:Nat}
def Rm(k:TypeId):Value->Nat->Nat->World->Prop:=λv s e w=>v=.map (some s)/\s<e/\GM k w s 0 (λ_=>none)
theorem Rm.keep{k:TypeId}{v:Value}{s e:Nat}{w w':World}(h:Rm k v s e w)(hb:Below w w w'):Rm k v s e w':=⟨h.1,h.2.1,h.2.2.keep hb⟩
theorem Rm.made{P:Program}{k:TypeId}{w:World}{r:Result Next}(hr:r=.ok (.value (.map (some w.heap.size))) (w.alloc (.map #[] 0))):aj.Step P (λu w'=>Below w w w'/\Rm k u w.heap.size w'.heap.size w') r :=
 aj.Step.value hr ⟨aD aG _,rfl,by simp,GM.made _ _⟩
theorem NG(ww wh:Int)(w:World):Calls ja0 28 #[.agg #[ww,wh]] w λe w'=>(∃lb bm km pm rm,e=.returned (.pointer (some ⟨lb,0,none⟩))/\(w.heap.size<=lb/\w.heap.size<=bm/\w.heap.size<=km/\w.heap.size<=pm/\w.heap.size<=rm)/\(lb≠bm/\lb≠km/\lb≠pm/\lb≠rm/\bm≠km/\bm≠pm/\bm≠rm/\km≠pm/\km≠rm/\pm≠rm) /\
  At w' lb (.cells #[ww,wh,.map (some bm),.map (some km),.map (some pm),.map (some rm)] 94)/\GM 3 w' bm 0 (λ_=>none)/\pI w' km/\GM 86 w' pm 0 (λ_=>none)/\GM 3 w' rm 0 (λ_=>none))/\Below w w w':=by
 have hmm:=@run_makeMap ja0;go_enter Tryz.func28,Tryz.ntmps28
 go_upto_region 1 with(fail)
 have A0:At (w.alloc (.cells #[ww,wh] 81)) w.heap.size (.cells #[ww,wh] 81):=At.new _ _;have hB1:Below w w (w.alloc (.cells #[ww,wh] 81)):=aD aG _;generalize w.alloc (.cells #[ww,wh] 81)=w1 at *;obtain⟨l0,c00,Kv⟩:=At.two A0;have hBW:∀X,Below w1 w1 X->Below w w X:=λX h=>Below.ay hB1 aF h;have hws:=hB1.size
 refine aj.iJ (λa0 a W5=>∃(lb bm km pm rm:Nat) (u3 u4 u5 u6 u7 u8 u9:Value),a={ a0 with tmps:=(((((((a0.tmps.setIfInBounds 3 u3).setIfInBounds 4 u4).setIfInBounds 5 u5).setIfInBounds 6 u6).setIfInBounds 7 u7).setIfInBounds 8 u8).setIfInBounds 9 u9).setIfInBounds 2 (.pointer lb) } /\
  (w1.heap.size<=lb/\w1.heap.size<=bm/\w1.heap.size<=km/\w1.heap.size<=pm/\w1.heap.size<=rm)/\(lb≠bm/\lb≠km/\lb≠pm/\lb≠rm/\bm≠km/\bm≠pm/\bm≠rm/\km≠pm/\km≠rm/\pm≠rm) /\
  At W5 lb (.cells #[ww,wh,.map (some bm),.map (some km),.map (some pm),.map (some rm)] 94)/\GM 3 W5 bm 0 (λ_=>none)/\pI W5 km/\GM 86 W5 pm 0 (λ_=>none)/\GM 3 W5 rm 0 (λ_=>none)/\Below w1 w1 W5) ?_ ?_
 . refine jy (S:=Below w1 w1) 8 ?_ ?_
   . exact(Below.refl _ _).drew
   intro hx;refine aS 0 ?_;clear l0 c00 Kv hBW hws hB1 A0;generalize w1.drew=W0 at *
   refine aj.vk 4 [1,2,3,4] [4,5,6,7] (λ_=>[]) (λi=>if i=1 then Rm 3 else if i=3 then Rm 86 else if i=4 then Rm 3 else λv s e W=>∃mk,v=.map (some mk)/\s<=mk/\mk<e/\pI W mk)
    ⟨⟨λ_ _ _ _ _ h hb=>Rm.keep h hb,_,rfl,rfl,λW hb=>Rm.made eD⟩,⟨λ_ _ _ _ _ ⟨mk,h1,h2,h3,h4⟩ hb=>⟨mk,h1,h2,h3,pI.keep _ _ _ h4 hb⟩,_,rfl,rfl,λW hb=>aj.Step.call eD (Qx _) λ_ _ ⟨⟨mk,h1,h2,h3⟩,h4⟩=>⟨_,h1,h4,mk,rfl,h2,by obtain⟨_,_,q,_⟩:=h3;exact q.lt,h3⟩⟩,⟨λ_ _ _ _ _ h hb=>Rm.keep h hb,_,rfl,rfl,λW hb=>Rm.made eD⟩,⟨λ_ _ _ _ _ h hb=>Rm.keep h hb,_,rfl,rfl,λW hb=>Rm.made eD⟩,trivial⟩ (λX h=>Below.ay hx aF h) ?_
   intro vs s0 e0 W hb hI hp;obtain⟨gb,-, e1,lb,Gb⟩:=hI 1 bI;obtain⟨gk,-, mk,e2,kk,lk,Gk⟩:=hI 2 bI;obtain⟨gp,-, e3,lp,Gp⟩:=hI 3 bI;obtain⟨gr,-, e4,lr,Gr⟩:=hI 4 bI;have n12:=hp 1 bI 2 bI aN;have n13:=hp 1 bI 3 bI aN;have n14:=hp 1 bI 4 bI aN;have n23:=hp 2 bI 3 bI aN;have n24:=hp 2 bI 4 bI aN;have n34:=hp 3 bI 4 bI aN
   (try simp only[aj.oG,aj.qd,aj.kY,aj.oF,List.map_cons,List.map_nil,e1,e2,e3,e4]);(try simp only[bV,bW,bX,tks])
   generalize s0 1=mb at *;generalize s0 3=mp at *;generalize s0 4=mr at *;have hxs:=hx.size;have lb':=Gb.lt;have lk':mk<W.heap.size:=by obtain⟨_,_,q,_⟩:=Gk;exact q.lt
   have lp':=Gp.lt;have lr':=Gr.lt;replace hx:=Below.ay hx aF hb;clear hI hp e1 e2 e3 e4;refine aS 5 ?_;refine tk1 6 ?_;refine aj.Step.value (u:=.pointer W) (w':=W.alloc (.cells #[ww,wh,.map (some mb),.map (some mk),.map (some mp),.map (some mr)] 94)) eD ?_;refine⟨λ_=>aD hx _,?_⟩
   (try simp only[bV,bW,bX,tks])
   refine tk1 7 ?_;refine wm ?_ (hS:=by first|(intro hlt;exact absurd hlt aN)|(intro _;exact aD hx _));refine jk ?_;have iM:Below W W (W.alloc (.cells #[ww,wh,.map (some mb),.map (some mk),.map (some mp),.map (some mr)] 94)):=aD aG _;have hsw:=hx.size;exact⟨rfl,W.heap.size,mb,mk,mp,mr,_,_,_,_,_,_,_,rfl,⟨by omega,by omega,by omega,by omega,by omega⟩,⟨by omega,by omega,by omega,by omega,by omega,by omega,by omega,by omega,by omega,by omega⟩,At.new _ _,Gb.keep iM,pI.keep _ _ _ Gk iM,Gp.keep iM,Gr.keep iM,aD hx _⟩
 . rintro a W5 ⟨lb,bm,km,pm,rm,u3,u4,u5,u6,u7,u8,u9,rfl,hge,hne,hA,h1,h2,h3,h4,mX⟩
   simp only[List.setIfInBounds_toArray,List.set_cons_zero,List.set_cons_succ];have HF:=ah (show(w.heap.size<=lb/\w.heap.size<=bm/\w.heap.size<=km/\w.heap.size<=pm/\w.heap.size<=rm)from⟨by omega,by omega,by omega,by omega,by omega⟩);have HBW:=ah (hBW W5 mX);go_wp2
   go_ret
   exact⟨⟨lb,bm,km,pm,rm,rfl,HF.out,hne,hA,h1,h2,h3,h4⟩,HBW.out⟩
theorem Ec(b:Nat)(s:Re.St)(fl ap:Value)(ib:Bool)(w:World)(h:aR w b s fl ap ib):Calls ja0 130 #[b,()] w λx w'=>x=.returned (.bool (Fw.opn s ib 0))/\Below w w w':=by
 have d0:w.cell? ⟨b,69,none⟩=some (.int .i64 (Fw.ed s 0)):=h.ext 14;have d1:w.cell? ⟨b,73,none⟩=some (.bool ib):=h.ext 18;have l0:=h.lt;have zw:=ah h.style;clear h;cases ib
 . exact Z5
 . cases h0:s.c 0==0
   . exact Z5
   . cases h2:s.c 2==0
     . exact Z5
     . cases he:Fw.ed s 0==0
       . exact Z5
       . exact Z5
theorem Eb(b:Nat)(s:Re.St)(fl ap:Value)(ib:Bool)(w:World)(h:aR w b s fl ap ib):Calls ja0 130 #[b,.int .i64 1] w λx w'=>x=.returned (.bool (Fw.opn s ib 1))/\Below w w w':=by
 have d0:w.cell? ⟨b,70,none⟩=some (.int .i64 (Fw.ed s 2)):=h.ext 15;have d1:w.cell? ⟨b,73,none⟩=some (.bool ib):=h.ext 18;have l0:=h.lt;have zw:=ah h.style;clear h;cases ib
 . exact Z3
 . cases h0:s.c 0==0
   . exact Z3
   . cases h2:s.c 2==0
     . exact Z3
     . cases he:Fw.ed s 2==0
       . exact Z3
       . cases h5:s.c 5==0
         . exact Z3
         . cases h9:s.c 9==0
           . exact Z3
           . exact Z3
theorem qY{W:World}{base g:Nat}{x:Int}(h:At W g (.cells #[x] 3))(hb:base<=g):W.ownsRow base 3 1 (.slice g 1 1) 1 (([x]:List Int).map (Value.int .i64)) :=
 ⟨by simp,.inr ⟨g,1,#[x],rfl,hb,h,by omega,by simp[maxLen],by simp,by simp⟩⟩
theorem FC(a b:Int)(w:World):(Instr.index 139 (.agg #[a,b]) (.int .i64 0)).run ja0 w=.ok (.int .i64 a) w:=by kernel_rfl
theorem FD(a b:Int)(w:World):(Instr.index 139 (.agg #[a,b]) (.int .i64 1)).run ja0 w=.ok (.int .i64 b) w:=by kernel_rfl
theorem xq(B:Int->Fw.Bx)(e:Nat):∀(f:Nat) (z:Int),(Fw.meet B e f z).length<=f+1
 | 0,z=>by simp[Fw.meet]
 | f+1,z=>by
   simp only[Fw.meet,List.length_cons];split
   . split
     . have:=xq B e f (by assumption);omega
     . simp
   . simp
section
variable {Y:rF} {B:Int->Fw.Bx} {D:Int->Prop} {KM:World->Nat->Prop}
theorem aef(hK:∀(X X':World) (b:Nat),KM X b->Below X X X'->KM X' b)(F:Int->Nat)(Cv:∀z,D z->∀k∈(B z).fl,D k/\F z=F k+1)(hlen:∀z,D z->(B z).fl.length<=10000):∀(f:Nat) (z:Int) (w:World),D z->F z=f->f<=1000->RO w Y B D KM ->
  Calls ja0 128 #[Y.lb,z,()] w λx w'=>(∃v,x=.returned v/\w'.ownsRow w.heap.size 3 1 v (Fw.meet B 0 f z).length ((Fw.meet B 0 f z).map (Value.int .i64)))/\Below w w w':=by
 intro f
 induction f with
 | zero =>
   intro z w hz hF hf hR;obtain⟨hbx,hks,_⟩:=hR.box z hz;have hL:=hR.look hz;have AL:=hR.lay;have hRH:=ah hR;have A2:=hbx;have hB:=Below.refl w.heap.size w;generalize hs:(B z).sty=s at *;generalize hib:(B z).ib=ib at *;generalize hfl:(B z).fl=fl at *;obtain⟨A,cp,hvf,hI,hle,hmx,hAn⟩:=hks.ints;rw[hvf]at hbx A2;generalize Y.va z=va at *;generalize Y.bl z=bz at *;have G9:w.cell? ⟨Y.lb,2,none⟩=some (.map (some Y.bm)):=AL.cell 2;have Di:=AL.lt;have ix0:=rD;have ix1:=FC;go_enter Tryz.func128,Tryz.ntmps128
   go_upto_region 3 with(first|(go_at_call 33;(with_reducible refine(nC _).mono ?_);rintro e w1 ⟨rfl,hb⟩;replace hB:=Below.ay hB aF hb;replace A2:=At.keep A2 hb;clear hb)|(go_at_call 108;(with_reducible refine(iD bz s (.slice A fl.length cp) va ib (-1) (-1) _ A2).mono ?_);rintro e w2 ⟨rfl,hb⟩;replace hB:=Below.ay hB aF hb;replace A2:=At.keep A2 hb;clear hb))
   generalize hW:ja5 _ _=W1;have AM:At W1 w2 (.cells #[.int .i64 (Fw.mg s 1 0 (-1))] 3):=hW▸At.new _ _;have hgm:w.heap.size<=w2.heap.size:=hB.size;replace A2:At W1 _ _:=hW▸At.alloc A2 _;replace hB:Below w w W1:=hW▸aD hB _;clear hW hL AL G9 Di ix0 ix1 hbx;generalize w2.heap.size=gm at *;have pQ:W1.cell? ⟨bz,71,none⟩=some (.slice A fl.length cp):=aR.ext A2 16;have l2:=A2.lt;have hfe:fl=[]:=by
    rcases fl with _ | ⟨a,r⟩
    . rfl
    . have:=(Cv z hz a (by rw[hfl];simp)).2;omega
   have hlz:((fl.length:Int)==0)=true:=by rw[hfe];rfl
   cases hop:Fw.opn s ib 0
   . exact Z13
   . exact Z13
 | succ f ih =>
   intro z w hz hF hf hR;obtain⟨hbx,hks,_⟩:=hR.box z hz;have hL:=hR.look hz;have AL:=hR.lay;have hRH:=ah hR;have A2:=hbx;have hB:=Below.refl w.heap.size w;generalize hs:(B z).sty=s at *;generalize hib:(B z).ib=ib at *;generalize hfl:(B z).fl=fl at *;obtain⟨A,cp,hvf,hI,hle,hmx,hAn⟩:=hks.ints;rw[hvf]at hbx A2;generalize Y.va z=va at *;generalize Y.bl z=bz at *;have G9:w.cell? ⟨Y.lb,2,none⟩=some (.map (some Y.bm)):=AL.cell 2;have Di:=AL.lt;have ix0:=rD;have ix1:=FC;go_enter Tryz.func128,Tryz.ntmps128
   go_upto_region 3 with(first|(go_at_call 33;(with_reducible refine(nC _).mono ?_);rintro e w1 ⟨rfl,hb⟩;replace hB:=Below.ay hB aF hb;replace A2:=At.keep A2 hb;clear hb)|(go_at_call 108;(with_reducible refine(iD bz s (.slice A fl.length cp) va ib (-1) (-1) _ A2).mono ?_);rintro e w2 ⟨rfl,hb⟩;replace hB:=Below.ay hB aF hb;replace A2:=At.keep A2 hb;clear hb))
   generalize hW:ja5 _ _=W1;have AM:At W1 w2 (.cells #[.int .i64 (Fw.mg s 1 0 (-1))] 3):=hW▸At.new _ _;have hgm:w.heap.size<=w2.heap.size:=hB.size;replace A2:At W1 _ _:=hW▸At.alloc A2 _;replace hB:Below w w W1:=hW▸aD hB _;clear hW hL AL G9 Di ix0 ix1 hbx;generalize w2.heap.size=gm at *;cases hop:Fw.opn s ib 0
   . have JI:=ah hop
     clear hop;have pQ:W1.cell? ⟨bz,71,none⟩=some (.slice A fl.length cp):=aR.ext A2 16;have l2:=A2.lt
     go_wp2_with ((go_at_call 130;(with_reducible refine(Ec bz s (.slice A fl.length cp) va ib _ A2).mono ?_);rintro e w3 ⟨rfl,hb⟩;replace AM:=AM.keep hb;replace hB:=Below.ay hB aF hb;replace A2:=At.keep A2 hb;replace pQ:=((iV hb).1 _ _ l2).trans pQ;replace l2:=bA l2 hb.size;clear hb;rw[JI.out]))
     refine bodyPost_ret (results_tmp rfl _ _ _) rfl ⟨⟨_,rfl,?_⟩,hB⟩;have hm:Fw.meet B 0 (f+1) z=[Fw.mg s 1 0 (-1)]:=by
      simp only[Fw.meet,hs,hib,JI.out,Bool.false_eq_true,if_false]
     rw[hm];exact qY AM hgm
   . have JI:=ah hop
     clear hop;by_cases hn:fl=[]
     . have hlz:((fl.length:Int)==0)=true:=by rw[hn];rfl
       have pQ:W1.cell? ⟨bz,71,none⟩=some (.slice A fl.length cp):=aR.ext A2 16;have l2:=A2.lt
       go_wp2_with ((go_at_call 130;(with_reducible refine(Ec bz s (.slice A fl.length cp) va ib _ A2).mono ?_);rintro e w3 ⟨rfl,hb⟩;replace AM:=AM.keep hb;replace hB:=Below.ay hB aF hb;replace A2:=At.keep A2 hb;replace pQ:=((iV hb).1 _ _ l2).trans pQ;replace l2:=bA l2 hb.size;clear hb;rw[JI.out]))
       refine bodyPost_ret (results_tmp rfl _ _ _) rfl ⟨⟨_,rfl,?_⟩,hB⟩;have hm:Fw.meet B 0 (f+1) z=[Fw.mg s 1 0 (-1)]:=by
        simp only[Fw.meet,hs,hib,hfl,JI.out,if_true,hn];simp
       rw[hm];exact qY AM hgm
     . have hn0:0<fl.length:=List.length_pos_iff.2 hn
       have hnz:((fl.length:Int)==0)=false:=by simp;intro q;exact hn q
       have HN:=ah hn;clear hn;obtain⟨nx,hnx⟩:=aC (fl.getD (0) 0);have hx:nx=fl[(0:Nat)]'ak:=by rw[<-hnx,jc2,ja6 ak];rfl
       have hmem:nx∈fl:=by rw[hx];exact List.getElem_mem _
       have hD:=Cv z hz nx (hfl▸hmem);have hm:Fw.meet B 0 (f+1) z=Fw.mg s 1 0 (-1)::Fw.meet B 0 f nx:=by
        simp only[Fw.meet,hs,hib,hfl,JI.out,if_true];rw[show fl.head? = some nx from by rw[hx,List.head?_eq_getElem?,ja6 hn0]]
       have aeg:=hlen z hz;rw[hfl]at aeg;have HM:=ah hm;clear hm hx;have pQ:W1.cell? ⟨bz,71,none⟩=some (.slice A fl.length cp):=aR.ext A2 16;have l2:=A2.lt
       go_upto_region 5 with((go_at_call 130;(with_reducible refine(Ec bz s (.slice A fl.length cp) va ib _ A2).mono ?_);rintro e w3 ⟨rfl,hb⟩;replace AM:=AM.keep hb;replace hB:=Below.ay hB aF hb;replace A2:=At.keep A2 hb;replace pQ:=((iV hb).1 _ _ l2).trans pQ;replace l2:=bA l2 hb.size;clear hb;rw[JI.out]))
       have hIc:=hI.after hB;obtain⟨bf,off,hAf,lf,cf⟩:=hIc.at_ (k:=0) hn0;rw[hnx,Nat.add_zero]at cf;subst hAf;have HLQ:=ah (xq B 0 f nx);clear hnx
       go_wp2_with (first|(go_at_call 128;(with_reducible refine(ih nx _ hD.1 (by have:=hD.2;omega) ak (hRH.out.keep hK hB)).mono ?_);rintro e w4 ⟨⟨v4,rfl,ho4⟩,hb4⟩;obtain⟨A4,c4,rfl,U3,aiK,aiL,aeh⟩:=KS.ints (fD ho4 qh);obtain⟨v',w',hr,ho',hB',hs'⟩:=j4 (w0:=w) (base:=w.heap.size) (qY (AM.keep hb4) hgm) (Below.ay hB aF hb4) (aK hB.size hb4.size) U3 (m:=(Fw.meet B 0 f nx).length) rfl aeh (by have:=HLQ.out;omega);have HR:=ah hr;clear hr)|(at_builtin;refine wpList_append_run bB _ _ 37 rfl rfl rfl HR.out ?_))
       refine bodyPost_ret (results_tmp rfl _ _ _) rfl ⟨⟨_,rfl,?_⟩,hB'⟩;rw[HM.out];simpa[Nat.add_comm]using ho'
theorem aei(hK:∀(X X':World) (b:Nat),KM X b->Below X X X'->KM X' b)(F:Int->Nat)(Cv:∀z,D z->∀k∈(B z).fl,D k/\F z=F k+1)(hlen:∀z,D z->(B z).fl.length<=10000):∀(f:Nat) (z:Int) (w:World),D z->F z=f->f<=1000->RO w Y B D KM ->
  Calls ja0 128 #[Y.lb,z,.int .i64 1] w λx w'=>(∃v,x=.returned v/\w'.ownsRow w.heap.size 3 1 v (Fw.meet B 1 f z).length ((Fw.meet B 1 f z).map (Value.int .i64)))/\Below w w w':=by
 intro f
 induction f with
 | zero =>
   intro z w hz hF hf hR;obtain⟨hbx,hks,_⟩:=hR.box z hz;have hL:=hR.look hz;have AL:=hR.lay;have hRH:=ah hR;have A2:=hbx;have hB:=Below.refl w.heap.size w;generalize hs:(B z).sty=s at *;generalize hib:(B z).ib=ib at *;generalize hfl:(B z).fl=fl at *;obtain⟨A,cp,hvf,hI,hle,hmx,hAn⟩:=hks.ints;rw[hvf]at hbx A2;generalize Y.va z=va at *;generalize Y.bl z=bz at *;have G9:w.cell? ⟨Y.lb,2,none⟩=some (.map (some Y.bm)):=AL.cell 2;have Di:=AL.lt;have ix0:=rD;have ix1:=FD;go_enter Tryz.func128,Tryz.ntmps128
   go_upto_region 3 with(first|(go_at_call 33;(with_reducible refine(nC _).mono ?_);rintro e w1 ⟨rfl,hb⟩;replace hB:=Below.ay hB aF hb;replace A2:=At.keep A2 hb;clear hb)|(go_at_call 108;(with_reducible refine(iD bz s (.slice A fl.length cp) va ib (-1) (-1) _ A2).mono ?_);rintro e w2 ⟨rfl,hb⟩;replace hB:=Below.ay hB aF hb;replace A2:=At.keep A2 hb;clear hb))
   generalize hW:ja5 _ _=W1;have AM:At W1 w2 (.cells #[.int .i64 (Fw.mg s 1 1 (-1))] 3):=hW▸At.new _ _;have hgm:w.heap.size<=w2.heap.size:=hB.size;replace A2:At W1 _ _:=hW▸At.alloc A2 _;replace hB:Below w w W1:=hW▸aD hB _;clear hW hL AL G9 Di ix0 ix1 hbx;generalize w2.heap.size=gm at *;have pQ:W1.cell? ⟨bz,71,none⟩=some (.slice A fl.length cp):=aR.ext A2 16;have l2:=A2.lt;have hfe:fl=[]:=by
    rcases fl with _ | ⟨a,r⟩
    . rfl
    . have:=(Cv z hz a (by rw[hfl];simp)).2;omega
   have hlz:((fl.length:Int)==0)=true:=by rw[hfe];rfl
   cases hop:Fw.opn s ib 1
   . exact Z12
   . exact Z12
 | succ f ih =>
   intro z w hz hF hf hR;obtain⟨hbx,hks,_⟩:=hR.box z hz;have hL:=hR.look hz;have AL:=hR.lay;have hRH:=ah hR;have A2:=hbx;have hB:=Below.refl w.heap.size w;generalize hs:(B z).sty=s at *;generalize hib:(B z).ib=ib at *;generalize hfl:(B z).fl=fl at *;obtain⟨A,cp,hvf,hI,hle,hmx,hAn⟩:=hks.ints;rw[hvf]at hbx A2;generalize Y.va z=va at *;generalize Y.bl z=bz at *;have G9:w.cell? ⟨Y.lb,2,none⟩=some (.map (some Y.bm)):=AL.cell 2;have Di:=AL.lt;have ix0:=rD;have ix1:=FD;go_enter Tryz.func128,Tryz.ntmps128
   go_upto_region 3 with(first|(go_at_call 33;(with_reducible refine(nC _).mono ?_);rintro e w1 ⟨rfl,hb⟩;replace hB:=Below.ay hB aF hb;replace A2:=At.keep A2 hb;clear hb)|(go_at_call 108;(with_reducible refine(iD bz s (.slice A fl.length cp) va ib (-1) (-1) _ A2).mono ?_);rintro e w2 ⟨rfl,hb⟩;replace hB:=Below.ay hB aF hb;replace A2:=At.keep A2 hb;clear hb))
   generalize hW:ja5 _ _=W1;have AM:At W1 w2 (.cells #[.int .i64 (Fw.mg s 1 1 (-1))] 3):=hW▸At.new _ _;have hgm:w.heap.size<=w2.heap.size:=hB.size;replace A2:At W1 _ _:=hW▸At.alloc A2 _;replace hB:Below w w W1:=hW▸aD hB _;clear hW hL AL G9 Di ix0 ix1 hbx;generalize w2.heap.size=gm at *;cases hop:Fw.opn s ib 1
   . have JI:=ah hop
     clear hop;have pQ:W1.cell? ⟨bz,71,none⟩=some (.slice A fl.length cp):=aR.ext A2 16;have l2:=A2.lt
     go_wp2_with ((go_at_call 130;(with_reducible refine(Eb bz s (.slice A fl.length cp) va ib _ A2).mono ?_);rintro e w3 ⟨rfl,hb⟩;replace AM:=AM.keep hb;replace hB:=Below.ay hB aF hb;replace A2:=At.keep A2 hb;replace pQ:=((iV hb).1 _ _ l2).trans pQ;replace l2:=bA l2 hb.size;clear hb;rw[JI.out]))
     refine bodyPost_ret (results_tmp rfl _ _ _) rfl ⟨⟨_,rfl,?_⟩,hB⟩;have hm:Fw.meet B 1 (f+1) z=[Fw.mg s 1 1 (-1)]:=by
      simp only[Fw.meet,hs,hib,JI.out,Bool.false_eq_true,if_false]
     rw[hm];exact qY AM hgm
   . have JI:=ah hop
     clear hop;by_cases hn:fl=[]
     . have hlz:((fl.length:Int)==0)=true:=by rw[hn];rfl
       have pQ:W1.cell? ⟨bz,71,none⟩=some (.slice A fl.length cp):=aR.ext A2 16;have l2:=A2.lt
       go_wp2_with ((go_at_call 130;(with_reducible refine(Eb bz s (.slice A fl.length cp) va ib _ A2).mono ?_);rintro e w3 ⟨rfl,hb⟩;replace AM:=AM.keep hb;replace hB:=Below.ay hB aF hb;replace A2:=At.keep A2 hb;replace pQ:=((iV hb).1 _ _ l2).trans pQ;replace l2:=bA l2 hb.size;clear hb;rw[JI.out]))
       refine bodyPost_ret (results_tmp rfl _ _ _) rfl ⟨⟨_,rfl,?_⟩,hB⟩;have hm:Fw.meet B 1 (f+1) z=[Fw.mg s 1 1 (-1)]:=by
        simp only[Fw.meet,hs,hib,hfl,JI.out,if_true,hn];simp
       rw[hm];exact qY AM hgm
     . have hn0:0<fl.length:=List.length_pos_iff.2 hn
       have hnz:((fl.length:Int)==0)=false:=by simp;intro q;exact hn q
       have HN:=ah hn;clear hn;obtain⟨nx,hnx⟩:=aC (fl.getD (fl.length-1) 0);have hx:nx=fl[(fl.length-1:Nat)]'ak:=by rw[<-hnx,jc2,ja6 ak];rfl
       have hmem:nx∈fl:=by rw[hx];exact List.getElem_mem _
       have hD:=Cv z hz nx (hfl▸hmem);have hm:Fw.meet B 1 (f+1) z=Fw.mg s 1 1 (-1)::Fw.meet B 1 f nx:=by
        simp only[Fw.meet,hs,hib,hfl,JI.out,if_true];rw[show fl.getLast? = some nx from by rw[hx,List.getLast?_eq_getElem?,ja6 ak]];simp
       have aeg:=hlen z hz;rw[hfl]at aeg;have HM:=ah hm;clear hm hx;have pQ:W1.cell? ⟨bz,71,none⟩=some (.slice A fl.length cp):=aR.ext A2 16;have l2:=A2.lt
       go_upto_region 5 with((go_at_call 130;(with_reducible refine(Eb bz s (.slice A fl.length cp) va ib _ A2).mono ?_);rintro e w3 ⟨rfl,hb⟩;replace AM:=AM.keep hb;replace hB:=Below.ay hB aF hb;replace A2:=At.keep A2 hb;replace pQ:=((iV hb).1 _ _ l2).trans pQ;replace l2:=bA l2 hb.size;clear hb;rw[JI.out]))
       have hIc:=hI.after hB;obtain⟨bf,off,hAf,lf,cf⟩:=hIc.at_ (k:=0) hn0;obtain⟨m,hmm⟩:∃m,fl.length=m+1:=⟨fl.length-1,by omega⟩;obtain⟨bg,ofg,hAg,lg,cg⟩:=hIc.at_ (k:=m) ak;obtain⟨rfl,rfl⟩:bg=bf/\ofg=off:=by rw[hAf]at hAg;simpa using hAg.symm
       subst hAf;rw[show fl.getD m 0=nx from by rw[<-hnx,hmm];rfl]at cg;rw[Nat.add_zero]at cf;have hsub:IntKind.i64.wrap ((fl.length:Int)-1)=(m:Int):=by rw[IntWalk.i64_in _ ak];omega
       have aku:m<fl.length:=by omega
       clear hmm
       go_upto_region 7 with(fail)
       refine vS ?_
       (repeat (first|refine jV ?_ | refine jW ?_ (hc:=by intro w2 hS;first|with_reducible exact jI hS (jE _))|refine jX ?_))
       refine aj.bY ?_;intro w2 hS;replace AM:=AM.keep hS;replace hB:=Below.ay hB aF hS;replace A2:=At.keep A2 hS;clear hS;have HLQ:=ah (xq B 1 f nx);clear hnx
       go_wp2_with (first|(go_at_call 128;(with_reducible refine(ih nx _ hD.1 (by have:=hD.2;omega) ak (hRH.out.keep hK hB)).mono ?_);rintro e w4 ⟨⟨v4,rfl,ho4⟩,hb4⟩;obtain⟨A4,c4,rfl,U3,aiK,aiL,aeh⟩:=KS.ints (fD ho4 qh);obtain⟨v',w',hr,ho',hB',hs'⟩:=j4 (w0:=w) (base:=w.heap.size) (qY (AM.keep hb4) hgm) (Below.ay hB aF hb4) (aK hB.size hb4.size) U3 (m:=(Fw.meet B 1 f nx).length) rfl aeh (by have:=HLQ.out;omega);have HR:=ah hr;clear hr)|(at_builtin;refine wpList_append_run bB _ _ 37 rfl rfl rfl HR.out ?_))
       refine bodyPost_ret (results_tmp rfl _ _ _) rfl ⟨⟨_,rfl,?_⟩,hB'⟩;rw[HM.out];simpa[Nat.add_comm]using ho'
end
theorem Vo(A T B:Option Addr)(s t u:List Int)(n d1 d2 d3:Nat)(w:World)(hs:Ints w A s)(ht:Ints w T t)(hu:Ints w B u)(ls:s.length=n)(lt:t.length=n)(lu:u.length=n)(hn:n<=1001) :
  Calls ja0 129 #[.slice A n d1,.slice T n d2,.slice B n d3] w λe w'=>(∃b,e=.returned (.tuple #[.slice (some ⟨b,0,none⟩) n n,.int .i64 (Fx.wG s t u n)])/\w.heap.size<=b/\Ints w' (some ⟨b,0,none⟩) (Fx.wH s t u n))/\Below w w w':=by
 obtain⟨i0,hi0,hz0,hz1,hz2⟩:=info_parts intZero;have HS:=ah hs;clear hs;have HT:=ah ht;clear ht;have HU:=ah hu;clear hu;have LS:=ah ls;clear ls;have LT:=ah lt;clear lt;have LU:=ah lu;clear lu;go_enter Tryz.func129,Tryz.ntmps129
 go_wp2_with (at_make;refine wpList_make_row _ rfl _ _ 37 rfl 3 i0 (.int .i64 0) Tryz.underlying37 hi0 hz0 hz1 rfl .i64 .i64 n rfl rfl TQ ak ?_)
 go_loopw [9,29] (λe i wr=>∃k:Nat,k<=n/\i=.int .i64 k/\e=.int .i64 (Fx.wG s t u k)/\At wr w (.cells (bG (Fx.pR s t u) n k) 3)/\Below w w wr) (λ_ i _=>n-(intOf i).toNat)
 case atStart=>exact⟨0,by omega,rfl,rfl,by rw[<-j3];exact At.new _ _,aD aG _⟩
 case round =>
  obtain⟨k,hk,rfl,rfl,hA,hB⟩:=hrel;have hB':=hB;by_cases hlt:k<n
  . obtain⟨b1,o1,hA1,l1,c1⟩:=(HS.out.after hB').at_ (k:=k) (by rw[LS.out];exact hlt)
    have HZ:Hid (Fx.wG s t u (k+1)=Fx.add (Fx.pR s t u k) (s.getD k 0)):=ah (Fx.Ph s t u k);generalize s.getD k 0=z at *;subst hA1;have hlb:=hA.lt;rcases Nat.eq_zero_or_pos k with rfl|h0
    . have hz:=hA.cell 0
      rw[dO _ hlt]at hz;have HR:Hid (bG (Fx.pR s t u) n 0=bG (Fx.pR s t u) n 1):=ah (Px _ _ rfl);simp only[Nat.not_lt_zero,if_false]at hz;simp only[Nat.add_zero]at c1
      go_wp2_with (first|(go_at_call 82;with_reducible refine oo (jG _ _ _) ?_))
      go_roundw
      case rel=>exact⟨1,by omega,by go_num,by rw[HZ.out,Fx.Pj],by rw[<-HR.out];exact hA,hB⟩
      case measure=>simp[intOf];omega
    . obtain⟨m,hm⟩:∃m,k=m+1:=⟨k-1,by omega⟩
      obtain⟨b2,o2,hA2,l2,c2⟩:=(HT.out.after hB').at_ (k:=k) (by rw[LT.out];exact hlt);obtain⟨b3,o3,hA3,l3,c3⟩:=(HU.out.after hB').at_ (k:=m) (by rw[LU.out];omega);have HP:Hid (Fx.pR s t u k=Fx.add (Fx.wG s t u k) (Fx.coll [u.getD m 0,t.getD k 0])):=ah (by rw[Fx.TV s t u ak,show k-1=m by omega]);generalize t.getD k 0=y at *;generalize u.getD m 0=x at *;subst hA2 hA3;have hw:IntKind.i64.wrap ((k:Int)-1)=(m:Int):=by rw[IntWalk.i64_in _ ak];omega
      have hmn:m<n:=by omega
      have hz:=hA.thaw k;have HM:=ah hm;clear hm
      go_upto_region 9 with(fail)
      refine zB 15 1 ?_
      (repeat (first|refine jV ?_ | refine jW ?_ (hc:=by intro w2 hS;first|with_reducible exact jI hS (Xt _ _ _)|with_reducible exact AF hS (jG _ _ _))|refine jX ?_))
      refine aj.dH ?_;intro w2 hS;have A4:=hA.keep hS;have B4:=Below.ay hB aF hS;have hc4:=A4.cell k;rw[dO _ hlt]at hc4;have hz4:=A4.thaw k;refine vH ?_;intro K hK;go_simp;refine hK _ _ (aj.bF ?_);clear hK K;generalize hW:World.setCell _ _ _=W2;replace A4:At W2 w (.cells (bG (Fx.pR s t u) n (k+1)) 3):=by
       rw[<-hW,<-lD _ hlt,HP.out];exact A4.set k _
      replace B4:Below w w W2:=hW▸Below.setCell B4 aF _;have hc5:=A4.cell k;rw[dO _ ak,if_pos ak]at hc5;have aiM:=A4.lt;clear hW hc4 hz4 hz hS c1 c2 c3 l1 l2 l3 hA hB hB' hlb
      go_wp2_with (first|(go_at_call 82;with_reducible refine oo (jG _ _ _) ?_))
      go_roundw
      case rel=>exact⟨k+1,by omega,by go_num,by rw[HZ.out],A4,B4⟩
      case measure=>simp[intOf];omega
  . obtain rfl:k=n:=by omega
    go_wp2;refine bodyPost_ret (v:=.tuple #[.slice w k k,_]) (by simp[results,Tryz.results129,go_sem, *];first|done|exact⟨rfl,rfl⟩|rfl) rfl ⟨⟨w.heap.size,rfl,aO _,GL s t u k LY hA⟩,hB⟩
theorem YO(f:Nat->Int)(w:World)(n:Nat)(hn:n<=100000):(Instr.makeSlice 37 (.int .i64 (n:Int)) (.int .i64 (n:Int))).run ja0 w=.ok (.slice w n n) (w.alloc (.cells (bG f n 0) 3)):=by
 obtain⟨i0,hi0,hz0,hz1,hz2⟩:=info_parts intZero;have hrun:=run_make (P:=ja0) w 37 3 i0 _ Tryz.underlying37 hi0 hz0 .i64 .i64 n n ak (Int.le_refl _) TQ ak;rw[Int.toNat_natCast]at hrun;rw[hrun,<-j3,hz1,Nat.mul_one];rfl
theorem sI(f:Nat->Int){n:Nat}{o:Oper}{a:Act}{w:World}(l c:Operand)(ho:o.op=.makeSlice 37 l c)(hl:a.eval l=.int .i64 (n:Int))(hc:a.eval c=.int .i64 (n:Int))(hn:n<=100000):(execOp a.eval o).run ja0 w=.ok (.value (.slice w n n)) (w.alloc (.cells (bG f n 0) 3)):=by
 unfold execOp;simp only[ho,hl,hc,Sem.run_bind,YO f w n hn,Result.andThen_ok,Sem.run_pure]
theorem Vp{w:World}{b o:Nat}{l:List Int}(h:Ints w (some ⟨b,o,none⟩) l)(hk:k<l.length):b<w.heap.size/\w.cell? ⟨b,o+k,none⟩=some (.int .i64 (l.getD k 0)):=by
 obtain⟨b',off,e,hl,hc⟩:=h.at_ hk;injection e with e;injection e with e1 e2;subst e1 e2;exact⟨hl,hc⟩
theorem abV{W:World}{v:Value}{l:List Int}{b o m cp:Nat}(hv:v=.slice (some ⟨b,o,none⟩) m cp)(h:KS W v l)(hm:m=l.length):Ints W (some ⟨b,o,none⟩) l:=by
 obtain⟨A,c,e,hI,_⟩:=h.ints;rw[hv]at e;injection e with e1 e2 e3;rw[e1];exact hI
section
variable {W W':World} {Y:rF} {B:Int->Fw.Bx} {D:Int->Prop} {KM:World->Nat->Prop}
theorem RO.lookO(h:RO W Y B D KM){X:World}(k:Out (λb=>b=Y.pm) W X){z:Int}(hz:D z):(Instr.lookup 90 (.map (some Y.bm)) (.int .i64 z) false).run ja0 X=.ok (.pointer (some ⟨Y.bl z,0,none⟩)) X:=by
 obtain⟨n,g,h1,h2⟩:=h.boxes;rw[(h1.out (λq=>h.pmb q.symm) k).look jH Tryz.underlying90 (z:=.pointer none) bE (jh (h.wf z hz)),h2 z hz];rfl
end
def blG(first:Int)(szl AJ Ad:List Int)(i:Nat)(x:Fw.Ld):Fw.Ld:={ x with a1:=Fw.wr (first+Fx.pR szl AJ Ad i) }
def csf(B:Int->Fw.Bx)(f:Nat)(l:List Int)(k:Nat):Nat:=((l.take k).map (Fw.cst B f)).sum
theorem YP(B:Int->Fw.Bx)(f:Nat)(l:List Int)(hk:k<l.length):csf B f l (k+1)=csf B f l k+Fw.cst B f l[k]:=by
 unfold csf;rw[List.take_succ_eq_append_getElem hk];exact Z2k
theorem YQ(B:Int->Fw.Bx)(f:Nat)(l:List Int)(k:Nat):csf B f l k<=(l.map (Fw.cst B f)).sum:=by
 unfold csf
 conv=>rhs;rw[<-List.take_append_drop k l,List.map_append,List.sum_append]
 omega
theorem o8.snoc{cs:Array Value}{l:List Fw.Ld}{x:Fw.Ld}(h:o8 cs l)(hf:l.length*7+7<=cs.size):o8 (splice cs (l.length*7) (fH x)) (l++[x]):=by
 have hs:l.length*7+(fH x).size<=cs.size:=by rw[dW];exact hf
 refine⟨by rw[jA hs];simp;omega,λi hi j hj => ?_⟩;by_cases e:i<l.length
 . rw[List.getElem_append_left e,jd hs (.inl ak)]
   exact h.2 i e j hj
 . have:i=l.length:=by simp at hi;omega
   subst this;rw[om hs (by rw[dW];exact hj)];simp
theorem o8.M8{cs:Array Value}{l:List Fw.Ld}(h:o8 cs l)(hk:k<l.length)(a:Int):o8 (cs.setIfInBounds (k*7+6) (.int .i64 a)) (l.set k { l[k]with a1:=a }):=by
 refine⟨by simpa using h.1,λi hi j hj => ?_⟩;have hi':i<l.length:=by simpa using hi
 have hs:=h.1;simp only[Array.getElem?_setIfInBounds,List.getElem_set];by_cases e:k=i
 . subst e
   rw[if_pos rfl];have h0:=h.2 k hi' j hj;by_cases e6:k*7+6=k*7+j
   . obtain rfl:j=6:=by omega
     rw[if_pos rfl,if_pos ak];rfl
   . rw[if_neg e6,h0]
     rcases(show j=0\/j=1\/j=2\/j=3\/j=4\/j=5 by omega)with rfl|rfl|rfl|rfl|rfl|rfl<;>rfl
 . rw[if_neg e,if_neg ak]
   exact h.2 i hi' j hj
def Ae(g:Nat->Fw.Ld->Fw.Ld)(l:List Fw.Ld)(k:Nat):List Fw.Ld:=(l.take k).mapIdx g++l.drop k
theorem Cw(g:Nat->Fw.Ld->Fw.Ld)(l:List Fw.Ld)(k:Nat):(Ae g l k).length=l.length:=by simp[Ae];omega
theorem YR(g:Nat->Fw.Ld->Fw.Ld)(l:List Fw.Ld)(hk:k<l.length):(Ae g l k)[k]'(by rw[Cw];exact hk)=l[k]:=by
 unfold Ae;rw[List.getElem_append_right jB];simp;congr 1;omega
theorem Vq(g:Nat->Fw.Ld->Fw.Ld)(l:List Fw.Ld)(hk:k<l.length):(Ae g l k).set k (g k l[k])=Ae g l (k+1):=by
 unfold Ae;exact Z1r
theorem Vr(g:Nat->Fw.Ld->Fw.Ld)(l:List Fw.Ld):Ae g l 0=l:=by simp[Ae]
theorem YS(g:Nat->Fw.Ld->Fw.Ld)(l:List Fw.Ld):Ae g l l.length=l.mapIdx g:=by simp[Ae]
end Go.Proofs.YtfohooineeijkaaGreat.Fix
