/- Steps of the program (23); no conditions. -/
import Derived.Test.YtfohooineeijkaaGreatM22
set_option linter.all false
set_option maxRecDepth 100000
set_option maxHeartbeats 16000000
namespace Go.Proofs.YtfohooineeijkaaGreat.Fix
open Go.ChangeShapes Go.WideShapes Go.ChangeAt Go.RowKit Go.Deep
open Go.Proofs.Tryz renaming prog → ja0
section
open Go.Joins Go.Shelf
open List renaming getElem?_eq_getElem → ja6
variable {K:Int->Value}{w:World}{r g c m:Nat}
theorem JB{T:Tr.T}{x:Int}{nd p:Tr.Nd}(hx:T x=some nd)(hp:T nd.up=some p):Tr.leave T x=Tr.set T nd.up { p with kids:=Tr.wo p.kids x }:=by
 unfold Tr.leave;rw[hx];dsimp only;rw[hp]
theorem Wh{ops:Array Oper}{S:World->Prop}{o:Oper}{a:Act}{v:Value}(hrun:∀w,(Instr.build 126 #[]).run ja0 w=.ok v w)(hw:Region.wanted o (yielded ops a.tmps)=true)(ho:o.op=.build 126 #[]):aj.Reads ja0 ops S o v a :=
 .inl ⟨hw,λw _=>by unfold execOp;simp only[ho,List.map_toArray,List.map_nil,Sem.run_bind,hrun w,Result.andThen_ok,Sem.run_pure]⟩
theorem OJ{T:Tr.T}(h:Doc w r g c m K T)(H:Tr.WF T)(x:Int):Calls ja0 58 #[r,x] w λe w'=>e=.returned (.tuple #[Tr.x9 T x,Tr.rV T x])/\∃K',Doc w' r g c m K' (Tr.nX T x)/\DG r g K T w w' g K' (Tr.nX T x):=by
 have HD:=ah h;have key:=jv h x;cases hT:T x with
 | none =>
   have hE:Tr.rV T x=2:=by unfold Tr.rV;rw[hT]
   have hI:Tr.x9 T x=0:=by unfold Tr.x9;rw[hE];rfl
   have hR:Tr.nX T x=T:=by unfold Tr.nX;rw[hE];rfl
   rw[hE,hI,hR];rw[mF hT]at key;clear h hE hI hR;exact Z32
 | some nd =>
   rw[mD hT]at key;by_cases h0:x=0
   . have hE:Tr.rV T x=1:=by unfold Tr.rV;rw[hT];exact if_pos h0
     have hI:Tr.x9 T x=0:=by unfold Tr.x9;rw[hE];rfl
     have hR:Tr.nX T x=T:=by unfold Tr.nX;rw[hE];rfl
     rw[hE,hI,hR];clear h hE hI hR;subst h0;exact Z32
   . have hE:Tr.rV T x=0:=by unfold Tr.rV;rw[hT];exact if_neg h0
     have hI:Tr.x9 T x=((Tr.sub T 64 x).length:Int):=by unfold Tr.x9;rw[hE];rfl
     obtain⟨p,hp,hxp⟩:=H.up x nd hT h0;have hR:Tr.nX T x=Tr.del (Tr.set T nd.up { p with kids:=Tr.wo p.kids x }) (Tr.sub T 64 x):=by unfold Tr.nX;rw[hE,if_pos rfl,<-JB hT hp];rfl
     rw[hE,hI,hR];have hsl:(Tr.sub T 64 x).length<=4096:=by
      have:=H.DF hT h0;have:=H.jm;omega
     have pK:=rO 64 x h (H.iO hT) ak
     have hin:∀y∈Tr.sub T 64 x,0<=y/\y<m:=λy hy=>by
      obtain⟨yd,Sc⟩:=((H.iN (H.iO hT)).1 hy).live;exact h.range _ _ Sc
     have hpk:p.kids.length<=10000:=by have:=H.qZ hp;have:=H.jm;omega
     obtain⟨nu,nk,ns⟩:=nd;dsimp only at hp hR;obtain⟨iu,rfl,him⟩:=h.nat hp;obtain⟨ix,rfl,hix⟩:=h.nat hT;have h0b:((ix:Int)==0)=false:=by simpa using h0
     have HT:=ah hT;have HP:=ah hp;have xZ:=ah hin;have HPK:=ah hpk;clear hE hI hR hxp hT hp hin hpk;generalize hl:Tr.sub T 64 (ix:Int)=l at *;clear hl;generalize hn:l.length=n at *;have HN:=ah hn;clear hn;go_enter Tryz.func58,Tryz.ntmps58
     go_upto_region 6 with(first|(go_at_call 63;(with_reducible refine key.mono ?_);rintro e w' ⟨rfl,rfl⟩)|(go_at_call 26;(with_reducible refine pK.mono ?_);rintro e w1 ⟨⟨v1,rfl,ho1⟩,hb1⟩;obtain⟨A1,c1,rfl⟩:=fK ho1))
     have D1:=HD.out.after hb1;have c4:=D1.cT;have c5:=D1.cUp HT.out;have c6:=D1.mM HP.out;have jY:=D1.row _ _ HP.out;obtain⟨A,cc,hv,_⟩:=jY.ints;rw[hv]at c6 jY;have CP:=ah jY;have HV:=ah hv;have HD1:=ah D1;have HO1:=ah ho1;have HB1:=ah hb1;clear h key pK jY hv D1 ho1 hb1;generalize hnk:p.kids.length=nk at *;have HNK:=ah hnk;clear hnk
     go_upto_region 7 with(fail)
     clear c5;refine jy (S:=(λW'=>W'.cell? ⟨r,0,none⟩=some (.slice g m c)/\W'.cell? ⟨g,iu*58+2,none⟩=some (.slice A nk cc)/\Below w1 w1 W')) 15 ?_ ?_
     . exact⟨c4,c6,Below.drew aG⟩
     intro hS0;clear c4 c6;refine aW 0 ?_;refine aW 1 ?_;refine aW 2 ?_;refine aW 3 ?_;refine aW 4 ?_;refine aW 5 ?_;refine aW 6 ?_;refine aW 7 ?_;refine aW 8 ?_;refine aW 9 ?_;refine aW 10 ?_;refine aW 11 ?_;refine aW 12 ?_;refine aW 13 ?_;refine tk1 14 ?_;refine aj.Step.call eD (vD (CP.out.after hS0.2.2) (by rw[HNK.out];exact HPK.out) (ix:Int)) ?_;rintro e w6 ⟨⟨v6,rfl,Dz⟩,hb6⟩;have hS1:=hS0.2.2.trans (hb6.mono hS0.2.2.size);have LQ:=fD Dz qh;have hown6:=λb hb=>aK hS0.2.2.size (World.ownsRow.lt Dz b hb).1;obtain⟨A6,c6,rfl⟩:=fK Dz;have hD6:=HD1.out.after hS1;have c7:=hD6.cT;have c8:=hD6.mM HP.out;rw[HV.out]at c8;obtain⟨cur,hcur,_⟩:=hD6.cur;have hth:=hcur.thaw (iu*58+2);have hD7:=ah (hD6.uw HP.out LQ)
     have OY:DG r g K T w1 (w6.setCell ⟨g,iu*58+2,none⟩ (.slice A6 (Tr.wo p.kids ix).length c6)) g (λz=>if z=(iu:Int)then .slice A6 (Tr.wo p.kids ix).length c6 else K z) (Tr.set T iu { p with kids:=Tr.wo p.kids ix }) :=
      ⟨(Out.of_below hS1).trans ((Out.refl _ _).set (M:=jN r g K T) (.inr (.inl rfl)) _ _),λb hb=>(qX HP.out hb).elim .inl λq => .inr (hown6 b q)⟩
     have HG7:=ah ((DG.of_below HB1.out).trans OY);have Cq:=cK HO1.out (λb hb (q:jN r g K T b)=>absurd (HD.out.lt q) (by have:=(World.ownsRow.lt HO1.out b hb).1;omega)) OY.1;have HO7:=ah Cq;refine⟨_,rfl,λ_=>⟨c7,c8,hS1⟩,?_⟩;clear OY hS0 hS1 LQ hown6 Dz hb6 hcur hD6 CP HB1 HO1 Cq HV HD1;generalize hnl:(Tr.wo p.kids (ix:Int)).length=nl at *
     (try simp only[bV,bW,bX,tks])
     refine tk1 15 ?_;refine wm ?_ (hS:=by first|(intro hlt;exact absurd hlt aN)|(intro _;exact hlt));refine tk1 16 ?_;refine wm ?_ (hS:=by first|(intro hlt;exact absurd hlt aN)|(intro _;exact hlt));refine tk1 17 ?_;refine aj.Step.skip Z43 ?_;refine⟨by first|(intro hlt;exact absurd hlt aN)|(intro _;exact hlt),?_⟩;(try simp only[Act.put]);refine jk ?_;clear hnl c7 c8 hth;generalize hT7:Tr.set T (iu:Int) { p with kids:=Tr.wo p.kids ix }=T7 at *;generalize hK7:(λz:Int=>if z=(iu:Int)then Value.slice A6 nl c6 else K z)=K7 at *;generalize w6.setCell ⟨g,iu*58+2,none⟩ (.slice A6 nl c6)=w7 at *;have HT7:=ah hT7;clear hT7 hK7
     have hOG:Hid (∀b,(Value.slice A1 n c1).ownBlock=some b->b≠g):=ah λb hb e=>by
      have:=(World.ownsRow.lt HO7.out b hb).1;have:=HD.out.lt (b:=g) (.inr (.inl rfl));omega
     go_wp2
     go_loopw [8] (λiv wr=>∃k:Nat,k<=n/\iv=.int .i64 (k:Int)/\Doc wr r g c m K7 (Tr.del T7 (l.take k))/\DG r g K T w wr g K7 (Tr.del T7 (l.take k))/\wr.ownsRow w.heap.size 3 1 (.slice A1 n c1) n (l.map (Value.int .i64))) (λiv _=>n-(intOf iv).toNat)
     case atStart=>exact⟨0,by omega,rfl,by rw[List.take_zero,DK];exact hD7.out,by rw[List.take_zero,DK];exact HG7.out,HO7.out⟩
     case round =>
      obtain⟨k,hk,rfl,hd,hg,ho⟩:=hrel;by_cases hlt:k<n
      . have hltz:(k:Int)<(n:Int):=by omega
        obtain⟨hI,_⟩:=KS.xM (l:=l) (by have:=fD (base':=0) ho qh;unfold KS;rw[HN.out];exact this);obtain⟨b6,o6,rfl,lb6,Gl⟩:=hI.at_ (k:=k) Wq;have hat:l[k]? = some (l.getD k 0):=by rw[List.getD,ja6 Wq];rfl
        have hmem:=List.mem_of_getElem? hat;obtain⟨y0,y1⟩:=xZ.out _ hmem;have hstep:=ah (Si T7 l hat);generalize l.getD k 0=y at *;obtain⟨iy,rfl⟩:∃i:Nat,y=i:=⟨y.toNat,by omega⟩;have hiy:iy<m:=by omega
        obtain⟨w8,hst,Yt,hD8,hG8⟩:=hd.after (Below.refl _ wr).drew |>.aaA hiy
        have c7:=hd.cT;have HST:=ah hst;have YT:=ah xF;generalize jR=dz at *;have HD8:=ah hD8;have HG8:=ah ((hg.trans (DG.of_below (Below.refl _ wr).drew)).trans hG8);have HO8:=ah (cK (cK (M:=λ_=>False) ho (λ_ _ q=>q) (Out.of_below (Below.refl _ wr).drew)) (λb hb (q:b=g)=>hOG.out b hb q) Yt);clear hst Yt hD8 hG8 hd hg ho hI hmem hat
        go_upto_region 11 with(fail)
        refine jy (S:=(λW'=>W'.cell? ⟨r,0,none⟩=some (.slice g m c)/\W'.cell? ⟨b6,o6+k,none⟩=some (.int .i64 (iy:Int)))) 9 ?_ ?_
        . exact⟨c7,Gl⟩
        intro hS0;clear c7 Gl;refine aW 0 ?_;refine aW 1 ?_;refine aW 2 ?_;refine aW 3 ?_;refine aW 4 ?_;refine aW 5 ?_;refine aW 6 ?_;refine aW 7 ?_;refine mG 8 rfl (Wh YT.out bB rfl) ?_;refine tk1 9 ?_;refine wm ?_ (hS:=by first|(intro hlt;exact absurd hlt aN)|(intro _;exact hlt));refine tk1 10 ?_;refine aj.Step.skip (uq (.tmp 58) (.tmp 57) rfl rfl rfl HST.out) ?_;refine⟨λhlt=>absurd hlt aN,?_⟩
        (try simp only[bV,bW,bX,tks])
        refine jk ?_;go_wp2
        go_roundw
        case rel=>exact⟨k+1,by omega,by go_num,by rw[<-hstep.out];exact HD8.out,by rw[<-hstep.out];exact HG8.out,HO8.out⟩
        case measure=>simp[intOf];omega
      . obtain rfl:k=n:=by omega
        rw[List.take_of_length_le (by rw[HN.out];exact aO _)]at hd hg;have HD8:=ah hd;have HG8:=ah hg;clear hd hg ho;go_wp2
        go_ret2
        rw[HT7.out];exact⟨rfl,_,HD8.out,HG8.out⟩
def xH(T:Tr.T)(dx:Int)(l:List Int):Int:=l.foldl (λm y=>max m (Tr.dep T y-dx)) 0
theorem RB(T:Tr.T)(dx:Int)(l:List Int)(y:Int):xH T dx (l++[y])=max (xH T dx l) (Tr.dep T y-dx):=by simp[xH]
theorem vF(f:Int->Int)(l:List Int):∀m,m<=l.foldl (λm y=>max m (f y)) m/\(∀y∈l,f y<=l.foldl (λm y=>max m (f y)) m)/\∀B,m<=B->(∀y∈l,f y<=B)->l.foldl (λm y=>max m (f y)) m<=B:=by
 induction l with
 | nil=>intro m;exact⟨Int.le_refl _,by simp,λB h _=>h⟩
 | cons k l ih =>
   intro m;simp only[List.foldl_cons];obtain⟨h1,h2,h3⟩:=ih (max m (f k));refine⟨by omega,λy hy => ?_,λB hB hl=>h3 B ?_ λy hy=>hl y (List.mem_cons_of_mem _ hy)⟩
   . rcases List.mem_cons.1 hy with rfl|hy
     . omega
     . exact h2 y hy
   . have:=hl k List.mem_cons_self;omega
theorem OL{T:Tr.T}(H:Tr.WF T){dx:Int}(hx:0<=dx)(l:List Int):0<=xH T dx l/\xH T dx l<=63 :=
 ⟨(vF _ l 0).1,(vF _ l 0).2.2 63 ak λy _=>by have:=(aas H y).2;omega⟩
theorem Wi{T:Tr.T}(H:Tr.WF T){x:Int}{nd:Tr.Nd}(hx:T x=some nd):xH T (Tr.dep T x) (Tr.sub T 64 x)=(Tr.hgt T 64 x:Int):=by
 obtain⟨d,h1,h2,h3⟩:=H.jo hx;obtain⟨y,hy,hd⟩:=H.RQ (H.iO hx) h2;have e:=H.JQ hd;have hge:=(vF (λy=>Tr.dep T y-Tr.dep T x) (Tr.sub T 64 x) 0).2.1 y hy
 have hle:=(vF (λy=>Tr.dep T y-Tr.dep T x) (Tr.sub T 64 x) 0).2.2 (Tr.hgt T 64 x:Int) ak λz hz=>by
  obtain⟨zd,hzd⟩:=((H.iN (H.iO hx)).1 hz).live;obtain⟨dz,q1,q2,q3⟩:=H.jo hzd;have:=H.Xd (H.iO hx) h2 hz q2;omega
 unfold xH;omega
theorem acJ{T:Tr.T}{x u:Int}{i:Nat}{nd p q:Tr.Nd}(hx:T x=some nd)(hp:T nd.up=some p)(hne:nd.up≠x)(hux:u≠x)(hu:Tr.set T nd.up { p with kids:=Tr.wo p.kids x } u=some q):Tr.mP T x u i=Tr.set (Tr.set (Tr.set T nd.up { p with kids:=Tr.wo p.kids x }) u { q with kids:=Tr.wi q.kids i x }) x { nd with up:=u }:=by
 unfold Tr.mP Tr.enter;rw[JB hx hp,hu,Tr.aT _ _ (Ne.symm hne),hx]
theorem Wj{T:Tr.T}(h:Doc w r g c m K T)(H:Tr.WF T)(x u a:Int):Calls ja0 60 #[r,x,u,a] w λe w'=>e=.returned (.int .i64 (Tr.jS T x u a))/\∃K',Doc w' r g c m K' (Tr.mQ T x u a)/\DG r g K T w w' g K' (Tr.mQ T x u a):=by
 have HD:=ah h;have key:=jv h x;have rR:=jv h u;have same:∀e,Tr.jS T x u a=e->e≠0->Tr.mQ T x u a=T:=λe he hne=>by unfold Tr.mQ;rw[he,if_neg hne]
 cases hX:T x with
 | none =>
   have hE:Tr.jS T x u a=2:=by unfold Tr.jS;rw[hX]
   rw[hE,same _ hE aN];rw[mF hX]at key;clear h rR same hE;exact Z18
 | some nd =>
 rw[mD hX]at key;cases hU:T u with
 | none =>
   have hE:Tr.jS T x u a=2:=by unfold Tr.jS;rw[hX,hU]
   rw[hE,same _ hE aN];rw[mF hU]at rR;clear h same hE;exact Z18
 | some q =>
 rw[mD hU]at rR;have hE0:Tr.jS T x u a=if x=0 then 1 else if u∈Tr.sub T 64 x then 3 else if a<0\/((Tr.wo q.kids x).length:Int)<a then 1 else if 63<Tr.dep T u+1+Tr.hgt T 64 x then 5 else 0:=by unfold Tr.jS;rw[hX,hU]
 by_cases h0:x=0
 . have hE:Tr.jS T x u a=1:=by rw[hE0,if_pos h0]
   rw[hE,same _ hE aN];clear h same hE hE0;subst h0;exact Z18
 rw[if_neg h0]at hE0;have h0b:(x==0)=false:=by simpa using h0
 have hsl:(Tr.sub T 64 x).length<=4096:=by
  have:=H.DF hX h0;have:=H.jm;omega
 have pK:=rO 64 x h (H.iO hX) ak;have hall:=Wi H hX;have Pk:0<=Tr.dep T x/\Tr.dep T x<=63:=by obtain⟨d,d1,d2,d3⟩:=H.jo hX;omega
 have hdu:0<=Tr.dep T u/\Tr.dep T u<=63:=by obtain⟨d,d1,d2,d3⟩:=H.jo hU;omega
 obtain⟨p,hp,hxp⟩:=H.up x nd hX h0;have hqk:q.kids.length<=10000:=by have:=H.qZ hU;have:=H.jm;omega
 have hpk:p.kids.length<=10000:=by have:=H.qZ hp;have:=H.jm;omega
 have hoth:=H.others hX hU h0;have hself:x∈Tr.sub T 64 x:=(H.iN (H.iO hX)).2 (.refl hX);have afs:nd.up≠x:=λe=>H.qw hX h0 (by rw[e];exact hself);obtain⟨nu,nk,ns⟩:=nd;dsimp only at hp hoth afs;obtain⟨iv,rfl,hiv⟩:=h.nat hp;obtain⟨iu,rfl,hiu⟩:=h.nat hU;obtain⟨ix,rfl,hix⟩:=h.nat hX;have HX:=ah hX;have HU:=ah hU;have HP:=ah hp;have HE0:=ah hE0;have HS:=ah same;have HAL:=ah hall;have HQK:=ah hqk;have HPK:=ah hpk;have HOT:=ah hoth;have HNX:=ah afs;have HSF:=ah hself;clear hX hU hp hxp hE0 same hall hqk hpk hoth afs hself;generalize hl:Tr.sub T 64 (ix:Int)=l at *;clear hl;generalize hn:l.length=n at *;have HN:=ah hn;clear hn;go_enter Tryz.func60,Tryz.ntmps60
 go_upto_region 6 with(first|(go_at_call 63;first|((with_reducible refine key.mono ?_);rintro e w' ⟨rfl,rfl⟩)|((with_reducible refine rR.mono ?_);rintro e w' ⟨rfl,rfl⟩))|(go_at_call 26;(with_reducible refine pK.mono ?_);rintro e w1 ⟨⟨v1,rfl,ho1⟩,hb1⟩;obtain⟨A1,c1,rfl⟩:=fK ho1))
 have D1:=HD.out.after hb1;have KX:=ah (vC D1 H (ix:Int));have c4:=D1.cT;have HD1:=ah D1;have HO1:=ah ho1;have HB1:=ah hb1;clear h key rR pK D1 ho1 hb1;go_wp2
 go_loopw [10,11] (λdv iv wr=>∃k:Nat,k<=n/\iv=.int .i64 (k:Int)/\dv=.int .i64 (xH T (Tr.dep T ix) (l.take k))/\(iu:Int) ∉ l.take k/\wr=w1) (λ_ iv _=>n-(intOf iv).toNat)
 case atStart=>exact⟨0,by omega,rfl,rfl,by simp,rfl⟩
 case round =>
  obtain⟨k,hk,rfl,rfl,hni,rfl⟩:=hrel;by_cases hlt:k<n
  . have hltz:(k:Int)<(n:Int):=by omega
    obtain⟨hI,_⟩:=KS.xM (l:=l) (by have:=fD (base':=0) HO1.out qh;unfold KS;rw[HN.out];exact this);obtain⟨b6,o6,rfl,lb6,Gl⟩:=hI.at_ (k:=k) Wq;have hat:l[k]? = some (l.getD k 0):=by rw[List.getD,ja6 Wq];rfl
    have hmem:=List.mem_of_getElem? hat;have Tw:=fJ l k Wq;clear hI hat;generalize l.getD k 0=y at *;by_cases hyu:y=(iu:Int)
    . subst hyu
      have hE:Tr.jS T ix iu a=3:=by rw[HE0.out,if_pos hmem]
      have HR:=ah (show _/\_ from⟨hE,HS.out _ hE aN⟩);clear hmem Tw hni hE;go_wp2
      go_ret
      rw[HR.out.1,HR.out.2];exact⟨rfl,_,HD1.out,DG.of_below HB1.out⟩
    . have hyb:(y==(iu:Int))=false:=by simpa using hyu
      have hstep:Hid (xH T (Tr.dep T ix) (l.take (k+1))=max (xH T (Tr.dep T ix) (l.take k)) (Tr.dep T y-Tr.dep T ix)):=ah (by rw[Tw,RB]);have ajC:Hid ((iu:Int) ∉ l.take (k+1)):=ah (by rw[Tw];simp only[List.mem_append,List.mem_singleton,not_or];exact⟨hni,λe=>hyu e.symm⟩);have KY:=ah (vC HD1.out H y);obtain⟨f1,f2⟩:=aas H y;have hw:IntKind.i64.wrap (Tr.dep T y-Tr.dep T ix)=Tr.dep T y-Tr.dep T ix:=IntWalk.i64_in _ ak;clear hmem Tw hni hyu;generalize Tr.dep T y=dy at *;generalize Tr.dep T (ix:Int)=dx at *;generalize xH T dx (l.take k)=dk at *
      go_wp2_with (first|(go_at_call 27;first|((with_reducible refine(KY.out).mono ?_);rintro e w' ⟨rfl,rfl⟩)|((with_reducible refine(KX.out).mono ?_);rintro e w' ⟨rfl,rfl⟩)))
      go_roundw
      case rel=>exact⟨k+1,by omega,by go_num,by rw[hstep.out],ajC.out,trivial⟩
      case measure=>simp[intOf];omega
  . obtain rfl:k=n:=by omega
    rw[List.take_of_length_le (by rw[HN.out];exact aO _)]at hni ⊢;rw[HAL.out];have hE1:=HE0.out;rw[if_neg hni]at hE1;have HE1:=ah hE1;have HNI:=ah hni;clear hE1 hni HE0;have c5:=HD1.out.mM HU.out;have jY:=HD1.out.row _ _ HU.out;obtain⟨A,cc,hv,_⟩:=jY.ints;rw[hv]at c5 jY;have CP:=ah jY;clear jY hv;by_cases ha:a<0
    . have hE:Tr.jS T ix iu a=1:=by rw[HE1.out,if_pos (.inl ha)]
      have HR:=ah (show _/\_ from⟨hE,HS.out _ hE aN⟩);clear hE;go_wp2
      go_ret
      rw[HR.out.1,HR.out.2];exact⟨rfl,_,HD1.out,DG.of_below HB1.out⟩
    obtain⟨i,rfl⟩:∃i:Nat,a=i:=⟨a.toNat,by omega⟩;have ah0:=vD CP.out HQK.out (ix:Int);generalize hnq:q.kids.length=nq at *;have HNQ:=ah hnq;clear hnq;generalize hnw:(Tr.wo q.kids (ix:Int)).length=nw at *;have HNW:=ah hnw;clear hnw;by_cases hal:nw<i
    . have hE:Tr.jS T ix iu i=1:=by rw[HE1.out,if_pos (.inr ak)]
      have HR:=ah (show _/\_ from⟨hE,HS.out _ hE aN⟩);have ajD:(nw:Int)<(i:Int):=by omega
      clear hE
      go_wp2_with (go_at_call 88;(with_reducible refine ah0.mono ?_);rintro e w6 ⟨⟨v6,rfl,Dz⟩,hb6⟩;obtain⟨A6,c6,rfl⟩:=fK Dz)
      go_ret
      rw[HR.out.1,HR.out.2];exact⟨rfl,_,HD1.out.after hb6,DG.of_below (HB1.out.trans (hb6.mono HB1.out.size))⟩
    have ajD:¬ (nw:Int)<(i:Int):=by omega
    go_upto_region 15 with(go_at_call 88;(with_reducible refine ah0.mono ?_);rintro e w6 ⟨⟨v6,rfl,Dz⟩,hb6⟩;obtain⟨A6,c6,rfl⟩:=fK Dz)
    have D6:=HD1.out.after hb6;have KU:=ah (vC D6 H (iu:Int));have hw1:IntKind.i64.wrap (Tr.dep T iu+1)=Tr.dep T iu+1:=IntWalk.i64_in _ ak;have hb2:=OL H (l:=l) Pk.1;rw[HAL.out]at hb2;have hw2:IntKind.i64.wrap (Tr.dep T iu+1+(Tr.hgt T 64 ix:Int))=Tr.dep T iu+1+(Tr.hgt T 64 ix:Int):=IntWalk.i64_in _ ak;have HHG:Hid (∀e:Int,e=e):=ah λ_=>rfl;by_cases hdd:63<Tr.dep T iu+1+(Tr.hgt T 64 ix:Int)
    . have hE:Tr.jS T ix iu i=5:=by rw[HE1.out,if_neg (λq=>q.elim (λq=>absurd q ak) (λq=>absurd q ak)),if_pos hdd]
      have HR:=ah (show _/\_ from⟨hE,HS.out _ hE aN⟩);have HD6:=ah D6;have HB6:=ah (HB1.out.trans (hb6.mono HB1.out.size));clear hE D6 hb6;generalize Tr.dep T (iu:Int)=du at *;generalize Tr.hgt T 64 (ix:Int)=hg at *
      go_wp2_with (go_at_call 27;(with_reducible refine(KU.out).mono ?_);rintro e w' ⟨rfl,rfl⟩)
      go_ret
      rw[HR.out.1,HR.out.2];exact⟨rfl,_,HD6.out,DG.of_below HB6.out⟩
    have hE:Tr.jS T ix iu i=0:=by rw[HE1.out,if_neg (λq=>q.elim (λq=>absurd q ak) (λq=>absurd q ak)),if_neg hdd]
    have aft:(iu:Int)≠ix:=λe=>by have:=HSF.out;rw[<-e]at this;exact HNI.out this
    obtain⟨q1,hq1,hql⟩:∃q1,Tr.set T (iv:Int) { p with kids:=Tr.wo p.kids ix } iu=some q1/\q1.kids.length=nw:=by
     by_cases e:(iu:Int)=iv
     . have e2:=HU.out
       rw[e,HP.out]at e2;cases e2;exact⟨_,by rw[e,Tr.aX],HNW.out⟩
     . refine⟨q,by rw[Tr.aT _ _ e];exact HU.out,?_⟩
       have:=HOT.out;rw[if_neg (λq=>e q.symm)]at this;have:=HNQ.out;omega
    have hR:Tr.mQ T ix iu i=Tr.set (Tr.set (Tr.set T (iv:Int) { p with kids:=Tr.wo p.kids ix }) iu { q1 with kids:=Tr.wi q1.kids i ix }) ix ⟨iu,nk,ns⟩:=by
     unfold Tr.mQ;rw[if_pos hE,Int.toNat_natCast];exact acJ HX.out HP.out HNX.out aft hq1
    have HR:=ah (show _/\_ from⟨hE,hR⟩);have hx2:Tr.set (Tr.set T (iv:Int) { p with kids:=Tr.wo p.kids ix }) iu { q1 with kids:=Tr.wi q1.kids i ix } ix=some ⟨iv,nk,ns⟩:=by
     rw[Tr.aT _ _ (Ne.symm aft),Tr.aT _ _ (Ne.symm HNX.out)];exact HX.out
    have HX2:=ah hx2;have HQ1:=ah hq1;have hil:Hid (i<=q1.kids.length):=ah ak;have ajE:Hid (q1.kids.length<=10000):=ah (by have h1:=List.length_filter_le (λy=>y != (ix:Int)) q.kids;have h2:=HNW.out;have h3:=HNQ.out;have h4:=HQK.out;unfold Tr.wo at h2;omega);have HG6:=ah (DG.of_below (r:=r) (g:=g) (K:=K) (T:=T) (HB1.out.trans (hb6.mono HB1.out.size)));have c4:=D6.cT;have c5:=D6.cUp HX.out;have HD6:=ah D6;clear hE hR hx2 hq1 hql aft hb6 D6 HE1 HS HAL hb2 Dz;generalize Tr.dep T (iu:Int)=du at *;generalize Tr.hgt T 64 (ix:Int)=hg at *
    go_upto_region 18 with(go_at_call 27;(with_reducible refine(KU.out).mono ?_);rintro e w6 ⟨rfl,rfl⟩)
    clear c5 KU;have c5:=HD6.out.mM HP.out;have jY:=HD6.out.row _ _ HP.out;obtain⟨Ap,cp,hv,_⟩:=jY.ints;rw[hv]at c5 jY;have CP:=ah jY;have HV:=ah hv;clear jY hv;have HPL:=ah (aO p.kids.length);generalize hnp:p.kids.length=np at *;have HNP:=ah hnp;clear hnp;refine jy (S:=(λW'=>W'.cell? ⟨r,0,none⟩=some (.slice g m c)/\W'.cell? ⟨g,iv*58+2,none⟩=some (.slice Ap np cp)/\Below w6 w6 W')) 15 ?_ ?_
    . exact⟨c4,c5,Below.drew aG⟩
    intro hS0;clear c4 c5;refine aW 0 ?_;refine aW 1 ?_;refine aW 2 ?_;refine aW 3 ?_;refine aW 4 ?_;refine aW 5 ?_;refine aW 6 ?_;refine aW 7 ?_;refine aW 8 ?_;refine aW 9 ?_;refine aW 10 ?_;refine aW 11 ?_;refine aW 12 ?_;refine aW 13 ?_;refine tk1 14 ?_;refine aj.Step.call eD (vD (CP.out.after hS0.2.2) (by rw[HNP.out];exact HPK.out) (ix:Int)) ?_;rintro e w8 ⟨⟨v6,rfl,Dz⟩,hb6⟩;have hS1:=hS0.2.2.trans (hb6.mono hS0.2.2.size);have LQ:=fD Dz qh;have hown6:=λb hb=>aK hS0.2.2.size (World.ownsRow.lt Dz b hb).1;obtain⟨A8,c8_,rfl⟩:=fK Dz;have hD6:=HD6.out.after hS1;have c7:=hD6.cT;have c8:=hD6.mM HP.out;rw[HV.out]at c8;obtain⟨cur,hcur,_⟩:=hD6.cur;have hth:=hcur.thaw (iv*58+2);have hD7:=ah (hD6.uw HP.out LQ)
    have OY:DG r g K T w6 (w8.setCell ⟨g,iv*58+2,none⟩ (.slice A8 (Tr.wo p.kids (ix:Int)).length c8_)) g (λz=>if z=(iv:Int)then .slice A8 (Tr.wo p.kids (ix:Int)).length c8_ else K z) (Tr.set T iv { p with kids:=Tr.wo p.kids ix }) :=
     ⟨(Out.of_below hS1).trans ((Out.refl _ _).set (M:=jN r g K T) (.inr (.inl rfl)) _ _),λb hb=>(qX HP.out hb).elim .inl λq => .inr (hown6 b q)⟩
    have HG9:=ah (HG6.out.trans OY);have HD9:=ah hD7.out;refine⟨_,rfl,λ_=>⟨c7,c8,hS1⟩,?_⟩;clear OY hS0 hS1 LQ hown6 Dz hb6 hcur hD6 hD7;generalize hnl:(Tr.wo p.kids (ix:Int)).length=n8 at *
    (try simp only[bV,bW,bX,tks])
    refine tk1 15 ?_;refine wm ?_ (hS:=by first|(intro hlt;exact absurd hlt aN)|(intro _;exact hlt));refine tk1 16 ?_;refine wm ?_ (hS:=by first|(intro hlt;exact absurd hlt aN)|(intro _;exact hlt));refine tk1 17 ?_;refine aj.Step.skip Z43 ?_;refine⟨by first|(intro hlt;exact absurd hlt aN)|(intro _;exact hlt),?_⟩;(try simp only[Act.put]);refine jk ?_;clear hnl c7 c8 hth;generalize hT9:Tr.set T (iv:Int) { p with kids:=Tr.wo p.kids ix }=T9 at *;generalize hK9:(λz:Int=>if z=(iv:Int)then Value.slice A8 n8 c8_ else K z)=K9 at *;generalize w8.setCell ⟨g,iv*58+2,none⟩ (.slice A8 n8 c8_)=w9 at *;have HT9:=ah hT9;clear hT9 hK9;have c4:=HD9.out.cT;have c5:=HD9.out.mM HQ1.out;have jY:=HD9.out.row _ _ HQ1.out;obtain⟨Aq,cq,hv,_⟩:=jY.ints;rw[hv]at c5 jY;have adp:=ah jY;have HV2:=ah hv;clear jY hv CP HV HD6 HG6;generalize hnp:q1.kids.length=nz at *;have HNZ:=ah hnp;clear hnp
    go_upto_region 19 with(fail)
    refine jy (S:=(λW'=>W'.cell? ⟨r,0,none⟩=some (.slice g m c)/\W'.cell? ⟨g,iu*58+2,none⟩=some (.slice Aq nz cq)/\Below w9 w9 W')) 16 ?_ ?_
    . exact⟨c4,c5,Below.drew aG⟩
    intro hS0;clear c4 c5;refine aW 0 ?_;refine aW 1 ?_;refine aW 2 ?_;refine aW 3 ?_;refine aW 4 ?_;refine aW 5 ?_;refine aW 6 ?_;refine aW 7 ?_;refine aW 8 ?_;refine aW 9 ?_;refine aW 10 ?_;refine aW 11 ?_;refine aW 12 ?_;refine aW 13 ?_;refine aW 14 ?_;refine tk1 15 ?_;refine aj.Step.call eD (Ih (adp.out.after hS0.2.2) (by rw[HNZ.out];exact ajE.out) (by rw[HNZ.out];exact hil.out) (ix:Int)) ?_;rintro e jD ⟨⟨v6,rfl,Dz⟩,hb6⟩;have hS1:=hS0.2.2.trans (hb6.mono hS0.2.2.size);have LQ:=fD Dz qh;have hown6:=λb hb=>aK hS0.2.2.size (World.ownsRow.lt Dz b hb).1;obtain⟨A10,acK,rfl⟩:=fK Dz;have hD6:=HD9.out.after hS1;have c7:=hD6.cT;have c8:=hD6.mM HQ1.out;rw[HV2.out]at c8;obtain⟨cur,hcur,_⟩:=hD6.cur;have hth:=hcur.thaw (iu*58+2);have hD7:=ah (hD6.uw HQ1.out LQ)
    have OY:DG r g K9 T9 w9 (jD.setCell ⟨g,iu*58+2,none⟩ (.slice A10 (Tr.wi q1.kids i (ix:Int)).length acK)) g (λz=>if z=(iu:Int)then .slice A10 (Tr.wi q1.kids i (ix:Int)).length acK else K9 z) (Tr.set T9 iu { q1 with kids:=Tr.wi q1.kids i ix }) :=
     ⟨(Out.of_below hS1).trans ((Out.refl _ _).set (M:=jN r g K9 T9) (.inr (.inl rfl)) _ _),λb hb=>(qX HQ1.out hb).elim .inl λq => .inr (hown6 b q)⟩
    have ah1:=ah (HG9.out.trans OY);have aaE:=ah hD7.out;refine⟨_,rfl,λ_=>⟨c7,c8,hS1⟩,?_⟩;clear OY hS0 hS1 LQ hown6 Dz hb6 hcur hD6 hD7;generalize hnl:(Tr.wi q1.kids i (ix:Int)).length=n10 at *
    (try simp only[bV,bW,bX,tks])
    refine tk1 16 ?_;refine wm ?_ (hS:=by first|(intro hlt;exact absurd hlt aN)|(intro _;exact hlt));refine tk1 17 ?_;refine wm ?_ (hS:=by first|(intro hlt;exact absurd hlt aN)|(intro _;exact hlt));refine tk1 18 ?_;refine aj.Step.skip Z43 ?_;refine⟨by first|(intro hlt;exact absurd hlt aN)|(intro _;exact hlt),?_⟩;(try simp only[Act.put]);refine jk ?_;clear hnl c7 c8 hth;generalize Tr.set T9 (iu:Int) { q1 with kids:=Tr.wi q1.kids i ix }=T11 at *;generalize (λz:Int=>if z=(iu:Int)then Value.slice A10 n10 acK else K9 z)=K11 at *;generalize jD.setCell ⟨g,iu*58+2,none⟩ (.slice A10 n10 acK)=rP at *;have c4:=aaE.out.cT;have c5:=aaE.out.cUp HX2.out;obtain⟨cur,hcur,_⟩:=aaE.out.cur;have hth:=hcur.thaw (ix*58+1);obtain⟨ah2,ah3⟩:=aaE.out.Xz HX2.out (iu:Int);have ajF:=ah ah2;have ajG:=ah (ah1.out.trans ah3);clear hcur ah2 ah3 aaE ah1 adp HV2;go_wp2
    go_ret
    rw[HR.out.1,HR.out.2];exact⟨rfl,_,ajF.out,ajG.out⟩
theorem aaF{T:Tr.T}(h:Doc w r g c m K T)(H:Tr.WF T)(hn:(Tr.ord T).length<4096)(hmm:m+1<=4096)(u a:Int):Calls ja0 62 #[r,u,a] w λe w'=>e=.returned (.tuple #[Tr.uH T u a,Tr.nO T u a])/\∃g' c' m' K',Doc w' r g' c' m' K' (Tr.lG T u a)/\m'<=m+1/\DG r g K T w w' g' K' (Tr.lG T u a):=by
 by_cases hE:Tr.nO T u a=0
 . have hI:Tr.uH T u a=Tr.free T:=by unfold Tr.uH;rw[if_pos hE]
   have hR:Tr.lG T u a=Tr.pU T (Tr.free T) u a.toNat:=by unfold Tr.lG;rw[if_pos hE]
   rw[hI,hR,hE];unfold Tr.nO at hE;cases hu:T u with
   | none=>rw[hu]at hE;cases hE
   | some p =>
     rw[hu]at hE;dsimp only at hE;split at hE
     . cases hE
     . split at hE
       . cases hE
       . rename_i h1 h2
         obtain⟨d,h3,h4,h5⟩:=H.jo hu;obtain⟨hfr,_⟩:=H.JR;obtain⟨k,hk⟩:∃k:Nat,Tr.free T=k:=⟨(Tr.free T).toNat,by have:=hfr.1;omega⟩;obtain⟨i,rfl⟩:∃i:Nat,a=i:=⟨a.toNat,by omega⟩;rw[hk]at hfr;rw[hk,Int.toNat_natCast];have hkm:k<m\/k=m:=by
          rcases Nat.lt_trichotomy k m with q|q|q
          . exact .inl q
          . exact .inr q
          . have h6:=hfr.2.2 (m:Int) ak ak
            cases e:T (m:Int)with
            | none=>exact absurd e h6
            | some nd=>have:=h.range _ nd e;omega
         rcases hkm with hkm|hkm
         . exact V7 h H hn hmm hu rfl ak h4 ak hfr hkm
         . exact V8 h H hn hmm hu rfl ak h4 ak hfr hkm
 . refine(acI h H hn hE).mono ?_
   rintro e w' ⟨rfl,hd,hg⟩;exact⟨rfl,g,c,m,K,hd,by omega,hg⟩
structure Two(W:World)(t r g c m n n0:Nat)(L:Lay)(K:Int->Value)(T U:Tr.T):Prop where
 good:Good W t L T n n0
 doc:Doc W r g c m K U
 own:∀b,jN r g K U b->n0<=b
 apart:∀b,owned t L T b->¬ jN r g K U b
section
variable {W W':World} {t r g c m n n0:Nat} {L:Lay} {K:Int->Value} {T U:Tr.T}
theorem Two.after(h:Two W t r g c m n n0 L K T U)(hb:Below W W W'):Two W' t r g c m n n0 L K T U:=⟨h.good.after hb,h.doc.after hb,h.own,h.apart⟩
theorem Two.code{n':Nat}{L':Lay}{T':Tr.T}(h:Two W t r g c m n n0 L K T U)(hg:Good W' t L' T' n' n0)(k:Grow t L L' T T' W W'):Two W' t r g c m n' n0 L' K T' U :=
 ⟨hg,h.doc.out (M:=owned t L T) (λb hb q=>h.apart b q hb) k.1,h.own,λb hb hd=>(k.2 b hb).elim (λq=>h.apart b q hd) λq=>absurd (h.doc.lt hd) ak⟩
theorem Two.ref{g' c' m':Nat}{K':Int->Value}{U':Tr.T}(h:Two W t r g c m n n0 L K T U)(hd:Doc W' r g' c' m' K' U')(k:DG r g K U W W' g' K' U')(h0:n0<=W.heap.size):Two W' t r g' c' m' n n0 L K' T U'/\Below n0 W W' :=
 ⟨⟨⟨⟨h.good.inv.rep.out (M:=jN r g K U) (λb hb q=>h.apart b hb q) k.1,h.good.inv.wf,h.good.inv.num⟩,h.good.own,h.good.fit⟩,hd,λb hb=>(k.2 b hb).elim (h.own b) λq=>aK h0 q,λb hb hd'=>(k.2 b hd').elim (h.apart b hb) λq=>absurd (h.good.inv.rep.lt hb) ak⟩,
  k.1.below h0 λb hb q=>absurd (h.own b q) ak⟩
end
theorem aaG{t r g c m n n0:Nat}{L:Lay}{T:Tr.T}(h:Two w t r g c m n n0 L K T T)(hn:n<4096)(hm:m+1<=4096)(h0:n0<=w.heap.size){x:vB}(hx:Ow x):Calls ja0 25 #[t,r,.agg (fU x)] w λe w'=>e=.returned (.bool true)/\∃L' g' c' m' n' K',Two w' t r g' c' m' n' n0 L' K' (VY T x) (VY T x)/\n'<=n+1/\m'<=m+1/\Below n0 w w':=by
 have hA:At (w.alloc (.cells (fU x) 76)) w.heap.size (.cells (fU x) 76):=At.new _ _;have hB:Below w w (w.alloc (.cells (fU x) 76)):=aD aG _;have h1:=h.after hB;have hB0:=hB.mono h0;have hs1:n0<=(w.alloc (.cells (fU x) 76)).heap.size:=by simp;omega
 have GV:(Tr.ord T).length<4096:=by rw[h.good.inv.num];exact hn
 have H:=h.good.inv.wf;have Y5:¬ owned t L T w.heap.size:=λq=>absurd (h.good.inv.rep.lt q) ak;have hlt:w.heap.size<(w.alloc (.cells (fU x) 76)).heap.size:=by simp
 have HA:=ah hA;clear h hB hA;have kR:=OA h1.good hs1 hx.a;have kM:=VZ h1.good hs1 (a:=x.c) hx.a hx.b;have kA:=Oz h1.good hn hs1 (a:=x.b) hx.a;have kS:=Gd h1.good hs1 hx.a hx.s;have dR:=ah λW (h:Doc W r g c m K T)=>OJ h H x.a;have dM:=ah λW (h:Doc W r g c m K T)=>Wj h H x.a x.b x.c;have dA:=ah λW (h:Doc W r g c m K T)=>aaF h H GV hm x.a x.b;have dS:=ah λW (h:Doc W r g c m K T)=>aaD h x.a x.s;have HG:=ah h1;have HX:=ah hx;have acL:Hid (∀(W:World) (L':Lay) (T':Tr.T),Grow t L L' T T' (w.alloc (.cells (fU x) 76)) W->At W w (.cells (fU x) 76)):=ah λW L' T' k=>HA.out.out Y5 k.1;clear h1 hx;generalize hI1:Tr.x9 T x.a=rI at kR dR;generalize hE1:Tr.rV T x.a=rE at kR dR;generalize hI2:Tr.jS T x.a x.b x.c=mE at kM dM;generalize hI3:Tr.uH T x.a x.b=aI at kA dA;generalize hE3:Tr.nO T x.a x.b=aE at kA dA;generalize U3:tF T x.a x.s=sE at kS dS;clear hI1 hE1 hI2 hI3 hE3 U3;have c0:(w.alloc (.cells (fU x) 76)).cell? ⟨w,0,none⟩=some (.int .i64 x.k):=by rw[HA.out.cell,ou x ak];rfl
 have c1:(w.alloc (.cells (fU x) 76)).cell? ⟨w,1,none⟩=some (.int .i64 x.a):=by rw[HA.out.cell,ou x ak];rfl
 have c2:(w.alloc (.cells (fU x) 76)).cell? ⟨w,2,none⟩=some (.int .i64 x.b):=by rw[HA.out.cell,ou x ak];rfl
 have c3:(w.alloc (.cells (fU x) 76)).cell? ⟨w,3,none⟩=some (.int .i64 x.c):=by rw[HA.out.cell,ou x ak];rfl
 have hs:Hid (vN (w.alloc (.cells (fU x) 76)) w.heap.size 4 x.s):=ah λj hj=>by rw[HA.out.cell,zi x hj]
 go_enter Tryz.func25,Tryz.ntmps25
 go_upto_region 1 with(fail)
 generalize w.alloc (.cells (fU x) 76)=w1 at *;by_cases e2:x.k.tmod 5=2
 . have hd:Hid (VY T x=Tr.nX T x.a):=ah (by unfold VY;rw[if_pos e2])
   clear kM kA kS dM dA dS
   go_upto_region 5 with(first|(go_at_call 57;(with_reducible refine kR.mono ?_);rintro e w2 ⟨rfl,L',n',hi,hl,hg,hb2⟩;have TW2:=ah (HG.out.code hi hg);have hA2:=acL.out _ _ _ hg;have c12:w2.cell? ⟨w,1,none⟩=some (.int .i64 x.a):=Z4e;have HB2:=ah hb2;clear c0 c1 c2 c3 hA2 hi hg hb2)|(go_at_call 58;(with_reducible refine(dR.out _ TW2.out.doc).mono ?_);rintro e w3 ⟨rfl,K',hd3,hg3⟩))
   have hn2:=aK hs1 HB2.out.size;obtain⟨tw,hb⟩:=TW2.out.ref hd3 hg3 (aK hs1 HB2.out.size);have HTW:=ah tw;have HB:=ah ((hB0.trans HB2.out).trans hb);clear tw hb hd3 hg3;go_wp2
   go_ret
   rw[hd.out];exact⟨rfl,L',g,c,m,n',K',HTW.out,by omega,by omega,HB.out⟩
 by_cases e3:x.k.tmod 5=3
 . have hd:Hid (VY T x=Tr.mQ T x.a x.b x.c):=ah (by unfold VY;rw[if_neg e2,if_pos e3])
   clear kR kA kS dR dA dS
   go_upto_region 9 with(first|(go_at_call 59;(with_reducible refine kM.mono ?_);rintro e w2 ⟨rfl,L',hi,hg,hb2⟩;have TW2:=ah (HG.out.code hi hg);have hA2:=acL.out _ _ _ hg;have c12:w2.cell? ⟨w,1,none⟩=some (.int .i64 x.a):=Z4e;have c22:w2.cell? ⟨w,2,none⟩=some (.int .i64 x.b):=Z4e;have c32:w2.cell? ⟨w,3,none⟩=some (.int .i64 x.c):=Z4e;have HB2:=ah hb2;clear c0 c1 c2 c3 hA2 hi hg hb2)|(go_at_call 60;(with_reducible refine(dM.out _ TW2.out.doc).mono ?_);rintro e w3 ⟨rfl,K',hd3,hg3⟩))
   obtain⟨tw,hb⟩:=TW2.out.ref hd3 hg3 (aK hs1 HB2.out.size);have HTW:=ah tw;have HB:=ah ((hB0.trans HB2.out).trans hb);clear tw hb hd3 hg3;go_wp2
   go_ret
   rw[hd.out];exact⟨rfl,L',g,c,m,n,K',HTW.out,by omega,by omega,HB.out⟩
 by_cases e4:x.k.tmod 5=4
 . have hd:Hid (VY T x=lI T x.a x.s):=ah (by unfold VY;rw[if_neg e2,if_neg e3,if_pos e4])
   clear kR kA kM dR dA dM
   go_upto_region 13 with(first|(refine gX bB _ rfl rfl hs.out ?_)|(refine gX bB _ rfl rfl hs2.out ?_)|(go_at_call 18;(with_reducible refine kS.mono ?_);rintro e w2 ⟨rfl,hi,hg,hb2⟩;have TW2:=ah (HG.out.code hi hg);have hA2:=acL.out _ _ _ hg;have c12:w2.cell? ⟨w,1,none⟩=some (.int .i64 x.a):=Z4e;have hs2:Hid (vN w2 w.heap.size 4 x.s):=ah (λj hj=>by rw[hA2.cell,zi x hj]);have HB2:=ah hb2;clear c0 c1 c2 c3 hA2 hi hg hb2 hs)|(go_at_call 61;(with_reducible refine(dS.out _ TW2.out.doc).mono ?_);rintro e w3 ⟨rfl,hd3,hg3⟩))
   obtain⟨tw,hb⟩:=TW2.out.ref hd3 hg3 (aK hs1 HB2.out.size);have HTW:=ah tw;have HB:=ah ((hB0.trans HB2.out).trans hb);clear tw hb hd3 hg3;go_wp2
   go_ret
   rw[hd.out];exact⟨rfl,L,g,c,m,n,K,HTW.out,by omega,by omega,HB.out⟩
 have hd:Hid (VY T x=Tr.lG T x.a x.b):=ah (by unfold VY;rw[if_neg e2,if_neg e3,if_neg e4]);clear kR kS kM dR dS dM
 go_upto_region 16 with(first|(go_at_call 19;(with_reducible refine kA.mono ?_);rintro e w2 ⟨rfl,L',n',hi,hl,hg,hb2⟩;have TW2:=ah (HG.out.code hi hg);have hA2:=acL.out _ _ _ hg;have c12:w2.cell? ⟨w,1,none⟩=some (.int .i64 x.a):=Z4e;have c22:w2.cell? ⟨w,2,none⟩=some (.int .i64 x.b):=Z4e;have HB2:=ah hb2;clear c0 c1 c2 c3 hA2 hi hg hb2)|(go_at_call 62;(with_reducible refine(dA.out _ TW2.out.doc).mono ?_);rintro e w3 ⟨rfl,g',c',m',K',hd3,hm3,hg3⟩))
 obtain⟨tw,hb⟩:=TW2.out.ref hd3 hg3 (aK hs1 HB2.out.size);have HTW:=ah tw;have HB:=ah ((hB0.trans HB2.out).trans hb);clear tw hb hd3 hg3;go_wp2
 go_ret
 rw[hd.out];exact⟨rfl,L',g',c',m',n',K',HTW.out,hl,hm3,HB.out⟩
def VT(T:Tr.T):Prop:=∀z nd,T z=some nd->Re.valid nd.sty=true/\Ay nd.sty=true
theorem Tz:Re.valid Re.zero=true/\Ay Re.zero=true:=⟨by decide +kernel,by decide +kernel⟩
theorem VT.le{T T':Tr.T}(h:VT T)(k:fu T' T):VT T':=λz nd hz=>by
 rcases k z nd hz with e|⟨q,hq,e⟩
 . rw[e];exact Tz
 . rw[<-e];exact h z q hq
theorem VT.sty{T:Tr.T}(h:VT T)(z:Int){s:Re.St}(hs:Ay s=true):VT (lI T z s):=by
 unfold Fix.lI;split
 . rename_i he
   have hv:Re.valid s=true:=by
    unfold tF at he;split at he
    . cases he
    . split at he
      . cases he
      . rename_i h2
        simpa using h2
   unfold Tr.GH;split
   . exact h
   . intro y nd hy
     by_cases e:y=z
     . subst e;rw[Tr.aX]at hy;cases hy;exact⟨hv,hs⟩
     . rw[Tr.aT _ _ e]at hy;exact h y nd hy
 . exact h
theorem VT.act{T:Tr.T}(h:VT T){x:vB}(hs:Ay x.s=true):VT (VY T x):=by
 unfold VY;split
 . exact h.le (fu.nX _ _)
 . split
   . exact h.le (fu.mQ _ _ _ _)
   . split
     . exact h.sty _ hs
     . exact h.le (fu.lG _ _ _)
theorem ah4:VT T0:=λz nd hz=>by
 unfold T0 at hz;split at hz
 . cases hz;exact Tz
 . cases hz
def acM(W:World)(n0 t r:Nat):Prop:=∃g c m n L K T,Two W t r g c m n n0 L K T T/\n<=31/\VT T/\∀x d,Tr.Dp T x d->d<=6
theorem Jv.sty{W:World}{b o:Nat}{x:vB}(h:Jv W b o x):vN W b (o+4) x.s:=λj hj=>by
 have:=h (4+j) ak;rw[zi x hj]at this
 rwa [Nat.add_assoc]
theorem RD{a0:Option Addr}{vG:Nat}(cap0:Nat){l:Nat->vB}(hA:aar w a0 vG l):Calls ja0 6 #[.slice a0 vG cap0] w λe w'=>(∃tb rb ok,e=.returned (.tuple #[.pointer (some ⟨tb,0,none⟩),.pointer (some ⟨rb,0,none⟩),.bool ok])/\(ok=true->acM w' w.heap.size tb rb))/\Below w w w':=by
 have HA:=ah hA;clear hA;go_enter Tryz.func6,Tryz.ntmps6
 go_upto_region 3 with(first|(go_at_call 17;(with_reducible refine(OB _).mono ?_);rintro e w2 ⟨⟨tb,rfl,L0,g0⟩,hb2⟩)|(go_at_call 23;(with_reducible refine(aaC _).mono ?_);rintro e w3 ⟨⟨rb,rfl,g3,c3,K3,d3,afu⟩,hb3⟩))
 have g1:=g0.after hb3;have hsz2:=hb2.size;have ah5:Hid (Two w3 tb rb g3 c3 1 1 w.heap.size L0 K3 T0 T0):=ah ⟨g1,d3,λb hb=>by have:=afu b hb;omega,λb hb hd=>by have h1:=afu b hd;have h2:=g0.inv.rep.lt hb;omega⟩;have HB3:=ah (hb2.trans (hb3.mono hsz2));clear g0 g1 d3 afu hb2 hb3 hsz2;by_cases hbig:(30:Int)<(vG:Int)
 . go_wp2
   go_ret3
   exact⟨⟨tb,rb,false,rfl,λh=>by cases h⟩,HB3.out⟩
 go_wp2
 go_loopw [7] (λi wr=>∃k Lr g c m K TA n,k<=vG/\i=.int .i64 (k:Int)/\Two wr tb rb g c m n w.heap.size Lr K TA TA/\n<=k+1/\m<=k+1/\VT TA/\Below w w wr) (λi _=>vG-(intOf i).toNat)
 case atStart=>exact⟨0,L0,g3,c3,1,K3,T0,1,by omega,rfl,ah5.out,by omega,by omega,ah4,HB3.out⟩
 case round =>
  clear ah5 HB3;obtain⟨k,Lr,g,c,m,K,TA,n,hk,rfl,hgr,hnk,hmk,hvt,hbr⟩:=hrel;have HGr:=ah hgr;have HBr:=ah hbr;have HVT:=ah hvt;have hnr:=hbr.size;clear hgr hvt;by_cases hlt:k<vG
  . have hltz:(k:Int)<(vG:Int):=by omega
    obtain⟨b,off,rfl,lb,hc⟩:=(HA.out.after hbr) ak;obtain⟨hf,ha⟩:=hc k hlt;have HF:=ah hf;have ah6:=ah ha;have HST:=ah ha.sty;have kT:=λX=>Rx (l k).s X;clear hf ha hc hbr;cases htm:Ay (l k).s
    . rw[htm]at kT
      go_wp2_with (first|(refine gX bB _ rfl rfl HST.out ?_)|(go_at_call 24;(with_reducible refine(kT _).mono ?_);rintro e w5 ⟨rfl,hb5⟩))
      go_ret3
      exact⟨⟨tb,rb,false,rfl,λh=>by cases h⟩,HBr.out.trans (hb5.mono hnr)⟩
    rw[htm]at kT
    go_upto_region 10 with(first|(refine gX bB _ rfl rfl HST.out ?_)|(go_at_call 24;(with_reducible refine(kT _).mono ?_);rintro e w5 ⟨rfl,hb5⟩))
    have HB5:=ah (HBr.out.trans (hb5.mono hnr));have hn5:=aK hnr hb5.size;have Y3:=aaG (HGr.out.after hb5) ak ak hn5 HF.out;have ah7:Hid (Jv w5 b (off+k*59) (l k)):=ah λj hj=>(hb5.cell (p:=⟨b,off+k*59+j,none⟩) lb).trans (ah6.out j hj);have lb5:=bA lb hb5.size;clear kT hb5 ah6 HST HGr HBr
    go_wp2_with (first|(refine Dy bB _ rfl rfl ah7.out ?_)|(go_at_call 25;(with_reducible refine Y3.mono ?_);rintro e w4 ⟨rfl,L4,g4,c4,m4,n4,K4,tw4,hn4,hm4,hb4⟩))
    go_roundw
    case rel=>exact⟨k+1,L4,g4,c4,m4,K4,VY TA (l k),n4,by omega,by go_num,tw4,by omega,by omega,HVT.out.act htm,HB5.out.trans hb4⟩
    case measure=>simp[intOf];omega
  . have hltz:¬ (k:Int)<(vG:Int):=by omega
    obtain rfl:k=vG:=by omega
    clear hbr HA;have H:=HGr.out.good.inv.wf;have pK:=rO 64 0 HGr.out.doc H.vT (by have:=H.jm;unfold Tr.ord at this;omega);change Calls _ _ _ _ (λe w'=>(∃v,e=.returned v/\w'.ownsRow _ _ 1 v (Tr.ord TA).length ((Tr.ord TA).map (Value.int .i64)))/\_)at pK;have ah8:=ah HGr.out.good.inv.num
    go_upto_region 13 with(go_at_call 26;(with_reducible refine pK.mono ?_);rintro e w5 ⟨⟨v5,rfl,ho5⟩,hb5⟩;obtain⟨A5,c5,rfl⟩:=fK ho5)
    have hk5:=fD (base':=0) ho5 qh;obtain⟨A6,c6,e6,hI6,-⟩:=KS.ints (show KS w5 (.slice A5 (Tr.ord TA).length c5) (Tr.ord TA)from hk5);injection e6 with e7 e8 e9;subst e7;have HI:=ah hI6;have HG5:=ah (HGr.out.after hb5);have HB5:=ah (HBr.out.trans (hb5.mono hnr));have HO:Hid (∃o,Tr.ord TA=o):=ah ⟨_,rfl⟩;clear ho5 hk5 hb5 pK HGr HBr hI6 e8 e9;obtain⟨o,ho⟩:=HO.out;rw[ho]at HI;rw[ho]at ah8;rw[ho];have hno:=ah8.out;rw[hno];go_wp2
    go_loopw [9] (λi wr=>∃j:Nat,j<=n/\i=.int .i64 (j:Int)/\Below w5 w5 wr/\∀q,q<j->Tr.dep TA (o.getD q 0)<=6) (λi _=>n-(intOf i).toNat)
    case atStart=>exact⟨0,by omega,rfl,Below.refl _ _,λq hq=>by omega⟩
    case round =>
     obtain⟨j,hj,rfl,hb6,hall⟩:=hrel;have ah9:=ah hall;clear hall;by_cases hjn:j<n
     . have hjz:(j:Int)<(n:Int):=by omega
       obtain⟨b6,o6,rfl,lb6,cx⟩:=(HI.out.after hb6).at_ (k:=j) ak;have P7:=(vC (HG5.out.after hb6).doc H (o.getD j 0));obtain⟨z,hz⟩:=aC (o.getD j 0);obtain⟨d,hd⟩:=aC (Tr.dep TA z);rw[hz]at cx P7;rw[hd]at P7;have HZ:Hid (Tr.dep TA (o.getD j 0)=d):=ah (by rw[hz,hd]);clear hz hd;by_cases h6:6<d
       . go_wp2_with (go_at_call 27;(with_reducible refine P7.mono ?_);rintro e w7 ⟨rfl,rfl⟩)
         go_ret3
         exact⟨⟨tb,rb,false,rfl,λh=>by cases h⟩,HB5.out.trans (hb6.mono HB5.out.size)⟩
       go_wp2_with (go_at_call 27;(with_reducible refine P7.mono ?_);rintro e w7 ⟨rfl,rfl⟩)
       go_roundw
       case rel=>exact⟨j+1,by omega,by go_num,hb6,λq hq=>by
        by_cases e:q=j
        . subst e;rw[HZ.out];omega
        . exact ah9.out q ak⟩
       case measure=>simp[intOf];omega
     . have hjz:¬ (j:Int)<(n:Int):=by omega
       obtain rfl:j=n:=by omega
       go_wp2
       go_ret3
       refine⟨⟨tb,rb,.inr ⟨rfl,g,c,m,_,Lr,K,TA,HG5.out.after hb6,by omega,HVT.out,λx d hx => ?_⟩⟩,HB5.out.trans (hb6.mono HB5.out.size)⟩;obtain⟨nd,hnd⟩:=hx.live;have hm:x∈o:=by rw[<-ho];exact H.iE.2 ⟨nd,hnd⟩
       obtain⟨q,hq,he⟩:=List.mem_iff_getElem.1 hm;have:=ah9.out q ak;rw[List.getD,ja6 hq,Option.getD_some,he,H.JQ hx]at this;omega
end
open List renaming getElem?_eq_getElem → ja6
theorem Gh.ids{T:Tr.T}{n:Nat}(M:Gh T n)(ww wh:Int):((Ic T ww wh).map (·.id)).Nodup:=by
 unfold Ic;split
 . exact(M.Gi ww wh).1
 . exact .nil
theorem aaH{W:World}{b:Nat}(h:GM 3 W b 0 (λ_=>none)){z:Int}(hz:Wf z)(x y:Int):∃W',(Instr.mapUpdate 34 (.map (some b)) (.int .i64 z) (pt x y)).run ja0 W=.ok () W'/\OM W' b (O1 z x y)/\Out (λx=>x=b) W W':=by
 obtain⟨W',h1,h2,h3⟩:=h.store jH Tryz.underlying34 (by simp[maxLen]) (jh hz) (v:=pt x y) rfl;refine⟨W',h1,⟨_,_,h2,λv => ?_⟩,h3⟩;unfold O1;by_cases e:v=z
 . subst e;rw[jL,if_pos rfl];rfl
 . rw[mO (Ru e),if_neg e];rfl
theorem afv(w:World){z:Int}(hz:Wf z)(x y:Int):∃W',(Instr.mapUpdate 34 (.map (some w.heap.size)) (.int .i64 z) (pt x y)).run ja0 (w.alloc (.map #[] 0))=.ok () W'/\OM W' w.heap.size (O1 z x y)/\Below w w W':=by
 obtain⟨W',h1,h2,h3⟩:=aaH (GM.made 3 w) hz x y;exact⟨W',h1,h2,(aD aG _).trans (h3.below bI λb hb e=>by omega)⟩
theorem Ig(a0:Option Addr)(vG cap0:Nat)(a1 a2 a3 a4 a5:Int)(w:World)(w0:Oy w a0 vG cap0)(w1:(Lit.int .i64 a1).wf=true):Calls ja0 3 #[.slice a0 vG cap0,a1,a2,a3,a4,a5] w λe w'=>e=.returned (.bool true)/\Below w w w':=by
 obtain⟨l,hA⟩:=w0.acts;have afw:Wf a1:=w1;have hmk:=@run_makeMap ja0;clear w0 w1;go_enter Tryz.func3,Tryz.ntmps3
 go_upto_region 4 with(go_at_call 5;(with_reducible refine(OE _).mono ?_);rintro e w1 ⟨rfl,hb1⟩)
 have kG:=RD cap0 (hA.after hb1);have hs1:=hb1.size;clear hA
 go_upto_region 5 with(go_at_call 6;(with_reducible refine kG.mono ?_);rintro e w2 ⟨⟨tb,rb,ok,rfl,hok⟩,hb2⟩)
 have HB2:=hb1.trans (hb2.mono hs1);have hs2:=hb2.size;clear kG hb1 hb2;cases ok with
 | false =>
   go_wp2
   go_ret
   exact⟨rfl,HB2⟩
 | true =>
 by_cases b4:(1048576:Int)<a4
 . go_wp2
   go_ret
   exact⟨rfl,HB2⟩
 by_cases b5:(1048576:Int)<a5
 . go_wp2
   go_ret
   exact⟨rfl,HB2⟩
 obtain⟨gg,cc,mm,n,L,K,T,two,hn,hvt,hdp⟩:=hok rfl;have g2:=two.good;have M:Gh T n:=⟨g2.inv.wf,g2.inv.num,by omega,λx d h=>by have:=hdp x d h;omega,λz nd h=>(hvt z nd h).1⟩;have HM:=ah M;have HG2:=ah g2;have kL:=aaz HG2.out HM.out a4 a5;clear two M hvt hdp g2 hok
 go_upto_region 8 with(go_at_call 7;(with_reducible refine kL.mono ?_);rintro e w4 ⟨⟨b1,rfl,ajH,hG1⟩,hb4⟩)
 have hR4:=RM.of hG1 (HM.out.ids _ _);obtain⟨R,hR⟩:=aC (RL T (max a4 0) (max a5 0));rw[hR]at hR4;have HB4:=HB2.trans (hb4.mono HB2.size);have HG4:=ah (HG2.out.after hb4);have HR4:=ah hR4;have HH:=ah HM.out.wf;have hs4:=aK hs2 hb4.size;clear kL HB2 HG2 hb4 hG1 hR ajH hR4
 go_upto_region 9 with(go_at_call 8;refine(qC _ _ _).mono ?_;rintro e w' ⟨rfl,rfl⟩)
 obtain⟨w5,p5,Gq,hb5⟩:=afv w4 afw a2 a3;have g5:=HG4.out.after hb5;have Gu:=HR4.out.keep hb5;have kS:=xE g5.inv.rep Gu HH.out w4.heap.size Gq a4 a5;have hs5:=hb5.size;clear g5 Gu Gq
 go_upto_region 10 with(go_at_call 9;(with_reducible refine kS.mono ?_);rintro e w6 ⟨⟨ms,rfl,gms,tX⟩,hb6⟩)
 have Wm:=hb5.trans (hb6.mono hs5);have hs6:=Wm.size;have kM:=zh (HG4.out.after (Wm.trans ((aD (Below.refl w6.heap.size w6) (.map #[] 0)).mono hs6))).inv.rep (HR4.out.keep (Wm.trans ((aD (Below.refl w6.heap.size w6) (.map #[] 0)).mono hs6))) HH.out afw;obtain⟨⟨mx,my⟩,afx⟩:=aC (yH T R a1);rw[afx]at kM;have vU:Below w6 w6 (w6.alloc (.map #[] 0)):=aD aG _;have hG6:GM 3 (w6.alloc (.map #[] 0)) w6.heap.size 0 (λ_=>none):=GM.made _ _;have kW:=λX=>EY a2 a3 0 0 mx my X;rw[<-zS]at kW;have ajI:=Wm.trans (vU.mono hs6);have HS6:=ah tX;clear hb5 p5 kS tX hb6
 go_upto_region 11 with(first|(go_at_call 11;(with_reducible refine kM.mono ?_);rintro e w7 ⟨rfl,pG⟩;obtain⟨w8,p8,Yt,ho8⟩:=aaH (hG6.keep pG) afw (Fx.clamp a2 0 mx) (Fx.clamp a3 0 my);have yc:Below w6 w6 w8:=(vU.trans (pG.mono vU.size)).trans (ho8.below (aK vU.size pG.size) λb hb e=>by omega);have hb48:=Wm.trans (yc.mono hs6);have kS8:=xE (HG4.out.after hb48).inv.rep (HR4.out.keep hb48) HH.out w6.heap.size Yt a4 a5)|(go_at_call 10;(with_reducible refine(kW _).mono ?_);rintro e w' ⟨rfl,rfl⟩)|(go_at_call 9;(with_reducible refine kS8.mono ?_);rintro e w9 ⟨⟨ms2,rfl,ajJ,Hf⟩,iM⟩))
 have ah':=yc.trans (iM.mono yc.size);have acN:=hb48.trans (iM.mono hb48.size);have he:=aaw (T:=T) (R:=R) (q:=Rs a4 a5) a1 a2 a3;rw[afx]at he;rw[<-he]at Hf;have hSA:=HS6.out.keep ah';obtain⟨S,hS⟩:=aC (spF T R (O1 a1 a2 a3) (Rs a4 a5));obtain⟨N,hN⟩:=aC (spC S (Tr.ord T));rw[hS,hN]at Hf hSA;have HG9:=ah (HG4.out.after acN);have HB9:=HB4.trans (acN.mono HB4.size);have hs9:=acN.size;have HSA:=ah hSA;have HSB:=ah Hf;have kO:=Rt HG9.out;clear ah' acN he afx hSA Hf hS hN kM kW kS8 Yt ho8 hb48 yc iM p8 pG hG6 ajI vU HS6 HG4 HR4 HB4 Wm hmk gms ajJ
 go_upto_region 12 with(go_at_call 12;(with_reducible refine kO.mono ?_);rintro e wa ⟨⟨v,rfl,hk⟩,hba⟩;obtain⟨A,c,rfl,hI,-⟩:=hk.row.ints)
 have HBa:=HB9.trans (hba.mono HB9.size);have HA:=ah (HSA.out.keep hba);have HB:=ah (HSB.out.keep hba);have HI:=ah hI;have HOR:Hid (∀x∈Tr.ord T,∃nd,T x=some nd):=ah λx hx=>HM.out.wf.iE.1 hx;clear kO HB9 HG9 HSA HSB hba hI hk;obtain⟨o,ho⟩:=aC (Tr.ord T);rw[ho]at HI HOR ⊢;have hol:o.length<=64:=by rw[<-ho,HM.out.num];exact HM.out.few
 obtain⟨no,hno⟩:=aC o.length;rw[hno]at hol ⊢;have HNO:=ah hno;have hsa:=HBa.size;clear ho hno;go_wp2
 go_loopw [22] (λi wr=>∃j:Nat,j<=no/\i=.int .i64 (j:Int)/\Below wa wa wr) (λi _=>no-(intOf i).toNat)
 case atStart=>exact⟨0,by omega,rfl,Below.refl _ _⟩
 case round =>
  obtain⟨j,hj,rfl,hbr⟩:=hrel;have hsr:=hbr.size;by_cases hjn:j<no
  . have hjz:(j:Int)<(no:Int):=by omega
    obtain⟨ba,oa,rfl,lba,cx⟩:=(HI.out.after hbr).at_ (k:=j) (by rw[HNO.out];exact hjn);obtain⟨nd,hnd⟩:=HOR.out (o.getD j 0) (by rw[List.getD,ja6 (by rw[HNO.out];exact hjn)];exact List.getElem_mem _);obtain⟨x,hx⟩:=aC (o.getD j 0);rw[hx]at cx hnd;have hxw:Wf x:=(jZ _).2 (by have:=HM.out.wf.range x nd hnd;omega);obtain⟨⟨⟨p0,p1,p2,p3⟩,⟨q0,q1,q2,q3⟩⟩,hpq⟩:=aC ((S x).getD (p0,p0));have hla:=λX (h:Below wa wa X)=>(HA.out.keep h).sm.look hxw hpq;have hlb:=λX (h:Below wa wa X)=>(HB.out.keep h).sm.look hxw hpq;have HLB:=ah hlb;have ha:=hla wr hbr;clear hx hla hlb hpq
    go_upto_region 16 with(fail)
    generalize hW:World.alloc _ _=wd;have A1:At wd wr (.cells #[p0,p1,p2,p3,q0,q1,q2,q3] 42):=hW▸At.new _ _;have hb1':Below wr wr wd:=hW▸aD aG _;have hbd:=hbr.trans (hb1'.mono hsr);have cx2:=(hb1'.cell (p:=⟨ba,oa+j,none⟩) lba).trans cx;have ajK:ba<wd.heap.size:=by have:=hb1'.size;omega
    have hbb:=HLB.out wd hbd;have hsd:=hbd.size;have ltd:=A1.lt;clear hW ha cx hbr lba HLB hb1'
    go_upto_region 17 with(fail)
    generalize hW:World.alloc _ _=we;have hb2':Below wd wd we:=hW▸aD aG _;have A2:At we wd (.cells #[p0,p1,p2,p3,q0,q1,q2,q3] 42):=hW▸At.new _ _;have A3:=A1.keep hb2';have hbe:=hbd.trans (hb2'.mono hsd);have hneq:=Lv p0 p1 p2 p3 q0 q1 q2 q3;obtain⟨l1,d0,d1,d2,d3,d4,d5,d6,d7⟩:=A2.eight;obtain⟨l2,f0,f1,f2,f3,f4,f5,f6,f7⟩:=A3.eight;clear hW hbb cx2 A1 A2 A3 hbd hb2' ajK;go_wp2
    go_roundw
    case rel=>exact⟨j+1,by omega,by go_num,hbe⟩
    case measure=>simp[intOf];omega
  . have hjz:¬ (j:Int)<(no:Int):=by omega
    obtain⟨gA,hgA,-⟩:=HA.out.keep hbr;obtain⟨gB,hgB,-⟩:=HB.out.keep hbr;have hl1:=λty=>hgA.len Tryz.underlying32 ty;have hl2:=λty=>hgB.len Tryz.underlying32 ty;have hbf:=HBa.trans (hbr.mono hsa);clear hgA hgB;go_wp2
    go_ret
    exact⟨rfl,hbf⟩
end Go.Proofs.YtfohooineeijkaaGreat.Fix
