/- Proved here: what functions of the program do, in plain numbers (part 40); no conditions but those in sight. -/
import Derived.Lib.MinMax
import Derived.Test.YtcbcfdihofclkaaGreatQK
import Derived.Test.YtcbcfdihofclkaaGreatQ37
import Derived.Test.YtcbcfdihofclkaaGreatQ39
set_option linter.unusedVariables false
set_option linter.unusedSimpArgs false
set_option linter.unusedSectionVars false
set_option maxRecDepth 100000
namespace Go.Proofs.YtcbcfdihofclkaaGreat.Fix
open Go.ChangeShapes Go.WideShapes Go.ChangeAt Go.RowKit Go.Deep Go.Joins Go.Shelf
def vS(T:Tr.T)(dx:Int)(l:List Int):Int:=l.foldl (λm y=>max m (Tr.dep T y-dx)) 0
theorem OH(T:Tr.T)(dx:Int)(l:List Int)(y:Int):vS T dx (l++[y])=max (vS T dx l) (Tr.dep T y-dx):=by simp[vS]
theorem tX(f:Int->Int)(l:List Int):∀m,m<=l.foldl (λm y=>max m (f y)) m/\(∀y∈l,f y<=l.foldl (λm y=>max m (f y)) m)/\∀B,m<=B->(∀y∈l,f y<=B)->l.foldl (λm y=>max m (f y)) m<=B:=by
 induction l with
 | nil=>intro m;exact⟨Int.le_refl _,by simp,λB h _=>h⟩
 | cons k l ih =>
   intro m;simp only[List.foldl_cons];obtain⟨h1,h2,h3⟩:=ih (max m (f k));refine⟨by omega,λy hy => ?_,λB hB hl=>h3 B ?_ λy hy=>hl y (List.mem_cons_of_mem _ hy)⟩
   . rcases List.mem_cons.1 hy with rfl|hy
     . omega
     . exact h2 y hy
   . have:=hl k List.mem_cons_self;omega
theorem L9{T:Tr.T}(H:Tr.WF T){dx:Int}(hx:0<=dx)(l:List Int):0<=vS T dx l/\vS T dx l<=63 :=
 ⟨(tX _ l 0).1,(tX _ l 0).2.2 63 ak λy _=>by have:=(WI H y).2;omega⟩
theorem Sl{T:Tr.T}(H:Tr.WF T){x:Int}{nd:Tr.Nd}(hx:T x=some nd):vS T (Tr.dep T x) (Tr.sub T 64 x)=(Tr.hgt T 64 x:Int):=by
 obtain⟨d,h1,h2,h3⟩:=H.iD hx;obtain⟨y,hy,hd⟩:=H.Pg (H.iU hx) h2;have e:=H.CO hd;have hge:=(tX (λy=>Tr.dep T y-Tr.dep T x) (Tr.sub T 64 x) 0).2.1 y hy
 have hle:=(tX (λy=>Tr.dep T y-Tr.dep T x) (Tr.sub T 64 x) 0).2.2 (Tr.hgt T 64 x:Int) ak λz hz=>by
  obtain⟨zd,hzd⟩:=((H.gP (H.iU hx)).1 hz).live;obtain⟨dz,q1,q2,q3⟩:=H.iD hzd;have:=H.TR (H.iU hx) h2 hz q2;omega
 unfold vS;omega
theorem aaC{T:Tr.T}{x u:Int}{i:Nat}{nd p q:Tr.Nd}(hx:T x=some nd)(hp:T nd.up=some p)(hne:nd.up≠x)(hux:u≠x)(hu:Tr.set T nd.up { p with kids:=Tr.wo p.kids x } u=some q):Tr.lI T x u i=Tr.set (Tr.set (Tr.set T nd.up { p with kids:=Tr.wo p.kids x }) u { q with kids:=Tr.wi q.kids i x }) x { nd with up:=u }:=by
 unfold Tr.lI Tr.enter;rw[GH hx hp,hu,Tr.aD _ _ (Ne.symm hne),hx]
set_option maxHeartbeats 16000000 in
theorem Sm{w:World}{r g c m:Nat}{K:Int->Value}{T:Tr.T}(h:Doc w r g c m K T)(H:Tr.WF T)(x u a:Int):Calls Tryz.prog 114 #[.pointer (some ⟨r,0,none⟩),.int .i64 x,.int .i64 u,.int .i64 a] w λe w'=>e=.returned (.int .i64 (Tr.jC T x u a))/\∃K',Doc w' r g c m K' (Tr.lJ T x u a)/\DG r g K T w w' g K' (Tr.lJ T x u a):=by
 have HD:=Lib.hid h;have key:=jc h x;have uL:=jc h u;have same:∀e,Tr.jC T x u a=e->e≠0->Tr.lJ T x u a=T:=λe he hne=>by unfold Tr.lJ;rw[he,if_neg hne]
 cases hX:T x with
 | none =>
   have hE:Tr.jC T x u a=2:=by unfold Tr.jC;rw[hX]
   rw[hE,same _ hE aG];rw[kN hX]at key;clear h uL same hE;exact Z1r
 | some nd =>
 rw[kK hX]at key;cases hU:T u with
 | none =>
   have hE:Tr.jC T x u a=2:=by unfold Tr.jC;rw[hX,hU]
   rw[hE,same _ hE aG];rw[kN hU]at uL;clear h same hE;exact Z1r
 | some q =>
 rw[kK hU]at uL;have hE0:Tr.jC T x u a=if x=0 then 1 else if u∈Tr.sub T 64 x then 3 else if a<0\/((Tr.wo q.kids x).length:Int)<a then 1 else if 63<Tr.dep T u+1+Tr.hgt T 64 x then 5 else 0:=by unfold Tr.jC;rw[hX,hU]
 by_cases h0:x=0
 . have hE:Tr.jC T x u a=1:=by rw[hE0,if_pos h0]
   rw[hE,same _ hE aG];clear h same hE hE0;subst h0;exact Z1r
 rw[if_neg h0]at hE0;have h0b:(x==0)=false:=by simpa using h0
 have hsl:(Tr.sub T 64 x).length<=4096:=by
  have:=H.BN hX h0;have:=H.jo;omega
 have qY:=qK 64 x h (H.iU hX) ak;have hall:=Sl H hX;have TQ:0<=Tr.dep T x/\Tr.dep T x<=63:=by obtain⟨d,d1,d2,d3⟩:=H.iD hX;omega
 have hdu:0<=Tr.dep T u/\Tr.dep T u<=63:=by obtain⟨d,d1,d2,d3⟩:=H.iD hU;omega
 obtain⟨p,hp,hxp⟩:=H.up x nd hX h0;have hqk:q.kids.length<=10000:=by have:=H.qE hU;have:=H.jo;omega
 have hpk:p.kids.length<=10000:=by have:=H.qE hp;have:=H.jo;omega
 have hoth:=H.others hX hU h0;have hself:x∈Tr.sub T 64 x:=(H.gP (H.iU hX)).2 (.refl hX);have ade:nd.up≠x:=λe=>H.pX hX h0 (by rw[e];exact hself);obtain⟨nu,nk,ns⟩:=nd;dsimp only at hp hoth ade;obtain⟨iv,rfl,hiv⟩:=h.nat hp;obtain⟨iu,rfl,hiu⟩:=h.nat hU;obtain⟨ix,rfl,hix⟩:=h.nat hX;have HX:=Lib.hid hX;have HU:=Lib.hid hU;have HP:=Lib.hid hp;have HE0:=Lib.hid hE0;have HS:=Lib.hid same;have HAL:=Lib.hid hall;have HQK:=Lib.hid hqk;have HPK:=Lib.hid hpk;have HOT:=Lib.hid hoth;have HNX:=Lib.hid ade;have Y6:=Lib.hid hself;clear hX hU hp hxp hE0 same hall hqk hpk hoth ade hself;generalize hl:Tr.sub T 64 (ix:Int)=l at *;clear hl;generalize hn:l.length=n at *;have HN:=Lib.hid hn;clear hn;go_enter Tryz.func114,Tryz.ntmps114
 go_upto_region 6 with(first|(go_at_call 100;first|((with_reducible refine key.mono ?_);rintro e w' ⟨rfl,rfl⟩)|((with_reducible refine uL.mono ?_);rintro e w' ⟨rfl,rfl⟩))|(go_at_call 57;(with_reducible refine qY.mono ?_);rintro e w1 ⟨⟨v1,rfl,ho1⟩,hb1⟩;obtain⟨A1,c1,rfl⟩:=fH ho1))
 have D1:=HD.out.after hb1;have KX:=Lib.hid (tQ D1 H (ix:Int));have c4:=D1.cT;have HD1:=Lib.hid D1;have HO1:=Lib.hid ho1;have HB1:=Lib.hid hb1;clear h key uL qY D1 ho1 hb1;go_wp2
 go_loopw [10,11] (λdv iv wr=>∃k:Nat,k<=n/\iv=.int .i64 (k:Int)/\dv=.int .i64 (vS T (Tr.dep T ix) (l.take k))/\(iu:Int) ∉ l.take k/\wr=w1) (λ_ iv _=>n-(intOf iv).toNat)
 case atStart=>exact⟨0,by omega,rfl,rfl,by simp,rfl⟩
 case round =>
  obtain⟨k,hk,rfl,rfl,hni,rfl⟩:=hrel;by_cases hlt:k<n
  . have hltz:(k:Int)<(n:Int):=by omega
    obtain⟨hI,_⟩:=KS.vX (l:=l) (by have:=fE (base':=0) HO1.out (bJ _);unfold KS;rw[HN.out];exact this);obtain⟨b6,o6,rfl,lb6,En⟩:=hI.at_ (k:=k) SC;have hat:l[k]? = some (l.getD k 0):=by rw[List.getD,List.getElem?_eq_getElem SC];rfl
    have hmem:=List.mem_of_getElem? hat;have Qe:=eH l k SC;clear hI hat;generalize l.getD k 0=y at *;by_cases hyu:y=(iu:Int)
    . subst hyu
      have hE:Tr.jC T ix iu a=3:=by rw[HE0.out,if_pos hmem]
      have HR:=Lib.hid (show _/\_ from⟨hE,HS.out _ hE aG⟩);clear hmem Qe hni hE;go_wp2
      go_ret
      rw[HR.out.1,HR.out.2];exact⟨rfl,_,HD1.out,DG.of_below HB1.out⟩
    . have hyb:(y==(iu:Int))=false:=by simpa using hyu
      have hstep:Hid (vS T (Tr.dep T ix) (l.take (k+1))=max (vS T (Tr.dep T ix) (l.take k)) (Tr.dep T y-Tr.dep T ix)):=Lib.hid (by rw[Qe,OH]);have aha:Hid ((iu:Int) ∉ l.take (k+1)):=Lib.hid (by rw[Qe];simp only[List.mem_append,List.mem_singleton,not_or];exact⟨hni,λe=>hyu e.symm⟩);have KY:=Lib.hid (tQ HD1.out H y);obtain⟨f1,f2⟩:=WI H y;have hw:IntKind.i64.wrap (Tr.dep T y-Tr.dep T ix)=Tr.dep T y-Tr.dep T ix:=IntWalk.i64_in _ ak;clear hmem Qe hni hyu;generalize Tr.dep T y=dy at *;generalize Tr.dep T (ix:Int)=dx at *;generalize vS T dx (l.take k)=dk at *
      go_wp2_with (first|(go_at_call 58;first|((with_reducible refine(KY.out).mono ?_);rintro e w' ⟨rfl,rfl⟩)|((with_reducible refine(KX.out).mono ?_);rintro e w' ⟨rfl,rfl⟩)))
      go_roundw
      case rel=>exact⟨k+1,by omega,by go_num,by rw[hstep.out],aha.out,trivial⟩
      case measure=>simp[intOf];omega
  . obtain rfl:k=n:=by omega
    rw[List.take_of_length_le (by rw[HN.out];exact ah _)]at hni ⊢;rw[HAL.out];have hE1:=HE0.out;rw[if_neg hni]at hE1;have HE1:=Lib.hid hE1;have HNI:=Lib.hid hni;clear hE1 hni HE0;have c5:=HD1.out.lF HU.out;have jJ:=HD1.out.row _ _ HU.out;obtain⟨A,cc,hv,_⟩:=jJ.ints;rw[hv]at c5 jJ;have Ba:=Lib.hid jJ;clear jJ hv;by_cases ha:a<0
    . have hE:Tr.jC T ix iu a=1:=by rw[HE1.out,if_pos (.inl ha)]
      have HR:=Lib.hid (show _/\_ from⟨hE,HS.out _ hE aG⟩);clear hE;go_wp2
      go_ret
      rw[HR.out.1,HR.out.2];exact⟨rfl,_,HD1.out,DG.of_below HB1.out⟩
    obtain⟨i,rfl⟩:∃i:Nat,a=i:=⟨a.toNat,by omega⟩;have afL:=tT Ba.out HQK.out (ix:Int);generalize hnq:q.kids.length=nq at *;have HNQ:=Lib.hid hnq;clear hnq;generalize hnw:(Tr.wo q.kids (ix:Int)).length=nw at *;have HNW:=Lib.hid hnw;clear hnw;by_cases hal:nw<i
    . have hE:Tr.jC T ix iu i=1:=by rw[HE1.out,if_pos (.inr ak)]
      have HR:=Lib.hid (show _/\_ from⟨hE,HS.out _ hE aG⟩);have ahb:(nw:Int)<(i:Int):=by omega
      clear hE
      go_wp2_with (go_at_call 164;(with_reducible refine afL.mono ?_);rintro e w6 ⟨⟨v6,rfl,yU⟩,hb6⟩;obtain⟨A6,c6,rfl⟩:=fH yU)
      go_ret
      rw[HR.out.1,HR.out.2];exact⟨rfl,_,HD1.out.after hb6,DG.of_below (HB1.out.trans (hb6.mono HB1.out.size))⟩
    have ahb:¬ (nw:Int)<(i:Int):=by omega
    go_upto_region 15 with(go_at_call 164;(with_reducible refine afL.mono ?_);rintro e w6 ⟨⟨v6,rfl,yU⟩,hb6⟩;obtain⟨A6,c6,rfl⟩:=fH yU)
    have D6:=HD1.out.after hb6;have KU:=Lib.hid (tQ D6 H (iu:Int));have hw1:IntKind.i64.wrap (Tr.dep T iu+1)=Tr.dep T iu+1:=IntWalk.i64_in _ ak;have hb2:=L9 H (l:=l) TQ.1;rw[HAL.out]at hb2;have hw2:IntKind.i64.wrap (Tr.dep T iu+1+(Tr.hgt T 64 ix:Int))=Tr.dep T iu+1+(Tr.hgt T 64 ix:Int):=IntWalk.i64_in _ ak;have HHG:Hid (∀e:Int,e=e):=Lib.hid λ_=>rfl;by_cases hdd:63<Tr.dep T iu+1+(Tr.hgt T 64 ix:Int)
    . have hE:Tr.jC T ix iu i=5:=by rw[HE1.out,if_neg (λq=>q.elim (λq=>absurd q ak) (λq=>absurd q ak)),if_pos hdd]
      have HR:=Lib.hid (show _/\_ from⟨hE,HS.out _ hE aG⟩);have HD6:=Lib.hid D6;have HB6:=Lib.hid (HB1.out.trans (hb6.mono HB1.out.size));clear hE D6 hb6;generalize Tr.dep T (iu:Int)=du at *;generalize Tr.hgt T 64 (ix:Int)=hg at *
      go_wp2_with (go_at_call 58;(with_reducible refine(KU.out).mono ?_);rintro e w' ⟨rfl,rfl⟩)
      go_ret
      rw[HR.out.1,HR.out.2];exact⟨rfl,_,HD6.out,DG.of_below HB6.out⟩
    have hE:Tr.jC T ix iu i=0:=by rw[HE1.out,if_neg (λq=>q.elim (λq=>absurd q ak) (λq=>absurd q ak)),if_neg hdd]
    have adf:(iu:Int)≠ix:=λe=>by have:=Y6.out;rw[<-e]at this;exact HNI.out this
    obtain⟨q1,hq1,hql⟩:∃q1,Tr.set T (iv:Int) { p with kids:=Tr.wo p.kids ix } iu=some q1/\q1.kids.length=nw:=by
     by_cases e:(iu:Int)=iv
     . have e2:=HU.out
       rw[e,HP.out]at e2;cases e2;exact⟨_,by rw[e,Tr.aJ],HNW.out⟩
     . refine⟨q,by rw[Tr.aD _ _ e];exact HU.out,?_⟩
       have:=HOT.out;rw[if_neg (λq=>e q.symm)]at this;have:=HNQ.out;omega
    have hR:Tr.lJ T ix iu i=Tr.set (Tr.set (Tr.set T (iv:Int) { p with kids:=Tr.wo p.kids ix }) iu { q1 with kids:=Tr.wi q1.kids i ix }) ix ⟨iu,nk,ns⟩:=by
     unfold Tr.lJ;rw[if_pos hE,Int.toNat_natCast];exact aaC HX.out HP.out HNX.out adf hq1
    have HR:=Lib.hid (show _/\_ from⟨hE,hR⟩);have hx2:Tr.set (Tr.set T (iv:Int) { p with kids:=Tr.wo p.kids ix }) iu { q1 with kids:=Tr.wi q1.kids i ix } ix=some ⟨iv,nk,ns⟩:=by
     rw[Tr.aD _ _ (Ne.symm adf),Tr.aD _ _ (Ne.symm HNX.out)];exact HX.out
    have EG:=Lib.hid hx2;have HQ1:=Lib.hid hq1;have hil:Hid (i<=q1.kids.length):=Lib.hid ak;have ahc:Hid (q1.kids.length<=10000):=Lib.hid (by have h1:=List.length_filter_le (λy=>y != (ix:Int)) q.kids;have h2:=HNW.out;have h3:=HNQ.out;have h4:=HQK.out;unfold Tr.wo at h2;omega);have SY:=Lib.hid (DG.of_below (r:=r) (g:=g) (K:=K) (T:=T) (HB1.out.trans (hb6.mono HB1.out.size)));have c4:=D6.cT;have c5:=D6.cUp HX.out;have HD6:=Lib.hid D6;clear hE hR hx2 hq1 hql adf hb6 D6 HE1 HS HAL hb2 yU;generalize Tr.dep T (iu:Int)=du at *;generalize Tr.hgt T 64 (ix:Int)=hg at *
    go_upto_region 18 with(go_at_call 58;(with_reducible refine(KU.out).mono ?_);rintro e w6 ⟨rfl,rfl⟩)
    clear c5 KU;have c5:=HD6.out.lF HP.out;have jJ:=HD6.out.row _ _ HP.out;obtain⟨Ap,cp,hv,_⟩:=jJ.ints;rw[hv]at c5 jJ;have Ba:=Lib.hid jJ;have HV:=Lib.hid hv;clear jJ hv;have HPL:=Lib.hid (ah p.kids.length);generalize hnp:p.kids.length=np at *;have HNP:=Lib.hid hnp;clear hnp;refine kQ (S:=(λW'=>W'.cell? ⟨r,0,none⟩=some (.slice (some ⟨g,0,none⟩) m c)/\W'.cell? ⟨g,iv*58+2,none⟩=some (.slice Ap np cp)/\Below w6.heap.size w6 W')) 15 ?_ ?_
    . exact⟨c4,c5,Below.drew (Below.refl _ _)⟩
    intro hS0;clear c4 c5;refine aT 0 ?_;refine aT 1 ?_;refine aT 2 ?_;refine aT 3 ?_;refine aT 4 ?_;refine aT 5 ?_;refine aT 6 ?_;refine aT 7 ?_;refine aT 8 ?_;refine aT 9 ?_;refine aT 10 ?_;refine aT 11 ?_;refine aT 12 ?_;refine aT 13 ?_;refine tk1 14 ?_;refine aj.Step.call dQ (tT (Ba.out.after hS0.2.2) (by rw[HNP.out];exact HPK.out) (ix:Int)) ?_;rintro e w8 ⟨⟨v6,rfl,yU⟩,hb6⟩;have hS1:=hS0.2.2.trans (hb6.mono hS0.2.2.size);have Jq:=fE yU (bJ _);have hown6:=λb hb=>aC hS0.2.2.size (World.ownsRow.lt yU b hb).1;obtain⟨A8,c8_,rfl⟩:=fH yU;have hD6:=HD6.out.after hS1;have c7:=hD6.cT;have c8:=hD6.lF HP.out;rw[HV.out]at c8;obtain⟨cur,hcur,_⟩:=hD6.cur;have hth:=hcur.thaw (iv*58+2);have hD7:=Lib.hid (hD6.sN HP.out Jq)
    have MB:DG r g K T w6 (w8.setCell ⟨g,iv*58+2,none⟩ (.slice A8 (Tr.wo p.kids (ix:Int)).length c8_)) g (λz=>if z=(iv:Int)then .slice A8 (Tr.wo p.kids (ix:Int)).length c8_ else K z) (Tr.set T iv { p with kids:=Tr.wo p.kids ix }) :=
     ⟨(Out.of_below hS1).trans ((Out.refl _ _).set (M:=jq r g K T) (.inr (.inl rfl)) _ _),λb hb=>(qC HP.out hb).elim .inl λq => .inr (hown6 b q)⟩
    have HG9:=Lib.hid (SY.out.trans MB);have HD9:=Lib.hid hD7.out;refine⟨_,rfl,λ_=>⟨c7,c8,hS1⟩,?_⟩;clear MB hS0 hS1 Jq hown6 yU hb6 hcur hD6 hD7;generalize hnl:(Tr.wo p.kids (ix:Int)).length=n8 at *
    (try simp only[bF,bG,bH,tks])
    refine tk1 15 ?_;refine uF ?_ (hS:=by first|(intro hlt;exact absurd hlt aG)|(intro _;exact hlt));refine tk1 16 ?_;refine uF ?_ (hS:=by first|(intro hlt;exact absurd hlt aG)|(intro _;exact hlt));refine tk1 17 ?_;refine aj.Step.skip Z4o ?_;refine⟨by first|(intro hlt;exact absurd hlt aG)|(intro _;exact hlt),?_⟩;(try simp only[Act.put]);refine jY ?_;clear hnl c7 c8 hth;generalize hT9:Tr.set T (iv:Int) { p with kids:=Tr.wo p.kids ix }=T9 at *;generalize hK9:(λz:Int=>if z=(iv:Int)then Value.slice A8 n8 c8_ else K z)=K9 at *;generalize w8.setCell ⟨g,iv*58+2,none⟩ (.slice A8 n8 c8_)=w9 at *;have HT9:=Lib.hid hT9;clear hT9 hK9;have c4:=HD9.out.cT;have c5:=HD9.out.lF HQ1.out;have jJ:=HD9.out.row _ _ HQ1.out;obtain⟨Aq,cq,hv,_⟩:=jJ.ints;rw[hv]at c5 jJ;have abj:=Lib.hid jJ;have HV2:=Lib.hid hv;clear jJ hv Ba HV HD6 SY;generalize hnp:q1.kids.length=nz at *;have HNZ:=Lib.hid hnp;clear hnp
    go_upto_region 19 with(fail)
    refine kQ (S:=(λW'=>W'.cell? ⟨r,0,none⟩=some (.slice (some ⟨g,0,none⟩) m c)/\W'.cell? ⟨g,iu*58+2,none⟩=some (.slice Aq nz cq)/\Below w9.heap.size w9 W')) 16 ?_ ?_
    . exact⟨c4,c5,Below.drew (Below.refl _ _)⟩
    intro hS0;clear c4 c5;refine aT 0 ?_;refine aT 1 ?_;refine aT 2 ?_;refine aT 3 ?_;refine aT 4 ?_;refine aT 5 ?_;refine aT 6 ?_;refine aT 7 ?_;refine aT 8 ?_;refine aT 9 ?_;refine aT 10 ?_;refine aT 11 ?_;refine aT 12 ?_;refine aT 13 ?_;refine aT 14 ?_;refine tk1 15 ?_;refine aj.Step.call dQ (Fy (abj.out.after hS0.2.2) (by rw[HNZ.out];exact ahc.out) (by rw[HNZ.out];exact hil.out) (ix:Int)) ?_;rintro e jg ⟨⟨v6,rfl,yU⟩,hb6⟩;have hS1:=hS0.2.2.trans (hb6.mono hS0.2.2.size);have Jq:=fE yU (bJ _);have hown6:=λb hb=>aC hS0.2.2.size (World.ownsRow.lt yU b hb).1;obtain⟨A10,aaD,rfl⟩:=fH yU;have hD6:=HD9.out.after hS1;have c7:=hD6.cT;have c8:=hD6.lF HQ1.out;rw[HV2.out]at c8;obtain⟨cur,hcur,_⟩:=hD6.cur;have hth:=hcur.thaw (iu*58+2);have hD7:=Lib.hid (hD6.sN HQ1.out Jq)
    have MB:DG r g K9 T9 w9 (jg.setCell ⟨g,iu*58+2,none⟩ (.slice A10 (Tr.wi q1.kids i (ix:Int)).length aaD)) g (λz=>if z=(iu:Int)then .slice A10 (Tr.wi q1.kids i (ix:Int)).length aaD else K9 z) (Tr.set T9 iu { q1 with kids:=Tr.wi q1.kids i ix }) :=
     ⟨(Out.of_below hS1).trans ((Out.refl _ _).set (M:=jq r g K9 T9) (.inr (.inl rfl)) _ _),λb hb=>(qC HQ1.out hb).elim .inl λq => .inr (hown6 b q)⟩
    have afM:=Lib.hid (HG9.out.trans MB);have WX:=Lib.hid hD7.out;refine⟨_,rfl,λ_=>⟨c7,c8,hS1⟩,?_⟩;clear MB hS0 hS1 Jq hown6 yU hb6 hcur hD6 hD7;generalize hnl:(Tr.wi q1.kids i (ix:Int)).length=n10 at *
    (try simp only[bF,bG,bH,tks])
    refine tk1 16 ?_;refine uF ?_ (hS:=by first|(intro hlt;exact absurd hlt aG)|(intro _;exact hlt));refine tk1 17 ?_;refine uF ?_ (hS:=by first|(intro hlt;exact absurd hlt aG)|(intro _;exact hlt));refine tk1 18 ?_;refine aj.Step.skip Z4o ?_;refine⟨by first|(intro hlt;exact absurd hlt aG)|(intro _;exact hlt),?_⟩;(try simp only[Act.put]);refine jY ?_;clear hnl c7 c8 hth;generalize Tr.set T9 (iu:Int) { q1 with kids:=Tr.wi q1.kids i ix }=T11 at *;generalize (λz:Int=>if z=(iu:Int)then Value.slice A10 n10 aaD else K9 z)=K11 at *;generalize jg.setCell ⟨g,iu*58+2,none⟩ (.slice A10 n10 aaD)=cZ at *;have c4:=WX.out.cT;have c5:=WX.out.cUp EG.out;obtain⟨cur,hcur,_⟩:=WX.out.cur;have hth:=hcur.thaw (ix*58+1);obtain⟨afN,afO⟩:=WX.out.Ut EG.out (iu:Int);have ahd:=Lib.hid afN;have ahe:=Lib.hid (afM.out.trans afO);clear hcur afN afO WX afM abj HV2;go_wp2
    go_ret
    rw[HR.out.1,HR.out.2];exact⟨rfl,_,ahd.out,ahe.out⟩
theorem WY{w:World}{r g c m:Nat}{K:Int->Value}{T:Tr.T}(h:Doc w r g c m K T)(H:Tr.WF T)(hn:(Tr.ord T).length<4096)(hmm:m+1<=4096)(u a:Int):Calls Tryz.prog 116 #[.pointer (some ⟨r,0,none⟩),.int .i64 u,.int .i64 a] w λe w'=>e=.returned (.tuple #[.int .i64 (Tr.og T u a),.int .i64 (Tr.iW T u a)])/\∃g' c' m' K',Doc w' r g' c' m' K' (Tr.bU T u a)/\m'<=m+1/\DG r g K T w w' g' K' (Tr.bU T u a):=by
 by_cases hE:Tr.iW T u a=0
 . have hI:Tr.og T u a=Tr.free T:=by unfold Tr.og;rw[if_pos hE]
   have hR:Tr.bU T u a=Tr.nZ T (Tr.free T) u a.toNat:=by unfold Tr.bU;rw[if_pos hE]
   rw[hI,hR,hE];unfold Tr.iW at hE;cases hu:T u with
   | none=>rw[hu]at hE;cases hE
   | some p =>
     rw[hu]at hE;dsimp only at hE;split at hE
     . cases hE
     . split at hE
       . cases hE
       . rename_i h1 h2
         obtain⟨d,h3,h4,h5⟩:=H.iD hu;obtain⟨hfr,_⟩:=H.j5;obtain⟨k,hk⟩:∃k:Nat,Tr.free T=k:=⟨(Tr.free T).toNat,by have:=hfr.1;omega⟩;obtain⟨i,rfl⟩:∃i:Nat,a=i:=⟨a.toNat,by omega⟩;rw[hk]at hfr;rw[hk,Int.toNat_natCast];have hkm:k<m\/k=m:=by
          rcases Nat.lt_trichotomy k m with q|q|q
          . exact .inl q
          . exact .inr q
          . have h6:=hfr.2.2 (m:Int) ak ak
            cases e:T (m:Int)with
            | none=>exact absurd e h6
            | some nd=>have:=h.range _ nd e;omega
         rcases hkm with hkm|hkm
         . exact Si h H hn hmm hu rfl ak h4 ak hfr hkm
         . exact Sj h H hn hmm hu rfl ak h4 ak hfr hkm
 . refine(aaB h H hn hE).mono ?_
   rintro e w' ⟨rfl,hd,hg⟩;exact⟨rfl,g,c,m,K,hd,by omega,hg⟩
structure Two(W:World)(t r g c m n n0:Nat)(L:Lay)(K:Int->Value)(T U:Tr.T):Prop where
 good:Good W t L T n n0
 doc:Doc W r g c m K U
 own:∀b,jq r g K U b->n0<=b
 apart:∀b,owned t L T b->¬ jq r g K U b
section
variable {W W':World} {t r g c m n n0:Nat} {L:Lay} {K:Int->Value} {T U:Tr.T}
theorem Two.after(h:Two W t r g c m n n0 L K T U)(hb:Below W.heap.size W W'):Two W' t r g c m n n0 L K T U:=⟨h.good.after hb,h.doc.after hb,h.own,h.apart⟩
theorem Two.code{n':Nat}{L':Lay}{T':Tr.T}(h:Two W t r g c m n n0 L K T U)(hg:Good W' t L' T' n' n0)(k:Grow t L L' T T' W W'):Two W' t r g c m n' n0 L' K T' U :=
 ⟨hg,h.doc.out (M:=owned t L T) (λb hb q=>h.apart b q hb) k.1,h.own,λb hb hd=>(k.2 b hb).elim (λq=>h.apart b q hd) λq=>absurd (h.doc.lt hd) ak⟩
theorem Two.ref{g' c' m':Nat}{K':Int->Value}{U':Tr.T}(h:Two W t r g c m n n0 L K T U)(hd:Doc W' r g' c' m' K' U')(k:DG r g K U W W' g' K' U')(h0:n0<=W.heap.size):Two W' t r g' c' m' n n0 L K' T U'/\Below n0 W W' :=
 ⟨⟨⟨⟨h.good.inv.rep.out (M:=jq r g K U) (λb hb q=>h.apart b hb q) k.1,h.good.inv.wf,h.good.inv.num⟩,h.good.own,h.good.fit⟩,hd,λb hb=>(k.2 b hb).elim (h.own b) λq=>aC h0 q,λb hb hd'=>(k.2 b hd').elim (h.apart b hb) λq=>absurd (h.good.inv.rep.lt hb) ak⟩,
  k.1.below h0 λb hb q=>absurd (h.own b q) ak⟩
end
set_option maxHeartbeats 8000000 in
theorem WZ{w:World}{t r g c m n n0:Nat}{L:Lay}{K:Int->Value}{T:Tr.T}(h:Two w t r g c m n n0 L K T T)(hn:n<4096)(hm:m+1<=4096)(h0:n0<=w.heap.size){x:tN}(hx:LM x):Calls Tryz.prog 56 #[.pointer (some ⟨t,0,none⟩),.pointer (some ⟨r,0,none⟩),.agg (eU x)] w λe w'=>e=.returned (.bool true)/\∃L' g' c' m' n' K',Two w' t r g' c' m' n' n0 L' K' (R9 T x) (R9 T x)/\n'<=n+1/\m'<=m+1/\Below n0 w w':=by
 have hA:At (w.alloc (.cells (eU x) 104)) w.heap.size (.cells (eU x) 104):=At.new _ _;have hB:Below w.heap.size w (w.alloc (.cells (eU x) 104)):=Below.alloc' (Below.refl _ _) _;have h1:=h.after hB;have hB0:=hB.mono h0;have hs1:n0<=(w.alloc (.cells (eU x) 104)).heap.size:=by simp;omega
 have ER:(Tr.ord T).length<4096:=by rw[h.good.inv.num];exact hn
 have H:=h.good.inv.wf;have VQ:¬ owned t L T w.heap.size:=λq=>absurd (h.good.inv.rep.lt q) ak;have hlt:w.heap.size<(w.alloc (.cells (eU x) 104)).heap.size:=by simp
 have HA:=Lib.hid hA;clear h hB hA;have kR:=LQ h1.good hs1 hx.a;have kM:=Sb h1.good hs1 (a:=x.c) hx.a hx.b;have kA:=sG h1.good hn hs1 (a:=x.b) hx.a;have kS:=sH h1.good hs1 hx.a hx.s;have dR:=Lib.hid λW (h:Doc W r g c m K T)=>L8 h H x.a;have dM:=Lib.hid λW (h:Doc W r g c m K T)=>Sm h H x.a x.b x.c;have dA:=Lib.hid λW (h:Doc W r g c m K T)=>WY h H ER hm x.a x.b;have dS:=Lib.hid λW (h:Doc W r g c m K T)=>WW h x.a x.s;have HG:=Lib.hid h1;have HX:=Lib.hid hx;have aaE:Hid (∀(W:World) (L':Lay) (T':Tr.T),Grow t L L' T T' (w.alloc (.cells (eU x) 104)) W->At W w.heap.size (.cells (eU x) 104)):=Lib.hid λW L' T' k=>HA.out.out VQ k.1;clear h1 hx;generalize hI1:Tr.wE T x.a=rI at kR dR;generalize hE1:Tr.qN T x.a=rE at kR dR;generalize hI2:Tr.jC T x.a x.b x.c=mE at kM dM;generalize hI3:Tr.og T x.a x.b=aI at kA dA;generalize hE3:Tr.iW T x.a x.b=aE at kA dA;generalize Rb:oI T x.a x.s=sE at kS dS;clear hI1 hE1 hI2 hI3 hE3 Rb;have c0:(w.alloc (.cells (eU x) 104)).cell? ⟨w.heap.size,0,none⟩=some (.int .i64 x.k):=by rw[HA.out.cell,nY x ak];rfl
 have c1:(w.alloc (.cells (eU x) 104)).cell? ⟨w.heap.size,1,none⟩=some (.int .i64 x.a):=by rw[HA.out.cell,nY x ak];rfl
 have c2:(w.alloc (.cells (eU x) 104)).cell? ⟨w.heap.size,2,none⟩=some (.int .i64 x.b):=by rw[HA.out.cell,nY x ak];rfl
 have c3:(w.alloc (.cells (eU x) 104)).cell? ⟨w.heap.size,3,none⟩=some (.int .i64 x.c):=by rw[HA.out.cell,nY x ak];rfl
 have hs:Hid (uh (w.alloc (.cells (eU x) 104)) w.heap.size 4 x.s):=Lib.hid λj hj=>by rw[HA.out.cell,xE x hj]
 go_enter Tryz.func56,Tryz.ntmps56
 go_upto_region 1 with(fail)
 generalize w.alloc (.cells (eU x) 104)=w1 at *;by_cases e2:x.k.tmod 5=2
 . have hd:Hid (R9 T x=Tr.nK T x.a):=Lib.hid (by unfold R9;rw[if_pos e2])
   clear kM kA kS dM dA dS
   go_upto_region 5 with(first|(go_at_call 111;(with_reducible refine kR.mono ?_);rintro e w2 ⟨rfl,L',n',hi,hl,hg,hb2⟩;have Xa:=Lib.hid (HG.out.code hi hg);have hA2:=aaE.out _ _ _ hg;have c12:w2.cell? ⟨w.heap.size,1,none⟩=some (.int .i64 x.a):=Z4x;have HB2:=Lib.hid hb2;clear c0 c1 c2 c3 hA2 hi hg hb2)|(go_at_call 112;(with_reducible refine(dR.out _ Xa.out.doc).mono ?_);rintro e w3 ⟨rfl,K',hd3,hg3⟩))
   have hn2:=aC hs1 HB2.out.size;obtain⟨tw,hb⟩:=Xa.out.ref hd3 hg3 (aC hs1 HB2.out.size);have HTW:=Lib.hid tw;have HB:=Lib.hid ((hB0.trans HB2.out).trans hb);clear tw hb hd3 hg3;go_wp2
   go_ret
   rw[hd.out];exact⟨rfl,L',g,c,m,n',K',HTW.out,by omega,by omega,HB.out⟩
 by_cases e3:x.k.tmod 5=3
 . have hd:Hid (R9 T x=Tr.lJ T x.a x.b x.c):=Lib.hid (by unfold R9;rw[if_neg e2,if_pos e3])
   clear kR kA kS dR dA dS
   go_upto_region 9 with(first|(go_at_call 113;(with_reducible refine kM.mono ?_);rintro e w2 ⟨rfl,L',hi,hg,hb2⟩;have Xa:=Lib.hid (HG.out.code hi hg);have hA2:=aaE.out _ _ _ hg;have c12:w2.cell? ⟨w.heap.size,1,none⟩=some (.int .i64 x.a):=Z4x;have c22:w2.cell? ⟨w.heap.size,2,none⟩=some (.int .i64 x.b):=Z4x;have c32:w2.cell? ⟨w.heap.size,3,none⟩=some (.int .i64 x.c):=Z4x;have HB2:=Lib.hid hb2;clear c0 c1 c2 c3 hA2 hi hg hb2)|(go_at_call 114;(with_reducible refine(dM.out _ Xa.out.doc).mono ?_);rintro e w3 ⟨rfl,K',hd3,hg3⟩))
   obtain⟨tw,hb⟩:=Xa.out.ref hd3 hg3 (aC hs1 HB2.out.size);have HTW:=Lib.hid tw;have HB:=Lib.hid ((hB0.trans HB2.out).trans hb);clear tw hb hd3 hg3;go_wp2
   go_ret
   rw[hd.out];exact⟨rfl,L',g,c,m,n,K',HTW.out,by omega,by omega,HB.out⟩
 by_cases e4:x.k.tmod 5=4
 . have hd:Hid (R9 T x=dG T x.a x.s):=Lib.hid (by unfold R9;rw[if_neg e2,if_neg e3,if_pos e4])
   clear kR kA kM dR dA dM
   go_upto_region 13 with(first|(refine fG aU _ rfl rfl hs.out ?_)|(refine fG aU _ rfl rfl hs2.out ?_)|(go_at_call 24;(with_reducible refine kS.mono ?_);rintro e w2 ⟨rfl,hi,hg,hb2⟩;have Xa:=Lib.hid (HG.out.code hi hg);have hA2:=aaE.out _ _ _ hg;have c12:w2.cell? ⟨w.heap.size,1,none⟩=some (.int .i64 x.a):=Z4x;have hs2:Hid (uh w2 w.heap.size 4 x.s):=Lib.hid (λj hj=>by rw[hA2.cell,xE x hj]);have HB2:=Lib.hid hb2;clear c0 c1 c2 c3 hA2 hi hg hb2 hs)|(go_at_call 115;(with_reducible refine(dS.out _ Xa.out.doc).mono ?_);rintro e w3 ⟨rfl,hd3,hg3⟩))
   obtain⟨tw,hb⟩:=Xa.out.ref hd3 hg3 (aC hs1 HB2.out.size);have HTW:=Lib.hid tw;have HB:=Lib.hid ((hB0.trans HB2.out).trans hb);clear tw hb hd3 hg3;go_wp2
   go_ret
   rw[hd.out];exact⟨rfl,L,g,c,m,n,K,HTW.out,by omega,by omega,HB.out⟩
 have hd:Hid (R9 T x=Tr.bU T x.a x.b):=Lib.hid (by unfold R9;rw[if_neg e2,if_neg e3,if_neg e4]);clear kR kS kM dR dS dM
 go_upto_region 16 with(first|(go_at_call 23;(with_reducible refine kA.mono ?_);rintro e w2 ⟨rfl,L',n',hi,hl,hg,hb2⟩;have Xa:=Lib.hid (HG.out.code hi hg);have hA2:=aaE.out _ _ _ hg;have c12:w2.cell? ⟨w.heap.size,1,none⟩=some (.int .i64 x.a):=Z4x;have c22:w2.cell? ⟨w.heap.size,2,none⟩=some (.int .i64 x.b):=Z4x;have HB2:=Lib.hid hb2;clear c0 c1 c2 c3 hA2 hi hg hb2)|(go_at_call 116;(with_reducible refine(dA.out _ Xa.out.doc).mono ?_);rintro e w3 ⟨rfl,g',c',m',K',hd3,hm3,hg3⟩))
 obtain⟨tw,hb⟩:=Xa.out.ref hd3 hg3 (aC hs1 HB2.out.size);have HTW:=Lib.hid tw;have HB:=Lib.hid ((hB0.trans HB2.out).trans hb);clear tw hb hd3 hg3;go_wp2
 go_ret
 rw[hd.out];exact⟨rfl,L',g',c',m',n',K',HTW.out,hl,hm3,HB.out⟩
def VT(T:Tr.T):Prop:=∀z nd,T z=some nd->Re.valid nd.sty=true/\uw nd.sty=true
theorem Qf:Re.valid Re.zero=true/\uw Re.zero=true:=⟨by decide +kernel,by decide +kernel⟩
theorem VT.le{T T':Tr.T}(h:VT T)(k:dP T' T):VT T':=λz nd hz=>by
 rcases k z nd hz with e|⟨q,hq,e⟩
 . rw[e];exact Qf
 . rw[<-e];exact h z q hq
theorem VT.sty{T:Tr.T}(h:VT T)(z:Int){s:Re.St}(hs:uw s=true):VT (dG T z s):=by
 unfold Fix.dG;split
 . rename_i he
   have hv:Re.valid s=true:=by
    unfold oI at he;split at he
    . cases he
    . split at he
      . cases he
      . rename_i h2
        simpa using h2
   unfold Tr.wD;split
   . exact h
   . intro y nd hy
     by_cases e:y=z
     . subst e;rw[Tr.aJ]at hy;cases hy;exact⟨hv,hs⟩
     . rw[Tr.aD _ _ e]at hy;exact h y nd hy
 . exact h
theorem VT.act{T:Tr.T}(h:VT T){x:tN}(hs:uw x.s=true):VT (R9 T x):=by
 unfold R9;split
 . exact h.le (dP.nK _ _)
 . split
   . exact h.le (dP.lJ _ _ _ _)
   . split
     . exact h.sty _ hs
     . exact h.le (dP.bU _ _ _)
theorem afP:VT T0:=λz nd hz=>by
 unfold T0 at hz;split at hz
 . cases hz;exact Qf
 . cases hz
def aaF(W:World)(n0 t r:Nat):Prop:=∃g c m n L K T,Two W t r g c m n n0 L K T T/\n<=31/\VT T/\∀x d,Tr.Dp T x d->d<=6
theorem Gw.sty{W:World}{b o:Nat}{x:tN}(h:Gw W b o x):uh W b (o+4) x.s:=λj hj=>by
 have:=h (4+j) ak;rw[xE x hj]at this
 rwa [Nat.add_assoc]
set_option maxHeartbeats 16000000 in
theorem xM{a0:Option Addr}{jB:Nat}(cap0:Nat){l:Nat->tN}{w:World}(hA:WH w a0 jB l):Calls Tryz.prog 16 #[.slice a0 jB cap0] w λe w'=>(∃tb rb ok,e=.returned (.tuple #[.pointer (some ⟨tb,0,none⟩),.pointer (some ⟨rb,0,none⟩),.bool ok])/\(ok=true->aaF w' w.heap.size tb rb))/\Below w.heap.size w w':=by
 have HA:=Lib.hid hA;clear hA;go_enter Tryz.func16,Tryz.ntmps16
 go_upto_region 3 with(first|(go_at_call 53;(with_reducible refine(LV _).mono ?_);rintro e w2 ⟨⟨tb,rfl,L0,g0⟩,hb2⟩)|(go_at_call 55;(with_reducible refine(WV _).mono ?_);rintro e w3 ⟨⟨rb,rfl,g3,c3,K3,d3,adg⟩,hb3⟩))
 have g1:=g0.after hb3;have hsz2:=hb2.size;have afQ:Hid (Two w3 tb rb g3 c3 1 1 w.heap.size L0 K3 T0 T0):=Lib.hid ⟨g1,d3,λb hb=>by have:=adg b hb;omega,λb hb hd=>by have h1:=adg b hd;have h2:=g0.inv.rep.lt hb;omega⟩;have HB3:=Lib.hid (hb2.trans (hb3.mono hsz2));clear g0 g1 d3 adg hb2 hb3 hsz2;by_cases hbig:(30:Int)<(jB:Int)
 . go_wp2
   go_ret3
   exact⟨⟨tb,rb,false,rfl,λh=>by cases h⟩,HB3.out⟩
 go_wp2
 go_loopw [7] (λi wr=>∃k Lr g c m K Qg n,k<=jB/\i=.int .i64 (k:Int)/\Two wr tb rb g c m n w.heap.size Lr K Qg Qg/\n<=k+1/\m<=k+1/\VT Qg/\Below w.heap.size w wr) (λi _=>jB-(intOf i).toNat)
 case atStart=>exact⟨0,L0,g3,c3,1,K3,T0,1,by omega,rfl,afQ.out,by omega,by omega,afP,HB3.out⟩
 case round =>
  clear afQ HB3;obtain⟨k,Lr,g,c,m,K,Qg,n,hk,rfl,hgr,hnk,hmk,Sn,hbr⟩:=hrel;have HGr:=Lib.hid hgr;have HBr:=Lib.hid hbr;have HVT:=Lib.hid Sn;have hnr:=hbr.size;clear hgr Sn;by_cases hlt:k<jB
  . have hltz:(k:Int)<(jB:Int):=by omega
    obtain⟨b,off,rfl,lb,hc⟩:=(HA.out.after hbr) ak;obtain⟨hf,ha⟩:=hc k hlt;have HF:=Lib.hid hf;have afR:=Lib.hid ha;have HST:=Lib.hid ha.sty;have kT:=λX=>xI (l k).s X;clear hf ha hc hbr;cases htm:uw (l k).s
    . rw[htm]at kT
      go_wp2_with (first|(refine fG aU _ rfl rfl HST.out ?_)|(go_at_call 22;(with_reducible refine(kT _).mono ?_);rintro e w5 ⟨rfl,hb5⟩))
      go_ret3
      exact⟨⟨tb,rb,false,rfl,λh=>by cases h⟩,HBr.out.trans (hb5.mono hnr)⟩
    rw[htm]at kT
    go_upto_region 10 with(first|(refine fG aU _ rfl rfl HST.out ?_)|(go_at_call 22;(with_reducible refine(kT _).mono ?_);rintro e w5 ⟨rfl,hb5⟩))
    have HB5:=Lib.hid (HBr.out.trans (hb5.mono hnr));have hn5:=aC hnr hb5.size;have VO:=WZ (HGr.out.after hb5) ak ak hn5 HF.out;have afS:Hid (Gw w5 b (off+k*59) (l k)):=Lib.hid λj hj=>(hb5.cell (p:=⟨b,off+k*59+j,none⟩) lb).trans (afR.out j hj);have lb5:=aR lb hb5.size;clear kT hb5 afR HST HGr HBr
    go_wp2_with (first|(refine BG aU _ rfl rfl afS.out ?_)|(go_at_call 56;(with_reducible refine VO.mono ?_);rintro e w4 ⟨rfl,L4,g4,c4,m4,n4,K4,tw4,hn4,hm4,hb4⟩))
    go_roundw
    case rel=>exact⟨k+1,L4,g4,c4,m4,K4,R9 Qg (l k),n4,by omega,by go_num,tw4,by omega,by omega,HVT.out.act htm,HB5.out.trans hb4⟩
    case measure=>simp[intOf];omega
  . have hltz:¬ (k:Int)<(jB:Int):=by omega
    obtain rfl:k=jB:=by omega
    clear hbr HA;have H:=HGr.out.good.inv.wf;have qY:=qK 64 0 HGr.out.doc H.qy (by have:=H.jo;unfold Tr.ord at this;omega);change Calls _ _ _ _ (λe w'=>(∃v,e=.returned v/\w'.ownsRow _ _ 1 v (Tr.ord Qg).length ((Tr.ord Qg).map (Value.int .i64)))/\_)at qY;have afT:=Lib.hid HGr.out.good.inv.num
    go_upto_region 13 with(go_at_call 57;(with_reducible refine qY.mono ?_);rintro e w5 ⟨⟨v5,rfl,ho5⟩,hb5⟩;obtain⟨A5,c5,rfl⟩:=fH ho5)
    have hk5:=fE (base':=0) ho5 (bJ _);obtain⟨A6,c6,e6,hI6,-⟩:=KS.ints (show KS w5 (.slice A5 (Tr.ord Qg).length c5) (Tr.ord Qg)from hk5);injection e6 with e7 e8 e9;subst e7;have HI:=Lib.hid hI6;have HG5:=Lib.hid (HGr.out.after hb5);have HB5:=Lib.hid (HBr.out.trans (hb5.mono hnr));have HO:Hid (∃o,Tr.ord Qg=o):=Lib.hid ⟨_,rfl⟩;clear ho5 hk5 hb5 qY HGr HBr hI6 e8 e9;obtain⟨o,ho⟩:=HO.out;rw[ho]at HI;rw[ho]at afT;rw[ho];have hno:=afT.out;rw[hno];go_wp2
    go_loopw [9] (λi wr=>∃j:Nat,j<=n/\i=.int .i64 (j:Int)/\Below w5.heap.size w5 wr/\∀q,q<j->Tr.dep Qg (o.getD q 0)<=6) (λi _=>n-(intOf i).toNat)
    case atStart=>exact⟨0,by omega,rfl,Below.refl _ _,λq hq=>by omega⟩
    case round =>
     obtain⟨j,hj,rfl,hb6,hall⟩:=hrel;have afU:=Lib.hid hall;clear hall;by_cases hjn:j<n
     . have hjz:(j:Int)<(n:Int):=by omega
       obtain⟨b6,o6,rfl,lb6,cx⟩:=(HI.out.after hb6).at_ (k:=j) ak;have Nw:=(tQ (HG5.out.after hb6).doc H (o.getD j 0));obtain⟨z,hz⟩:∃z,o.getD j 0=z:=⟨_,rfl⟩;obtain⟨d,hd⟩:∃d,Tr.dep Qg z=d:=⟨_,rfl⟩;rw[hz]at cx Nw;rw[hd]at Nw;have HZ:Hid (Tr.dep Qg (o.getD j 0)=d):=Lib.hid (by rw[hz,hd]);clear hz hd;by_cases h6:6<d
       . go_wp2_with (go_at_call 58;(with_reducible refine Nw.mono ?_);rintro e w7 ⟨rfl,rfl⟩)
         go_ret3
         exact⟨⟨tb,rb,false,rfl,λh=>by cases h⟩,HB5.out.trans (hb6.mono HB5.out.size)⟩
       go_wp2_with (go_at_call 58;(with_reducible refine Nw.mono ?_);rintro e w7 ⟨rfl,rfl⟩)
       go_roundw
       case rel=>exact⟨j+1,by omega,by go_num,hb6,λq hq=>by
        by_cases e:q=j
        . subst e;rw[HZ.out];omega
        . exact afU.out q ak⟩
       case measure=>simp[intOf];omega
     . have hjz:¬ (j:Int)<(n:Int):=by omega
       obtain rfl:j=n:=by omega
       go_wp2
       go_ret3
       refine⟨⟨tb,rb,.inr ⟨rfl,g,c,m,_,Lr,K,Qg,HG5.out.after hb6,by omega,HVT.out,λx d hx => ?_⟩⟩,HB5.out.trans (hb6.mono HB5.out.size)⟩;obtain⟨nd,hnd⟩:=hx.live;have hm:x∈o:=by rw[<-ho];exact H.gy.2 ⟨nd,hnd⟩
       obtain⟨q,hq,he⟩:=List.mem_iff_getElem.1 hm;have:=afU.out q ak;rw[List.getD,List.getElem?_eq_getElem hq,Option.getD_some,he,H.CO hx]at this;omega
end Go.Proofs.YtcbcfdihofclkaaGreat.Fix
