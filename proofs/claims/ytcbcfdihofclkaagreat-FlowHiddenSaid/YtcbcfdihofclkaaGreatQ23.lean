/- Proved here: what functions of the program do, in plain numbers (part 23); no conditions but those in sight. -/
import Derived.Lib.MinMax
import Derived.Test.YtcbcfdihofclkaaGreatQK
import Derived.Test.YtcbcfdihofclkaaGreatQ01
import Derived.Test.YtcbcfdihofclkaaGreatQ07
import Derived.Test.YtcbcfdihofclkaaGreatQ22
set_option linter.unusedVariables false
set_option linter.unusedSimpArgs false
set_option linter.unusedSectionVars false
set_option maxRecDepth 100000
namespace Go.Proofs.YtcbcfdihofclkaaGreat.Fix
open Go.ChangeShapes Go.WideShapes Go.ChangeAt Go.RowKit
theorem tJ(s gap x:Int)(w:World):Calls Tryz.prog 279 #[.int .i64 s,.int .i64 gap,.int .i64 x] w λe w'=>e=.returned (.int .i64 (Li.next gap s x))/\w=w':=by
 go_enter Tryz.func279,Tryz.ntmps279
 go_wp2_with (first|(go_at_call 109;with_reducible refine wL (pz _ _ _) ?_))
 exact Eu
theorem KZ(A:Option Addr)(l:List Int)(n c:Nat)(gap:Int)(w:World)(hI:Ints w A l)(hl:l.length=n)(hc:n<=c)(hn:n<=100000):Calls Tryz.prog 235 #[.slice A n c,.int .i64 gap] w λe w'=>e=.returned (.int .i64 (Li.long gap l))/\w=w':=by
 rcases Nat.eq_zero_or_pos n with rfl|h0
 . obtain rfl:=List.eq_nil_of_length_eq_zero hl
   go_enter Tryz.func235,Tryz.ntmps235
   go_wp2;exact Eu
 . have HI:=Lib.hid hI
   have HL:=Lib.hid hl;have I1:=hI.from_ 1 c ak ak;have F1:=Lib.hid (qb A n c 1 ak);obtain⟨b,off,rfl,lb,cb⟩:=hI.at_ (k:=0) ak;generalize hA1:(if c=1 then some (⟨b,off,none⟩:Addr)else (some (⟨b,off,none⟩:Addr)).map (·.add (1*1)))=A1 at *;have H1:=Lib.hid I1;have hz:((n:Int)==0)=false:=by simp;omega
   have HX:Hid (Fx.cut (l.getD 0 0)=Li.long gap (l.take 1)):=Lib.hid (Li.wM gap l ak).symm;have HT:Hid (l.take n=l):=Lib.hid (by rw[<-hl];exact List.take_length);have HM:Hid (n-1+1=n):=Lib.hid ak;simp only[Nat.add_zero]at cb;generalize l.getD 0 0=x at *;clear hA1 I1 hI hl;obtain⟨m,m1,m2⟩:∃m,m+1<=n/\n<=m+1:=⟨n-1,by omega,by omega⟩;have HN:Hid (n-1=m):=Lib.hid ak;replace F1:=Lib.hid F1.out;rw[HN.out]at F1;go_enter Tryz.func235,Tryz.ntmps235
   go_wp2_with (first|(refine qQ rfl aU (F1.out _) ?_)|first|(go_at_call 102;with_reducible refine wL (fF _ _) ?_))
   go_loopw [5,7,18] (λvs _ vi wr=>∃k:Nat,k<=m/\vi=.int .i64 k/\vs=.int .i64 (Li.long gap (l.take (k+1)))/\w=wr) (λ_ _ vi _=>n-(intOf vi).toNat)
   case atStart=>exact⟨0,by omega,rfl,by rw[HX.out],rfl⟩
   case round =>
    obtain⟨k,hk,rfl,rfl,rfl⟩:=hrel;by_cases hlt:k<m
    . have hltz:(k:Int)<(m:Int):=by omega
      obtain⟨b1,o1,hA1,l1,c1⟩:=H1.out.at_ (k:=k) (by rw[List.length_drop,HL.out];omega);subst hA1
      have HS:Hid (Li.next gap (Li.long gap (l.take (k+1))) ((l.drop 1).getD k 0)=Li.long gap (l.take (k+1+1))):=Lib.hid (by
       rw[Li.zw gap l (k:=k+1) ak Z58];congr 1
       simp[List.getD])
      generalize (l.drop 1).getD k 0=y at *
      go_wp2_with (first|(go_at_call 279;with_reducible refine wL (tJ _ _ _ _) ?_))
      go_roundw
      case rel=>exact⟨k+1,by omega,by go_num,by rw[HS.out],trivial⟩
      case measure=>simp[intOf];omega
    . have hltz:¬ (k:Int)<(m:Int):=by omega
      have HE:Hid (k+1=n):=Lib.hid ak;go_wp2
      go_ret
      exact⟨bI (by rw[HE.out,HT.out]),rfl⟩
set_option maxHeartbeats 1000000 in
theorem Rq(A:Option Addr)(l:List Int)(n c:Nat)(room gap:Int)(wrap:Bool)(w:World)(hI:Ints w A l)(hl:l.length=n)(h0:0<n)(hn:n<=100000) :
  Calls Tryz.prog 300 #[.slice A n c,.int .i64 room,.int .i64 gap,.bool wrap] w λe w'=>e=.returned (.int .i64 (Li.cnt room gap wrap l:Nat))/\w=w':=by
 have HI:=Lib.hid hI;have HL:=Lib.hid hl;obtain⟨b,off,rfl,lb,cb⟩:=hI.at_ (k:=0) ak;have HX:Hid (Fx.cut (l.getD 0 0)=Li.long gap (l.take 1)):=Lib.hid (Li.wM gap l ak).symm;simp only[Nat.add_zero]at cb;generalize l.getD 0 0=x at *;obtain⟨q,q1,q2,q3⟩:∃q,q<=n/\q<=64/\(n<=q\/64<=q):=⟨min n 64,by omega,by omega,by omega⟩;have hmin:min (n:Int) 64=(q:Int):=by omega
 clear hI hl;cases wrap
 all_goals
  go_enter Tryz.func300,Tryz.ntmps300
  go_wp2_with (first|(go_at_call 102;with_reducible refine wL (fF _ _) ?_))
 . go_loopw [9,11] (λvm vs wr=>∃m:Nat,1<=m/\m<=q/\vm=.int .i64 m/\vs=.int .i64 (Li.long gap (l.take m))/\w=wr/\Hid (∀k,1<=k->k<m->Li.goes room gap false l k=true)) (λvm _ _=>n-(intOf vm).toNat)
   case atStart=>exact⟨1,by omega,by omega,rfl,by rw[HX.out],rfl,Lib.hid (λk k1 k2=>by omega)⟩
   case round =>
    obtain⟨m,hm1,hmq,rfl,rfl,rfl,HG⟩:=hrel;by_cases hlt:m<q
    . have hltz:(m:Int)<(q:Int):=by omega
      obtain⟨b1,o1,hA1,l1,c1⟩:=HI.out.at_ (k:=m) Z58;injection hA1 with hA1;injection hA1 with hb1 ho1;subst hb1 ho1;have HS:Hid (Li.next gap (Li.long gap (l.take m)) (l.getD m 0)=Li.long gap (l.take (m+1))):=Lib.hid (Li.zw gap l ak Z58).symm;generalize l.getD m 0=y at *
      go_wp2_with (first|(go_at_call 279;with_reducible refine wL (tJ _ _ _ _) ?_))
      go_roundw
      case rel=>exact⟨m+1,by omega,by omega,by go_num,by rw[HS.out],trivial,Lib.hid (λk k1 k2=>by
       rcases Nat.lt_or_ge k m with h|h
       . exact HG.out k k1 h
       . obtain rfl:k=m:=by omega
         exact Li.pR.2 ⟨by rw[HL.out];omega,by omega,λh=>by cases h⟩)⟩
      case measure=>simp[intOf];omega
    . have hltz:¬ (m:Int)<(q:Int):=by omega
      have HC:Hid (Li.cnt room gap false l=m):=Lib.hid (Li.uf.eq ⟨hm1,HG.out,by
       cases h:Li.goes room gap false l m with
       | false=>rfl
       | true=>have:=Li.pR.1 h;rw[HL.out]at this;omega⟩)
      go_wp2
      go_ret
      exact⟨bI (by rw[HC.out]),rfl⟩
 . go_loopw [9,11] (λvm vs wr=>∃m:Nat,1<=m/\m<=q/\vm=.int .i64 m/\vs=.int .i64 (Li.long gap (l.take m))/\w=wr/\Hid (∀k,1<=k->k<m->Li.goes room gap true l k=true)) (λvm _ _=>n-(intOf vm).toNat)
   case atStart=>exact⟨1,by omega,by omega,rfl,by rw[HX.out],rfl,Lib.hid (λk k1 k2=>by omega)⟩
   case round =>
    obtain⟨m,hm1,hmq,rfl,rfl,rfl,HG⟩:=hrel;by_cases hlt:m<q
    . have hltz:(m:Int)<(q:Int):=by omega
      obtain⟨b1,o1,hA1,l1,c1⟩:=HI.out.at_ (k:=m) Z58;injection hA1 with hA1;injection hA1 with hb1 ho1;subst hb1 ho1;have HS:Hid (Li.next gap (Li.long gap (l.take m)) (l.getD m 0)=Li.long gap (l.take (m+1))):=Lib.hid (Li.zw gap l ak Z58).symm;generalize l.getD m 0=y at *;obtain⟨z,hz⟩:∃z,Li.next gap (Li.long gap (l.take m)) y=z:=⟨_,rfl⟩;have HZ:=Lib.hid hz;by_cases hr:room<z
      . have HC:Hid (Li.cnt room gap true l=m):=Lib.hid (Li.uf.eq ⟨hm1,HG.out,by
         cases h:Li.goes room gap true l m with
         | false=>rfl
         | true=>have:=(Li.pR.1 h).2.2 rfl;rw[<-HS.out,HZ.out]at this;omega⟩)
        go_wp2_with (first|(go_at_call 279;with_reducible refine wL (tJ _ _ _ _) ?_))
        go_ret
        exact⟨bI (by rw[HC.out]),rfl⟩
      . have hr2:decide (room<z)=false:=decide_eq_false hr
        go_wp2_with (first|(go_at_call 279;with_reducible refine wL (tJ _ _ _ _) ?_))
        go_roundw
        case rel=>exact⟨m+1,by omega,by omega,by go_num,by rw[<-HS.out,HZ.out],trivial,Lib.hid (λk k1 k2=>by
         rcases Nat.lt_or_ge k m with h|h
         . exact HG.out k k1 h
         . obtain rfl:k=m:=by omega
           exact Li.pR.2 ⟨by rw[HL.out];omega,by omega,λ_=>by rw[<-HS.out,HZ.out];omega⟩)⟩
        case measure=>simp[intOf];omega
    . have hltz:¬ (m:Int)<(q:Int):=by omega
      have HC:Hid (Li.cnt room gap true l=m):=Lib.hid (Li.uf.eq ⟨hm1,HG.out,by
       cases h:Li.goes room gap true l m with
       | false=>rfl
       | true=>have:=Li.pR.1 h;rw[HL.out]at this;omega⟩)
      go_wp2
      go_ret
      exact⟨bI (by rw[HC.out]),rfl⟩
theorem gH{w:World}{b:Nat}{T:TypeId}(f:Nat->Int)(n:Nat)(hn:n<=maxLen)(h:At w b (.cells (aK f n n) T)):Ints w (some ⟨b,0,none⟩) (Ju.row f n):=by
 refine⟨by rw[Ju.pU];exact hn,λh0=>⟨b,0,rfl,λk hk => ?_⟩⟩;rw[Ju.pU]at hk;rw[h.cell,Nat.zero_add,cK _ hk,Ju.Hl _ hk];simp[hk]
theorem bW.off{w:World}{b1 b2 b3 b4 n:Nat}{left p s q:Int}(h:bW w b1 b2 b3 b4 left p s q)(hn:b1≠n/\b2≠n/\b3≠n/\b4≠n)(i:Nat)(x:Value):bW (w.setCell ⟨n,i,none⟩ x) b1 b2 b3 b4 left p s q :=
 ⟨h.a1.off hn.1 _ _,h.a2.off hn.2.1 _ _,h.a3.off hn.2.2.1 _ _,h.a4.off hn.2.2.2 _ _,h.n12,h.n13,h.n14,h.n23,h.n24,h.n34⟩
set_option maxHeartbeats 4000000 in
theorem DK(A:Option Addr)(l:List Int)(n c:Nat)(kind room gap:Int)(w:World)(hI:Ints w A l)(hl:l.length=n)(hc:n<=c)(hn:n<=1000) :
  Calls Tryz.prog 236 #[.int .i64 kind,.slice A n c,.int .i64 room,.int .i64 gap] w λe w'=>(∃b,e=.returned (.slice (some ⟨b,0,none⟩) n n)/\w.heap.size<=b/\Ints w' (some ⟨b,0,none⟩) (Ju.row (Ju.starts kind room gap l) n))/\Below w.heap.size w w':=by
 obtain⟨i0,hi0,hz0,hz1,hz2⟩:=info_parts intZero;have hf0:∀lf,Fx.sub room (Li.long gap l)=lf->Ju.fr lf (Ju.pq kind lf (n:Int)).1 (Ju.pq kind lf (n:Int)).2.1 (Ju.pq kind lf (n:Int)).2.2 ((0:Nat):Int)=Ju.starts kind room gap l 0:=by
  rintro lf rfl;rw[<-hl];rfl
 have hfs:∀lf,Fx.sub room (Li.long gap l)=lf->∀k:Nat,Fx.add (Fx.add (Fx.add (Ju.starts kind room gap l k) (l.getD k 0)) gap) (Fx.sub (Ju.fr lf (Ju.pq kind lf (n:Int)).1 (Ju.pq kind lf (n:Int)).2.1 (Ju.pq kind lf (n:Int)).2.2 ((k+1:Nat):Int)) (Ju.fr lf (Ju.pq kind lf (n:Int)).1 (Ju.pq kind lf (n:Int)).2.1 (Ju.pq kind lf (n:Int)).2.2 (k:Int)))=Ju.starts kind room gap l (k+1):=by
  rintro lf rfl k;rw[<-hl];rfl
 generalize Ju.starts kind room gap l=f at *;have HI:=Lib.hid hI;have HF0:=Lib.hid hf0;have HFS:=Lib.hid hfs;have HL:=Lib.hid hl;clear hI hf0 hfs hl;go_enter Tryz.func236,Tryz.ntmps236
 go_upto_region 3 with(first|(go_at_call 235;refine(KZ A l n c gap _ HI.out HL.out hc ak).mono ?_;rintro e w' ⟨rfl,rfl⟩)|first|(go_at_call 93;with_reducible refine wL (vV _ _ _) ?_)|(go_at_call 280;refine(NU kind _ (n:Int) _ ak ak).mono ?_;rintro e w1 ⟨⟨b1,b2,b3,b4,rfl,hX⟩,hB⟩))
 replace HF0:=Lib.hid (HF0.out _ rfl);replace HFS:=Lib.hid (HFS.out _ rfl);obtain⟨p0,p1,s0,s2⟩:=Ju.adx kind (Fx.sub room (Li.long gap l)) (n:Int);generalize Fx.sub room (Li.long gap l)=lf at *;generalize (Ju.pq kind lf (n:Int)).1=p at *;generalize (Ju.pq kind lf (n:Int)).2.1=s at *;generalize (Ju.pq kind lf (n:Int)).2.2=q at *
 go_upto_region 4 with(at_make;refine wpList_make_row _ rfl _ _ 30 rfl 3 i0 (.int .i64 0) Tryz.underlying30 hi0 hz0 hz1 rfl .i64 .i64 n rfl rfl Qr ak ?_)
 have HN0:Hid (b1≠w1.heap.size/\b2≠w1.heap.size/\b3≠w1.heap.size/\b4≠w1.heap.size):=Lib.hid ⟨dh hX.a1.lt,dh hX.a2.lt,dh hX.a3.lt,dh hX.a4.lt⟩;have HBS:=Lib.hid hB.size;generalize hb0:w1.heap.size=b0 at *;generalize hW:World.alloc _ _=W2;have hA:At W2 b0 (.cells (aK f n 0) 3):=by rw[<-hW,<-hb0,<-jM];exact At.new _ _
 replace hX:bW W2 b1 b2 b3 b4 lf p s q:=hW▸hX.keep (Below.alloc' (Below.refl _ _) _);replace hB:Below w.heap.size w W2:=hW▸Below.alloc' hB _;have HN1:Hid (w.heap.size<=b0):=HBS;clear hW hb0;go_wp2
 go_loopw [30] (λi wr=>∃k:Nat,k<=n/\i=.int .i64 k/\At wr b0 (.cells (aK f n k) 3)/\bW wr b1 b2 b3 b4 lf p s q/\Below w.heap.size w wr) (λi _=>n-(intOf i).toNat)
 case atStart=>exact⟨0,by omega,rfl,hA,hX,hB⟩
 case round =>
  obtain⟨k,hk,rfl,hA,hX,hB⟩:=hrel;by_cases hlt:k<n
  . rcases Nat.eq_zero_or_pos k with rfl|h0
    . have abY:=Lib.hid (j3 f hlt)
      have HFZ:=HF0;obtain⟨c1,c2,c3,c4⟩:=hX.cells
      go_upto_region 12 with((go_at_call 303;refine(KV lf p s q _ n b1 b2 b3 b4 _ c1 c2 c3 c4 p0 p1 s0 s2 ak ak).mono ?_;rintro e w2 ⟨rfl,hb⟩;clear c1 c2 c3 c4;replace hX:=hX.keep hb;replace hA:=hA.keep hb;replace hB:=Below.ay hB (ah _) hb;obtain⟨c1,c2,c3,c4⟩:=hX.cells;have hz:=hA.thaw 0;have hcc:=hA.cell 0;rw[cK _ hlt]at hcc;have abZ:=hA.lt))
      generalize hW:World.setCell _ _ _=W4;replace hA:At W4 b0 (.cells (aK f n 1) 3):=by
       rw[<-hW,<-abY.out,<-HFZ.out];exact hA.set 0 _
      replace hX:bW W4 b1 b2 b3 b4 lf p s q:=hW▸hX.off HN0.out _ _;replace hB:Below w.heap.size w W4:=hW▸Below.setCell hB HN1.out _;clear hW hz hcc abZ c1 c2 c3 c4;go_wp2
      go_roundw
      case rel=>exact⟨1,by omega,by go_num,hA,hX,hB⟩
      case measure=>simp[intOf];omega
    . obtain⟨m,hm⟩:∃m,k=m+1:=⟨k-1,by omega⟩
      have HST:Hid (Fx.add (Fx.add (Fx.add (f m) (l.getD m 0)) gap) (Fx.sub (Ju.fr lf p s q (k:Int)) (Ju.fr lf p s q (m:Int)))=f k):=Lib.hid (by subst hm;exact HFS.out m);have abY:=Lib.hid (j3 f hlt);have hz0:((k:Int)==0)=false:=by simp;omega
      have hw:IntKind.i64.wrap ((k:Int)-1)=(m:Int):=by rw[IntWalk.i64_in _ ak];omega
      have hmn:m<n:=by omega
      have hmk:m<k:=by omega
      obtain⟨b5,o5,xw,l5,c5⟩:=(HI.out.after hB).at_ (k:=m) (by rw[HL.out];exact hmn);have c6:=hA.cell m;rw[cK _ hmn,if_pos hmk]at c6;have l6:=hA.lt;generalize l.getD m 0=y at *;generalize f m=x at *;subst xw;have HM:=Lib.hid hm;clear hm
      go_upto_region 9 with(fail)
      refine xP ?_
      (repeat (first|refine nN ?_ | refine nO ?_ (hc:=by intro w2 hS;first|with_reducible exact JM hS (pz _ _ _))|refine nP ?_))
      refine aj.bZ ?_;intro w2 hS;replace hX:=hX.keep hS;replace hA:=hA.keep hS;replace hB:=Below.ay hB (ah _) hS;obtain⟨c1,c2,c3,c4⟩:=hX.cells;clear hS c5 c6 l5 l6
      go_upto_region 11 with(first|(go_at_call 303;refine(KV lf p s q _ n b1 b2 b3 b4 _ c1 c2 c3 c4 p0 p1 s0 s2 ak ak).mono ?_;rintro e w2 ⟨rfl,hb⟩;clear c1 c2 c3 c4;replace hX:=hX.keep hb;replace hA:=hA.keep hb;replace hB:=Below.ay hB (ah _) hb;obtain⟨c1,c2,c3,c4⟩:=hX.cells)|first|(go_at_call 93;with_reducible refine wL (vV _ _ _) ?_))
      have hz:=hA.thaw k;have hcc:=hA.cell k;rw[cK _ hlt]at hcc;have abZ:=hA.lt
      go_upto_region 12 with(first|(go_at_call 109;with_reducible refine wL (pz _ _ _) ?_))
      generalize hW:World.setCell _ _ _=W4;replace hA:At W4 b0 (.cells (aK f n (k+1)) 3):=by
       rw[<-hW,<-abY.out,<-HST.out];exact hA.set k _
      replace hX:bW W4 b1 b2 b3 b4 lf p s q:=hW▸hX.off HN0.out _ _;replace hB:Below w.heap.size w W4:=hW▸Below.setCell hB HN1.out _;clear hW hz hcc abZ c1 c2 c3 c4;go_wp2
      go_roundw
      case rel=>exact⟨k+1,by omega,by go_num,hA,hX,hB⟩
      case measure=>simp[intOf];omega
  . obtain rfl:k=n:=by omega
    go_wp2;refine bodyPost_ret (v:=.slice (some ⟨b0,0,none⟩) k k) (by simp[results,Tryz.results236,go_sem, *];first|done|exact⟨rfl,rfl⟩|rfl) rfl ⟨⟨b0,rfl,HN1.out,gH f k Jv hA⟩,hB⟩
end Go.Proofs.YtcbcfdihofclkaaGreat.Fix
