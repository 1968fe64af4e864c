/- Steps of the program (13); no conditions. -/
import Derived.Test.YtfohooineeijkaaGreatM12
set_option linter.all false
set_option maxRecDepth 100000
set_option maxHeartbeats 16000000
namespace Go.Proofs.YtfohooineeijkaaGreat.Fix
open Go.ChangeShapes Go.WideShapes Go.ChangeAt Go.RowKit
open Go.Proofs.Tryz renaming prog → ja0
open World renaming setCell → ja4,alloc → ja5
open List renaming getElem?_eq_getElem → ja6,length_append → ja8,ext_getElem → jb5
variable {w:World}{o:Oper}{ops:Array Oper}{b:Nat}{a:Act}
theorem uX(s gap x:Int)(w:World):Calls ja0 182 #[s,gap,x] w λe w'=>e=.returned (.int .i64 (Li.next gap s x))/\w=w':=by
 go_enter Tryz.func182,Tryz.ntmps182
 go_wp2_with (first|(go_at_call 82;with_reducible refine oo (jG _ _ _) ?_))
 exact Zy
theorem Nz(A:Option Addr)(l:List Int)(n c:Nat)(gap:Int)(w:World)(hI:Ints w A l)(hl:l.length=n)(hc:n<=c)(hn:n<=100000):Calls ja0 140 #[.slice A n c,gap] w λe w'=>e=.returned (.int .i64 (Li.long gap l))/\w=w':=by
 rcases Nat.eq_zero_or_pos n with rfl|h0
 . obtain rfl:=List.eq_nil_of_length_eq_zero hl
   go_enter Tryz.func140,Tryz.ntmps140
   go_wp2;exact Zy
 . have HI:=ah hI
   have HL:=ah hl;have I1:=hI.from_ 1 c ak ak;have F1:=ah (qA A n c 1 ak);obtain⟨b,off,rfl,lb,cb⟩:=hI.at_ (k:=0) ak;generalize hA1:(if c=1 then some (⟨b,off,none⟩:Addr)else (some (⟨b,off,none⟩:Addr)).map (·.add (1*1)))=A1 at *;have H1:=ah I1;have hz:((n:Int)==0)=false:=by simp;omega
   have HX:Hid (Fx.cut (l.getD 0 0)=Li.long gap (l.take 1)):=ah (Li.yx gap l ak).symm;have HT:Hid (l.take n=l):=ah (by rw[<-hl];exact List.take_length);have HM:Hid (n-1+1=n):=ah ak;simp only[Nat.add_zero]at cb;generalize l.getD 0 0=x at *;clear hA1 I1 hI hl;obtain⟨m,m1,m2⟩:∃m,m+1<=n/\n<=m+1:=⟨n-1,by omega,by omega⟩;have HN:Hid (n-1=m):=ah ak;replace F1:=ah F1.out;rw[HN.out]at F1;go_enter Tryz.func140,Tryz.ntmps140
   go_wp2_with (first|(refine rX rfl bB (F1.out _) ?_)|first|(go_at_call 34;with_reducible refine oo (fO _ _) ?_))
   go_loopw [5,7,18] (λvs _ vi wr=>∃k:Nat,k<=m/\vi=.int .i64 k/\vs=.int .i64 (Li.long gap (l.take (k+1)))/\w=wr) (λ_ _ vi _=>n-(intOf vi).toNat)
   case atStart=>exact⟨0,by omega,rfl,by rw[HX.out],rfl⟩
   case round =>
    obtain⟨k,hk,rfl,rfl,rfl⟩:=hrel;by_cases hlt:k<m
    . have hltz:(k:Int)<(m:Int):=by omega
      obtain⟨b1,o1,hA1,l1,c1⟩:=H1.out.at_ (k:=k) (by rw[List.length_drop,HL.out];omega);subst hA1
      have HS:Hid (Li.next gap (Li.long gap (l.take (k+1))) ((l.drop 1).getD k 0)=Li.long gap (l.take (k+1+1))):=ah (by
       rw[Li.Bo gap l (k:=k+1) ak Z4o];congr 1
       simp[List.getD])
      generalize (l.drop 1).getD k 0=y at *
      go_wp2_with (first|(go_at_call 182;with_reducible refine oo (uX _ _ _ _) ?_))
      go_roundw
      case rel=>exact⟨k+1,by omega,by go_num,by rw[HS.out],trivial⟩
      case measure=>simp[intOf];omega
    . have hltz:¬ (k:Int)<(m:Int):=by omega
      have HE:Hid (k+1=n):=ah ak;go_wp2
      go_ret
      exact⟨bQ (by rw[HE.out,HT.out]),rfl⟩
theorem Vg(A:Option Addr)(l:List Int)(n c:Nat)(room gap:Int)(wrap:Bool)(w:World)(hI:Ints w A l)(hl:l.length=n)(h0:0<n)(hn:n<=100000) :
  Calls ja0 202 #[.slice A n c,room,gap,wrap] w λe w'=>e=.returned (.int .i64 (Li.cnt room gap wrap l:Nat))/\w=w':=by
 have HI:=ah hI;have HL:=ah hl;obtain⟨b,off,rfl,lb,cb⟩:=hI.at_ (k:=0) ak;have HX:Hid (Fx.cut (l.getD 0 0)=Li.long gap (l.take 1)):=ah (Li.yx gap l ak).symm;simp only[Nat.add_zero]at cb;generalize l.getD 0 0=x at *;obtain⟨q,q1,q2,q3⟩:∃q,q<=n/\q<=64/\(n<=q\/64<=q):=⟨min n 64,by omega,by omega,by omega⟩;have hmin:min (n:Int) 64=(q:Int):=by omega
 clear hI hl;cases wrap
 all_goals
  go_enter Tryz.func202,Tryz.ntmps202
  go_wp2_with (first|(go_at_call 34;with_reducible refine oo (fO _ _) ?_))
 . go_loopw [9,11] (λvm vs wr=>∃m:Nat,1<=m/\m<=q/\vm=.int .i64 m/\vs=.int .i64 (Li.long gap (l.take m))/\w=wr/\Hid (∀k,1<=k->k<m->Li.goes room gap false l k=true)) (λvm _ _=>n-(intOf vm).toNat)
   case atStart=>exact⟨1,by omega,by omega,rfl,by rw[HX.out],rfl,ah (λk k1 k2=>by omega)⟩
   case round =>
    obtain⟨m,hm1,hmq,rfl,rfl,rfl,HG⟩:=hrel;by_cases hlt:m<q
    . have hltz:(m:Int)<(q:Int):=by omega
      obtain⟨b1,o1,hA1,l1,c1⟩:=HI.out.at_ (k:=m) Z4o;injection hA1 with hA1;injection hA1 with hb1 ho1;subst hb1 ho1;have HS:Hid (Li.next gap (Li.long gap (l.take m)) (l.getD m 0)=Li.long gap (l.take (m+1))):=ah (Li.Bo gap l ak Z4o).symm;generalize l.getD m 0=y at *
      go_wp2_with (first|(go_at_call 182;with_reducible refine oo (uX _ _ _ _) ?_))
      go_roundw
      case rel=>exact⟨m+1,by omega,by omega,by go_num,by rw[HS.out],trivial,ah (λk k1 k2=>by
       rcases Nat.lt_or_ge k m with h|h
       . exact HG.out k k1 h
       . obtain rfl:k=m:=by omega
         exact Li.qx.2 ⟨by rw[HL.out];omega,by omega,λh=>by cases h⟩)⟩
      case measure=>simp[intOf];omega
    . have hltz:¬ (m:Int)<(q:Int):=by omega
      have HC:Hid (Li.cnt room gap false l=m):=ah (Li.vK.eq ⟨hm1,HG.out,by
       cases h:Li.goes room gap false l m with
       | false=>rfl
       | true=>have:=Li.qx.1 h;rw[HL.out]at this;omega⟩)
      go_wp2
      go_ret
      exact⟨bQ (by rw[HC.out]),rfl⟩
 . go_loopw [9,11] (λvm vs wr=>∃m:Nat,1<=m/\m<=q/\vm=.int .i64 m/\vs=.int .i64 (Li.long gap (l.take m))/\w=wr/\Hid (∀k,1<=k->k<m->Li.goes room gap true l k=true)) (λvm _ _=>n-(intOf vm).toNat)
   case atStart=>exact⟨1,by omega,by omega,rfl,by rw[HX.out],rfl,ah (λk k1 k2=>by omega)⟩
   case round =>
    obtain⟨m,hm1,hmq,rfl,rfl,rfl,HG⟩:=hrel;by_cases hlt:m<q
    . have hltz:(m:Int)<(q:Int):=by omega
      obtain⟨b1,o1,hA1,l1,c1⟩:=HI.out.at_ (k:=m) Z4o;injection hA1 with hA1;injection hA1 with hb1 ho1;subst hb1 ho1;have HS:Hid (Li.next gap (Li.long gap (l.take m)) (l.getD m 0)=Li.long gap (l.take (m+1))):=ah (Li.Bo gap l ak Z4o).symm;generalize l.getD m 0=y at *;obtain⟨z,hz⟩:=aC (Li.next gap (Li.long gap (l.take m)) y);have HZ:=ah hz;by_cases hr:room<z
      . have HC:Hid (Li.cnt room gap true l=m):=ah (Li.vK.eq ⟨hm1,HG.out,by
         cases h:Li.goes room gap true l m with
         | false=>rfl
         | true=>have:=(Li.qx.1 h).2.2 rfl;rw[<-HS.out,HZ.out]at this;omega⟩)
        go_wp2_with (first|(go_at_call 182;with_reducible refine oo (uX _ _ _ _) ?_))
        go_ret
        exact⟨bQ (by rw[HC.out]),rfl⟩
      . have hr2:decide (room<z)=false:=decide_eq_false hr
        go_wp2_with (first|(go_at_call 182;with_reducible refine oo (uX _ _ _ _) ?_))
        go_roundw
        case rel=>exact⟨m+1,by omega,by omega,by go_num,by rw[<-HS.out,HZ.out],trivial,ah (λk k1 k2=>by
         rcases Nat.lt_or_ge k m with h|h
         . exact HG.out k k1 h
         . obtain rfl:k=m:=by omega
           exact Li.qx.2 ⟨by rw[HL.out];omega,by omega,λ_=>by rw[<-HS.out,HZ.out];omega⟩)⟩
        case measure=>simp[intOf];omega
    . have hltz:¬ (m:Int)<(q:Int):=by omega
      have HC:Hid (Li.cnt room gap true l=m):=ah (Li.vK.eq ⟨hm1,HG.out,by
       cases h:Li.goes room gap true l m with
       | false=>rfl
       | true=>have:=Li.qx.1 h;rw[HL.out]at this;omega⟩)
      go_wp2
      go_ret
      exact⟨bQ (by rw[HC.out]),rfl⟩
theorem iI{T:TypeId}(f:Nat->Int)(n:Nat)(hn:n<=maxLen)(h:At w b (.cells (bG f n n) T)):Ints w (some ⟨b,0,none⟩) (Ju.row f n):=by
 refine⟨by rw[Ju.qy];exact hn,λh0=>⟨b,0,rfl,λk hk => ?_⟩⟩;rw[Ju.qy]at hk;rw[h.cell,Nat.zero_add,dO _ hk,Ju.J5 _ hk];simp[hk]
theorem dL.off{b1 b2 b3 b4 n:Nat}{left p s q:Int}(h:dL w b1 b2 b3 b4 left p s q)(hn:b1≠n/\b2≠n/\b3≠n/\b4≠n)(i:Nat)(x:Value):dL (w.setCell ⟨n,i,none⟩ x) b1 b2 b3 b4 left p s q :=
 ⟨h.a1.off hn.1 _ _,h.a2.off hn.2.1 _ _,h.a3.off hn.2.2.1 _ _,h.a4.off hn.2.2.2 _ _,h.n12,h.n13,h.n14,h.n23,h.n24,h.n34⟩
theorem Fu(A:Option Addr)(l:List Int)(n c:Nat)(kind room gap:Int)(w:World)(hI:Ints w A l)(hl:l.length=n)(hc:n<=c)(hn:n<=1000) :
  Calls ja0 141 #[kind,.slice A n c,room,gap] w λe w'=>(∃b,e=.returned (.slice (some ⟨b,0,none⟩) n n)/\w.heap.size<=b/\Ints w' (some ⟨b,0,none⟩) (Ju.row (Ju.starts kind room gap l) n))/\Below w w w':=by
 obtain⟨i0,hi0,hz0,hz1,hz2⟩:=info_parts intZero;have hf0:∀lf,Fx.sub room (Li.long gap l)=lf->Ju.fr lf (Ju.pq kind lf (n:Int)).1 (Ju.pq kind lf (n:Int)).2.1 (Ju.pq kind lf (n:Int)).2.2 ((0:Nat):Int)=Ju.starts kind room gap l 0:=by
  rintro lf rfl;rw[<-hl];rfl
 have hfs:∀lf,Fx.sub room (Li.long gap l)=lf->∀k:Nat,Fx.add (Fx.add (Fx.add (Ju.starts kind room gap l k) (l.getD k 0)) gap) (Fx.sub (Ju.fr lf (Ju.pq kind lf (n:Int)).1 (Ju.pq kind lf (n:Int)).2.1 (Ju.pq kind lf (n:Int)).2.2 ((k+1:Nat):Int)) (Ju.fr lf (Ju.pq kind lf (n:Int)).1 (Ju.pq kind lf (n:Int)).2.1 (Ju.pq kind lf (n:Int)).2.2 (k:Int)))=Ju.starts kind room gap l (k+1):=by
  rintro lf rfl k;rw[<-hl];rfl
 generalize Ju.starts kind room gap l=f at *;have HI:=ah hI;have HF0:=ah hf0;have HFS:=ah hfs;have HL:=ah hl;clear hI hf0 hfs hl;go_enter Tryz.func141,Tryz.ntmps141
 go_upto_region 3 with(first|(go_at_call 140;refine(Nz A l n c gap _ HI.out HL.out hc ak).mono ?_;rintro e w' ⟨rfl,rfl⟩)|first|(go_at_call 43;with_reducible refine oo (mY _ _ _) ?_)|(go_at_call 183;refine(QC kind _ (n:Int) _ ak ak).mono ?_;rintro e w1 ⟨⟨b1,b2,b3,b4,rfl,hX⟩,hB⟩))
 replace HF0:=ah (HF0.out _ rfl);replace HFS:=ah (HFS.out _ rfl);obtain⟨p0,p1,s0,s2⟩:=Ju.afF kind (Fx.sub room (Li.long gap l)) (n:Int);generalize Fx.sub room (Li.long gap l)=lf at *;generalize (Ju.pq kind lf (n:Int)).1=p at *;generalize (Ju.pq kind lf (n:Int)).2.1=s at *;generalize (Ju.pq kind lf (n:Int)).2.2=q at *
 go_upto_region 4 with(at_make;refine wpList_make_row _ rfl _ _ 37 rfl 3 i0 (.int .i64 0) Tryz.underlying37 hi0 hz0 hz1 rfl .i64 .i64 n rfl rfl TQ ak ?_)
 have HN0:Hid (b1≠w1.heap.size/\b2≠w1.heap.size/\b3≠w1.heap.size/\b4≠w1.heap.size):=ah ⟨dK hX.a1.lt,dK hX.a2.lt,dK hX.a3.lt,dK hX.a4.lt⟩;have HBS:=ah hB.size;generalize hb0:w1.heap.size=b0 at *;generalize hW:ja5 _ _=W2;have hA:At W2 b0 (.cells (bG f n 0) 3):=by rw[<-hW,<-hb0,<-j3];exact At.new _ _
 replace hX:dL W2 b1 b2 b3 b4 lf p s q:=hW▸hX.keep (aD aG _);replace hB:Below w w W2:=hW▸aD hB _;have HN1:Hid (w.heap.size<=b0):=HBS;clear hW hb0;go_wp2
 go_loopw [30] (λi wr=>∃k:Nat,k<=n/\i=.int .i64 k/\At wr b0 (.cells (bG f n k) 3)/\dL wr b1 b2 b3 b4 lf p s q/\Below w w wr) (λi _=>n-(intOf i).toNat)
 case atStart=>exact⟨0,by omega,rfl,hA,hX,hB⟩
 case round =>
  obtain⟨k,hk,rfl,hA,hX,hB⟩:=hrel;by_cases hlt:k<n
  . rcases Nat.eq_zero_or_pos k with rfl|h0
    . have ad7:=ah (lD f hlt)
      have HFZ:=HF0;obtain⟨c1,c2,c3,c4⟩:=hX.cells
      go_upto_region 12 with((go_at_call 205;refine(Nw lf p s q _ n b1 b2 b3 b4 _ c1 c2 c3 c4 p0 p1 s0 s2 ak ak).mono ?_;rintro e w2 ⟨rfl,hb⟩;clear c1 c2 c3 c4;replace hX:=hX.keep hb;replace hA:=hA.keep hb;replace hB:=Below.ay hB aF hb;obtain⟨c1,c2,c3,c4⟩:=hX.cells;have hz:=hA.thaw 0;have hcc:=hA.cell 0;rw[dO _ hlt]at hcc;have ad8:=hA.lt))
      generalize hW:ja4 _ _ _=W4;replace hA:At W4 b0 (.cells (bG f n 1) 3):=by
       rw[<-hW,<-ad7.out,<-HFZ.out];exact hA.set 0 _
      replace hX:dL W4 b1 b2 b3 b4 lf p s q:=hW▸hX.off HN0.out _ _;replace hB:Below w w W4:=hW▸Below.setCell hB HN1.out _;clear hW hz hcc ad8 c1 c2 c3 c4;go_wp2
      go_roundw
      case rel=>exact⟨1,by omega,by go_num,hA,hX,hB⟩
      case measure=>simp[intOf];omega
    . obtain⟨m,hm⟩:∃m,k=m+1:=⟨k-1,by omega⟩
      have HST:Hid (Fx.add (Fx.add (Fx.add (f m) (l.getD m 0)) gap) (Fx.sub (Ju.fr lf p s q (k:Int)) (Ju.fr lf p s q (m:Int)))=f k):=ah (by subst hm;exact HFS.out m);have ad7:=ah (lD f hlt);have hz0:((k:Int)==0)=false:=by simp;omega
      have hw:IntKind.i64.wrap ((k:Int)-1)=(m:Int):=by rw[IntWalk.i64_in _ ak];omega
      have hmn:m<n:=by omega
      have hmk:m<k:=by omega
      obtain⟨b5,o5,yR,l5,c5⟩:=(HI.out.after hB).at_ (k:=m) (by rw[HL.out];exact hmn);have c6:=hA.cell m;rw[dO _ hmn,if_pos hmk]at c6;have l6:=hA.lt;generalize l.getD m 0=y at *;generalize f m=x at *;subst yR;have HM:=ah hm;clear hm
      go_upto_region 9 with(fail)
      refine vS ?_
      (repeat (first|refine jV ?_ | refine jW ?_ (hc:=by intro w2 hS;first|with_reducible exact AF hS (jG _ _ _))|refine jX ?_))
      refine aj.bY ?_;intro w2 hS;replace hX:=hX.keep hS;replace hA:=hA.keep hS;replace hB:=Below.ay hB aF hS;obtain⟨c1,c2,c3,c4⟩:=hX.cells;clear hS c5 c6 l5 l6
      go_upto_region 11 with(first|(go_at_call 205;refine(Nw lf p s q _ n b1 b2 b3 b4 _ c1 c2 c3 c4 p0 p1 s0 s2 ak ak).mono ?_;rintro e w2 ⟨rfl,hb⟩;clear c1 c2 c3 c4;replace hX:=hX.keep hb;replace hA:=hA.keep hb;replace hB:=Below.ay hB aF hb;obtain⟨c1,c2,c3,c4⟩:=hX.cells)|first|(go_at_call 43;with_reducible refine oo (mY _ _ _) ?_))
      have hz:=hA.thaw k;have hcc:=hA.cell k;rw[dO _ hlt]at hcc;have ad8:=hA.lt
      go_upto_region 12 with(first|(go_at_call 82;with_reducible refine oo (jG _ _ _) ?_))
      generalize hW:ja4 _ _ _=W4;replace hA:At W4 b0 (.cells (bG f n (k+1)) 3):=by
       rw[<-hW,<-ad7.out,<-HST.out];exact hA.set k _
      replace hX:dL W4 b1 b2 b3 b4 lf p s q:=hW▸hX.off HN0.out _ _;replace hB:Below w w W4:=hW▸Below.setCell hB HN1.out _;clear hW hz hcc ad8 c1 c2 c3 c4;go_wp2
      go_roundw
      case rel=>exact⟨k+1,by omega,by go_num,hA,hX,hB⟩
      case measure=>simp[intOf];omega
  . obtain rfl:k=n:=by omega
    go_wp2;refine bodyPost_ret (v:=.slice b0 k k) (by simp[results,Tryz.results141,go_sem, *];first|done|exact⟨rfl,rfl⟩|rfl) rfl ⟨⟨b0,rfl,HN1.out,iI f k LY hA⟩,hB⟩
theorem xk{M:Nat->Prop}{W W':World}{b off:Nat}{l:List Int}(h:Ints W (some ⟨b,off,none⟩) l)(k:Out M W W')(hm:¬ M b):Ints W' (some ⟨b,off,none⟩) l:=by
 refine⟨h.1,λh0 => ?_⟩;obtain⟨b',off',e,hc⟩:=h.2 h0;obtain⟨rfl,rfl,-⟩:b=b'/\off=off'/\True:=by injection e with e;injection e with e1 e2;exact⟨e1,e2,trivial⟩
 exact⟨b,off,rfl,λi hi=>(Out.cell k (off+i) (World.block_lt_of_cell? _ _ (hc i hi)) hm).trans (hc i hi)⟩
theorem lints{l:List Int}(h:Ints w (some ⟨b,0,none⟩) l){k:Nat}(hk:k<l.length):b<w.heap.size/\w.cell? ⟨b,k,none⟩=some (.int .i64 (l.getD k 0)):=by
 obtain⟨b',off,e,hl,hc⟩:=h.at_ hk;injection e with e;injection e with e1 e2;subst e1 e2;rw[Nat.zero_add]at hc;exact⟨hl,hc⟩
def tT(g:Nat->Im->Im)(l:List Im)(k:Nat):List Im:=(l.take k).mapIdx g++l.drop k
theorem jc(g:Nat->Im->Im)(l:List Im)(k:Nat):(tT g l k).length=l.length:=by simp[tT];omega
theorem qE(g:Nat->Im->Im)(l:List Im){k:Nat}(hk:k<l.length):(tT g l k)[k]'(by rw[jc];exact hk)=l[k]:=by
 unfold tT;rw[List.getElem_append_right jB];simp;congr 1;omega
theorem BH(g:Nat->Im->Im)(l:List Im){k:Nat}(hk:k<l.length):(tT g l k).set k (g k l[k])=tT g l (k+1):=by
 unfold tT;exact Z1r
theorem BI(g:Nat->Im->Im)(l:List Im):tT g l 0=l:=by simp[tT]
theorem Fv(g:Nat->Im->Im)(l:List Im):tT g l l.length=l.mapIdx g:=by simp[tT]
instance:Inhabited Im:=⟨⟨⟨0,0,0,0,0⟩,⟨0,0,0,0,0,0,0⟩,0,0,0,0,0⟩⟩
theorem tV(l:List Int):Ju.row (λi=>l.getD i 0) l.length=l:=by
 unfold Ju.row;exact jb5 bI λi h1 h2=>by simp[List.getD,ja6 h2]
theorem z8(l:List Im):(vO l).length=l.length:=by simp[vO]
def lnF(B:Int->Fw.Bx)(f:Nat)(i0 i1:Int)(sz:List Int)(i:Nat)(x:Im):Im:={ x with ld:=Fw.lay B f x.ld.id i0 i1 (Fw.wr (sz.getD i 0+Fw.xJ (B x.ld.id).sty 0)) (-1) }
def lnB(al deep:Int)(st:List Int)(i:Nat)(x:Im):Im:={ x with ld:={ x.ld with a0:=Fw.wr (st.getD i 0+x.m0),a1:=Fw.wr (Ju.across al (Co x) deep+x.m2) } }
def lnS(B:Int->Fw.Bx)(i0 gap:Int)(xs:List Im):List Int:=mZ (λi=>(xs.getD i default).it) xs.length (qm (Fw.wr (i0-Fw.wr (gap*Fw.wr ((xs.length:Int)-1)))) (λi=>Ya (xs.getD i default) (B (xs.getD i default).ld.id).sty) xs.length)
def KG(high:Int)(xs:List Im):Int:=if high = -1 then (o7 xs).foldl max 0 else high
def Fy(B:Int->Fw.Bx)(f:Nat)(s:Re.St)(i0 i1 high:Int)(xs:List Im):List Im:=xs.mapIdx (lnF B f i0 i1 (lnS B i0 (s.c 46) xs))
def uY(B:Int->Fw.Bx)(f:Nat)(s:Re.St)(i0 i1 deep:Int)(ys:List Im):List Im:=if s.c 44=0 then ys.map (Dl B f i0 i1 deep)else ys
def uZ(s:Re.St)(i0 deep:Int)(ys:List Im):List Im:=ys.mapIdx (lnB (s.c 44) deep (Ju.row (Ju.starts (s.c 43) i0 (s.c 46) (vO ys)) ys.length))
theorem kV(ho:o.op=.alloc 59):(execOp a.eval o).run ja0 w=.ok (.value (.pointer w)) (w.alloc (.cells (cells Re.zero) 59)):=by
 unfold execOp;simp only[ho,Sem.run_bind,BX,Result.andThen_ok,Sem.run_pure]
theorem kX(x y:Operand)(ho:o.op=.store 59 x y)(hx:a.eval x=.pointer b){s t:Re.St}(hy:a.eval y=.agg (cells t))(hs:At w b (.cells (cells s) 59)):(execOp a.eval o).run ja0 w=.ok .skip (w.setRow b (cells t)):=by
 unfold execOp;simp only[ho,hx,hy,Sem.run_bind,wK hs,Result.andThen_ok,Sem.run_pure]
section
variable {Y:rF} {B:Int->Fw.Bx} {F:Int->Nat} {D:Int->Prop} {KM:World->Nat->Prop} {f:Nat} {w0:World} {P0:Nat->Prop}
theorem abK{i0 i1:Int}{sz:List Int}{x:Im}(i:Nat)(h:Nt Y B D F f i0 x):Nt Y B D F f i0 (lnF B f i0 i1 sz i x):=⟨h.d,h.f,h.bx,h.m0,h.m1,h.m2,h.m3⟩
theorem af2(hL:xg Y B F D KM f)(hK:∀(X X':World) (b:Nat),KM X b->Below X X X'->KM X' b)(uo:∀(X X':World) (b:Nat),KM X b->Out (λq=>q≠b) X X'->KM X' b)(hR0:RO w0 Y B D KM)(hkm:Y.km<w0.heap.size)
  (R q c:Nat) (z i0 i1 high:Int) (hz:D z) (xs:List Im) (cs:Array Value) (w:World) (n:Nat) (P:Nat->Prop) (hS:qR Y B F w0 P0 n P w) (hA:At w R (.cells cs 216)) (hI:gV cs q xs) (hok:∀x∈xs,Nt Y B D F f i0 x) (Yr:¬ P R) (uN:w0.heap.size<=R) (hn:n+2*jw B f xs xs.length<maxLen) (hl:xs.length<=64) (s:Re.St) (hs:(B z).sty=s) (xs1 xs2:List Im) (deep:Int) (hx1:Fy B f s i0 i1 high xs=xs1) (hdp:KG high xs1=deep) (hx2:uY B f s i0 i1 deep xs1=xs2) :
  Calls ja0 136 #[Y.lb,.agg #[z,i0,i1],.slice (some ⟨R,q,none⟩) xs.length c,high] w λe w'=>e=.returned deep /\
   ∃n' P' cs',n'<=n+2*jw B f xs xs.length/\qR Y B F w0 P0 n' P' w'/\¬ P' R/\(∀b,b<w.heap.size->P' b->P b)/\At w' R (.cells cs' 216)/\gV cs' q (uZ s i0 deep xs2)/\kK q xs.length cs cs'/\Out (λb=>b=Y.pm\/b=R) w w':=by
 obtain⟨es0,U0,p9⟩:=hR0.Gv;have aiB:Y.pm<R:=bA p9.lt uN;obtain⟨m,hm⟩:=aC xs.length;have HM:=ah hm;have HN:=ah hn;have HOK:=ah hok;have wu:=ah hR0;have TL:=ah hx1;have HDP:=ah hdp;have HX2:=ah hx2;have hRl:=hA.lt;have yg:=hS.ro uo hR0 hkm;have ac2:=yg.look hz;obtain⟨b0,hb0⟩:=aC (Y.bl z);rw[hb0]at ac2;have hbx:=(yg.box z hz).1;rw[hb0,hs]at hbx;have zw:=ah hbx.style;have xS:=yg.lay;have Vh:=hbx.lt;obtain⟨lY,yK,yL,AZ,Ba,Bb,Bc⟩:=At.six xS;have b1:Below w w (w.alloc (.cells #[z,i0,i1] 86)):=aD aG _;have A0:At (w.alloc (.cells #[z,i0,i1] 86)) w.heap.size (.cells #[z,i0,i1] 86):=At.new _ _;have hS1:=hS.after b1;have hA1:=hA.keep b1;have GU:=yg.keep hK b1;rw[hm]at hl ⊢;clear hn hok hR0 hS hA hm p9 hx1 hdp hx2 hs hbx yK yL AZ Ba Bb Bc ac2 xS lY;go_enter Tryz.func136,Tryz.ntmps136
 go_upto_region 1 with(fail)
 generalize w.alloc (.cells #[z,i0,i1] 86)=w1 at *;have aiD:w.heap.size<w1.heap.size:=A0.lt;have hsz:=b1.size;have hlk:=λX (h:Below w1 w1 X)=>(GU.keep hK h).look hz;simp only[hb0]at hlk;have Yy:=ah (λj hj=>(b1.cell (p:=⟨b0,0+j,none⟩) Vh).trans (zw.out j hj):vN w1 b0 0 s);have Wx:b0<w1.heap.size:=bA Vh hsz;obtain⟨lY,yK,yL,AZ,Ba,Bb,Bc⟩:=At.six GU.lay;obtain⟨l0,aA,aB,aY⟩:=At.three A0;have hSd:Below w1 w1 w1.drew:=Below.drew aG;refine jy (S:=λX=>Below w1 w1 X) 12 ?_ ?_
 . exact hSd
 intro hx;clear hSd;refine aS 0 ?_;refine aS 1 ?_;refine aS 2 ?_;refine aS 3 ?_;refine aS 4 ?_;refine aS 5 ?_;refine mG 6 rfl (bU bB rfl rfl rfl (λX h=>hlk X h)) ?_;refine aS 7 ?_;refine aS 8 ?_;refine mG 9 rfl (jr bB (.tmp 26) rfl rfl (λX h=>λj hj=>(h.cell (p:=⟨b0,0+j,none⟩) Wx).trans (Yy.out j hj))) ?_;refine tk1 10 ?_;refine aj.Step.value (kV rfl) ?_;obtain⟨w2,hw2,AS,hb2,gT⟩:∃w2,w2=w1.drew.alloc (.cells (cells Re.zero) 59)/\At w2 w1.drew (.cells (cells Re.zero) 59)/\Below w1.drew w1.drew w2/\w1.heap.size<=w1.drew.heap.size:=⟨_,rfl,At.new _ _,aD aG _,hx.size⟩;rw[<-hw2];clear hw2;replace hx:=Below.ay hx aF hb2;generalize w1.drew.heap.size=T at *;refine⟨λ_=>hx,?_⟩
 (try simp only[bV,bW,bX,tks])
 refine tk1 11 ?_;refine aj.Step.skip (kX (.tmp 9) (.tmp 27) rfl rfl rfl AS) ?_;replace AS:At (w2.setRow T (cells s)) T (.cells (cells s) 59):=At.setRow AS _;have hx2:Below w1 w1 (w2.setRow T (cells s)):=aU hx gT _;generalize w2.setRow T (cells s)=w3 at *;refine⟨λ_=>hx2,?_⟩
 (try simp only[bV,bW,bX,tks])
 refine jk ?_;have abL:=hx2.size;have hO3:Out (λb=>b=Y.pm\/b=R) w w3:=Out.of_below (b1.trans (hx2.mono hsz));have rY:=hS1.after hx2;have hA3:=hA1.keep hx2;have B3:=A0.keep hx2;have GA:=rY.ro uo wu.out hkm;have hPw:=rY.lt;obtain⟨sz,hszz⟩:=aC (lnS B i0 (s.c 46) xs);have Yz:Hid (xs.mapIdx (lnF B f i0 i1 sz)=xs1):=ah (by rw[<-hszz];exact TL.out);have HI:=ah hI;have abq:Calls ja0 177 #[.slice (some ⟨R,q,none⟩) m c,(),.agg #[i0,i1],s.c 46] w3 λe w'=>(∃b,e=.returned (.slice (some ⟨b,0,none⟩) m m)/\w3.heap.size<=b/\Ints w' (some ⟨b,0,none⟩) sz)/\Below w3 w3 w':=by
  have e:=HM.out;subst e;have hg:∀i (h:i<xs.length),xs.getD i default=xs[i]:=λi h=>by rw[List.getD,ja6 h];rfl
  have k:=Yj (some ⟨R,q,none⟩) xs c i0 i1 (s.c 46) (λi=>(xs.getD i default).it) (λi=>Ya (xs.getD i default) (B (xs.getD i default).ld.id).sty) (λi=>(B (xs.getD i default).ld.id).sty) w3 (hI.ims hA3) hl (λi h=>by simp only[hg i h]) (λi h=>by simp only[hg i h]) (λi h=>by
   have ho:=HOK.out xs[i] (List.getElem_mem _);have hb:=(GA.box _ ho.d).1;rw[<-ho.bx]at hb;simp only[hg i h]
   exact⟨_,_,_,hb⟩)
  rw[<-hszz];exact k
 have Vi:sz.length=m:=by rw[<-hszz,<-HM.out];unfold lnS mZ;simp
 have KI:w3.cell? ⟨T,46,none⟩=some (.int .i64 (s.c 46)):=(AS.cell 46).trans (dG s ak rfl);obtain⟨l0,aA,aB,aY⟩:=At.three B3;have lT:=AS.lt;clear hI b1 A0 hS1 hA1 GU Yy hlk yK yL AZ Ba Bb Bc lY zw yg hb2 hszz hx;have HRR:=ah GA;clear GA
 go_upto_region 3 with(go_at_call 177;(with_reducible refine abq.mono ?_);rintro e' w4 ⟨⟨bz,rfl,gbz,zq⟩,hb4⟩)
 clear abq;have abM:=ah zq;have hO4:Out (λb=>b=Y.pm\/b=R) w w4:=Out.trans' hO3 (Out.of_below (M:=λ_=>False) hb4) λ_ _ q=>q.elim;have Ho:=rY.after hb4;have hA4:=hA3.keep hb4;have B4:=B3.keep hb4;have YA:=ah (AS.keep hb4);have ad9:=hb4.size;have gT2:w.heap.size<T:=by have:=B3.lt;have h2:=aiD;omega
 clear hb4 zq AS B3 hA3 rY hO3 hx2 HRR
 go_loopw [35] (λiv wr=>∃(k n':Nat) (P':Nat->Prop) (cs':Array Value),k<=m/\iv=.int .i64 k/\n'<=n+jw B f xs k/\qR Y B F w0 P0 n' P' wr/\¬ P' R/\(∀b,b<w.heap.size->P' b->P b)/\At wr R (.cells cs' 216)/\Hid (gV cs' q (tT (lnF B f i0 i1 sz) xs k)/\kK q m cs cs')/\At wr w (.cells #[z,i0,i1] 86)/\Hid (At wr T (.cells (cells s) 59))/\Hid (Ints wr (some ⟨bz,0,none⟩) sz)/\Out (λb=>b=Y.pm\/b=R) w wr) (λiv _=>m-(intOf iv).toNat)
 case atStart=>exact⟨0,n,P,cs,gF _,rfl,by simp[jw],Ho,Yr,λb hb h=>h,hA4,ah ⟨by rw[BI];exact HI.out,kK.refl _ _ _⟩,B4,YA,abM,hO4⟩
 case round =>
  clear Ho hA4 B4 YA abM hO4 l0 aA aB aY lT KI;obtain⟨k,n',P',cs',hk,rfl,hn',hSr,yh,yX,hAr,hC,A0,hST,zq,hO⟩:=hrel;by_cases hlt:k<m
  . have hltz:(k:Int)<(m:Int):=by omega
    have hkx:k<xs.length:=by rw[HM.out];exact hlt
    have hkc:k<(tT (lnF B f i0 i1 sz) xs k).length:=by rw[jc];exact hkx
    have qU:=hC.out.1.at_ hAr hkc;rw[qE _ _ hkx]at qU;obtain⟨x,hx⟩:=aC (xs[k]);have mV:=ah (HOK.out x (hx▸List.getElem_mem _));rw[hx]at qU;have HX:=ah hx;have hRr:=hSr.ro uo wu.out hkm;have hbx:=(hRr.box x.ld.id mV.out.d).1;rw[<-mV.out.bx]at hbx;obtain⟨sx,hsx⟩:=aC ((B x.ld.id).sty);rw[hsx]at hbx;generalize Y.vf x.ld.id=vf at hbx;generalize Y.va x.ld.id=va at hbx;generalize (B x.ld.id).ib=ib at hbx;have HSX:=ah hsx;have HIM:=ah qU;have qD:=ah hSr;obtain⟨l2,aL,aM,aP,aQ,bO,bP,bM,bN⟩:=At.bx0 hbx;clear aL aM aP aQ bO bP;have Dk:=hAr.lt;have Nu:wr.cell? ⟨R,q+k*17+12,none⟩=some (.pointer x.bx):=(qU 12 ak).trans rfl;have SI:wr.cell? ⟨R,q+k*17+5,none⟩=some (.int .i64 x.ld.id):=(qU 5 ak).trans rfl;obtain⟨lz,cz⟩:=lints zq.out (by rw[Vi];exact hlt);obtain⟨v,hv⟩:=aC (sz.getD k 0);rw[hv]at cz;obtain⟨l0,aA,aB,aY⟩:=At.three A0;clear hRr hbx qU hsx hx
    go_upto_region 6 with(fail)
    have abN:=ah (qD.out.after ((Below.refl wr.heap.size wr).drew));have hcs1:=tO B f xs hkx;rw[HX.out]at hcs1;have hcs2:=xU B f xs (k+1);have hnn:=HN.out;have vV:=λX=>eT (Fw.ed sx 3) (Fw.ed sx 1) X;obtain⟨e31,ad'⟩:=aC (Fw.wr (Fw.ed sx 3+Fw.ed sx 1));simp only[ad']at vV;have af3:Fw.xJ sx 0=e31:=ad';clear ad';obtain⟨t0,ht0⟩:=aC (IntKind.i64.wrap (v+e31));have ad4:(Fw.lay B f x.ld.id i0 i1 t0 (-1)).id=x.ld.id:=rfl;obtain⟨ly,xS⟩:=aC (Fw.lay B f x.ld.id i0 i1 t0 (-1));have HLF:=ah (show lnF B f i0 i1 sz k x={ x with ld:=ly }by unfold lnF;rw[HSX.out,hv,af3,<-sK (v+e31),ht0,xS]);have LX:ly.id=x.ld.id:=by rw[<-xS];rfl
    clear ad4 af3 hv;have O7:=ah (show q+k*17+5+7<=cs'.size by have:=hC.out.1.1;rw[jc]at this;have h2:k*17+17<=xs.length*17:=ak;omega);have n1:w.heap.size≠Y.pm:=by omega
    have n2:w.heap.size≠R:=by omega
    have n34:=wu.out.box x.ld.id mV.out.d;rw[<-mV.out.bx]at n34
    have n3:x.bx≠Y.pm:=λe=>by
     obtain⟨es1,ck1,hp1⟩:=wu.out.Gv;have h1:=n34.1;rw[e]at h1;exact absurd (h1.symm.trans hp1) bI
    have n4:x.bx≠R:=by have:=n34.1.lt;omega
    clear n34;have n5:bz≠Y.pm:=by omega
    have n6:bz≠R:=by omega
    have hSd:Out (λb=>b=Y.pm\/b=R) wr wr.drew/\wr.drew.cell? ⟨R,q+k*17+5,none⟩=some (.int .i64 x.ld.id)/\wr.drew.cell? ⟨R,q+k*17+12,none⟩=some (.pointer x.bx):=⟨(Out.refl _ _).drew,SI,Nu⟩;refine jy (S:=λX=>Out (λb=>b=Y.pm\/b=R) wr X/\X.cell? ⟨R,q+k*17+5,none⟩=some (.int .i64 x.ld.id)/\X.cell? ⟨R,q+k*17+12,none⟩=some (.pointer x.bx)) 26 ?_ ?_
    . exact hSd
    intro hx;clear hSd;refine iG 0 ?_;refine iG 1 ?_;refine iG 2 ?_;refine iG 3 ?_;refine iG 4 ?_;refine iG 5 ?_;refine iG 6 ?_;refine iG 7 ?_;refine iG 8 ?_;refine iG 9 ?_;refine iG 10 ?_;refine iG 11 ?_;refine iG 12 ?_;refine iG 13 ?_;refine iG 14 ?_;refine iG 15 ?_;refine iG 16 ?_;refine iG 17 ?_;refine iG 18 ?_;refine tk1 19 ?_;refine aj.Step.call eD (vV _) ?_;rintro e' w6 ⟨rfl,hb6⟩;have jM:Out (λb=>b=Y.pm\/b=R) wr w6:=Out.trans' ((Out.refl _ wr).drew) (Out.of_below (M:=λ_=>False) hb6) λ_ _ q=>q.elim;have tX:=abN.out.after hb6;have vU:=hAr.keep ((Below.drew (Below.refl _ wr)).trans hb6);have B6:=A0.keep ((Below.drew (Below.refl _ wr)).trans hb6);have QD:w6.cell? ⟨R,q+k*17+5,none⟩=some (.int .i64 x.ld.id):=(hb6.cell (p:=⟨R,_,none⟩) Dk).trans SI;have BJ:w6.cell? ⟨R,q+k*17+12,none⟩=some (.pointer x.bx):=(hb6.cell (p:=⟨R,_,none⟩) Dk).trans Nu;have hx6:Out (λb=>b=Y.pm\/b=R) wr w6/\w6.cell? ⟨R,q+k*17+5,none⟩=some (.int .i64 x.ld.id)/\w6.cell? ⟨R,q+k*17+12,none⟩=some (.pointer x.bx):=⟨jM,QD,BJ⟩;refine⟨_,rfl,λ_=>hx6,?_⟩
    (try simp only[bV,bW,bX,tks])
    refine iG 20 ?_;refine iG 21 ?_;have sF:=tQ hL uo wu.out hkm tX x.ld.id i0 i1 t0 (-1) mV.out.d mV.out.f ak;rw[xS]at sF;refine tk1 22 ?_;refine aj.Step.call eD sF ?_;rintro e' jD ⟨rfl,n2',P2,hn2,nZ,Jd,mq⟩;have oq:=vU.out (M:=λb=>b=Y.pm) ak mq;have Wy:=vU.lt;have vP:jD.cell? ⟨R,q+k*17+5,none⟩=some (.int .i64 x.ld.id):=(Out.cell mq (q+k*17+5) Wy ak).trans QD;have IC:jD.cell? ⟨R,q+k*17+12,none⟩=some (.pointer x.bx):=(Out.cell mq (q+k*17+12) Wy ak).trans BJ;have B10:=B6.out (M:=λb=>b=Y.pm) n1 mq;have qF:Out (λb=>b=Y.pm\/b=R) wr jD:=jM.trans (mq.mono λb _ h => .inl h);have KF:Out (λb=>b=Y.pm\/b=R) wr jD/\jD.cell? ⟨R,q+k*17+5,none⟩=some (.int .i64 x.ld.id)/\jD.cell? ⟨R,q+k*17+12,none⟩=some (.pointer x.bx):=⟨qF,vP,IC⟩;refine⟨_,rfl,λ_=>KF,?_⟩
    (try simp only[bV,bW,bX,tks])
    refine iG 23 ?_;refine iG 24 ?_;refine tk1 25 ?_;refine aj.Step.skip (bH oC (.tmp 67) (.tmp 65) rfl rfl rfl oq (dW ly) O7.out (pY ly)) ?_;have pF:At (jD.setRow R (splice cs' (q+k*17+5) (fH ly))) R (.cells (splice cs' (q+k*17+5) (fH ly)) 216):=At.setRow oq _;have jU:Out (λb=>b=R) jD (jD.setRow R (splice cs' (q+k*17+5) (fH ly))):=Out.setRow (M:=λb=>b=R) (Out.refl _ _) rfl _;have Cr:(jD.setRow R (splice cs' (q+k*17+5) (fH ly))).cell? ⟨R,q+k*17+5,none⟩=some (.int .i64 x.ld.id):=by
     exact Z1h
    have Je:(jD.setRow R (splice cs' (q+k*17+5) (fH ly))).cell? ⟨R,q+k*17+12,none⟩=some (.pointer x.bx):=by
     exact Z2s
    refine⟨λ_=>⟨qF.trans (jU.mono λb _ h => .inr h),Cr,Je⟩,?_⟩
    (try simp only[bV,bW,bX,tks])
    refine jk ?_;have sG:¬ P2 R:=λh=>yh (Jd R Wy h);have hput:=hC.out.1.SC hkc ly;rw[qE _ _ hkx,HX.out]at hput
    have Yx:Hid (gV (splice cs' (q+k*17+5) (fH ly)) q (tT (lnF B f i0 i1 sz) xs (k+1))/\kK q m cs (splice cs' (q+k*17+5) (fH ly))):=ah ⟨by
     rw[<-BH _ _ hkx,HX.out,HLF.out]
     exact hput.1,hC.out.2.trans (by have:=hput.2;rw[jc,HM.out]at this;exact this)⟩
    have sH:=nZ.own (M:=λb=>b=R) jU λb hb h=>by subst h;exact⟨sG,uN⟩
    have pJ:Out (λb=>b=Y.pm\/b=R) w (jD.setRow R (splice cs' (q+k*17+5) (fH ly))):=(hO.trans qF).trans (jU.mono λb _ h => .inr h);have B11:=B10.out (M:=λb=>b=R) n2 jU;have hOr:Out (λb=>b=Y.pm\/b=R) wr (jD.setRow R (splice cs' (q+k*17+5) (fH ly))):=qF.trans (jU.mono λb _ h => .inr h);have vQ:=ah (hST.out.out (M:=λb=>b=Y.pm\/b=R) ak hOr);have Jf:=ah (xk zq.out hOr ak);have ad5:∀b,b<w.heap.size->P2 b->P b:=λb hb h=>yX b hb (Jd b (bA hb (aK hO.size jM.size)) h);generalize jD.setRow R (splice cs' (q+k*17+5) (fH ly))=rP at *;generalize splice cs' (q+k*17+5) (fH ly)=cs2 at *;clear hx hx6 KF hput oq jU Cr vP IC Je B10 B6 A0 vU tX jM mq qF QD BJ l0 aA aB aY l2 bM bN cz lz Nu SI hOr Jd nZ;go_wp2
    go_roundw
    case rel=>exact⟨k+1,n2',P2,cs2,by omega,by go_num,by omega,sH,sG,ad5,pF,Yx,B11,vQ,Jf,pJ⟩
    case measure=>simp[intOf];omega
  . obtain rfl:k=m:=by omega
    have hlen1:xs1.length=k:=by rw[<-Yz.out,List.length_mapIdx,HM.out]
    have Vj:Hid (gV cs' q xs1/\kK q k cs cs'):=ah (by
     have:=hC.out;rw[<-HM.out,Fv,Yz.out]at this;rw[<-HM.out]
     exact this)
    have KJ:Hid (∀x∈xs1,Nt Y B D F f i0 x):=ah (by
     rw[<-Yz.out];intro x hx;obtain⟨i,hi,e⟩:=List.mem_mapIdx.1 hx;rw[<-e]
     exact abK i (HOK.out _ (List.getElem_mem _)))
    have aea:Hid (jw B f xs1 xs1.length=jw B f xs xs.length):=ah (by
     rw[<-Yz.out];unfold jw;rw[List.take_length,List.take_length];congr 1
     exact jb5 bI λi h1 h2=>by simp[lnF];rfl)
    have hn1:n'<=n+jw B f xs xs.length:=by have:=hn';rw[HM.out];exact this
    have BK:=ah hlen1;have af4:Hid (deep=if high = -1 then (o7 xs1).foldl max 0 else high):=ah HDP.out.symm;have CQ:=Yi (some ⟨R,q,none⟩) xs1 c wr (Vj.out.1.ims hAr) ak;rw[hlen1]at CQ;clear hlen1 hC hn' hlt TL Yz HDP HI;have qD:=ah hSr
    go_upto_if 70 with(fail)
    go_cut [3]from 69 to 73 (λv w2=>v=.int .i64 deep/\Below wr wr w2)
    case first =>
     by_cases hh:high = -1
     . have e1:=af4.out
       rw[if_pos hh]at e1;have E1:=ah e1;clear e1
       go_wp2_with (go_at_call 178;(with_reducible refine CQ.mono ?_);rintro e' w5 ⟨rfl,hb⟩)
       go_meet
       case rel=>exact⟨by rw[E1.out],hb⟩
     . have e1:=af4.out
       rw[if_neg hh]at e1;exact Z3h
    case rest =>
     obtain⟨rfl,hb5⟩:=hcut;have hs5:=hb5.size;have hwr:=hO.size;have hS5:=qD.out.after hb5;have yR:=hAr.keep hb5;have B5:=A0.keep hb5;have QE:=ah (hST.out.keep hb5);have Gq:Out (λb=>b=Y.pm\/b=R) w wc:=Out.trans' hO (Out.of_below (M:=λ_=>False) hb5) λ_ _ q=>q.elim;have YB:wc.cell? ⟨T,44,none⟩=some (.int .i64 (s.c 44)):=(QE.out.cell 44).trans (dG s ak rfl);have lT:=QE.out.lt;obtain⟨l0,aA,aB,aY⟩:=At.three B5;have yj:=Yv hL hK uo wu.out hkm R q c i0 i0 i1 deep xs1 cs' wc n' P' hS5 yR Vj.out.1 KJ.out yh uN (by rw[aea.out];have:=HN.out;omega) (by rw[BK.out];omega);rw[aea.out,BK.out]at yj;have hPc:∀b,b<w.heap.size->b<wc.heap.size:=λb h=>by omega
     have HPC:=ah hPc;clear CQ hPc
     go_upto_if 75 with(fail)
     go_cut []from 73 to 82 (λw2=>∃(n2:Nat) (P2:Nat->Prop) (cs2:Array Value),n2<=n+2*jw B f xs xs.length/\qR Y B F w0 P0 n2 P2 w2/\¬ P2 R/\(∀b,b<w.heap.size->P2 b->P b)/\At w2 R (.cells cs2 216)/\Hid (gV cs2 q xs2/\kK q k cs cs2)/\Out (λb=>b=Y.pm\/b=R) wc w2)
     case first =>
      by_cases hh:s.c 44=0
      . have e1:=HX2.out
        unfold uY at e1;rw[if_pos hh]at e1;have E1:=ah e1;clear e1
        go_wp2_with (go_at_call 179;(with_reducible refine yj.mono ?_);rintro e' w6 ⟨rfl,n2,P2,cs2,hn2,tX,sG,hP2,vU,hI6,hM6,jM⟩)
        go_meet
        case rel=>exact⟨n2,P2,cs2,by omega,tX,sG,λb hb h=>yX b hb (hP2 b (HPC.out b hb) h),vU,ah ⟨by rw[<-E1.out];exact hI6,Vj.out.2.trans hM6⟩,jM⟩
      . have e1:=HX2.out
        unfold uY at e1;rw[if_neg hh]at e1;have E1:=ah e1;clear e1;go_wp2
        go_meet
        case rel=>exact⟨n',P',cs',by omega,hS5,yh,yX,yR,ah (by rw[<-E1.out];exact Vj.out),Out.refl _ _⟩
     case rest =>
      obtain⟨n2,P2,cs2,hn2,tX,sG,hP2,vU,hC6,jM⟩:=hcut
      have HL2:Hid (xs2.length=k):=ah (by
       rw[<-HX2.out];unfold uY;split
       . rw[List.length_map,BK.out]
       . exact BK.out)
      have hs6:=jM.size;have B6:=B5.out (M:=λb=>b=Y.pm\/b=R) ak jM;have YC:=ah (QE.out.out (M:=λb=>b=Y.pm\/b=R) ak jM);have af5:Out (λb=>b=Y.pm\/b=R) w wc:=Gq.trans jM;clear yj jM Gq QE B5 yR hS5 hn1 HX2 KJ aea yh yX YB l0 aA aB aY hO hST zq A0 hAr qD hSr Vj hb5;have aeb:wc.cell? ⟨T,43,none⟩=some (.int .i64 (s.c 43)):=(YC.out.cell 43).trans (dG s ak rfl);have KI:wc.cell? ⟨T,46,none⟩=some (.int .i64 (s.c 46)):=(YC.out.cell 46).trans (dG s ak rfl);have lT6:=YC.out.lt;have Wy:=vU.lt;obtain⟨l0,aA,aB,aY⟩:=At.three B6;have hSd:Below wc wc wc.drew:=Below.drew aG
      go_upto_region 12 with(fail)
      refine jy (S:=λX=>Below wc wc X) 12 ?_ ?_
      . exact hSd
      intro hx;clear hSd;refine aS 0 ?_;refine aS 1 ?_;refine aS 2 ?_;refine aS 5 ?_;refine aS 6 ?_;refine aS 7 ?_;refine aS 8 ?_;refine aS 9 ?_;refine tk1 3 ?_;refine aj.Step.call eD (oZ 0 _) ?_;rintro e' w7 ⟨rfl,hw7⟩;have pG:Below wc.drew wc.drew w7:=hw7▸aD aG _;have AQ:At w7 wc.drew (.cells #[()] 3):=hw7▸At.new _ _;clear hw7;replace hx:=Below.ay hx aF pG;generalize wc.drew.heap.size=Bq at *;refine⟨_,rfl,λ_=>hx,?_⟩
      (try simp only[bV,bW,bX,tks])
      have oD:=adW (some ⟨R,q,none⟩) xs2 c Bq w7 (hC6.out.1.ims (vU.keep hx)) (by rw[HL2.out];omega) (AQ.cell 0) AQ.lt;rw[HL2.out]at oD;refine tk1 4 ?_;refine aj.Step.call eD oD ?_;rintro e' w8 ⟨⟨bt,rfl,gbt,hT⟩,yc⟩;replace hx:=Below.ay hx aF yc;refine⟨_,rfl,λ_=>hx,?_⟩
      (try simp only[bV,bW,bX,tks])
      have Vk:=Fu (some ⟨bt,0,none⟩) (vO xs2) k k (s.c 43) i0 (s.c 46) w8 (by
       have h1:=iI _ _ LY hT;have h2:=tV (vO xs2);rw[z8,HL2.out]at h2;rw[h2]at h1
       exact h1) (by rw[z8,HL2.out]) aF ak
      refine tk1 10 ?_;refine aj.Step.call eD Vk ?_;rintro e' w9 ⟨⟨bst,rfl,gst,QF⟩,iM⟩;replace hx:=Below.ay hx aF iM;refine⟨_,rfl,λ_=>hx,?_⟩
      (try simp only[bV,bW,bX,tks])
      refine aS 11 ?_;refine jk ?_;have hs9:=hx.size;have aks:wc.heap.size<=bst:=by
       have h1:=pG.size;have h2:=yc.size;simp only[World.size_drew]at h1;omega
      have qO:=vU.keep hx;have Hf:=tX.after hx;have YD:=ah (YC.out.keep hx);have Jc:Out (λb=>b=Y.pm\/b=R) w w9:=Out.trans' af5 (Out.of_below (M:=λ_=>False) hx) λ_ _ q=>q.elim;obtain⟨stl,abO⟩:=aC (Ju.row (Ju.starts (s.c 43) i0 (s.c 46) (vO xs2)) k);rw[abO]at QF;have af6:stl.length=k:=by rw[<-abO,Ju.qy]
      have HBG:Hid (uZ s i0 deep xs2=xs2.mapIdx (lnB (s.c 44) deep stl)):=ah (by unfold uZ;rw[HL2.out,abO]);have aiE:=ah af6;have af7:=ah QF;have hgT:T<w9.heap.size:=bA lT6 hs9;clear abO af6 QF hx vU tX YC af5 B6 oD Vk hT gbt gst pG yc iM AQ aeb KI l0 aA aB aY lT6 Wy
      go_upto_region 14 with(fail)
      go_loopw [95] (λiv wr=>∃(j:Nat) (BL:Array Value),j<=k/\iv=.int .i64 j/\qR Y B F w0 P0 n2 P2 wr/\At wr R (.cells BL 216)/\Hid (gV BL q (tT (lnB (s.c 44) deep stl) xs2 j)/\kK q k cs BL)/\Hid (At wr T (.cells (cells s) 59))/\Hid (Ints wr (some ⟨bst,0,none⟩) stl)/\Out (λb=>b=Y.pm\/b=R) w wr) (λiv _=>k-(intOf iv).toNat)
      case atStart=>exact⟨0,cs2,gF _,rfl,Hf,qO,ah ⟨by rw[BI];exact hC6.out.1,hC6.out.2⟩,YD,af7,Jc⟩
      case round =>
       clear Hf qO YD af7 Jc hC6;obtain⟨j,BL,hj,rfl,hSr,hAr,hC,hST,zq,hO⟩:=hrel;by_cases hlt:j<k
       . have hltz:(j:Int)<(k:Int):=by omega
         have hkx:j<xs2.length:=by rw[HL2.out];exact hlt
         have hkc:j<(tT (lnB (s.c 44) deep stl) xs2 j).length:=by rw[jc];exact hkx
         have qU:=hC.out.1.at_ hAr hkc;rw[qE _ _ hkx]at qU;obtain⟨x,hx⟩:=aC (xs2[j]);rw[hx]at qU;have HX:=ah hx;have HIM:=ah qU;have qD:=ah hSr;have Dk:=hAr.lt;obtain⟨lz,cz⟩:=lints zq.out (by rw[aiE.out];exact hlt);obtain⟨v,hv⟩:=aC (stl.getD j 0);rw[hv]at cz;have HV:=ah hv;have YB:wr.cell? ⟨T,44,none⟩=some (.int .i64 (s.c 44)):=(hST.out.cell 44).trans (dG s ak rfl);have lTr:=hST.out.lt;clear qU hx hv hSr
         go_upto_region 17 with(fail)
         have hSd:Below wr wr wr.drew:=Below.drew aG;refine jy (S:=λX=>Below wr wr X) 10 ?_ ?_
         . exact hSd
         intro hx;clear hSd;refine aS 0 ?_;refine aS 1 ?_;refine aS 3 ?_;refine aS 4 ?_;refine mG 5 rfl (Fh (.tmp 107) bB rfl rfl (λX h=>sD.keep HIM.out h Dk)) ?_;refine aS 7 ?_;refine tk1 2 ?_;refine aj.Step.call eD (oZ 1 _) ?_;rintro e' w7 ⟨rfl,hw7⟩;have pG:Below wr.drew wr.drew w7:=hw7▸aD aG _;have AQ:At w7 wr.drew (.cells #[.int .i64 1] 3):=hw7▸At.new _ _;clear hw7;replace hx:=Below.ay hx aF pG;generalize wr.drew.heap.size=Bq at *;refine⟨_,rfl,λ_=>hx,?_⟩
         (try simp only[bV,bW,bX,tks])
         refine tk1 6 ?_;refine aj.Step.call eD (SA x Bq w7 (AQ.cell 0)) ?_;rintro e' w8 ⟨rfl,yc⟩;replace hx:=Below.ay hx aF yc;refine⟨_,rfl,λ_=>hx,?_⟩
         (try simp only[bV,bW,bX,tks])
         refine tk1 8 ?_;refine aj.Step.call eD (Ct (s.c 44) (Co x) deep w8) ?_;rintro e' w9 ⟨rfl,rfl⟩;refine⟨_,rfl,λ_=>hx,?_⟩
         (try simp only[bV,bW,bX,tks])
         refine aS 9 ?_;refine jk ?_;have hs8:=hx.size;have PZ:=hAr.keep hx;have hS8:=qD.out.after hx;have af8:=ah (hST.out.keep hx);have af9:=ah (zq.out.keep hx λ_ a ha=>by injection ha with ha;rw[<-ha];exact lz);have Yt:Out (λb=>b=Y.pm\/b=R) w w8:=Out.trans' hO (Out.of_below (M:=λ_=>False) hx) λ_ _ q=>q.elim;have aec:=ah (sD.keep (x:=x) HIM.out hx Dk);have c13:w8.cell? ⟨R,q+j*17+13,none⟩=some (.int .i64 x.m0):=(aec.out 13 ak).trans rfl;have c15:w8.cell? ⟨R,q+j*17+15,none⟩=some (.int .i64 x.m2):=(aec.out 15 ak).trans rfl;obtain⟨la,hla⟩:=aC (Ju.across (s.c 44) (Co x) deep);rw[hla];obtain⟨p0,hp0⟩:=aC (IntKind.i64.wrap (v+x.m0));obtain⟨p1,hp1⟩:=aC (IntKind.i64.wrap (la+x.m2));have HLB:=ah (show lnB (s.c 44) deep stl j x={ x with ld:={ x.ld with a0:=p0,a1:=p1 } }by unfold lnB;rw[HV.out,hla,<-sK (v+x.m0),<-sK (la+x.m2),hp0,hp1]);have hFI:q+j*17+10+2<=BL.size:=by
          have:=hC.out.1.1;rw[jc]at this;have h2:j*17+17<=xs2.length*17:=by omega
          omega
         have O7:=ah hFI;clear hla pG yc AQ hx hAr hST zq hO HIM qD cz lz YB lTr hFI HV Dk;have lR8:=PZ.lt
         go_upto_region 18 with(fail)
         have hSd:Out (λb=>b=R) w8 w8.drew/\w8.drew.cell? ⟨R,q+j*17+13,none⟩=some (.int .i64 x.m0)/\w8.drew.cell? ⟨R,q+j*17+15,none⟩=some (.int .i64 x.m2):=⟨(Out.refl _ _).drew,c13,c15⟩;refine jy (S:=λX=>Out (λb=>b=R) w8 X/\X.cell? ⟨R,q+j*17+13,none⟩=some (.int .i64 x.m0)/\X.cell? ⟨R,q+j*17+15,none⟩=some (.int .i64 x.m2)) 22 ?_ ?_
         . exact hSd
         intro hx;clear hSd;refine aW 0 ?_;refine aW 1 ?_;refine aW 2 ?_;refine aW 3 ?_;refine aW 4 ?_;refine aW 5 ?_;refine aW 6 ?_;refine aW 7 ?_;refine aW 8 ?_;refine aW 9 ?_;refine aW 10 ?_;refine aW 11 ?_;refine aW 12 ?_;refine aW 13 ?_;refine aW 14 ?_;refine aW 15 ?_;refine aW 16 ?_;refine aW 17 ?_;refine aW 18 ?_;refine aW 19 ?_;refine aW 20 ?_;refine tk1 21 ?_;have YE:At w8.drew R (.cells BL 216):=PZ;refine aj.Step.skip (bH adR (.tmp 132) (.tmp 129) rfl rfl rfl YE rfl O7.out LH) ?_;have pF:=At.setRow YE (splice BL (q+j*17+10) #[p0,p1]);have jU:Out (λb=>b=R) w8.drew (w8.drew.setRow R (splice BL (q+j*17+10) #[p0,p1])):=Out.setRow (M:=λb=>b=R) (Out.refl _ _) rfl _;have af':(w8.drew.setRow R (splice BL (q+j*17+10) #[.int .i64 p0,.int .i64 p1])).cell? ⟨R,q+j*17+13,none⟩=some (.int .i64 x.m0):=by
          have h1:=jd (cs:=BL) (vs:=#[p0,p1]) (q:=q+j*17+10) (k:=q+j*17+13) O7.out (.inr bI);rw[pF.cell,h1,<-YE.cell];exact c13
         have aga:(w8.drew.setRow R (splice BL (q+j*17+10) #[.int .i64 p0,.int .i64 p1])).cell? ⟨R,q+j*17+15,none⟩=some (.int .i64 x.m2):=by
          have h1:=jd (cs:=BL) (vs:=#[p0,p1]) (q:=q+j*17+10) (k:=q+j*17+15) O7.out (.inr bI);rw[pF.cell,h1,<-YE.cell];exact c15
         refine⟨λ_=>⟨((Out.refl _ w8).drew).trans jU,af',aga⟩,?_⟩
         (try simp only[bV,bW,bX,tks])
         refine jk ?_;have LK:Out (λb=>b=R) w8 (w8.drew.setRow R (splice BL (q+j*17+10) #[p0,p1])):=((Out.refl _ w8).drew).trans jU;have hput:=hC.out.1.putAt hkc p0 p1;rw[qE _ _ hkx,HX.out]at hput
         have Yx:Hid (gV (splice BL (q+j*17+10) #[p0,p1]) q (tT (lnB (s.c 44) deep stl) xs2 (j+1))/\kK q k cs (splice BL (q+j*17+10) #[p0,p1])):=ah ⟨by
          rw[<-BH _ _ hkx,HX.out,HLB.out]
          exact hput.1,hC.out.2.trans (by have:=hput.2;rw[jc,HL2.out]at this;exact this)⟩
         have sH:=hS8.own (M:=λb=>b=R) LK λb hb h=>by subst h;exact⟨sG,uN⟩
         have pJ:Out (λb=>b=Y.pm\/b=R) w (w8.drew.setRow R (splice BL (q+j*17+10) #[p0,p1])):=Yt.trans (LK.mono λb _ h => .inr h);have vQ:=ah (af8.out.out (M:=λb=>b=R) ak LK);have Jf:=ah (xk af9.out LK ak);generalize w8.drew.setRow R (splice BL (q+j*17+10) #[.int .i64 p0,.int .i64 p1])=rP at *;generalize splice BL (q+j*17+10) #[.int .i64 p0,.int .i64 p1]=cs4 at *;clear hx hput PZ YE jU LK c13 c15 af' aga hS8 af8 af9 Yt aec hp0 hp1;go_wp2
         go_roundw
         case rel=>exact⟨j+1,cs4,by omega,by go_num,sH,pF,Yx,vQ,Jf,pJ⟩
         case measure=>simp[intOf];omega
       . obtain rfl:j=k:=by omega
         go_wp2
         go_ret
         refine⟨rfl,n2,P2,BL,by rw[HM.out]at hn2;exact hn2,hSr,sG,hP2,hAr,?_,hC.out.2,hO⟩;have:=hC.out.1;rw[<-HL2.out,Fv,<-HBG.out]at this;exact this
end
def Ab(it:Nat->Fe.It)(ex:Nat->Int)(n:Nat)(r1 gap:Int):List Int :=
 if r1 ≠ -1/\n<=64 then mZ it n (qm (Fw.wr (r1-Fw.wr (gap*Fw.wr ((n:Int)-1)))) ex n)else Ju.row (λi=>Fe.clamp (it i) (it i).b) n
theorem KN(it:Nat->Fe.It)(ex:Nat->Int)(n:Nat)(r1 gap:Int):(Ab it ex n r1 gap).length=n:=by
 unfold Ab;split
 . simp[mZ]
 . exact Ju.qy _ _
theorem abP(A:Option Addr)(xs:List Im)(c:Nat)(r0 r1 gap:Int)(it:Nat->Fe.It)(ex:Nat->Int)(st:Nat->Re.St)(w:World)(hx:Ku w A xs)(hl:xs.length<=10000)(hit:∀i (h:i<xs.length),it i=xs[i].it)(hex:∀i (h:i<xs.length),ex i=ext1 xs[i] (st i))(hbx:∀i (h:i<xs.length),∃fl ap ib,aR w xs[i].bx (st i) fl ap ib) :
  Calls ja0 138 #[.slice A xs.length c,.agg #[r0,r1],gap] w λe w' =>
   (∃b,e=.returned (.slice (some ⟨b,0,none⟩) xs.length xs.length)/\w.heap.size<=b/\Ints w' (some ⟨b,0,none⟩) (Ab it ex xs.length r1 gap))/\Below w w w':=by
 have b1:Below w w (w.alloc (.cells #[r0,r1] 81)):=aD aG _;have A0:At (w.alloc (.cells #[r0,r1] 81)) w.heap.size (.cells #[r0,r1] 81):=At.new _ _;obtain⟨w1,hw1⟩:=aC (w.alloc (.cells #[r0,r1] 81));rw[hw1]at b1 A0;have hx1:Ku w1 A xs:=hx.after b1
 have key1:=λh64=>Ym A xs c r0 r1 gap it ex st w1 hx1 h64 hit hex (λi h=>by
  obtain⟨fl,ap,ib,q⟩:=hbx i h
  exact⟨fl,ap,ib,aR.keep q b1⟩)
 have key2:=adV #[] (λi=>Fe.clamp (it i) (it i).b) A xs c w1 hx1 hl (λi h X hb=>by
  simp only[hit i h]
  exact adQ xs[i] X)
 obtain⟨m,hm⟩:=aC xs.length;rw[hm]at hl key1 key2 ⊢;have HW1:=ah hw1;have HB1:=ah b1;have hsz:=b1.size;clear hx hx1 hit hex hbx hm hw1 b1;obtain⟨l0,aA,aB⟩:=At.two A0;obtain⟨ans,gy⟩:=aC (Ab it ex m r1 gap);rw[gy];unfold Ab at gy;go_enter Tryz.func138,Tryz.ntmps138
 go_upto_region 1 with(fail)
 rw[HW1.out];by_cases hc:r1 = -1
 . rw[if_neg ak]at gy
   have fT:=ah gy;clear gy key1;exact Z26
 . by_cases h64:m<=64
   . rw[if_pos ⟨hc,h64⟩]at gy
     replace key1:=key1 h64;rw[gy]at key1;clear key2 gy;have aiF:(m:Int)<=64:=by omega
     go_wp2_with (go_at_call 177;(with_reducible refine key1.mono ?_);rintro e' w4 ⟨⟨b,rfl,gb,hT⟩,hb4⟩)
     go_ret
     exact⟨⟨b,rfl,aK hsz gb,hT⟩,HB1.out.trans (hb4.mono hsz)⟩
   . rw[if_neg ak]at gy
     have fT:=ah gy;clear gy key1;have aiF:¬ (m:Int)<=64:=by omega
     exact Z26
theorem YF(W:World):(isAgg 137).run ja0 W=.ok true W:=by kernel_rfl
theorem YG(W:World):(sizeOf 137).run ja0 W=.ok 6 W:=by kernel_rfl
theorem ql{S:World->Prop}(p:Operand){s:Re.St}{fl ap:Value}{ib:Bool}(hw:Region.wanted o (yielded ops a.tmps)=true)(ho:o.op=.load 137 p)(hp:a.eval p=.pointer (some ⟨b,55,none⟩))(h:∀X,S X->aR X b s fl ap ib):aj.Reads ja0 ops S o (.agg #[s.c 3,s.c 4,s.c 7,s.c 8,s.c 11,s.c 12]) a :=
 .inl ⟨hw,λX hX=>iH YF YG p ho hp rfl λj hj=>by
  obtain⟨l2,c0,c1,c2,c3,c4,c5,_⟩:=At.bx0 (h X hX)
  match j,hj with
  | 0,_=>exact c0
  | 1,_=>exact c1
  | 2,_=>exact c2
  | 3,_=>exact c3
  | 4,_=>exact c4
  | 5,_=>exact c5⟩
theorem QG{S:World->Prop}(p:Operand){s:Re.St}{fl ap:Value}{ib:Bool}(hw:Region.wanted o (yielded ops a.tmps)=true)(ho:o.op=.load 137 p)(hp:a.eval p=.pointer (some ⟨b,61,none⟩))(h:∀X,S X->aR X b s fl ap ib):aj.Reads ja0 ops S o (.agg #[s.c 5,s.c 6,s.c 9,s.c 10,s.c 13,s.c 14]) a :=
 .inl ⟨hw,λX hX=>iH YF YG p ho hp rfl λj hj=>by
  obtain⟨l2,c0,c1,c2,c3,c4,c5,_⟩:=At.bx1 (h X hX)
  match j,hj with
  | 0,_=>exact c0
  | 1,_=>exact c1
  | 2,_=>exact c2
  | 3,_=>exact c3
  | 4,_=>exact c4
  | 5,_=>exact c5⟩
section
variable {Y:rF} {B:Int->Fw.Bx} {D:Int->Prop} {KM:World->Nat->Prop}
theorem SK(hK:∀(X X':World) (b:Nat),KM X b->Below X X X'->KM X' b)(z k i0 i1:Int)(hz:D z)(hk:D k)(bk:Nat)(hbk:bk=Y.bl k)(w:World)(hR:RO w Y B D KM) :
  Calls ja0 137 #[Y.lb,.agg #[z,i0,i1],bk] w λe w'=>e=.returned (.agg #[Fw.nP B z i0 k,.int .i64 (-1)])/\Below w w w':=by
 obtain⟨ans,gy⟩:=aC (Fw.nP B z i0 k);rw[gy];unfold Fw.nP Fw.LJ at gy;obtain⟨sk,hsk⟩:=aC ((B k).sty);obtain⟨sz,hsz⟩:=aC ((B z).sty);rw[hsk,hsz]at gy;simp only[Nat.mul_zero,Nat.add_zero]at gy;have fT:=ah gy;have HBK:=ah hbk;have HSK:=ah hsk;have HSZ:=ah hsz;clear gy hbk hsk hsz;go_enter Tryz.func137,Tryz.ntmps137
 go_upto_region 1 with(fail)
 generalize hW:ja5 _ _=W0;have A0:At W0 w (.cells #[z,i0,i1] 86):=hW▸At.alloc (At.new _ _) _;have A1:At W0 (w.heap.size+1) (.cells #[(),()] 81):=hW▸At.new' _ bI;have hB0:Below w w W0:=hW▸aD (aD aG _) _;clear hW
 go_upto_region 2 with(go_at_call 33;(with_reducible refine(nC _).mono ?_);rintro e' w4 ⟨rfl,hb4⟩)
 generalize hW:ja5 _ _=W1;have A2:At W1 w4 (.cells #[.int .i64 (-1),.int .i64 (-1)] 81):=hW▸At.new _ _;have hb5:Below W0 W0 W1:=hW▸(hb4.trans (Below.mono (aD aG _) hb4.size));clear hW;have gS:W0.heap.size<=w4.heap.size:=hb4.size;generalize w4.heap.size=T at *;clear hb4;have l1':=A1.lt;have hnT:w.heap.size+1≠T:=by omega
 have akt:w.heap.size≠T:=by omega
 have hgT:w.heap.size<=T:=by omega
 replace A0:=A0.keep hb5;replace A1:=A1.keep hb5;have hB1:Below w w W1:=Below.ay hB0 aF hb5;have uN:=hR.keep hK hB1;have hbx:=(uN.box k hk).1;rw[<-HBK.out,HSK.out]at hbx;have hbz:=(uN.box z hz).1;obtain⟨bz,aed⟩:=aC (Y.bl z);rw[aed,HSZ.out]at hbz;have hlk:=λX (h:Below W1 W1 X)=>(uN.keep hK h).look hz;simp only[aed]at hlk;have c44:W1.cell? ⟨bz,44,none⟩=some (.int .i64 (sz.c 44)):=aR.int hbz 44 ak rfl;have LG:=aR.lt hbz;have KP:=uN.lay;generalize Y.vf k=vf at hbx;generalize Y.va k=va at hbx;generalize (B k).ib=ib at hbx;have qM:=ah hbx;obtain⟨l2,aL,aM,aP,aQ,bO,bP,bM,bN⟩:=At.bx0 hbx;obtain⟨lY,yK,yL,AZ,Ba,Bb,Bc⟩:=At.six KP;obtain⟨l0,aA,aB,aY⟩:=At.three A0;clear hbx hbz KP uN hR hB0 aed hb5;have hSd:Below W1 W1 W1.drew:=Below.drew aG;cases hfx:Fx.dY (sk.c 3) i0 with
 | true =>
   have E:Hid (-1=ans):=ah (by rw[<-fT.out,hfx];simp);have Wo:=ah hfx;clear hfx fT;refine jy (S:=λX=>Below W1 W1 X) 24 ?_ ?_
   . exact hSd
   intro hx;clear hSd;refine aS 0 ?_;refine aS 1 ?_;refine aS 2 ?_;refine aS 3 ?_;refine mG 4 rfl (ql (.tmp 12) bB rfl rfl (λX h=>qM.out.keep h)) ?_;refine aS 5 ?_;refine aS 6 ?_;refine aS 7 ?_;refine tk1 8 ?_;refine aj.Step.call Z4a (jJ _ _ _ _ _ _ _ _) ?_;rintro e' w6 ⟨rfl,hb⟩;rw[Wo.out];replace hx:=Below.ay hx aF hb;clear hb;refine⟨_,rfl,λ_=>hx,?_⟩
   (try simp only[bV,bW,bX,tks])
   refine aS 9 ?_;refine aS 10 ?_;refine aS 11 ?_;refine aS 12 ?_;refine aS 13 ?_;refine aS 14 ?_;refine aS 15 ?_;refine aS 16 ?_;refine aS 17 ?_;exact Zg
 | false =>
   have Wo:=ah hfx;by_cases h44:sz.c 44=0
   . have E:Hid (-1=ans):=ah (by rw[<-fT.out,hfx,h44];simp)
     clear hfx fT;refine jy (S:=λX=>Below W1 W1 X) 24 ?_ ?_
     . exact hSd
     intro hx;clear hSd;refine aS 0 ?_;refine aS 1 ?_;refine aS 2 ?_;refine aS 3 ?_;refine mG 4 rfl (ql (.tmp 12) bB rfl rfl (λX h=>qM.out.keep h)) ?_;refine aS 5 ?_;refine aS 6 ?_;refine aS 7 ?_;refine tk1 8 ?_;refine aj.Step.call Z4a (jJ _ _ _ _ _ _ _ _) ?_;rintro e' w6 ⟨rfl,hb⟩;rw[Wo.out];replace hx:=Below.ay hx aF hb;clear hb;refine⟨_,rfl,λ_=>hx,?_⟩
     (try simp only[bV,bW,bX,tks])
     refine aS 9 ?_;refine aS 10 ?_;refine aS 11 ?_;refine aS 12 ?_;refine aS 13 ?_;refine aS 14 ?_;refine aS 15 ?_;refine aS 16 ?_;refine mG 17 rfl (bU bB rfl rfl rfl (λX h=>hlk X h)) ?_;exact Zg
   . have E:Hid (Fw.byc sk i0=ans):=ah (by rw[<-fT.out,hfx,if_pos ⟨rfl,h44⟩])
     clear hfx fT;refine jy (S:=λX=>Below W1 W1 X) 24 ?_ ?_
     . exact hSd
     intro hx;clear hSd;refine aS 0 ?_;refine aS 1 ?_;refine aS 2 ?_;refine aS 3 ?_;refine mG 4 rfl (ql (.tmp 12) bB rfl rfl (λX h=>qM.out.keep h)) ?_;refine aS 5 ?_;refine aS 6 ?_;refine aS 7 ?_;refine tk1 8 ?_;refine aj.Step.call Z4a (jJ _ _ _ _ _ _ _ _) ?_;rintro e' w6 ⟨rfl,hb⟩;rw[Wo.out];replace hx:=Below.ay hx aF hb;clear hb;refine⟨_,rfl,λ_=>hx,?_⟩
     (try simp only[bV,bW,bX,tks])
     refine aS 9 ?_;refine aS 10 ?_;refine aS 11 ?_;refine aS 12 ?_;refine aS 13 ?_;refine aS 14 ?_;refine aS 15 ?_;refine aS 16 ?_;refine mG 17 rfl (bU bB rfl rfl rfl (λX h=>hlk X h)) ?_;refine aS 18 ?_;refine aS 19 ?_;refine aS 20 ?_;refine aS 21 ?_;refine aS 22 ?_;refine aS 23 ?_;refine jk ?_;replace A0:=A0.keep hx;replace A1:=A1.keep hx;replace A2:=A2.keep hx;have hBx:Below w w _:=Below.ay hB1 aF hx;clear l0 aA aB aY lY yK yL AZ Ba Bb Bc l2 aL aM aP aQ bO bP bM bN c44 LG hlk;have aiG:=ah (qM.out.keep hx);obtain⟨l0,aA,aB,aY⟩:=At.three A0
     go_upto_region 4 with(go_at_call 105;(with_reducible refine(M9 bk sk vf va ib i0 i1 _ aiG.out).mono ?_);rintro e' w7 ⟨rfl,hb⟩;replace A1:=A1.keep hb;replace A2:=A2.keep hb;obtain⟨l3,aZ,bq⟩:=At.two A2;have zT:=A2.thaw 0)
     generalize hW:ja4 _ _ _=W8;replace A2:At W8 T (.cells #[Fw.byc sk i0,.int .i64 (-1)] 81):=hW▸At.set A2 0 _;replace A1:At W8 (w.heap.size+1) (.cells #[(),()] 81):=hW▸At.off A1 hnT _ _;have hB9:Below w w W8:=by
      rw[<-hW];exact Below.setCell (Below.ay hBx aF hb) hgT _
     clear hW zT l3 aZ bq l0 aA aB aY hb;obtain⟨l3,aZ,bq⟩:=At.two A2;obtain⟨l4,fF,fG⟩:=At.two A1;have je:=A1.thaw 0;have jf:=A1.thaw 1;have lw:w.heap.size+1<w.heap.size+1+1:=by omega
     go_wp2;generalize hW:ja4 _ _ _=W6;replace A1:At W6 (w.heap.size+1) (.cells #[Fw.byc sk i0,.int .i64 (-1)] 81):=hW▸At.set (At.set A1 0 _) 1 _;have AA:Below w w W6:=by
      rw[<-hW];exact Below.setCell (Below.setCell hB9 nK _) nK _
     exact Z2c
end
def yt(l:List Fw.Ld):List Value:=l.flatMap λx=>(fH x).toList
theorem Jg(l:List Fw.Ld)(x:Fw.Ld):yt (l++[x])=yt l++(fH x).toList:=by simp[yt]
theorem YH(l:List Fw.Ld):∀i (h:i<l.length) j,j<7->(yt l)[i*7+j]? = (fH l[i])[j]? := by
 induction l with
 | nil=>intro i h;simp at h
 | cons x l ih =>
   intro i h j hj;have e:yt (x::l)=(fH x).toList++yt l:=rfl;rw[e];cases i with
   | zero =>
     rw[List.getElem?_append_left (by simp[fH];omega),Array.getElem?_toList];simp
   | succ i =>
     rw[List.getElem?_append_right (by simp[fH];omega)];have e2:(i+1)*7+j-(fH x).toList.length=i*7+j:=by simp[fH];omega
     rw[e2,ih i (by simpa using h) j hj];rfl
theorem Vl{W:World}{base:Nat}{v:Value}{l:List Fw.Ld}(x:Fw.Ld)(hown:W.ownsRow base 88 7 v l.length (yt l))(hbase:base<=W.heap.size)(hk:l.length<=10000) :
  ∃g c w',(Builtin.append_ #[145,145] 145 #[v,.slice W 1 1]).run ja0 (W.alloc (.cells (fH x) 88))=.ok (.slice (some ⟨g,0,none⟩) (l.length+1) c) w'/\w'.ownsRow base 88 7 (.slice (some ⟨g,0,none⟩) (l.length+1) c) (l++[x]).length (yt (l++[x]))/\Out (λb=>v.ownBlock=some b) (W.alloc (.cells (fH x) 88)) w':=by
 obtain⟨i0,hi0,hz0,hz1,hz2⟩:=info_parts Qu;have hA:=At.new W (.cells (fH x) 88)
 obtain⟨v',w',hr,ho,hg,_,_⟩:=run_append_own_at (P:=ja0) (w:=W.alloc (.cells (fH x) 88)) base 145 145 88 i0 _ 7 56 Tryz.underlying145 hi0 hz0 hz1 hz2 rfl aN v l.length _ (hown.alloc _) ⟨W,0,none⟩ 1 1 (fH x).toList rfl
  (by intro j u hj
      rw[addr_add,Nat.zero_add,hA.cell,<-hj,Array.getElem?_toList])
  (pY x) RN ak jB
 obtain⟨g,c,rfl⟩:=ownsRow_succ ho;refine⟨g,c,w',hr,?_,Out.grown hg λb h=>h⟩;rw[Jg,ja8];exact ho
theorem NA{base:Nat}{v:Value}{l:List Fw.Ld}(h:w.ownsRow base 88 7 v l.length (yt l))(hl:l≠[]):∃R cap cs,v=.slice (some ⟨R,0,none⟩) l.length cap/\v.ownBlock=some R/\base<=R/\At w R (.cells cs 88)/\o8 cs l:=by
 rcases h.2 with⟨rfl,h0⟩|⟨g,cap,cur,rfl,hb,hgb,hnc,hcm,hsz,htk⟩
 . exact absurd (List.length_eq_zero_iff.1 h0) hl
 . refine⟨g,cap,cur,rfl,rfl,hb,hgb,?_,λi hi j hj => ?_⟩
   . rw[hsz];exact Nat.mul_le_mul_right 7 hnc
   . have e:=YH l i hi j hj
     rw[<-htk,List.getElem?_take,if_pos ak,Array.getElem?_toList]at e;exact e
theorem vR{rest:List Oper}{Q:Exit->Act->World->Prop}(hw:Region.wanted o (yielded ops a.tmps)=true)(x:Operand)(ho:o.op=.buildSlice 145 1 #[(0,x)]){y:Fw.Ld}(hx:a.eval x=.agg (fH y))
  (h:wpList ja0 ops Q rest (a.put o.dst (.slice w 1 1)) (w.alloc (.cells (fH y) 88))):wpList ja0 ops Q (o::rest) a w:=by
 have hrun:(execOp a.eval o).run ja0 w=.ok (.value (.slice w 1 1)) (w.alloc (.cells (fH y) 88)):=by
  unfold execOp;simp only[ho];generalize a.eval=ev at *;unfold fH at hx ⊢;go_simp
 exact Z2u
theorem QH{r:Int}{e e':Nat->Int}{n:Nat}(h:∀i,i<n->e i=e' i):qm r e n=qm r e' n:=by
 induction n with
 | zero=>rfl
 | succ n ih=>simp only[qm];rw[ih λi hi=>h i ak,h n ak]
theorem Jh(h:Int->Int)(r:Int)(l:List Int):l.foldl (λa k=>Fw.wr (a-h k)) r=qm r (λi=>h (l.getD i 0)) l.length:=by
 have key:∀n,n<=l.length->(l.take n).foldl (λa k=>Fw.wr (a-h k)) r=qm r (λi=>h (l.getD i 0)) n:=by
  intro n
  induction n with
  | zero=>intro _;rfl
  | succ n ih =>
    intro hn;have hn':n<l.length:=hn;rw[List.take_succ_eq_append_getElem hn',List.foldl_append,ih ak];simp[qm,List.getD,ja6 hn']
 have:=key l.length aF
 rwa [List.take_length]at this
def Ji(B:Int->Fw.Bx)(f:Nat)(z i0 i1 k:Int):Fe.It:=Fw.asI (B k).sty 1 (Fw.wr ((Fw.lay B f k i0 i1 (Fw.nP B z i0 k) (-1)).s1-Fw.xJ (B k).sty 1)) i1
def Wz(B:Int->Fw.Bx)(f:Nat)(z i0 i1:Int)(x:Im):Im:={ x with it:=Ji B f z i0 i1 x.ld.id,ld:=Fw.lay B f x.ld.id i0 i1 (Fw.nP B z i0 x.ld.id) (-1) }
def clB(B:Int->Fw.Bx)(f:Nat)(z i0 i1:Int)(sz:List Int)(i:Nat)(x:Im):Im:={ x with ld:=Fw.lay B f x.ld.id i0 i1 (Fw.nP B z i0 x.ld.id) (Fw.wr (sz.getD i 0+Fw.xJ (B x.ld.id).sty 1)) }
def clE(al i0:Int)(st:List Int)(i:Nat)(x:Im):Fw.Ld:={ x.ld with a0:=Fw.wr (Ju.across al (Cn x) i0+x.m0),a1:=Fw.wr (st.getD i 0+x.m2) }
def clS(B:Int->Fw.Bx)(f:Nat)(z i0 i1:Int)(fl:List Int):List Int:=Ab (λi=>Ji B f z i0 i1 (fl.getD i 0)) (λi=>Fw.Uh B i0 1 (fl.getD i 0)) fl.length i1 ((B z).sty.c 46)
theorem NC(B:Int->Fw.Bx)(i0 r gap:Int)(it:Int->Fe.It)(fl:List Int):Ab (λi=>it (fl.getD i 0)) (λi=>Fw.Uh B i0 1 (fl.getD i 0)) fl.length r gap=if r ≠ -1/\fl.length<=64 then Fw.wJ B i0 r gap 1 it fl else fl.map λk=>Fe.clamp (it k) (it k).b:=by
 unfold Ab Fw.wJ Fw.left;split
 . rw[Jh];rfl
 . unfold Ju.row
   exact jb5 bI λi h1 h2=>by
    have h3:i<fl.length:=by simpa using h2
    simp[List.getD,ja6 h3]
theorem Hq(Y:rF)(B:Int->Fw.Bx)(f:Nat)(z i0 i1:Int)(fl:List Int)(hfl:(B z).fl=fl)(sz:List Int)(hsz:clS B f z i0 i1 fl=sz)(zs:List Im)(hzs:((iQ Y B i0 fl).map (Wz B f z i0 i1)).mapIdx (clB B f z i0 i1 sz)=zs)(high:Int)(hh:Li.long ((B z).sty.c 46) (o7 zs)=high) :
  Fw.uI B (Fw.lay B f) z i0 i1=(zs.mapIdx (clE ((B z).sty.c 44) i0 (Ju.row (Ju.starts ((B z).sty.c 43) (if i1 = -1 then high else i1) ((B z).sty.c 46) (o7 zs)) zs.length)),high):=by
 unfold Fw.uI;simp only[hfl];have e1:=NC B i0 i1 ((B z).sty.c 46) (Ji B f z i0 i1) fl;have e2:clS B f z i0 i1 fl=_:=e1;rw[hsz]at e2;have e3:(if i1 ≠ -1/\fl.length<=64 then Fw.wJ B i0 i1 ((B z).sty.c 46) 1 (λk=>Fw.asI (B k).sty 1 (Fw.wr ((Fw.lay B f k i0 i1 (Fw.nP B z i0 k) (-1)).s1-Fw.xJ (B k).sty 1)) i1) fl else fl.map λk=>Fe.clamp ((λk=>Fw.asI (B k).sty 1 (Fw.wr ((Fw.lay B f k i0 i1 (Fw.nP B z i0 k) (-1)).s1-Fw.xJ (B k).sty 1)) i1) k) ((λk=>Fw.asI (B k).sty 1 (Fw.wr ((Fw.lay B f k i0 i1 (Fw.nP B z i0 k) (-1)).s1-Fw.xJ (B k).sty 1)) i1) k).b)=sz:=e2.symm;simp only[]at e3 ⊢;rw[e3];have hlen:zs.length=fl.length:=by rw[<-hzs];simp[iQ]
 have hget:∀i (h:i<zs.length) (h':i<fl.length),zs[i]=clB B f z i0 i1 sz i (Wz B f z i0 i1 (wZ Y B i0 fl[i])):=λi h h'=>by
  subst hzs;simp[iQ]
 have hlong:(fl.mapIdx λi k=>Fw.lay B f k i0 i1 (Fw.nP B z i0 k) (Fw.wr (sz.getD i 0+Fw.xJ (B k).sty 1))).map (Fw.Ep B i0 1)=o7 zs:=by
  unfold o7
  exact jb5 (by simp[hlen]) λi h1 h2=>by
   have h3:i<fl.length:=by simpa using h1
   have h4:i<zs.length:=by rw[hlen];exact h3
   simp only[List.getElem_map,List.getElem_mapIdx];rw[hget i h4 h3];rfl
 rw[hlong,hh];congr 1
 exact jb5 (by simp[hlen]) λi h1 h2=>by
  have h3:i<fl.length:=by simpa using h1
  have h4:i<zs.length:=by rw[hlen];exact h3
  simp only[List.getElem_mapIdx];rw[hget i h4 h3];unfold clE;rw[Ju.J5 _ h4];rfl
theorem YI{B:Int->Fw.Bx}{f:Nat}{l l':List Im}(h:l.map (·.ld.id)=l'.map (·.ld.id))(k:Nat):jw B f l k=jw B f l' k:=by
 unfold jw;have e:∀m:List Im,(m.take k).map (λx=>Fw.cst B f x.ld.id)=((m.map (·.ld.id)).take k).map (Fw.cst B f):=λm=>by rw[<-List.map_take,List.map_map];rfl
 rw[e,e,h]
section
variable {Y:rF} {B:Int->Fw.Bx} {F:Int->Nat} {D:Int->Prop} {f:Nat}
theorem SL{i0 k:Int}(hd:D k)(hf:F k=f):Nt Y B D F f i0 (wZ Y B i0 k):=⟨hd,hf,rfl,rfl,rfl,rfl,rfl⟩
theorem abQ{z i0 i1:Int}{x:Im}(h:Nt Y B D F f i0 x):Nt Y B D F f i0 (Wz B f z i0 i1 x):=⟨h.d,h.f,h.bx,h.m0,h.m1,h.m2,h.m3⟩
theorem abR{z i0 i1:Int}{sz:List Int}{x:Im}(i:Nat)(h:Nt Y B D F f i0 x):Nt Y B D F f i0 (clB B f z i0 i1 sz i x):=⟨h.d,h.f,h.bx,h.m0,h.m1,h.m2,h.m3⟩
end
end Go.Proofs.YtfohooineeijkaaGreat.Fix
namespace Go.Proofs.YtfohooineeijkaaGreat.Fe
variable {S T:Nat->St}{n:Nat}
theorem agb(h:∀i,i<n->S i=T i):∀k,k<=n->pl S k=pl T k:=by
 intro k
 induction k with
 | zero=>intro _;rfl
 | succ k ih=>intro hk;simp only[pl];rw[ih ak,h k ak]
theorem agc(gr:Bool)(h:∀i,i<n->S i=T i):∀k,k<=n->ws gr S k=ws gr T k:=by
 intro k
 induction k with
 | zero=>intro _;rfl
 | succ k ih=>intro hk;simp only[ws];rw[ih ak,h k ak]
theorem abS(room:Int)(h:∀i,i<n->S i=T i):∀k,k<=n->left room S k=left room T k:=by
 intro k
 induction k with
 | zero=>intro _;rfl
 | succ k ih=>intro hk;simp only[left];rw[ih ak,h k ak]
theorem abT(h:∀i,i<n->S i=T i):∀k,k<=n->made S k=made T k:=by
 intro k
 induction k with
 | zero=>intro _;rfl
 | succ k ih=>intro hk;simp only[made];rw[ih ak,h k ak]
theorem abU{l l':Nat->It}(h:∀i,i<n->l i=l' i):∀k,k<=n->zF l k=zF l' k:=by
 intro k
 induction k with
 | zero=>intro _;rfl
 | succ k ih=>intro hk;simp only[zF];rw[ih ak,h k ak]
theorem YJ(gr:Bool)(room:Int)(h:∀i,i<n->S i=T i):∀i,i<n->round gr room n S i=round gr room n T i:=by
 have h1:∀i,i<n->shared gr room n S i=shared gr room n T i:=by
  intro i hi;unfold shared iW parts free want;rw[abS room h n aF,agc gr h n aF,agb h i ak,h i hi]
 intro i hi;unfold round froze;rw[abT h1 n aF,h1 i hi]
theorem Vm(gr:Bool)(room:Int)(h:∀i,i<n->S i=T i)(k:Nat):∀i,i<n->rounds gr room n S k i=rounds gr room n T k i:=by
 induction k with
 | zero=>exact h
 | succ k ih=>exact YJ gr room ih
theorem aee{l l':Nat->It}(room:Int)(h:∀i,i<n->l i=l' i):∀i,i<n->fin l n room i=fin l' n room i:=by
 have hg:El l n room=El l' n room:=by unfold El;rw[abU h n (aO _)]
 intro i hi;unfold fin;rw[hg];exact Vm _ _ (λi hi=>by unfold begun;rw[h i hi]) n i hi
end Go.Proofs.YtfohooineeijkaaGreat.Fe
namespace Go.Proofs.YtfohooineeijkaaGreat.Fix
open Go.ChangeShapes Go.WideShapes Go.ChangeAt Go.RowKit
open Go.Proofs.Tryz renaming prog → ja0
open List renaming getElem?_eq_getElem → ja6,length_append → ja8,ext_getElem → jb5,length_take → jc1
theorem Ht{l l':Nat->Fe.It}{n:Nat}(x:Int)(h:∀i,i<n->l i=l' i):mZ l n x=mZ l' n x:=by
 unfold mZ;exact List.map_congr_left λi hi=>by rw[Fe.aee _ h i (by simpa using hi)]
def rwI(Y:rF)(B:Int->Fw.Bx)(i0 k:Int):Im:={ wZ Y B i0 k with it:=Fw.vL B i0 k }
theorem Vn(Y:rF)(B:Int->Fw.Bx)(i0 gap:Int)(ks:List Int):lnS B i0 gap (ks.map (rwI Y B i0))=Fw.wJ B i0 i0 gap 0 (Fw.vL B i0) ks:=by
 unfold lnS Fw.wJ Fw.left;rw[Jh,List.length_map];have hg:∀i,i<ks.length->(ks.map (rwI Y B i0)).getD i default=rwI Y B i0 (ks.getD i 0):=λi h=>by simp[List.getD,ja6 h]
 rw[QH (e':=λi=>Fw.Uh B i0 0 (ks.getD i 0)) λi h=>by rw[hg i h];rfl];exact Ht _ λi h=>by rw[hg i h];rfl
theorem Hu(Y:rF)(B:Int->Fw.Bx)(f:Nat)(z i0 i1 high:Int)(ks:List Int)(s:Re.St)(hs:(B z).sty=s)(xs1 xs2:List Im)(deep:Int)(h1:Fy B f s i0 i1 high (ks.map (rwI Y B i0))=xs1)(h2:KG high xs1=deep)(h3:uY B f s i0 i1 deep xs1=xs2) :
  Fw.pV B (Fw.lay B f) z i0 i1 high ks=((uZ s i0 deep xs2).map (·.ld),deep):=by
 unfold Fw.pV;simp only[hs];unfold Fy at h1;rw[Vn]at h1;obtain⟨sz,hsz⟩:=aC (Fw.wJ B i0 i0 (s.c 46) 0 (Fw.vL B i0) ks);rw[hsz]at h1 ⊢;have l1:xs1.length=ks.length:=by rw[<-h1];simp
 have g1:∀i (h:i<xs1.length) (h':i<ks.length),xs1[i]=lnF B f i0 i1 sz i (rwI Y B i0 ks[i]):=λi h h'=>by subst h1;simp
 have e1:(ks.mapIdx λi k=>Fw.lay B f k i0 i1 (Fw.wr (sz.getD i 0+Fw.xJ (B k).sty 0)) (-1))=xs1.map (·.ld):=jb5 (by simp[l1]) λi a b=>by
  have a':i<ks.length:=by simpa using a
  simp only[List.getElem_mapIdx,List.getElem_map];rw[g1 i (by rw[l1];exact a') a'];rfl
 rw[e1]
 have m1:∀x∈xs1,x.m0=Fw.mg (B x.ld.id).sty 0 0 i0/\x.m1=Fw.mg (B x.ld.id).sty 0 1 i0/\x.m2=Fw.mg (B x.ld.id).sty 1 0 i0/\x.m3=Fw.mg (B x.ld.id).sty 1 1 i0:=λx hx=>by
  obtain⟨i,hi,rfl⟩:=List.getElem_of_mem hx;rw[g1 i hi ak];exact⟨rfl,rfl,rfl,rfl⟩
 have o1:∀x:Im,(x.m0=Fw.mg (B x.ld.id).sty 0 0 i0/\x.m1=Fw.mg (B x.ld.id).sty 0 1 i0/\x.m2=Fw.mg (B x.ld.id).sty 1 0 i0/\x.m3=Fw.mg (B x.ld.id).sty 1 1 i0)->Cn x=Fw.Ep B i0 0 x.ld/\Co x=Fw.Ep B i0 1 x.ld/\ext1 x (B x.ld.id).sty=Fw.Uh B i0 1 x.ld.id:=λx ⟨q0,q1,q2,q3⟩=>by
  unfold Cn Co ext1 Fw.Ep Fw.Uh Fw.mgs;rw[q0,q1,q2,q3];exact⟨rfl,rfl,rfl⟩
 have e2:(if high = -1 then ((xs1.map (·.ld)).map (Fw.Ep B i0 1)).foldl max 0 else high)=deep:=by
  rw[<-h2];unfold KG o7;congr 2;rw[List.map_map];exact List.map_congr_left λx hx=>((o1 x (m1 x hx)).2.1).symm
 rw[e2];have e3:(if s.c 44=0 then (xs1.map (·.ld)).map (λx=>if Fw.LJ (B x.id).sty 1 i1=true then x else Fw.lay B f x.id i0 i1 x.s0 (Fw.wr (Fw.lim (B x.id).sty 1 (max (Fw.wr (deep-Fw.Uh B i0 1 x.id)) 0) i1+Fw.xJ (B x.id).sty 1)))else xs1.map (·.ld))=xs2.map (·.ld):=by
  rw[<-h3];unfold uY;split
  . rw[List.map_map,List.map_map]
    refine List.map_congr_left λx hx => ?_;simp only[Function.comp];unfold Dl;have q:=(o1 x (m1 x hx)).2.2;by_cases hfx:Fx.dY ((B x.ld.id).sty.c 5) i1=true
    . rw[if_pos hfx,if_pos (show Fw.LJ (B x.ld.id).sty 1 i1=true from hfx)]
    . rw[if_neg hfx,if_neg (show¬ Fw.LJ (B x.ld.id).sty 1 i1=true from hfx),q]
      rfl
  . rfl
 rw[e3]
 have m2:∀x∈xs2,x.m0=Fw.mg (B x.ld.id).sty 0 0 i0/\x.m1=Fw.mg (B x.ld.id).sty 0 1 i0/\x.m2=Fw.mg (B x.ld.id).sty 1 0 i0/\x.m3=Fw.mg (B x.ld.id).sty 1 1 i0:=λx hx=>by
  rw[<-h3]at hx;unfold uY at hx;split at hx
  . obtain⟨y,hy,rfl⟩:=List.mem_map.1 hx
    have:=m1 y hy;unfold Dl;split
    . exact this
    . exact this
  . exact m1 x hx
 have e4:(xs2.map (·.ld)).map (Fw.Ep B i0 0)=vO xs2:=by
  unfold vO;rw[List.map_map];exact List.map_congr_left λx hx=>((o1 x (m2 x hx)).1).symm
 rw[e4];congr 1;unfold uZ
 exact jb5 bI λi a b=>by
  have a':i<xs2.length:=by simpa using a
  simp only[List.getElem_mapIdx,List.getElem_map];have q:=m2 xs2[i] (List.getElem_mem _);have o:=o1 _ q;unfold lnB;simp only[];rw[Ju.J5 _ a',o.2.1,q.1,q.2.2.1]
theorem Hw{B:Int->Fw.Bx}{lay:Int->Int->Int->Int->Int->Fw.Ld}{z i0 i1 high:Int}{fl:List Int}{fst:Bool}{y:Int}{p:Nat×Nat}{ps:List (Nat×Nat)}{out:List Fw.Ld}{tot:List Fw.Ld×Int}(h:tot=(out++(Fw.fC B lay z i0 i1 high fl fst y (p::ps)).1,(Fw.fC B lay z i0 i1 high fl fst y (p::ps)).2))
  {y1:Int} (hy:(if fst=true then y else Fw.wr (y+(B z).sty.c 46))=y1) {l:List Fw.Ld} {d:Int} (hl:Fw.pV B lay z i0 i1 high ((fl.drop p.1).take (p.2-p.1))=(l,d)) :
  tot=((out++l.map (λx=>{ x with a1:=Fw.wr (x.a1+y1) }))++(Fw.fC B lay z i0 i1 high fl false (Fw.wr (y1+d)) ps).1,(Fw.fC B lay z i0 i1 high fl false (Fw.wr (y1+d)) ps).2):=by
 rw[h];simp only[Fw.fC,hy,hl,List.append_assoc]
theorem KQ{B:Int->Fw.Bx}{lay:Int->Int->Int->Int->Int->Fw.Ld}{z i0 i1 high:Int}{fl:List Int}{fst:Bool}{y:Int}:Fw.fC B lay z i0 i1 high fl fst y []=([],y):=rfl
theorem gV.front{cs:Array Value}{q n:Nat}{l:List Im}(h:gV cs q l)(hn:n<=l.length):gV cs q (l.take n):=by
 refine⟨by have:=h.1;rw[jc1];omega,λi hi j hj => ?_⟩;have hi2:i<l.length:=by rw[jc1]at hi;omega
 rw[List.getElem_take];exact h.2 i hi2 j hj
theorem gV.rest{cs cs':Array Value}{q n:Nat}{l:List Im}(h:gV cs q l)(hs:kK q n cs cs')(hn:n<=l.length):gV cs' (q+n*17) (l.drop n):=by
 refine⟨by have:=h.1;have:=hs.1;rw[List.length_drop];omega,λi hi j hj => ?_⟩;have hi2:n+i<l.length:=by rw[List.length_drop]at hi;omega
 rw[List.getElem_drop,hs.2 _ (.inr ak),show q+n*17+i*17+j=q+(n+i)*17+j by omega];exact h.2 (n+i) hi2 j hj
theorem QI{W:World}{base:Nat}{v:Value}{l:List Fw.Ld}(x:Fw.Ld)(hown:W.ownsRow base 88 7 v l.length (yt l))(hbase:base<=W.heap.size)(hk:l.length<=10000) :
  ∃g c w',(Builtin.append_ #[145,145] 145 #[v,.slice W 1 1]).run ja0 (W.alloc (.cells (fH x) 88))=.ok (.slice (some ⟨g,0,none⟩) (l.length+1) c) w'/\w'.ownsRow base 88 7 (.slice (some ⟨g,0,none⟩) (l.length+1) c) (l++[x]).length (yt (l++[x]))/\Out (λb=>v.ownBlock=some b) (W.alloc (.cells (fH x) 88)) w'/\(v.ownBlock=some g\/W.heap.size<=g):=by
 obtain⟨i0,hi0,hz0,hz1,hz2⟩:=info_parts Qu;have hA:=At.new W (.cells (fH x) 88)
 obtain⟨v',w',hr,ho,hg,_,hblk⟩:=run_append_own_at (P:=ja0) (w:=W.alloc (.cells (fH x) 88)) base 145 145 88 i0 _ 7 56 Tryz.underlying145 hi0 hz0 hz1 hz2 rfl aN v l.length _ (hown.alloc _) ⟨W,0,none⟩ 1 1 (fH x).toList rfl
  (by intro j u hj
      rw[addr_add,Nat.zero_add,hA.cell,<-hj,Array.getElem?_toList])
  (pY x) RN ak jB
 obtain⟨g,c,rfl⟩:=ownsRow_succ ho;refine⟨g,c,w',hr,?_,Out.grown hg λb h=>h,?_⟩
 . rw[Jg,ja8]
   exact ho
 . rcases hblk with h|h
   . exact .inl h.symm
   . right
     have e:g=W.heap.size+1:=by simpa[Value.ownBlock]using h
     omega
end Go.Proofs.YtfohooineeijkaaGreat.Fix
