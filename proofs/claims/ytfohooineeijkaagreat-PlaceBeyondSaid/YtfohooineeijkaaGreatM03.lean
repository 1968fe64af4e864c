/- Steps of the program (3); no conditions. -/
import Derived.Test.YtfohooineeijkaaGreatRows
import Derived.Test.YtfohooineeijkaaGreatMK
import Derived.Test.YtfohooineeijkaaGreatM01
set_option linter.all false
set_option maxRecDepth 100000
set_option maxHeartbeats 400000
namespace Go.Proofs.YtfohooineeijkaaGreat.Fix
open Go.RowKit
open Go.Proofs.Tryz renaming prog → ja0
section
open Go.ChangeShapes Go.WideShapes Go.ChangeAt
theorem bQ{k:IntKind}{a b:Int}(h:a=b):Ending.returned (.int k a)=.returned (.int k b):=by rw[h]
theorem fO(n:Int)(w:World):Calls ja0 34 #[n] w λe w'=>e=.returned (.int .i64 (Fx.cut n))/\w=w':=by
 go_enter Tryz.func34,Tryz.ntmps34
 go_wp2
 all_goals
  go_ret
  exact⟨bQ (by unfold Fx.cut;repeat' split<;>(try split at *)<;>omega),rfl⟩
theorem jG(a b:Int)(w:World):Calls ja0 82 #[a,b] w λe w'=>e=.returned (.int .i64 (Fx.add a b))/\w=w':=by
 have ha:=Fx.gY a;have ha':=Fx.jg a;have hb:=Fx.gY b;have hb':=Fx.jg b;go_enter Tryz.func82,Tryz.ntmps82
 go_wp2_with (go_at_call 34;refine(fO _ _).mono ?_;rintro e w' ⟨rfl,rfl⟩)
 exact Zy
theorem mY(a b:Int)(w:World):Calls ja0 43 #[a,b] w λe w'=>e=.returned (.int .i64 (Fx.sub a b))/\w=w':=by
 have ha:=Fx.gY a;have ha':=Fx.jg a;have hb:=Fx.gY b;have hb':=Fx.jg b;go_enter Tryz.func43,Tryz.ntmps43
 go_wp2_with (go_at_call 34;refine(fO _ _).mono ?_;rintro e w' ⟨rfl,rfl⟩)
 exact Zy
theorem Mq(a b:Int)(w:World)(h1:1<=b)(h2:b<=1099511627776)(h3 : -1152921504606846976<=a)(h4:a<=1152921504606846976) :
  Calls ja0 185 #[a,b] w λe w'=>e=.returned (.int .i64 (a/b))/\w=w':=by
 have g1:=Fx.aaQ h1 h3;have g2:=Fx.tdiv_le h1 h4;go_enter Tryz.func185,Tryz.ntmps185
 go_wp2
 . have h:a.tmod b<0:=by assumption
   go_ret
   exact⟨bQ (Fx.Bh h1 h),rfl⟩
 . have h:0<=a.tmod b:=by assumption
   go_ret
   exact⟨bQ (Fx.Bj h1 h),rfl⟩
theorem RJ(a b:Int)(w:World):Calls ja0 184 #[a,b] w λe w'=>e=.returned (.int .i64 (Fx.div a b))/\w=w':=by
 have ha:=Fx.gY a;have ha':=Fx.jg a;have hb:=Fx.gY b;by_cases h:b<=0
 . have h0:Fx.cut b<=0:=by unfold Fx.cut;repeat' split<;>omega
   have hr:Fx.div a b=0:=by unfold Fx.div;rw[if_pos h]
   have Hr:=ah hr;clear hr;go_enter Tryz.func184,Tryz.ntmps184
   go_wp2_with (go_at_call 34;refine(fO _ _).mono ?_;rintro e w' ⟨rfl,rfl⟩)
   go_ret
   exact⟨bQ Hr.out.symm,rfl⟩
 . have h0:1<=Fx.cut b:=Fx.aaN ak
   have hr:Fx.div a b=Fx.cut a/Fx.cut b:=by unfold Fx.div;rw[if_neg h]
   have Hr:=ah hr;clear hr;go_enter Tryz.func184,Tryz.ntmps184
   go_wp2_with (first|(go_at_call 34;refine(fO _ _).mono ?_;rintro e w' ⟨rfl,rfl⟩)|(go_at_call 185;refine(Mq _ _ _ ak ak ak ak).mono ?_;rintro e w' ⟨rfl,rfl⟩))
   go_ret
   exact⟨bQ Hr.out.symm,rfl⟩
theorem qc(n lo hi:Int)(w:World):Calls ja0 38 #[n,lo,hi] w λe w'=>e=.returned (.int .i64 (Fx.clamp n lo hi))/\w=w':=by
 go_enter Tryz.func38,Tryz.ntmps38
 go_wp2_with (go_at_call 34;refine(fO _ _).mono ?_;rintro e w' ⟨rfl,rfl⟩)
 all_goals
  go_ret
  exact⟨bQ (by unfold Fx.clamp;repeat' split<;>(try split at *)<;>omega),rfl⟩
theorem WK(a n:Int)(w:World):Calls ja0 147 #[a,n] w λe w'=>e=.returned (.int .i64 (Fx.part a n))/\w=w':=by
 have hb:=Fx.DC a n;obtain⟨hb1,hb2⟩:=hb;have hp:=Fx.L9 n;have HP:=ah hp;clear hp;go_enter Tryz.func147,Tryz.ntmps147
 go_wp2_with (first|(go_at_call 38;refine(qc _ _ _ _).mono ?_;rw[HP.out];rintro e w' ⟨rfl,rfl⟩)|(go_at_call 185;refine(Mq _ _ _ ak ak ak ak).mono ?_;rintro e w' ⟨rfl,rfl⟩)|(go_at_call 34;refine(fO _ _).mono ?_;rintro e w' ⟨rfl,rfl⟩))
 exact Zy
theorem Uj(a:Int)(w:World)(h1 : -1099511627776<=a)(h2:a<=1099511627776) :
  Calls ja0 214 #[a] w λe w'=>e=.returned (.int .u64 (Fx.Ws a))/\w=w':=by
 go_enter Tryz.func214,Tryz.ntmps214
 go_wp2
 all_goals
  go_ret
  exact⟨bQ (by unfold Fx.Ws;repeat' split<;>omega),rfl⟩
theorem Xn(x y:Int)(hx:0<=x)(hy:0<=y)(hy2:y<4294967296):bits .or .u64 (IntKind.u64.wrap (x*4294967296)) y=x%4294967296*4294967296+y:=by
 obtain⟨X,hX⟩:=Int.eq_ofNat_of_zero_le (show 0<=x%4294967296 by omega);obtain⟨Y,rfl⟩:=Int.eq_ofNat_of_zero_le hy;have e:IntKind.u64.wrap (x*4294967296)=((X*4294967296:Nat):Int):=by rw[IntKind.wrap_u64];omega
 rw[e,u64_or_nat _ _ ak ak,Fx.ads _ _ ak,hX];omega
theorem J8{k:IntKind}{a b c d:Int}(h:a=c)(h2:b=d):Ending.returned (.tuple #[.int k a,.int k b])=.returned (.tuple #[.int k c,.int k d]):=by rw[h,h2]
theorem Mr(a b:Int)(w:World)(h1:0<=a)(h2:a<=1099511627776)(h3:0<=b)(h4:b<=1099511627776) :
  Calls ja0 213 #[.int .u64 a,.int .u64 b] w λe w'=>e=.returned (.tuple #[.int .u64 (a*b/18446744073709551616),.int .u64 (a*b%18446744073709551616)])/\w=w':=by
 have e:=Fx.halves a b;have b1:=Fx.Bl (x:=a/4294967296) (y:=b/4294967296) (c:=256) (d:=256) ak ak ak ak;have b2:=Fx.Bl (x:=a/4294967296) (y:=b%4294967296) (c:=256) (d:=4294967295) ak ak ak ak;have b3:=Fx.Bl (x:=a%4294967296) (y:=b/4294967296) (c:=4294967295) (d:=256) ak ak ak ak;have b4:=Fx.Bl (x:=a%4294967296) (y:=b%4294967296) (c:=4294967295) (d:=4294967295) ak ak ak ak;have E:=ah e;clear e;obtain⟨l1,u1⟩:=b1;obtain⟨l2,u2⟩:=b2;obtain⟨l3,u3⟩:=b3;obtain⟨l4,u4⟩:=b4;go_enter Tryz.func213,Tryz.ntmps213
 go_wp2
 go_ret2
 refine⟨J8 ?_ ?_,rfl⟩
 . rw[E.out];omega
 . rw[Xn _ _ ak ak ak,E.out];omega
theorem aa7(a b:Int)(w:World):Calls ja0 206 #[a,b] w λe w'=>e=.returned (.int .i64 (Fx.mul a b))/\w=w':=by
 have ha:=Fx.gY a;have ha':=Fx.jg a;have hb:=Fx.gY b;have hb':=Fx.jg b;obtain⟨s1,s2⟩:=Fx.WR a;obtain⟨s3,s4⟩:=Fx.WR b;have hp:=Int.mul_nonneg s1 s3;have hm:=Fx.aaR a b;have HM:=ah hm;clear hm;go_enter Tryz.func206,Tryz.ntmps206
 go_wp2_with (first|(go_at_call 34;refine(fO _ _).mono ?_;rintro e w' ⟨rfl,rfl⟩)|(go_at_call 214;refine(Uj _ _ ak ak).mono ?_;rintro e w' ⟨rfl,rfl⟩)|(go_at_call 213;refine(Mr _ _ _ ak ak ak ak).mono ?_;rintro e w' ⟨rfl,rfl⟩))
 all_goals
  go_ret
  refine⟨bQ ?_,rfl⟩;rw[HM.out]
  first
   | rw[show(!(decide (Fx.cut a<0)==decide (Fx.cut b<0)))=true from by assumption,cond_true]
   | rw[show(!(decide (Fx.cut a<0)==decide (Fx.cut b<0)))=false from by assumption,cond_false]
  unfold Fx.cut at *;generalize Fx.Ws _*Fx.Ws _=p at *
  repeat' split<;>omega
theorem tC(fn:Fn)(first cap:Array Value)(w:World):(Instr.makeFunc fn first cap).run ja0 w=.ok (.func fn first cap) w:=rfl
end
section
variable {W:World}{b:Nat}{T:TypeId}{vs:Array Value}{o:Obj}
theorem iV{W w1:World}(hb:Below W W w1):(∀b o,b<W.heap.size->w1.cell? ⟨b,o,none⟩=W.cell? ⟨b,o,none⟩)/\(∀b o,b<W.heap.size->w1.frozen? ⟨b,o,none⟩=W.frozen? ⟨b,o,none⟩) :=
 ⟨λb o h=>hb.cell (p:=⟨b,o,none⟩) h,λb o h=>hb.frozen (p:=⟨b,o,none⟩) h⟩
theorem Below.alloc'{w a:World}(h:Below w w a)(o:Obj):Below w w (a.alloc o):=h.alloc h.size o
theorem Below.ay{N:Nat}{W0 W w1:World}(h0:Below N W0 W)(hN:N<=W0.heap.size)(hb:Below W W w1):Below N W0 w1:=h0.trans (hb.mono (aK hN h0.size))
theorem Below.drewN{N:Nat}{w a:World}(h:Below N w a)(n:Nat):Below N w (a.drewN n):=⟨h.os,h.tape,h.output,h.size,h.block⟩
theorem Below.after{W0 W w1:World}(h0:Below W0 W0 W)(hb:Below W W w1):Below W0 W0 w1:=h0.trans (hb.mono h0.size)
theorem fV{a b:Bool}(h:a=b):Ending.returned (.bool a)=.returned (.bool b):=by rw[h]
def At(W:World)(b:Nat)(o:Obj):Prop:=W.heap[b]? = some o
theorem At.lt(h:At W b o):b<W.heap.size:=(Array.getElem?_eq_some_iff.1 h).1
theorem At.new(W:World)(o:Obj):At (W.alloc o) W.heap.size o:=by
 show(W.heap.push o)[W.heap.size]? = some o;simp
theorem At.new'(o:Obj)(h:b=W.heap.size):At (W.alloc o) b o:=h▸At.new W o
theorem At.alloc(h:At W b o)(o':Obj):At (W.alloc o') b o:=by
 show(W.alloc o').heap[b]? = some o;rw[Below.heap_alloc W o' b h.lt];exact h
theorem At.keep{W W':World}(h:At W b o)(hb:Below W W W'):At W' b o:=(hb.block b h.lt).trans h
theorem At.cell(h:At W b (.cells vs T))(i:Nat):W.cell? ⟨b,i,none⟩=vs[i]? := by
 unfold At at h;simp[World.cell?,h]
theorem At.thaw(h:At W b (.cells vs T))(i:Nat):W.frozen? ⟨b,i,none⟩=false:=by
 unfold At at h;simp[World.frozen?,h]
theorem At.off{b n:Nat}(h:At W b o)(hne:b≠n)(i:Nat)(x:Value):At (W.setCell ⟨n,i,none⟩ x) b o:=by
 have e:(W.setCell ⟨n,i,none⟩ x).heap[b]? = W.heap[b]? := Below.heap_setCell W ⟨n,i,none⟩ x b hne;exact e.trans h
theorem At.set(h:At W b (.cells vs T))(i:Nat)(x:Value):At (W.setCell ⟨b,i,none⟩ x) b (.cells (vs.setIfInBounds i x) T):=by
 unfold At at *;obtain⟨hlt,he⟩:=Array.getElem?_eq_some_iff.1 h;simp[World.setCell,hlt,Array.getElem_modify,he]
theorem At.TH{x y z u:Value}(h:At W b (.cells #[x,y,z,u] T))(x' y' z' u':Value) :
 At ((((W.setCell ⟨b,0,none⟩ x').setCell ⟨b,1,none⟩ y').setCell ⟨b,2,none⟩ z').setCell ⟨b,3,none⟩ u') b (.cells #[x',y',z',u'] T):=(((h.set 0 x').set 1 y').set 2 z').set 3 u'
theorem At.TB{x y:Value}(h:At W b (.cells #[x,y] T))(x' y':Value) :
 At ((W.setCell ⟨b,0,none⟩ x').setCell ⟨b,1,none⟩ y') b (.cells #[x',y'] T):=(h.set 0 x').set 1 y'
theorem At.one{x:Value}(h:At W b (.cells #[x] T)):b<W.heap.size/\W.cell? ⟨b,0,none⟩=some x:=⟨h.lt,h.cell 0⟩
theorem At.two{x y:Value}(h:At W b (.cells #[x,y] T)):b<W.heap.size/\W.cell? ⟨b,0,none⟩=some x/\W.cell? ⟨b,1,none⟩=some y:=⟨h.lt,h.cell 0,h.cell 1⟩
theorem At.three{x y z:Value}(h:At W b (.cells #[x,y,z] T)):b<W.heap.size/\W.cell? ⟨b,0,none⟩=some x/\W.cell? ⟨b,1,none⟩=some y/\W.cell? ⟨b,2,none⟩=some z:=⟨h.lt,h.cell 0,h.cell 1,h.cell 2⟩
theorem At.four{x y z u:Value}(h:At W b (.cells #[x,y,z,u] T)):b<W.heap.size/\W.cell? ⟨b,0,none⟩=some x/\W.cell? ⟨b,1,none⟩=some y/\W.cell? ⟨b,2,none⟩=some z/\W.cell? ⟨b,3,none⟩=some u:=⟨h.lt,h.cell 0,h.cell 1,h.cell 2,h.cell 3⟩
theorem At.eight{x y z u x' y' z' u':Value}(h:At W b (.cells #[x,y,z,u,x',y',z',u'] T)):b<W.heap.size/\W.cell? ⟨b,0,none⟩=some x/\W.cell? ⟨b,1,none⟩=some y/\W.cell? ⟨b,2,none⟩=some z/\W.cell? ⟨b,3,none⟩=some u/\W.cell? ⟨b,4,none⟩=some x'/\W.cell? ⟨b,5,none⟩=some y'/\W.cell? ⟨b,6,none⟩=some z'/\W.cell? ⟨b,7,none⟩=some u':=⟨h.lt,h.cell 0,h.cell 1,h.cell 2,h.cell 3,h.cell 4,h.cell 5,h.cell 6,h.cell 7⟩
end
open Go.ChangeShapes Go.WideShapes Go.ChangeAt
open World renaming setRow → jb8
open List renaming getElem?_eq_getElem → ja6,range → jc0
variable {M:Nat->Prop}{b i:Nat}{X Y W:World}{s:Re.St}{P:Program}
def cell(t:Re.St)(i:Nat):Value:=if Re.uj i=true then .bool (t.b i)else .int .i64 (t.c i)
def cells(t:Re.St):Array Value:=((jc0 55).map (cell t)).toArray
theorem dB(t:Re.St):(cells t).size=55:=by simp[cells]
theorem iT(t:Re.St)(h:i<55):(cells t)[i]? = some (cell t i):=by simp[cells,h]
theorem Et(t:Re.St)(h:Re.uj i=false):cell t i=.int .i64 (t.c i):=by simp[cell,h]
theorem IV(t:Re.St)(h:Re.uj i=true):cell t i=.bool (t.b i):=by simp[cell,h]
theorem dG(t:Re.St)(h:i<55)(hb:Re.uj i=false):(cells t)[i]? = some (.int .i64 (t.c i)):=by rw[iT t h,Et t hb]
theorem uJ(t:Re.St)(h:i<55)(hb:Re.uj i=true):(cells t)[i]? = some (.bool (t.b i)):=by rw[iT t h,IV t hb]
theorem Xo(t:Re.St)(i:Nat):(cell t i).oneCell'=true:=by unfold cell;split<;>rfl
theorem cells_one(t:Re.St):(cells t).all (·.oneCell')=true:=by
 refine Array.all_eq_true_iff_forall_mem.2 λv hv => ?_;simp only[cells,List.mem_toArray,List.mem_map]at hv;obtain⟨i,_,rfl⟩:=hv;exact Xo t i
theorem IW{s t:Re.St}{v:Value}(hv:v=cell t i)(h:∀j,j<55->j≠i->cell s j=cell t j):(cells s).setIfInBounds i v=cells t:=by
 apply Array.ext_getElem?;intro j;rw[Array.getElem?_setIfInBounds];by_cases hj:j<55
 . by_cases e:i=j
   . subst e;rw[if_pos rfl,dB,if_pos hj,iT t hj,hv]
   . rw[if_neg e,iT s hj,iT t hj,h j hj (λq=>e q.symm)]
 . have e1:(cells s)[j]? = none:=Array.getElem?_eq_none Z4r
   have e2:(cells t)[j]? = none:=Array.getElem?_eq_none Z4r;rw[e1,e2,dB];by_cases e:i=j
   . rw[if_pos e,if_neg ak]
   . rw[if_neg e]
def mix(f:Nat->Int->Int)(t:Re.St)(k:Nat):Re.St:=⟨λi=>if i<k then f i (Re.num t i)else t.c i,λi=>if i<k then f i (Re.num t i)==1 else t.b i⟩
def ins(t:Re.St)(k:Nat):List Int:=(jc0 k).map (Re.num t)
theorem zA(t:Re.St)(k:Nat):ins t (k+1)=ins t k++[Re.num t k]:=by simp[ins,List.range_succ]
theorem uD(t:Re.St)(k:Nat):(ins t k).length=k:=by simp[ins]
theorem adA(f:Nat->Int->Int)(t:Re.St){k i:Nat}(h:i<k):(mix f t k).c i=f i (Re.num t i):=by simp[mix,h]
theorem O6(f:Nat->Int->Int)(t:Re.St){k i:Nat}(h:k<=i):(mix f t k).c i=t.c i:=by simp[mix,show¬ i<k by omega]
theorem J9(f:Nat->Int->Int)(t:Re.St){k i:Nat}(h:k<=i):(mix f t k).b i=t.b i:=by simp[mix,show¬ i<k by omega]
theorem aa8(f:Nat->Int->Int)(t:Re.St){k i:Nat}(h:i<k):(mix f t k).b i=(f i (Re.num t i)==1):=by simp[mix,h]
theorem Xp(f:Nat->Int->Int)(t:Re.St):mix f t 0=t:=by simp[mix]
theorem wD(f:Nat->Int->Int)(t:Re.St){k:Nat}(hb:Re.uj k=false):(cells (mix f t k)).setIfInBounds k (.int .i64 (f k (t.c k)))=cells (mix f t (k+1)):=by
 refine IW ?_ λj _ hj => ?_
 . rw[Et _ hb,adA f t (Nat.lt_succ_self k),Re.LW hb]
 . unfold cell mix
   simp only[show(j<k+1)=(j<k)by simp;omega]
theorem JJ(f:Nat->Int->Int)(t:Re.St){k:Nat}(hb:Re.uj k=true):(cells (mix f t k)).setIfInBounds k (.bool (f k (Re.num t k)==1))=cells (mix f t (k+1)):=by
 refine IW ?_ λj _ hj => ?_
 . rw[IV _ hb,aa8 f t (Nat.lt_succ_self k)]
 . unfold cell mix
   simp only[show(j<k+1)=(j<k)by simp;omega]
def Out(M:Nat->Prop)(W W':World):Prop:=Below 0 W W'/\∀b,b<W.heap.size->¬ M b->W'.heap[b]? = W.heap[b]?
theorem Out.refl(M:Nat->Prop)(W:World):Out M W W:=⟨Below.refl _ _,λ_ _ _=>rfl⟩
theorem Out.size{W W':World}(h:Out M W W'):W.heap.size<=W'.heap.size:=h.1.size
theorem Out.trans{X Y Z:World}(h:Out M X Y)(k:Out M Y Z):Out M X Z:=⟨h.1.trans k.1,λb hb hm=>(k.2 b (bA hb h.size) hm).trans (h.2 b hb hm)⟩
theorem Out.mono{M M':Nat->Prop}(h:Out M X Y)(hm:∀b,b<X.heap.size->M b->M' b):Out M' X Y:=⟨h.1,λb hb hn=>h.2 b hb λq=>hn (hm b hb q)⟩
theorem Out.of_below(h:Below X X Y):Out M X Y:=⟨h.mono qh,λb hb _=>h.block b hb⟩
theorem Out.below{n:Nat}(h:Out M X Y)(hn:n<=X.heap.size)(hm:∀b,b<n->¬ M b):Below n X Y:=⟨h.1.os,h.1.tape,h.1.output,h.1.size,λb hb=>h.2 b (bA hb hn) (hm b hb)⟩
theorem Out.set(h:Out M X Y)(hb:M b)(i:Nat)(v:Value):Out M X (Y.setCell ⟨b,i,none⟩ v) :=
 ⟨Below.setCell h.1 bI _,λc hc hm=>(Below.heap_setCell Y ⟨b,i,none⟩ v c (λe=>hm (e▸hb))).trans (h.2 c hc hm)⟩
theorem At.out{o:Obj}(h:At X b o)(hm:¬ M b)(k:Out M X Y):At Y b o:=(k.2 b h.lt hm).trans h
theorem Ms{cs:Array Value}{T:TypeId}(h:At W b (.cells cs T)):W.setRow b cs=W:=by
 unfold At at h;obtain⟨hlt,he⟩:=Array.getElem?_eq_some_iff.1 h;cases W with
 | mk heap tape drawn os output =>
   unfold jb8;congr 1;apply Array.ext
   . simp
   . intro k h1 h2
     simp only[Array.getElem_modify];split
     . rename_i hk;subst hk;simp at he;simp[he]
     . rfl
theorem At.setRow{cs:Array Value}{T:TypeId}(h:At W b (.cells cs T))(cs':Array Value):At (W.setRow b cs') b (.cells cs' T):=setRow_heap W b cs cs' T _ h
theorem At.iP{b b':Nat}{o:Obj}(h:At W b o)(hne:b≠b')(cs':Array Value):At (W.setRow b' cs') b o:=by
 unfold At jb8 at *;simp only[Array.getElem?_modify];rw[if_neg (λe=>hne e.symm)];exact h
theorem Out.setRow(h:Out M X Y)(hb:M b)(cs:Array Value):Out M X (Y.setRow b cs) :=
 ⟨⟨h.1.os,h.1.tape,h.1.output,by simpa[jb8]using h.1.size,λ_ hb=>absurd hb (Nat.not_lt_zero _)⟩,λc hc hm=>by
  have:=h.2 c hc hm;unfold jb8;simp only[Array.getElem?_modify];rw[if_neg (by rintro rfl;exact hm hb)]
  exact this⟩
theorem Br:(Tryz.prog.info? 59).map (·.size)=some 55:=by kernel_rfl
theorem Eu(h:At W b (.cells (cells s) 59)):(Instr.loadAt 59 (.pointer b)).run ja0 W=.ok (.agg (cells s)) W:=by
 simp only[Instr.loadAt,Instr.sureAddr,Sem.run_bind,Sem.run_pure,Result.andThen_ok,run_loadVar_row W b 59 59 (cells s) (0,0) _ h Tryz.underlying59 rfl (by rw[dB];exact Br)]
theorem GJ(h:At W b (.cells (cells s) 59)):(loadVar 59 ⟨b,0,none⟩).run ja0 W=.ok (.agg (cells s)) W :=
 run_loadVar_row W b 59 59 (cells s) (0,0) _ h Tryz.underlying59 rfl (by rw[dB];exact Br)
theorem wK{s t:Re.St}(h:At W b (.cells (cells s) 59)):(Instr.storeAt 59 (.pointer b) (.agg (cells t))).run ja0 W=.ok () (W.setRow b (cells t)):=by
 simp only[Instr.storeAt,Instr.sureAddr,Sem.run_bind,Sem.run_pure,Result.andThen_ok,run_storeVar_row W b 59 59 (cells s) (cells t) h (by rw[dB];exact Br) (by rw[dB,dB]) (cells_one t)]
theorem Bt(h:At W b (.cells (cells s) 59)):(Instr.storeAt 59 (.pointer b) (.agg (cells s))).run ja0 W=.ok () W:=by
 rw[wK h,Ms h]
theorem Mt(W:World):(Instr.build 59 #[]).run ja0 W=.ok (.agg (cells Re.zero)) W:=by kernel_rfl
theorem BX(W:World):(Instr.alloc 59 true (.tuple #[])).run ja0 W=.ok (.pointer W) (W.alloc (.cells (cells Re.zero) 59)):=by kernel_rfl
structure jO(F:FuncId)(caps:Array Value)(f:Nat->Int->Int)(mine:Nat->Prop)(I:List Int->World->Prop):Prop where
 keep:∀xs W W',I xs W->Below W.heap.size W W'->I xs W'
 set:∀xs W b i v,I xs W->¬ mine b->I xs (W.setCell ⟨b,i,none⟩ v)
 enters:∀(x:Int) (w:World),(callFunc F (#[.int .i64 x]++caps)).run ja0 w=.ok (.enter F (#[.int .i64 x]++caps)) w
 call:∀xs x W,I xs W->xs.length<55->Calls ja0 F (#[.int .i64 x]++caps) W λe W'=>e=.returned (.int .i64 (f xs.length x))/\I (xs++[x]) W'/\Out mine W W'
theorem wpList_append_run{w w':World}{ops:Array Oper}{rest:List Oper}{o:Oper}{a:Act}{Q:Exit->Act->World->Prop}(hw:Region.wanted o (yielded ops a.tmps)=true)(s x:Operand)(t:TypeId)
  (ho:o.op=.call { callee:=.builtin .append,args:=#[s,x],argTypes:=#[t,t] }) {v u v':Value} (hs:a.eval s=v) (hx:a.eval x=u)
  (hrun:(Builtin.append_ #[t,t] o.type #[v,u]).run P w=.ok v' w') (h:wpList P ops Q rest (a.put o.dst v') w'):wpList P ops Q (o::rest) a w:=by
 unfold wpList;rw[if_pos hw];refine .inl ?_;unfold Oper.wp execOp;simp only[ho,resolve,invoke,builtin,Sem.run_bind,Sem.run_pure,Result.andThen_ok,List.map_toArray,List.map_cons,List.map_nil,hs,hx,hrun];exact h
def Ints(w:World)(A:Option Addr)(zs:List Int):Prop :=
 zs.length<=maxLen/\(0<zs.length->∃b off,A=some ⟨b,off,none⟩/\∀k,k<zs.length->w.cell? ⟨b,off+k,none⟩=some (.int .i64 (zs.getD k 0)))
theorem fJ(zs:List Int)(k:Nat)(h:k<zs.length):zs.take (k+1)=zs.take k++[zs.getD k 0]:=by
 rw[List.take_succ_eq_append_getElem h];simp[ja6 h]
theorem Mv(w:World)(l:List Int)(T:TypeId)(hl:l.length<=1000):Ints (w.alloc (.cells (l.map (Value.int .i64)).toArray T)) (some ⟨w,0,none⟩) l:=by
 refine⟨by unfold maxLen;omega,λ_=>⟨w.heap.size,0,rfl,λk hk => ?_⟩⟩;rw[cell_of_row _ w.heap.size (0+k) _ T (0,0) (heap_alloc_new w _)];simp[hk]
theorem Ints.keep{w w':World}{B:Nat}{A:Option Addr}{zs:List Int}(h:Ints w A zs)(hb:Below B w w')(hA:0<zs.length->∀a,A=some a->a.block<B):Ints w' A zs:=by
 refine⟨h.1,λh0 => ?_⟩;obtain⟨b,off,rfl,hc⟩:=h.2 h0;exact⟨b,off,rfl,λk hk=>(hb.cell (p:=⟨b,off+k,none⟩) (show b<B from hA h0 ⟨b,off,none⟩ rfl)).trans (hc k hk)⟩
theorem wL{w:World}{base:Nat}{e:TypeId}{v:Value}{n:Nat}{l:List Int}(h:w.ownsRow base e 1 v n (l.map (Value.int .i64)))(hm:n<=maxLen) :
  ∃A c,v=.slice A l.length c/\Ints w A l:=by
 have hl:l.length=n:=by simpa using h.1
 subst hl;rcases h.2 with⟨rfl,h0⟩|⟨g,cap,cur,rfl,_,_⟩
 . exact⟨none,0,by rw[h0],hm,λh=>absurd h ak⟩
 . refine⟨_,_,rfl,hm,λh0=>⟨g,0,rfl,λk hk => ?_⟩⟩
   have:=h.cells (g:=g) rfl k (.int .i64 (l.getD k 0)) (by simp[ja6 hk]);have e:(⟨g,0,none⟩:Addr).add k=⟨g,0+k,none⟩:=by
    unfold Addr.add;split
    . subst k;rfl
    . rfl
   rw[e]at this;exact this
section
variable {ops:Array Oper} {rest:List Oper} {o:Oper} {a:Act} {w w':World} {Q:Exit->Act->World->Prop}
theorem fq{v:Value}(hw:Region.wanted o (yielded ops a.tmps)=true)(hrun:(execOp a.eval o).run P w=.ok (.value v) w')(h:wpList P ops Q rest (a.put o.dst v) w'):wpList P ops Q (o::rest) a w:=by
 exact Z2u
theorem oQ(hw:Region.wanted o (yielded ops a.tmps)=true)(hrun:(execOp a.eval o).run P w=.ok .skip w')(h:wpList P ops Q rest (a.put o.dst undef) w'):wpList P ops Q (o::rest) a w:=by
 exact Z2u
theorem bD(hw:Region.wanted o (yielded ops a.tmps)=true)(ho:o.op=.alloc 59)(h:wpList ja0 ops Q rest (a.put o.dst (.pointer w)) (w.alloc (.cells (cells Re.zero) 59))):wpList ja0 ops Q (o::rest) a w :=
 fq hw (by unfold execOp;simp only[ho,Sem.run_bind,BX,Result.andThen_ok,Sem.run_pure]) h
theorem cZ(hw:Region.wanted o (yielded ops a.tmps)=true)(ho:o.op=.build 59 #[])(h:wpList ja0 ops Q rest (a.put o.dst (.agg (cells Re.zero))) w):wpList ja0 ops Q (o::rest) a w :=
 fq hw (by unfold execOp;simp only[ho,Sem.run_bind,List.map_toArray,List.map_nil,Mt,Result.andThen_ok,Sem.run_pure]) h
theorem bC(hw:Region.wanted o (yielded ops a.tmps)=true)(x:Operand)(ho:o.op=.load 59 x)(hx:a.eval x=.pointer b)(hs:At w b (.cells (cells s) 59))
  (h:wpList ja0 ops Q rest (a.put o.dst (.agg (cells s))) w):wpList ja0 ops Q (o::rest) a w :=
 fq hw (by unfold execOp;simp only[ho,hx,Sem.run_bind,Eu hs,Result.andThen_ok,Sem.run_pure]) h
theorem bJ(hw:Region.wanted o (yielded ops a.tmps)=true)(x y:Operand)(ho:o.op=.store 59 x y)(hx:a.eval x=.pointer b){s t:Re.St}(hy:a.eval y=.agg (cells t))(hs:At w b (.cells (cells s) 59))
  (h:wpList ja0 ops Q rest (a.put o.dst undef) (w.setRow b (cells t))):wpList ja0 ops Q (o::rest) a w :=
 oQ hw (by unfold execOp;simp only[ho,hx,hy,Sem.run_bind,wK hs,Result.andThen_ok,Sem.run_pure]) h
theorem dh(hw:Region.wanted o (yielded ops a.tmps)=true)(x y:Operand)(ho:o.op=.store 59 x y)(hx:a.eval x=.pointer b)(hy:a.eval y=.agg (cells s))(hs:At w b (.cells (cells s) 59))
  (h:wpList ja0 ops Q rest (a.put o.dst undef) w):wpList ja0 ops Q (o::rest) a w :=
 oQ hw (by unfold execOp;simp only[ho,hx,hy,Sem.run_bind,Bt hs,Result.andThen_ok,Sem.run_pure]) h
end
end Go.Proofs.YtfohooineeijkaaGreat.Fix
namespace Go.Proofs.YtfohooineeijkaaGreat.aj
open Go
open List renaming ne_nil_of_mem → jb3,all_eq_true → jb6,range → jc0
variable {a:Act}{os l:List Oper}{listed:Array Bool}{o:Oper}{v:Value}{i:Nat}{w:World}
section
variable {P:Program} {ops:Array Oper} {Q:Exit->Act->World->Prop} {md:Region.Mode} {S:World->Prop}
def Ends(P:Program)(S:World->Prop)(v:Value):Result Next->Prop
 | .ok (.value u) w'=>u=v/\S w'
 | .ok (.enter f args) w'=>Calls P f args w' λe w''=>e=.returned v/\S w''
 | _=>False
def Det(P:Program)(ops:Array Oper)(S:World->Prop)(o:Oper)(v:Value)(a:Act):Prop :=
 (Region.wanted o (yielded ops a.tmps)=true/\∀w,S w->Ends P S v ((execOp a.eval o).run P w)) \/
 (Region.wanted o (yielded ops a.tmps)=false/\v=undef)
theorem Det.of_same{a a':Act}(hy:Det P ops S o v a)(he:execOp a'.eval o=execOp a.eval o)
  (hw:Region.wanted o (yielded ops a'.tmps)=Region.wanted o (yielded ops a.tmps)):Det P ops S o v a':=by
 unfold Det at *;rw[he,hw];exact hy
theorem Det.wpOp(hi:ops[i]? = some o)(hy:Det P ops S o v a)
  {K:Act->World->Prop}  (hS:S w) (h:∀w',S w'->K (a.put o.dst v) w'):wpOp P ops Q i K a w:=by
 unfold Go.wpOp;simp only[hi];rcases hy with⟨hw,hv⟩|⟨hw,rfl⟩
 . simp only[hw,if_true]
   refine .inl ?_;unfold Oper.wp;have h1:=hv w hS;generalize (execOp a.eval o).run P w=r at *;cases r with
   | ok n w' =>
     cases n<;>simp only[Ends]at h1<;>simp only[Oper.upon]
     case value u=>obtain⟨rfl,hs⟩:=h1;exact h _ hs
     case enter f args=>exact Calls.mono h1 λe w'' ⟨he,hs⟩=>by subst he;exact h _ hs
   | halt x w'=>exact h1.elim
 . simp only[hw,Bool.false_eq_true,if_false];exact h _ hS
def mK(P:Program)(md:Region.Mode)(ops:Array Oper)(S:World->Prop)(m:Nat)(B:Array Bool->Act->Prop):Nat->Array Bool->Act->Prop
 | 0,listed,a=>(∀k,k<m->listed.getD k true=true)/\B listed a
 | fuel+1,listed,a =>
   Region.ready md ops listed≠[] /\
   ∀i∈Region.ready md ops listed,∃o v,ops[i]? = some o/\Det P ops S o v a/\mK P md ops S m B fuel (listed.setIfInBounds i true) (a.put o.dst v)
theorem mK.any{m tf:Nat}:∀(fuel:Nat) (listed:Array Bool) (a:Act),mK P md ops S m (λlisted a=>∀w,S w->wpAny P md ops Q tf listed a w) fuel listed a->∀w,S w->wpAny P md ops Q (tf+fuel) listed a w
 | 0,_,_,h=>h.2
 | fuel+1,_,_,h=>λw hS=>⟨λhr=>absurd hr h.1,λi hi=>by
  obtain⟨o,v,ho,hd,hn⟩:=h.2 i hi
  exact hd.wpOp ho hS λw' hS'=>mK.any fuel _ _ hn w' hS'⟩
def cO(md:Region.Mode)(ops:Array Oper)(m:Nat):Bool :=
 (jc0 ops.size).all λj=>decide (j<m)||(jc0 m).all λk=>match ops[j]? with
  | some o=>o.after.any λe=>Region.binds md e&&e.on==k
  | none=>true
theorem qo{m:Nat}(h:cO md ops m=true){j k:Nat}(ho:ops[j]? = some o)(hj:m<=j)(hk:k<m):∃e∈o.after,Region.binds md e=true/\e.on=k:=by
 unfold cO at h;rw[jb6]at h;have h1:=h j (List.mem_range.2 (Array.getElem?_eq_some_iff.1 ho).1);have hd:decide (j<m)=false:=by simpa using hj
 rw[hd,Bool.false_or,jb6]at h1;have h2:=h1 k (List.mem_range.2 hk);simp only[ho]at h2;obtain⟨e,he,hb⟩:=Array.any_eq_true'.1 h2;simp only[Bool.and_eq_true,beq_iff_eq]at hb;exact⟨e,he,hb.1,hb.2⟩
theorem qz(h0:listed.getD i true=false)(h1:listed.getD i false=true):False:=by
 rcases Nat.lt_or_ge i listed.size with h'|h'
 . simp[h']at h0 h1;rw[h0]at h1;cases h1
 . simp[Array.getElem?_eq_none h']at h1
def Clear(md:Region.Mode)(ops:Array Oper)(listed:Array Bool)(i:Nat)(oi:Oper):Prop :=
 ∀j oj,ops[j]? = some oj->j≠i->listed.getD j true=false->(∃e∈oj.after,Region.binds md e=true/\e.on=i)\/oi.apart ops oj=true
theorem Clear.set{oi:Oper}(h:Clear md ops listed i oi)(j:Nat):Clear md ops (listed.setIfInBounds j true) i oi:=λk ok hk hki hun =>
 h k ok hk hki (by
  by_cases hjk:j=k
  . subst hjk
    rcases Nat.lt_or_ge j listed.size with h'|h'
    . simp[h']at hun
    . simp at hun
  . rwa [getD_set_ne true hjk]at hun)
theorem lF{i j:Nat}{oj:Oper}(hi:i∈Region.ready md ops listed)(hj:j∈Region.ready md ops listed)(ho:ops[j]? = some oj)(h:∃e∈oj.after,Region.binds md e=true/\e.on=i):False:=by
 obtain⟨e,he,hb,rfl⟩:=h;obtain⟨_,o,ho',hall⟩:=mem_ready.1 hj;obtain rfl:oj=o:=Option.some.inj (ho.symm.trans ho');exact qz (mem_ready.1 hi).1 (hall e he hb)
theorem IX{m:Nat}{B:Array Bool->Act->Prop}(ht:cO md ops m=true){oi:Oper}(him:i<m)(hi:ops[i]? = some oi)(hsel:∀(j:Nat) (o:Oper) cs b,ops[j]? = some o->o.op ≠ .select cs b)
  (fuel:Nat) (listed:Array Bool) (a:Act) (hc:Clear md ops listed i oi) (hr:i∈Region.ready md ops listed) (hy:Det P ops S oi v a)
  (H:mK P md ops S m B fuel (listed.setIfInBounds i true) (a.put oi.dst v)):mK P md ops S m B (fuel+1) listed a:=by
 induction fuel generalizing listed a with
 | zero =>
   refine⟨jb3 hr,λj hj => ?_⟩;rcases Nat.decEq j i with hji|rfl
   . exact Z2n
   . exact⟨oi,v,hi,hy,H⟩
 | succ fuel ih =>
   refine⟨jb3 hr,λj hj => ?_⟩;rcases Nat.decEq j i with hji|rfl
   . obtain⟨oj,u,ho,hyj,hn⟩:=H.2 j (ready_mono hj hji)
     obtain⟨a1,a2,a3⟩:=Oper.apart_spec ((hc j oj ho hji (mem_ready.1 hj).1).resolve_left (lF hr hj ho));refine⟨oj,u,ho,hyj.of_same (execOp_put oj (λcs b=>hsel j oj cs b ho) a oi.dst v a1).symm (wanted_put oj a oi.dst v a1).symm,ih _ _ (hc.set j) (ready_mono hr (Ne.symm hji)) ?_ ?_⟩
     . exact Z10
     . exact Z28
   . exact⟨oi,v,hi,hy,H⟩
def nR(P:Program)(ops:Array Oper)(Q:Exit->Act->World->Prop):List Oper->Act->World->Prop
 | [],a,w=>Q .normal a w
 | o::os,a,w=>if Region.wanted o (yielded ops a.tmps)=true then o.wp P a w (nR P ops Q os) Q else nR P ops Q os (a.put o.dst undef) w
def forced(md:Region.Mode)(ops:Array Oper):Nat->Nat->Array Bool->Bool
 | 0,_,listed=>(Region.ready md ops listed).isEmpty
 | t+1,i,listed=>(Region.ready md ops listed==[i])&&forced md ops t (i+1) (listed.setIfInBounds i true)
def mJ(md:Region.Mode)(ops:Array Oper)(t:Nat):Nat->Nat->Array Bool->Bool
 | 0,i,listed=>forced md ops t i listed
 | k+1,i,listed=>Region.free md ops listed i&&(Region.ready md ops listed).contains i&&mJ md ops t k (i+1) (listed.setIfInBounds i true)
def eU(P:Program)(ops:Array Oper)(Q:Exit->Act->World->Prop)(S:World->Prop):Nat->List Oper->Act->Prop
 | 0,os,a=>∀w,S w->nR P ops Q os a w
 | _+1,[],_=>False
 | k+1,o::os,a=>∃v,Det P ops S o v a/\eU P ops Q S k os (a.put o.dst v)
theorem drop_cons(hd:ops.toList.drop i=o::os):ops[i]? = some o/\ops.toList.drop (i+1)=os:=by
 have hlt:i<ops.toList.length:=by
  rcases Nat.lt_or_ge i ops.toList.length with h'|h'
  . exact h'
  . rw[List.drop_eq_nil_of_le h']at hd;cases hd
 rw[List.drop_eq_getElem_cons hlt]at hd;refine⟨?_,(List.cons.inj hd).2⟩;have:=(List.cons.inj hd).1;rw[<-this];simp at hlt ⊢
theorem mR{oi:Oper}(hi:ops[i]? = some oi)(h:Region.free md ops listed i=true):Clear md ops listed i oi:=λj oj ho hji hun=>by
 by_cases hw:∃e∈oj.after,Region.binds md e=true/\e.on=i
 . exact .inl hw
 . exact .inr (Region.free_spec hi h j oj ho hji hun λe he hb hon=>hw ⟨e,he,hb,hon⟩)
theorem wE:∀(os:List Oper) (i:Nat) (listed:Array Bool) (a:Act) (w:World),ops.toList.drop i=os->forced md ops os.length i listed=true ->
  nR P ops Q os a w->wpAny P md ops Q os.length listed a w
 | [],i,listed,a,w,_,hk,h=>by
  simp only[List.length_nil,forced,List.isEmpty_iff]at hk;exact⟨hk,h⟩
 | o::os,i,listed,a,w,hd,hk,h=>by
  simp only[List.length_cons,forced,Bool.and_eq_true,beq_iff_eq]at hk;obtain⟨hr,hk⟩:=hk;obtain⟨ho,hd'⟩:=drop_cons hd;refine⟨λh0=>(by rw[hr]at h0;cases h0),λj hj => ?_⟩;rw[hr]at hj;obtain rfl:j=i:=by simpa using hj
  unfold wpOp;simp only[ho];unfold nR at h;by_cases hw:Region.wanted o (yielded ops a.tmps)=true
  . rw[if_pos hw]at h
    simp only[hw,if_true];exact .inl (Oper.wp_mono (λa' w' h'=>wE os (j+1) _ a' w' hd' hk h') h)
  . rw[if_neg hw]at h
    simp only[hw,Bool.false_eq_true,if_false];exact wE os (j+1) _ _ _ hd' hk h
theorem Ka{m t:Nat}(hs:Region.noSelect ops=true)(ht:cO md ops m=true)(hm:ops.toList.length=m+t):∀(k:Nat) (os:List Oper) (i:Nat) (listed:Array Bool) (a:Act),ops.toList.drop i=os->i+k=m ->
  (∀q,q<i->listed.getD q true=true)->mJ md ops t k i listed=true ->
  eU P ops Q S k os a->mK P md ops S m (λlisted a=>∀w,S w->wpAny P md ops Q t listed a w) k listed a
 | 0,os,i,listed,a,hd,hi,hl,hk,h=>by
  exact Z2b
 | k+1,[],i,listed,a,_,_,_,_,h=>h.elim
 | k+1,o::os,i,listed,a,hd,hi,hl,hk,⟨v,hy,hn⟩=>by
  simp only[mJ,Bool.and_eq_true]at hk;obtain⟨⟨hf,hr⟩,hk⟩:=hk;obtain⟨ho,hd'⟩:=drop_cons hd;refine IX ht ak ho (Region.noSelect_spec hs) k listed a (mR ho hf) (by simpa using hr) hy ?_;refine Ka hs ht hm k os (i+1) _ _ hd' ak ?_ hk hn;exact Z1l
theorem wM{id:Nat}(m t:Nat)(S:World->Prop)(hp:P.follows .mixedOrders=true)(hs:Region.noSelect l.toArray=true)
  (hl:l.length=m+t) (ht:cO .any l.toArray m=true) (hk:mJ .any l.toArray t m 0 (Array.replicate l.length false)=true) (hS:S w.drew) (h:eU P l.toArray Q S m l a):(Code.region id l.toArray true).wp P Q a w :=
 wp_region_any hp (by
  have h1:=mK.any (Q:=Q) (tf:=t) m (Array.replicate l.length false) a (Ka (md:=.any) (Q:=Q) (m:=m) (t:=t) hs ht (by simpa using hl) m l 0 (Array.replicate l.length false) a bI ak (λq hq=>by omega) hk h) _ hS;have e:l.toArray.size=t+m:=by simp;omega
  rw[e];have e2:Array.replicate (t+m) false=Array.replicate l.length false:=by rw[hl,Nat.add_comm]
  rw[e2];exact h1)
theorem Ev{id:Nat}{W0 w:World}(h0:RowKit.Below W0.heap.size W0 w)(hp:P.follows .mixedOrders=true)(hs:Region.noSelect l.toArray=true)
  (hk:mJ .any l.toArray 0 l.length 0 (Array.replicate l.length false)=true) (h:eU P l.toArray Q (λw'=>RowKit.Below W0.heap.size W0 w') l.length l a):(Code.region id l.toArray true).wp P Q a w :=
 wM l.length 0 _ hp hs bI (by
  unfold cO;rw[jb6];intro j hj;have:j<l.length:=by simpa using hj
  simp[this]) hk h0.drew h
theorem Ew{id:Nat}{W0 w:World}(m t:Nat)(h0:RowKit.Below W0.heap.size W0 w)(hp:P.follows .mixedOrders=true)(hs:Region.noSelect l.toArray=true)
  (hl:l.length=m+t) (ht:cO .any l.toArray m=true) (hk:mJ .any l.toArray t m 0 (Array.replicate l.length false)=true) (h:eU P l.toArray Q (λw'=>RowKit.Below W0.heap.size W0 w') m l a):(Code.region id l.toArray true).wp P Q a w :=
 wM m t _ hp hs hl ht hk h0.drew h
theorem Xq{k:Nat}(hw:Region.wanted o (yielded ops a.tmps)=false)(h:eU P ops Q S k os (a.put o.dst undef)):eU P ops Q S (k+1) (o::os) a :=
 ⟨undef,.inr ⟨hw,rfl⟩,h⟩
theorem jq{k:Nat}(hw:Region.wanted o (yielded ops a.tmps)=true)(hv:∀w,S w->(execOp a.eval o).run P w=.ok (.value v) w)
  (h:eU P ops Q S k os (a.put o.dst v)):eU P ops Q S (k+1) (o::os) a :=
 ⟨v,.inl ⟨hw,λw hS=>by rw[hv w hS];exact⟨rfl,hS⟩⟩,h⟩
theorem Ey{k:Nat}{f:FuncId}{args:Array Value}(hw:Region.wanted o (yielded ops a.tmps)=true)
  (hv:∀w,S w->(execOp a.eval o).run P w=.ok (.enter f args) w) (hc:∀w,S w->Calls P f args w λe w''=>e=.returned v/\S w'')
  (h:eU P ops Q S k os (a.put o.dst v)):eU P ops Q S (k+1) (o::os) a :=
 ⟨v,.inl ⟨hw,λw hS=>by rw[hv w hS];exact hc w hS⟩,h⟩
theorem bY(h:∀w,S w->Q .normal a w):eU P ops Q S 0 [] a:=h
theorem dH(h:∀w,S w->nR P ops Q os a w):eU P ops Q S 0 os a:=h
theorem oz(hw:Region.wanted o (yielded ops a.tmps)=true)(h:∀K:Act->World->Prop,(∀a w,nR P ops Q os a w->K a w)->o.wp P a w K Q):nR P ops Q (o::os) a w:=by
 unfold nR;rw[if_pos hw];exact h _ λ_ _ h=>h
theorem bF(h:Q .normal a w):nR P ops Q [] a w:=h
end
end Go.Proofs.YtfohooineeijkaaGreat.aj
namespace Go.Proofs.YtfohooineeijkaaGreat
open Go aj
variable {os:List Oper}{v:Value}{A:Array Value}{W0 w:World}{a a':Act}{F:FuncId}
section
variable {P:Program} {ops:Array Oper} {Q:Exit->Act->World->Prop} {md:Region.Mode} {S:World->Prop}
theorem eD{P:Prop}(h:P:=by go_simp;first|done|with_reducible rfl|exact⟨rfl,rfl⟩):P:=h
theorem bV(a:Act)(d:Option Tmp)(v:Value):a.put d v=match d with|some d=>{ a with tmps:=a.tmps.setIfInBounds d v }|none=>a:=rfl
theorem bW{α:Type}(l:List α)(i:Nat)(x:α):l.toArray.setIfInBounds i x=(l.set i x).toArray:=List.setIfInBounds_toArray ..
theorem bX{α:Type}(x:α)(l:List α)(y:α):(x::l).set 0 y=y::l:=rfl
theorem tks{α:Type}(x:α)(l:List α)(i:Nat)(y:α):(x::l).set (i+1) y=x::l.set i y:=rfl
theorem jV{k:Nat}{o:Oper}(h:eU P ops Q S k os a')(hw:Region.wanted o (yielded ops a.tmps)=false:=by rfl)(ha:a.put o.dst undef=a':=by first|(simp only[Act.put,List.setIfInBounds_toArray,List.set_cons_zero,List.set_cons_succ];rfl)|(simp only[Act.put,List.setIfInBounds_toArray,List.set_cons_zero,List.set_cons_succ];done)|rfl):eU P ops Q S (k+1) (o::os) a:=Xq hw (ha▸h)
theorem jX{k:Nat}{o:Oper}(h:eU P ops Q S k os a')(hw:Region.wanted o (yielded ops a.tmps)=true:=by rfl)
 (hv:∀w,S w->(execOp a.eval o).run P w=.ok (.value v) w:=by intro w2 hS;obtain⟨hc,hf⟩:=iV hS;go_simp;first|done|with_reducible rfl|exact⟨rfl,rfl⟩) (ha:a.put o.dst v=a':=by first|(simp only[Act.put,List.setIfInBounds_toArray,List.set_cons_zero,List.set_cons_succ];rfl)|(simp only[Act.put,List.setIfInBounds_toArray,List.set_cons_zero,List.set_cons_succ];done)|rfl):eU P ops Q S (k+1) (o::os) a:=jq hw hv (ha▸h)
theorem jW{k:Nat}{d g x y t p af gd}{f:FuncId}{args:Array Value}(h:eU P ops Q S k os a')(hw:Region.wanted ⟨d,.call ⟨.value g,x,y⟩,t,p,af,gd⟩ (yielded ops a.tmps)=true:=by rfl)
 (hv:∀w,S w->(execOp a.eval ⟨d,.call ⟨.value g,x,y⟩,t,p,af,gd⟩).run P w=.ok (.enter f args) w:=by intro w2 hS;go_simp;first|done|with_reducible rfl|exact⟨rfl,rfl⟩) (hc:∀w,S w->Calls P f args w λe w''=>e=.returned v/\S w'') (ha:a.put d v=a':=by first|(simp only[Act.put,List.setIfInBounds_toArray,List.set_cons_zero,List.set_cons_succ];rfl)|(simp only[Act.put,List.setIfInBounds_toArray,List.set_cons_zero,List.set_cons_succ];done)|rfl):eU P ops Q S (k+1) (⟨d,.call ⟨.value g,x,y⟩,t,p,af,gd⟩::os) a:=Ey hw hv hc (ha▸h)
theorem vS{id:Nat}{l:List Oper}{a:Act}(h:eU P l.toArray Q (λw'=>RowKit.Below W0.heap.size W0 w') l.length l a)(h0:RowKit.Below W0.heap.size W0 w:=by exact RowKit.Below.refl _ _)(hp:P.follows .mixedOrders=true:=by kernel_rfl)(hs:Region.noSelect l.toArray=true:=by kernel_rfl)
 (hk:mJ .any l.toArray 0 l.length 0 (Array.replicate l.length false)=true:=by kernel_rfl):(Code.region id l.toArray true).wp P Q a w:=Ev h0 hp hs hk h
theorem zB{id:Nat}{l:List Oper}{a:Act}(m t:Nat)(h:eU P l.toArray Q (λw'=>RowKit.Below W0.heap.size W0 w') m l a)(h0:RowKit.Below W0.heap.size W0 w:=by exact RowKit.Below.refl _ _)(hp:P.follows .mixedOrders=true:=by kernel_rfl)(hs:Region.noSelect l.toArray=true:=by kernel_rfl)
 (hl:l.length=m+t:=by rfl) (ht:cO .any l.toArray m=true:=by kernel_rfl) (hk:mJ .any l.toArray t m 0 (Array.replicate l.length false)=true:=by kernel_rfl):(Code.region id l.toArray true).wp P Q a w:=Ew m t h0 hp hs hl ht hk h
theorem vH{o:Oper}{a:Act}{w:World}(h:∀K:Act->World->Prop,(∀a w,nR P ops Q os a w->K a w)->o.wp P a w K Q)(hw:Region.wanted o (yielded ops a.tmps)=true:=by rfl):nR P ops Q (o::os) a w:=oz hw h
theorem jI(hS:RowKit.Below W0.heap.size W0 w)(h:Calls P F A w λe w'=>e=.returned v/\RowKit.Below w.heap.size w w'):Calls P F A w λe w'=>e=.returned v/\RowKit.Below W0.heap.size W0 w':=h.mono λ_ _ h=>⟨h.1,hS.trans (h.2.mono hS.size)⟩
theorem AF{w:World}(hS:S w)(h:Calls P F A w λe w'=>e=.returned v/\w=w'):Calls P F A w λe w'=>e=.returned v/\S w':=h.mono λ_ _ h=>⟨h.1,h.2▸hS⟩
theorem oo{w:World}{R:Ending->World->Prop}(h:Calls P F A w λe w'=>e=.returned v/\w=w')(k:R (.returned v) w):Calls P F A w R:=h.mono λ_ _ ⟨e1,e2⟩=>by subst e1 e2;exact k
end
end Go.Proofs.YtfohooineeijkaaGreat
namespace Go.Proofs.YtfohooineeijkaaGreat.Fix
open Go.ChangeShapes Go.WideShapes Go.ChangeAt Go.RowKit
open Go.Proofs.Tryz renaming prog → ja0
open World renaming alloc → ja5
theorem kZ(k n base:Int)(w:World):Calls ja0 146 #[.agg #[k,n],base] w λe w'=>e=.returned (.bool (Fx.dY k base))/\Below w w w':=by
 go_enter Tryz.func146,Tryz.ntmps146
 go_wp2
 all_goals go_ret
 all_goals
  refine⟨fV (by unfold Fx.dY;simp[*]),?_⟩;exact Z1
theorem jF(k n base none:Int)(w:World):Calls ja0 107 #[.agg #[k,n],base,none] w λe w'=>e=.returned (.int .i64 (Fx.len k n base none))/\Below w w w':=by
 cases hF:Fx.dY k base with
 | false =>
   have Hr:=ah (Fx.aaT (n:=n) (none:=none) hF);go_enter Tryz.func107,Tryz.ntmps107
   go_wp2_with (first|(go_at_call 34;with_reducible refine oo (fO _ _) ?_)|(go_at_call 146;(with_reducible refine(kZ _ _ _ _).mono ?_);rintro e w' ⟨rfl,hb⟩;(try replace hb:=Below.after (by assumption) hb);obtain⟨hc,hf⟩:=iV hb;have hz:=hb.size;(try simp at hz)))
   all_goals go_ret
   all_goals
    refine⟨bQ Hr.out.symm,?_⟩;exact Z1
 | true =>
   have h:=Fx.WV.1 hF;by_cases h1:k=1
   . clear h
     subst h1;have Hr:=ah (Fx.adt (k:=1) (n:=n) (base:=base) (none:=none) rfl);exact Z1b
   . obtain⟨h2,h3⟩:k=2/\0<=base:=by omega
     clear h;subst h2;have Hr:=ah (Fx.aaS (k:=2) (n:=n) (none:=none) rfl h3);exact Z1b
theorem Uk(k n:Int)(w:World):Calls ja0 195 #[.agg #[k,n]] w λe w'=>e=.returned (.bool (Fx.valid k n))/\Below w w w':=by
 by_cases h0:k=0
 . subst h0
   go_enter Tryz.func195,Tryz.ntmps195
   go_wp2
   go_ret
   refine⟨fV (by unfold Fx.valid;rw[if_pos rfl];rfl),?_⟩;exact Z1
 . by_cases h1:k=1
   . subst h1
     go_enter Tryz.func195,Tryz.ntmps195
     go_wp2;refine vS ?_ (h0:=by first|assumption|exact Below.refl _ _)
     (repeat (first|refine jV ?_ | refine jW ?_ (hc:=by intro w2 hS;first|with_reducible exact AF hS (fO _ _))|refine jX ?_))
     refine aj.bY ?_;intro w2 hS;go_wp2
     go_ret
     refine⟨fV (by unfold Fx.valid;rw[if_neg ak,if_pos rfl];rfl),?_⟩;exact Z1
   . by_cases h2:k=2
     . subst h2
       go_enter Tryz.func195,Tryz.ntmps195
       exact Z3a
     . have g0:(k==0)=false:=by simp[h0]
       have g1:(k==1)=false:=by simp[h1]
       have g2:(k==2)=false:=by simp[h2]
       go_enter Tryz.func195,Tryz.ntmps195
       go_wp2
       go_ret
       refine⟨fV (by unfold Fx.valid;rw[if_neg h0,if_neg h1,if_neg h2]),?_⟩;exact Z1
theorem Pq(k n:Int)(w:World):Calls ja0 125 #[.agg #[k,n]] w λe w'=>e=.returned (.bool (Fx.valid k n))/\Below w w w':=by
 by_cases h0:k=0
 . subst h0
   go_enter Tryz.func125,Tryz.ntmps125
   go_wp2
   go_ret
   refine⟨fV (by unfold Fx.valid;rw[if_pos rfl];rfl),?_⟩;exact Z1
 . by_cases h1:k=1
   . subst h1
     go_enter Tryz.func125,Tryz.ntmps125
     go_wp2
     all_goals
      go_ret
      refine⟨fV (by unfold Fx.valid Fx.cut;rw[if_neg ak,if_pos rfl];(repeat' split)<;>rw[Bool.eq_iff_iff]<;>simp<;>omega),?_⟩;exact Z1
   . by_cases h2:k=2
     . subst h2
       go_enter Tryz.func125,Tryz.ntmps125
       exact Z3a
     . have g0:(k==0)=false:=by simp[h0]
       have g1:(k==1)=false:=by simp[h1]
       have g2:(k==2)=false:=by simp[h2]
       go_enter Tryz.func125,Tryz.ntmps125
       go_wp2
       go_ret
       refine⟨fV (by unfold Fx.valid;rw[if_neg h0,if_neg h1,if_neg h2]),?_⟩;exact Z1
theorem aa9(k n far base:Int)(B:Nat)(w:World)(hcell:w.cell? ⟨B,0,none⟩=some (.int .i64 base)):Calls ja0 149 #[.agg #[k,n],far,B] w λe w'=>e=.returned (.int .i64 (Fx.len k n base far))/\Below w w w':=by
 have hlt:B<w.heap.size:=World.block_lt_of_cell? _ _ hcell;go_enter Tryz.func149,Tryz.ntmps149
 go_wp2_with (first|(go_at_call 107;(with_reducible refine(jF _ _ _ _ _).mono ?_);rintro e w' ⟨rfl,hb⟩;(try replace hb:=Below.after (by assumption) hb);obtain⟨hc,hf⟩:=iV hb;have hz:=hb.size;(try simp at hz)))
 exact Z27
theorem IY(n lk ln hk hn base:Int)(w:World):Calls ja0 109 #[n,.agg #[lk,ln],.agg #[hk,hn],base] w λe w'=>e=.returned (.int .i64 (Fx.limit n lk ln hk hn base))/\Below w w w':=by
 have Kc:=@tC;by_cases h:Fx.clamp n (Fx.len lk ln base (-1099511627776)) (Fx.len hk hn base 1099511627776)<0
 all_goals
  (try replace h:=Int.not_lt.1 h)
  go_enter Tryz.func109,Tryz.ntmps109
  go_upto_region 1 with(fail)
  (generalize hW:ja5 (ja5 (ja5 w _) _) _=W0;have A0:At W0 (w.heap.size) (.cells #[lk,ln] 50):=WL;have A1:At W0 (w.heap.size+1) (.cells #[hk,hn] 50):=TM;have A2:At W0 (w.heap.size+1+1) (.cells #[base] 3):=TN;have hB:Below w w W0:=Z44;clear hW;obtain⟨l0,aA,aB⟩:=At.two A0;obtain⟨l1,aH,aJ⟩:=At.two A1;obtain⟨l2,aL⟩:=At.one A2)
  go_upto_region 2 with(fail)
  refine vS ?_
  (repeat (first|refine jV ?_ | refine jW ?_ (hc:=by intro w2 hS;first|with_reducible exact jI hS (aa9 _ _ _ _ _ _ (((iV hS).1 _ _ l2).trans aL))|with_reducible exact AF hS (qc _ _ _ _))|refine jX ?_))
  refine aj.bY ?_;intro w2 hS;go_wp2
  go_ret
  exact⟨bQ (by unfold Fx.limit Fx.mx;split<;>omega),Below.ay hB aF hS⟩
theorem zH(A:Option Addr)(zs:List Int)(n c:Nat)(w:World)(h:Ints w A zs)(hn:zs.length=n) :
  Calls ja0 171 #[.slice A n c] w λe w'=>e=.returned (.int .i64 (Fx.coll zs))/\w=w':=by
 obtain⟨hm,h⟩:=h;unfold maxLen at hm;rw[hn]at hm h;have HN:=ah hn;clear hn;have HA:=ah h;clear h;go_enter Tryz.func171,Tryz.ntmps171
 go_wp2
 go_loop [3,4,9] (λg s i=>∃k:Nat,k<=n/\i=.int .i64 k/\g=.int .i64 (Fx.top (zs.take k))/\s=.int .i64 (Fx.bot (zs.take k))) (λ_ _ i=>n-(intOf i).toNat)
 case atStart=>exact⟨0,by omega,rfl,rfl,rfl⟩
 case round =>
  obtain⟨k,hk,rfl,rfl,rfl⟩:=hrel;by_cases hlt:k<n
  . obtain⟨b,off,rfl,hc⟩:=HA.out ak
    have hcell:=hc k hlt;clear hc;have hs:Hid (max (Fx.top (zs.take k)) (zs.getD k 0)=Fx.top (zs.take (k+1))):=ah (by rw[fJ zs k Wq,Fx.WY]);have ht:Hid (min (Fx.bot (zs.take k)) (zs.getD k 0)=Fx.bot (zs.take (k+1))):=ah (by rw[fJ zs k Wq,Fx.WZ]);clear HA;generalize zs.getD k 0=z at *;go_wp2
    go_round
    case rel=>exact⟨k+1,by omega,by go_num,by rw[hs.out],by rw[ht.out]⟩
    case measure=>simp[intOf];omega
  . go_wp2_with (first|(go_at_call 82;with_reducible refine oo (jG _ _ _) ?_))
    go_ret
    exact⟨bQ (by rw[List.take_of_length_le (by rw[HN.out];omega)];rfl),rfl⟩
theorem Mw(A:Option Addr)(zs:List Int)(n c:Nat)(w:World)(h:Ints w A zs)(hn:zs.length=n) :
  Calls ja0 127 #[.slice A n c] w λe w'=>e=.returned (.int .i64 (Fx.coll zs))/\w=w':=by
 have S1:=zH A zs n c w h hn;go_enter Tryz.func127,Tryz.ntmps127
 go_wp2_with fail
 refine S1.mono ?_;rintro e w' ⟨rfl,rfl⟩;go_wp2;exact Zy
theorem Xr(w:World)(a b:Int)(T:TypeId):Ints (w.alloc (.cells #[a,b] T)) (some ⟨w,0,none⟩) [a,b]:=Mv w [a,b] T bI
theorem Xt(a b:Int)(w:World):Calls ja0 172 #[a,b] w λe w'=>e=.returned (.int .i64 (Fx.coll [a,b]))/\Below w w w':=by
 go_enter Tryz.func172,Tryz.ntmps172
 go_wp2_with (go_at_call 171;refine(zH _ [a,b] 2 2 _ (Xr _ _ _ _) rfl).mono ?_;rintro e w' ⟨rfl,rfl⟩)
 go_ret
 exact⟨rfl,aD aG _⟩
theorem Ul(n:Int)(a b:Bool)(w:World)(h1 : -1099511627776<=n)(h2:n<=1099511627776):Calls ja0 170 #[n,a,b] w λe w'=>e=.returned (.tuple #[Fx.shA n a b,Fx.shB n a b])/\w=w':=by
 by_cases h:n<=0
 . go_enter Tryz.func170,Tryz.ntmps170
   go_wp2_with (first|(go_at_call 43;with_reducible refine oo (mY _ _ _) ?_))
   go_ret2
   exact⟨J8 (by unfold Fx.shA;rw[if_pos ak]) (by unfold Fx.shB;rw[if_pos ak]),rfl⟩
 . cases a<;>cases b
   all_goals
    go_enter Tryz.func170,Tryz.ntmps170
    go_wp2_with (first|(go_at_call 43;with_reducible refine oo (mY _ _ _) ?_))
    go_ret2
    exact⟨J8 (by unfold Fx.shA;rw[if_neg ak];rfl) (by unfold Fx.shB;rw[if_neg ak];rfl),rfl⟩
theorem Xu(room size bk bn ek en base:Int)(w:World):Calls ja0 126 #[room,size,.agg #[bk,bn],.agg #[ek,en],base] w λe w'=>e=.returned (.tuple #[.int .i64 (Fx.Xa room size (Fx.len bk bn base 0) (Fx.len ek en base 0) (Fx.dY bk base) (Fx.dY ek base)),.int .i64 (Fx.afz room size (Fx.len bk bn base 0) (Fx.len ek en base 0) (Fx.dY bk base) (Fx.dY ek base))])/\Below w w w':=by
 go_enter Tryz.func126,Tryz.ntmps126
 go_upto_region 1 with(fail)
 (generalize hW:ja5 (ja5 w _) _=W0;have A0:At W0 (w.heap.size) (.cells #[bk,bn] 50):=TM;have A1:At W0 (w.heap.size+1) (.cells #[ek,en] 50):=TN;have hB:Below w w W0:=(by((rw[<-hW])<;>exact aD (aD aG _) _));clear hW;obtain⟨l0,aA,aB⟩:=At.two A0;obtain⟨l1,aH,aJ⟩:=At.two A1)
 refine vS ?_
 (repeat (first|refine jV ?_ | refine jW ?_ (hc:=by intro w2 hS;first|with_reducible exact jI hS (jF _ _ _ _ _))|refine jX ?_))
 refine aj.bY ?_;intro w2 hS
 (clear l0 aA aB l1 aH aJ);(replace hB:=Below.ay qj aF hS);replace A0:=At.keep sM hS;replace A1:=At.keep qP hS;clear hS;obtain⟨l0,aA,aB⟩:=At.two A0;obtain⟨l1,aH,aJ⟩:=At.two A1
 go_upto_region 3 with(first|(go_at_call 43;with_reducible refine oo (mY _ _ _) ?_)|(go_at_call 82;with_reducible refine oo (jG _ _ _) ?_))
 refine vS ?_
 (repeat (first|refine jV ?_ | refine jW ?_ (hc:=by intro w2 hS;first|with_reducible exact jI hS (kZ _ _ _ _)|with_reducible exact AF hS (Ul _ _ _ _ (Fx.adu _ _) (Fx.sub_le _ _)))|refine jX ?_))
 refine aj.bY ?_;intro w2 hS
 (clear l0 aA aB l1 aH aJ);(replace hB:=Below.ay qj aF hS);replace A0:=At.keep sM hS;replace A1:=At.keep qP hS;clear hS;obtain⟨l0,aA,aB⟩:=At.two A0;obtain⟨l1,aH,aJ⟩:=At.two A1
 go_wp2_with (first|(go_at_call 82;with_reducible refine oo (jG _ _ _) ?_))
 go_ret2
 exact⟨rfl,hB⟩
end Go.Proofs.YtfohooineeijkaaGreat.Fix
namespace Go.Proofs.YtfohooineeijkaaGreat.aj
open Go Fix
open List renaming ne_nil_of_mem → jb3,all_eq_true → jb6,contains_iff_mem → jb',range → jc0
variable {a:Act}{v:Value}{o:Oper}{os:List Oper}{i:Nat}
section
variable {P:Program} {ops:Array Oper} {Q:Exit->Act->World->Prop} {md:Region.Mode} {S:World->Prop} {N:Value->World->Prop} {s m t:Nat} {so:Oper} {tail:List Oper}
def acS(P:Program)(w:World)(v:Value):Result Next->Prop
 | .ok (.value u) w'=>u=v/\RowKit.Below w.heap.size w w'
 | .ok (.enter f args) w'=>Calls P f args w' λe w''=>e=.returned v/\RowKit.Below w.heap.size w w''
 | _=>False
def GK(P:Program)(ops:Array Oper)(S:World->Prop)(o:Oper)(v:Value)(a:Act):Prop :=
 (Region.wanted o (yielded ops a.tmps)=true/\∀w,S w->acS P w v ((execOp a.eval o).run P w)) \/
 (Region.wanted o (yielded ops a.tmps)=false/\v=undef)
def Stable(S:World->Prop):Prop:=∀w w',S w->RowKit.Below w.heap.size w w'->S w'
theorem GK.of_same{a a':Act}(hy:GK P ops S o v a)(he:execOp a'.eval o=execOp a.eval o)
  (hw:Region.wanted o (yielded ops a'.tmps)=Region.wanted o (yielded ops a.tmps)):GK P ops S o v a':=by
 unfold GK at *;rw[he,hw];exact hy
theorem GK.wpOp(hi:ops[i]? = some o)(hy:GK P ops S o v a)
  {K:Act->World->Prop} {w:World} (hS:S w) (h:∀w',RowKit.Below w.heap.size w w'->K (a.put o.dst v) w'):wpOp P ops Q i K a w:=by
 unfold Go.wpOp;simp only[hi];rcases hy with⟨hw,hv⟩|⟨hw,rfl⟩
 . simp only[hw,if_true]
   refine .inl ?_;unfold Oper.wp;have h1:=hv w hS;generalize (execOp a.eval o).run P w=r at *;cases r with
   | ok n w' =>
     cases n<;>simp only[acS]at h1<;>simp only[Oper.upon]
     case value u=>obtain⟨rfl,hs⟩:=h1;exact h _ hs
     case enter f args=>exact Calls.mono h1 λe w'' ⟨he,hs⟩=>by subst he;exact h _ hs
   | halt x w'=>exact h1.elim
 . simp only[hw,Bool.false_eq_true,if_false];exact h _ (RowKit.Below.refl _ _)
def Known(S:World->Prop)(N:Value->World->Prop):Option Value->World->Prop
 | none,w=>S w
 | some v,w=>N v w
def jQ(P:Program)(md:Region.Mode)(ops:Array Oper)(S:World->Prop)(s m:Nat)(B:Value->Array Bool->Act->Prop):Nat->Array Bool->Act->Option Value->Prop
 | 0,listed,a,g=>(∀k,k<m->listed.getD k true=true)/\∃v,g=some v/\B v listed a
 | fuel+1,listed,a,g =>
   Region.ready md ops listed≠[] /\
   ∀i∈Region.ready md ops listed,∃o,ops[i]? = some o /\
    ((i≠s/\∃v,GK P ops S o v a/\jQ P md ops S s m B fuel (listed.setIfInBounds i true) (a.put o.dst v) g) \/
     (i=s/\g=none/\∀v,jQ P md ops S s m B fuel (listed.setIfInBounds i true) (a.put o.dst v) (some v)))
def Special(P:Program)(ops:Array Oper)(S:World->Prop)(N:Value->World->Prop)(o:Oper):Prop :=
 ∀(a:Act) (w:World),S w->Region.wanted o (yielded ops a.tmps)=true/\∃v w',(execOp a.eval o).run P w=.ok (.value v) w'/\N v w'
theorem Special.wpOp(hi:ops[i]? = some so)(hy:Special P ops S N so)
  {K:Act->World->Prop} {w:World} (hS:S w) (h:∀v w',N v w'->K (a.put so.dst v) w'):wpOp P ops Q i K a w:=by
 unfold Go.wpOp;simp only[hi];obtain⟨hw,v,w',hr,hN⟩:=hy a w hS;simp only[hw,if_true];refine .inl ?_;unfold Oper.wp;rw[hr];simp only[Oper.upon];exact h v w' hN
theorem jQ.any{tf:Nat}(hso:ops[s]? = some so)(hsp:Special P ops S N so)(hS0:Stable S)(hN0:∀v,Stable (N v))(hNS:∀v w,N v w->S w) :
  ∀(fuel:Nat) (listed:Array Bool) (a:Act) (g:Option Value),jQ P md ops S s m (λv listed a=>∀w,N v w->wpAny P md ops Q tf listed a w) fuel listed a g->∀w,Known S N g w->wpAny P md ops Q (tf+fuel) listed a w
 | 0,_,_,g,⟨_,v,hg,hB⟩=>λw hw=>by subst hg;exact hB w hw
 | fuel+1,_,_,g,h=>λw hw=>⟨λhr=>absurd hr h.1,λi hi=>by
  obtain⟨o,ho,hcase⟩:=h.2 i hi;have hSw:S w:=by
   cases g with
   | none=>exact hw
   | some v=>exact hNS v w hw
  rcases hcase with⟨_,v,hd,hn⟩|⟨hi,hg,hn⟩
  . refine hd.wpOp ho hSw λw' hb=>jQ.any hso hsp hS0 hN0 hNS fuel _ _ g hn w' ?_
    cases g with
    | none=>exact hS0 w w' hw hb
    | some u=>exact hN0 u w w' hw hb
  . obtain rfl:so=o:=Option.some.inj (hso.symm.trans (hi▸ho))
    subst hg
    exact hsp.wpOp ho hSw λv w' hN=>jQ.any hso hsp hS0 hN0 hNS fuel _ _ (some v) (hn v) w' hN⟩
theorem Pv{B:Value->Array Bool->Act->Prop}(ht:cO md ops m=true){oi:Oper}(him:i<m)(his:i≠s)(hi:ops[i]? = some oi)(hsel:∀(j:Nat) (o:Oper) cs b,ops[j]? = some o->o.op ≠ .select cs b)
  (fuel:Nat) (listed:Array Bool) (a:Act) (g:Option Value) (hc:Clear md ops listed i oi) (hr:i∈Region.ready md ops listed) (hy:GK P ops S oi v a)
  (H:jQ P md ops S s m B fuel (listed.setIfInBounds i true) (a.put oi.dst v) g):jQ P md ops S s m B (fuel+1) listed a g:=by
 induction fuel generalizing listed a g with
 | zero =>
   refine⟨jb3 hr,λj hj => ?_⟩;rcases Nat.decEq j i with hji|rfl
   . exact Z2n
   . exact⟨oi,hi,.inl ⟨his,v,hy,H⟩⟩
 | succ fuel ih =>
   refine⟨jb3 hr,λj hj => ?_⟩;rcases Nat.decEq j i with hji|rfl
   . obtain⟨oj,ho,hcase⟩:=H.2 j (ready_mono hj hji)
     obtain⟨a1,a2,a3⟩:=Oper.apart_spec ((hc j oj ho hji (mem_ready.1 hj).1).resolve_left (lF hr hj ho));rcases hcase with⟨hjs,u,hyj,hn⟩|⟨hjs,hg,hn⟩
     . refine⟨oj,ho,.inl ⟨hjs,u,hyj.of_same (execOp_put oj (λcs b=>hsel j oj cs b ho) a oi.dst v a1).symm (wanted_put oj a oi.dst v a1).symm,ih _ _ _ (hc.set j) (ready_mono hr (Ne.symm hji)) ?_ ?_⟩⟩
       . exact Z10
       . exact Z28
     . refine⟨oj,ho,.inr ⟨hjs,hg,λu=>ih _ _ _ (hc.set j) (ready_mono hr (Ne.symm hji)) ?_ ?_⟩⟩
       . exact Z10
       . rw[Array.setIfInBounds_comm _ _ hji,<-Act.put_comm a v u a2];exact hn u
   . exact⟨oi,hi,.inl ⟨his,v,hy,H⟩⟩
def wN(md:Region.Mode)(ops:Array Oper)(s m t:Nat):List Nat->Array Bool->Bool
 | [],listed=>(Region.ready md ops listed).contains s&&forced md ops t m (listed.setIfInBounds s true)
 | i::r,listed=>Region.free md ops listed i&&(Region.ready md ops listed).contains i&&decide (i<m) && !(i==s)&&wN md ops s m t r (listed.setIfInBounds i true)
def gW(P:Program)(ops:Array Oper)(Q:Exit->Act->World->Prop)(S:World->Prop)(N:Value->World->Prop)(so:Oper)(tail:List Oper):List Oper->Act->Prop
 | [],a=>∀v w,N v w->nR P ops Q tail (a.put so.dst v) w
 | o::os,a=>∃v,GK P ops S o v a/\gW P ops Q S N so tail os (a.put o.dst v)
theorem yN{listed:Array Bool}{i q:Nat}(h:q=i->i<listed.size)(h':q≠i->listed.getD q true=true):(listed.setIfInBounds i true).getD q true=true:=by
 by_cases e:q=i
 . subst e
   have:=h rfl;simp[this]
 . rw[getD_set_ne true (Ne.symm e)];exact h' e
theorem Ed{listed:Array Bool}(h:i∈Region.ready md ops listed):i<listed.size:=by
 have hun:=(mem_ready.1 h).1;rcases Nat.lt_or_ge i listed.size with h'|h'
 . exact h'
 . simp[Array.getElem?_eq_none h']at hun
theorem Mx(hs:Region.noSelect ops=true)(ht:cO md ops m=true)(hso:ops[s]? = some so)(hsm:s<m)(htail:ops.toList.drop m=tail)(htl:tail.length=t) :
  ∀(os:List Oper) (L:List Nat) (listed:Array Bool) (a:Act),L.map (λi=>ops[i]?)=os.map some->(∀q,q<m->q ∉ L->q≠s->listed.getD q true=true)->wN md ops s m t L listed=true ->
  gW P ops Q S N so tail os a->jQ P md ops S s m (λv listed a=>∀w,N v w->wpAny P md ops Q t listed a w) (L.length+1) listed a none
 | [],[],listed,a,_,hl,hk,h=>by
  simp only[wN,Bool.and_eq_true,jb']at hk;obtain⟨hr,hf⟩:=hk;refine⟨jb3 hr,λi hi => ?_⟩;by_cases his:i=s
  . exact Z1o
  . exfalso
    obtain⟨hun,oi,ho,_⟩:=mem_ready.1 hi;by_cases him:i<m
    . have:=hl i him bI his
      rw[hun]at this;cases this
    . exact lF hr hi ho (qo ht ho ak hsm)
 | [],i::r,_,_,hL,_,_,_=>by simp at hL
 | o::os,[],_,_,hL,_,_,_=>by simp at hL
 | o::os,i::r,listed,a,hL,hl,hk,⟨v,hy,hn⟩=>by
  simp only[List.map_cons,List.cons.injEq]at hL;obtain⟨ho,hL⟩:=hL;simp only[wN,Bool.and_eq_true,Bool.not_eq_true',beq_eq_false_iff_ne,decide_eq_true_eq,jb']at hk;obtain⟨⟨⟨⟨hf,hr⟩,him⟩,his⟩,hk⟩:=hk;refine Pv ht him his ho (Region.noSelect_spec hs) _ listed a none (mR ho hf) hr hy ?_;refine Mx hs ht hso hsm htail htl os r _ _ hL ?_ hk hn;intro q hq hqr hqs;exact yN (λ_=>Ed hr) (λhne=>hl q hq (by simp[hne,hqr]) hqs)
def Made(W0:World)(x:Obj)(v:Value)(w:World):Prop:=∃b,v=.pointer (some ⟨b,0,none⟩)/\W0.heap.size<=b/\At w b x/\RowKit.Below W0.heap.size W0 w
theorem zI(W0:World):Stable λw=>RowKit.Below W0.heap.size W0 w:=λ_ _ h hb=>Below.ay h aF hb
theorem BZ(W0:World)(x:Obj)(v:Value):Stable (Made W0 x v):=λ_ _ ⟨b,hv,h0,hA,h⟩ hb=>⟨b,hv,h0,hA.keep hb,Below.ay h aF hb⟩
theorem CW{id:Nat}{l:List Oper}{W0 w:World}{x:Obj}{norm:List Oper}(L:List Nat)(s m:Nat)(h0:RowKit.Below W0.heap.size W0 w)(hp:P.follows .mixedOrders=true)(hs:Region.noSelect l.toArray=true)
  (hso:l.toArray[s]? = some so) (htl:l.drop m=tail) (hL:L.map (λi=>l.toArray[i]?)=norm.map some) (hn:l.length=tail.length+(L.length+1))
  (hq:((jc0 m).all λq=>L.contains q||q==s)&&decide (s<m)=true) (ht:cO .any l.toArray m=true)
  (hk:wN .any l.toArray s m tail.length L (Array.replicate l.length false)=true)
  (hsp:∀(a:Act) (w:World),RowKit.Below W0.heap.size W0 w->Region.wanted so (yielded l.toArray a.tmps)=true/\(execOp a.eval so).run P w=.ok (.value (.pointer w)) (w.alloc x))
  (h:gW P l.toArray Q (λw'=>RowKit.Below W0.heap.size W0 w') (Made W0 x) so tail norm a):(Code.region id l.toArray true).wp P Q a w:=by
 refine wp_region_any hp ?_;simp only[Bool.and_eq_true,jb6,List.mem_range,Bool.or_eq_true,jb',beq_iff_eq,decide_eq_true_eq]at hq
 have hspec:Special P l.toArray (λw'=>RowKit.Below W0.heap.size W0 w') (Made W0 x) so:=λa w hb=>by
  obtain⟨hw,hr⟩:=hsp a w hb;exact⟨hw,_,_,hr,w.heap.size,rfl,hb.size,At.new _ _,aD hb _⟩
 have h1:=jQ.any (Q:=Q) (tf:=tail.length) hso hspec (zI W0) (BZ W0 x) (λv w ⟨_,_,_,_,hb⟩=>hb) (L.length+1) (Array.replicate l.length false) a none
  (Mx (md:=.any) (Q:=Q) hs ht hso hq.2 (by simpa using htl) rfl norm L (Array.replicate l.length false) a hL (λq hqm hqL hqs=>by
   rcases hq.1 q hqm with h'|h'
   . exact absurd h' hqL
   . exact absurd h' hqs) hk h) w.drew h0.drew
 exact Z2t
theorem Um(hw:Region.wanted o (yielded ops a.tmps)=false)(h:gW P ops Q S N so tail os (a.put o.dst undef)):gW P ops Q S N so tail (o::os) a :=
 ⟨undef,.inr ⟨hw,rfl⟩,h⟩
theorem Pw(hw:Region.wanted o (yielded ops a.tmps)=true)(hv:∀w,S w->(execOp a.eval o).run P w=.ok (.value v) w)
  (h:gW P ops Q S N so tail os (a.put o.dst v)):gW P ops Q S N so tail (o::os) a :=
 ⟨v,.inl ⟨hw,λw hS=>by rw[hv w hS];exact⟨rfl,RowKit.Below.refl _ _⟩⟩,h⟩
theorem Un{f:FuncId}{args:Array Value}(hw:Region.wanted o (yielded ops a.tmps)=true)
  (hv:∀w,S w->(execOp a.eval o).run P w=.ok (.enter f args) w) (hc:∀w,S w->Calls P f args w λe w''=>e=.returned v/\RowKit.Below w.heap.size w w'')
  (h:gW P ops Q S N so tail os (a.put o.dst v)):gW P ops Q S N so tail (o::os) a :=
 ⟨v,.inl ⟨hw,λw hS=>by rw[hv w hS];exact hc w hS⟩,h⟩
theorem oP{W0:World}{x:Obj}(h:∀(b:Nat) (w:World),W0.heap.size<=b->At w b x->RowKit.Below W0.heap.size W0 w->nR P ops Q tail (a.put so.dst (.pointer b)) w):gW P ops Q S (Made W0 x) so tail [] a :=
 λ_ w ⟨b,hv,hb,hA,hS⟩=>by subst hv;exact h b w hb hA hS
end
end Go.Proofs.YtfohooineeijkaaGreat.aj
namespace Go.Proofs.YtfohooineeijkaaGreat
open Go aj
variable {os:List Oper}{a a':Act}
section
variable {P:Program} {ops:Array Oper} {Q:Exit->Act->World->Prop} {md:Region.Mode} {S:World->Prop} {N:Value->World->Prop} {so:Oper} {tail:List Oper}
theorem sbk{o:Oper}(h:gW P ops Q S N so tail os a')(hw:Region.wanted o (yielded ops a.tmps)=false:=by rfl)(ha:a.put o.dst undef=a':=by first|(simp only[Act.put,List.setIfInBounds_toArray,List.set_cons_zero,List.set_cons_succ];rfl)|(simp only[Act.put,List.setIfInBounds_toArray,List.set_cons_zero,List.set_cons_succ];done)|rfl):gW P ops Q S N so tail (o::os) a:=Um hw (ha▸h)
theorem sbv{o:Oper}{v:Value}(h:gW P ops Q S N so tail os a')(hw:Region.wanted o (yielded ops a.tmps)=true:=by rfl)
 (hv:∀w,S w->(execOp a.eval o).run P w=.ok (.value v) w:=by intro w2 hS;obtain⟨hc,hf⟩:=iV hS;go_simp;first|done|with_reducible rfl|exact⟨rfl,rfl⟩) (ha:a.put o.dst v=a':=by first|(simp only[Act.put,List.setIfInBounds_toArray,List.set_cons_zero,List.set_cons_succ];rfl)|(simp only[Act.put,List.setIfInBounds_toArray,List.set_cons_zero,List.set_cons_succ];done)|rfl):gW P ops Q S N so tail (o::os) a:=Pw hw hv (ha▸h)
theorem sbc{d g x y t p af gd}{v:Value}{f:FuncId}{args:Array Value}(h:gW P ops Q S N so tail os a')(hw:Region.wanted ⟨d,.call ⟨.value g,x,y⟩,t,p,af,gd⟩ (yielded ops a.tmps)=true:=by rfl)
 (hv:∀w,S w->(execOp a.eval ⟨d,.call ⟨.value g,x,y⟩,t,p,af,gd⟩).run P w=.ok (.enter f args) w:=by intro w2 hS;go_simp;first|done|with_reducible rfl|exact⟨rfl,rfl⟩) (hc:∀w,S w->Calls P f args w λe w''=>e=.returned v/\RowKit.Below w.heap.size w w'') (ha:a.put d v=a':=by first|(simp only[Act.put,List.setIfInBounds_toArray,List.set_cons_zero,List.set_cons_succ];rfl)|(simp only[Act.put,List.setIfInBounds_toArray,List.set_cons_zero,List.set_cons_succ];done)|rfl):gW P ops Q S N so tail (⟨d,.call ⟨.value g,x,y⟩,t,p,af,gd⟩::os) a:=Un hw hv hc (ha▸h)
theorem sbt{id:Nat}{l:List Oper}{a:Act}{W0 w:World}{x:Obj}{norm:List Oper}(L:List Nat)(s m:Nat)
 (h:gW P l.toArray Q (λw'=>RowKit.Below W0.heap.size W0 w') (Made W0 x) so tail norm a) (h0:RowKit.Below W0.heap.size W0 w:=by exact RowKit.Below.refl _ _) (hp:P.follows .mixedOrders=true:=by kernel_rfl) (hs:Region.noSelect l.toArray=true:=by kernel_rfl)
 (hso:l.toArray[s]? = some so:=by rfl) (htl:l.drop m=tail:=by rfl) (hL:L.map (λi=>l.toArray[i]?)=norm.map some:=by rfl) (hn:l.length=tail.length+(L.length+1):=by rfl)
 (hq:((List.range m).all λq=>L.contains q||q==s)&&decide (s<m)=true:=by kernel_rfl) (ht:cO .any l.toArray m=true:=by kernel_rfl)
 (hk:wN .any l.toArray s m tail.length L (Array.replicate l.length false)=true:=by kernel_rfl)
 (hsp:∀(a:Act) (w:World),RowKit.Below W0.heap.size W0 w->Region.wanted so (yielded l.toArray a.tmps)=true/\(execOp a.eval so).run P w=.ok (.value (.pointer w)) (w.alloc x):=by intro a w2 hS;refine⟨rfl,?_⟩;go_simp;first|done|with_reducible rfl|exact⟨rfl,rfl⟩):(Code.region id l.toArray true).wp P Q a w:=CW L s m h0 hp hs hso htl hL hn hq ht hk hsp h
end
end Go.Proofs.YtfohooineeijkaaGreat
namespace Go.Proofs.YtfohooineeijkaaGreat.Fix
open Go.ChangeShapes Go.WideShapes Go.ChangeAt Go.RowKit
open Go.Proofs.Tryz renaming prog → ja0
open List renaming getElem?_eq_getElem → ja6,range → jc0
variable {Q:Exit->Act->World->Prop}{A:Option Addr}{w:World}{zs:List Int}{P:Program}
theorem Ints.lt(h:Ints w A zs)(h0:0<zs.length):∀x,A=some x->x.block<w.heap.size:=by
 intro x hx;obtain⟨b,off,rfl,hc⟩:=h.2 h0;injection hx with hx;subst hx;exact World.block_lt_of_cell? _ _ (hc 0 h0)
theorem Ints.after{W w:World}(h:Ints W A zs)(hb:Below W W w):Ints w A zs:=h.keep hb h.lt
theorem Ints.at_(h:Ints w A zs){k:Nat}(hk:k<zs.length):∃b off,A=some ⟨b,off,none⟩/\b<w.heap.size/\w.cell? ⟨b,off+k,none⟩=some (.int .i64 (zs.getD k 0)):=by
 obtain⟨b,off,rfl,hc⟩:=h.2 ak;exact⟨b,off,rfl,World.block_lt_of_cell? _ _ (hc k hk),hc k hk⟩
def bG(f:Nat->Int)(n k:Nat):Array Value:=((jc0 n).map λj=>Value.int .i64 (if j<k then f j else 0)).toArray
theorem dO(f:Nat->Int){n k j:Nat}(h:j<n):(bG f n k)[j]? = some (.int .i64 (if j<k then f j else 0)):=by simp[bG,h]
theorem yQ(f:Nat->Int)(n k:Nat):(bG f n k).size=n:=by simp[bG]
theorem j3(f:Nat->Int)(n:Nat):madeCells #[()] n=bG f n 0:=by
 apply Array.ext
 . simp[bG,size_madeCells]
 . intro i h1 h2
   simp[madeCells,bG,Nat.mod_one]
theorem lD(f:Nat->Int){n k:Nat}(h:k<n):(bG f n k).setIfInBounds k (.int .i64 (f k))=bG f n (k+1):=by
 apply Array.ext_getElem?;intro i;rw[Array.getElem?_setIfInBounds,yQ];by_cases hin:i<n
 . rw[dO f hin,dO f hin]
   by_cases hik:k=i
   . subst hik;simp[hin]
   . simp only[hik,if_false]
     have:(i<k)=(i<k+1):=by simp;omega
     simp only[this]
 . have h1:(bG f n k)[i]? = none:=Array.getElem?_eq_none (by rw[yQ];omega)
   have h2:(bG f n (k+1))[i]? = none:=Array.getElem?_eq_none (by rw[yQ];omega);rw[h1,h2];rw[if_neg ak]
theorem Px(f:Nat->Int)(n:Nat)(h:f 0=0):bG f n 0=bG f n 1:=by
 unfold bG;congr 1;apply List.map_congr_left;intro j hj;by_cases h0:j=0
 . subst h0;simp[h]
 . simp;omega
theorem GL{b:Nat}{T:TypeId}(s t u:List Int)(n:Nat)(hn:n<=maxLen)(h:At w b (.cells (bG (Fx.pR s t u) n n) T)):Ints w (some ⟨b,0,none⟩) (Fx.wH s t u n):=by
 refine⟨by rw[Fx.rU];exact hn,λh0=>⟨b,0,rfl,λk hk => ?_⟩⟩;rw[Fx.rU]at hk;rw[h.cell,Nat.zero_add,dO _ hk,Fx.Ef _ _ _ hk];simp[hk]
theorem intZero:(Tryz.prog.info? 3).map (λi=>(i.zero,i.size,i.bytes))=some (some (.int .i64 0),1,8):=by kernel_rfl
theorem j4{w0 W:World}{base:Nat}{v:Value}{k m c:Nat}{xs l:List Int}(hown:W.ownsRow base 3 1 v k (xs.map (Value.int .i64)))(hB:Below base w0 W)(hbase:base<=W.heap.size)
  (hI:Ints W A l) (hl:l.length=m) (hc:A=none->c=0) (hkm:k+m<=100000) :
  ∃v' w',(Builtin.append_ #[37,37] 37 #[v,.slice A m c]).run ja0 W=.ok v' w'/\w'.ownsRow base 3 1 v' (k+m) ((xs++l).map (Value.int .i64))/\Below base w0 w'/\base<=w'.heap.size:=by
 obtain⟨i0,hi0,hz0,hz1,hz2⟩:=info_parts intZero;rcases A with _ | ad
 . have h0:l=[]:=by
    rcases Nat.eq_zero_or_pos l.length with h|h
    . exact List.eq_nil_of_length_eq_zero h
    . obtain⟨b,o,e,_⟩:=hI.2 h;cases e
   subst h0;subst hl;rw[hc rfl];exact⟨_,_,run_append_owned_none _ _ 37 37 3 i0 1 Tryz.underlying37 hi0 _ k _ hown,by simpa using hown,hB,hbase⟩
 . obtain⟨v',w',hr,ho,hg,_,_⟩:=run_append_own_at (P:=ja0) W base 37 37 3 i0 (.int .i64 0) 1 8 Tryz.underlying37 hi0 hz0 hz1 hz2 rfl aN _ k _ hown ad m c (l.map (Value.int .i64)) (by simp[hl])
    (by
     intro j u hu;have hj:j<l.length:=by
      rcases Nat.lt_or_ge j l.length with h|h
      . exact h
      . rw[List.getElem?_eq_none (by simpa using h)]at hu;cases hu
     obtain⟨b,o,e,hcell⟩:=hI.2 ak;injection e with e;subst e;have hcj:=hcell j hj;have e2:(⟨b,o,none⟩:Addr).add j=⟨b,o+j,none⟩:=by
      unfold Addr.add;split
      . subst j;rfl
      . rfl
     rw[e2,hcj,<-hu]
     simp[ja6 hj])
    (by intro u hu;obtain⟨z,_,rfl⟩:=List.mem_map.1 hu;rfl) RN ak hbase
   refine⟨v',w',hr,by rw[List.map_append];exact ho,hB.grown hg hbase (λg hgg=>(hown.lt g hgg).1),?_⟩;exact aK hbase hg.size
theorem Ez{w0 W:World}{base:Nat}{v:Value}{k:Nat}{xs:List Int}(x:Int)(hown:W.ownsRow base 3 1 v k (xs.map (Value.int .i64)))(hB:Below base w0 W)(hbase:base<=W.heap.size)(hk:k<=10000) :
  ∃v' w',(Builtin.append_ #[37,37] 37 #[v,.slice W 1 1]).run ja0 (W.alloc (.cells #[x] 3))=.ok v' w'/\w'.ownsRow base 3 1 v' (k+1) ((xs++[x]).map (Value.int .i64))/\Below base w0 w'/\base<=w'.heap.size :=
 j4 (hown.alloc _) (hB.alloc hbase _) jB (Mv W [x] 3 bI) rfl (λh=>by cases h) ak
def roundEnd(B:Nat)(K Kx:World->Prop)(W:World):Exit->Act->World->Prop
 | .normal,_,W'=>KeepsFrom B W W'/\K W'
 | .ret,_,W'=>KeepsFrom B W W'/\Kx W'
 | _,_,_=>False
def Held(W:World)(D:Nat)(r:Loop):Prop:=W.heap[D+1]? = some (.loop r)/\W.heap[D]? = some (.deferred (some []))
theorem Held.turn{W:World}{D:Nat}{r:Loop}(h:Held W D r)(r':Loop):Held (W.putObj (D+1) (.loop r')) D r' :=
 ⟨World.putObj_heap_same (Array.getElem?_eq_some_iff.1 h.1).1,(World.putObj_heap_other ak).trans h.2⟩
theorem Held.keep{W W':World}{D:Nat}{r:Loop}(h:Held W D r)(hk:KeepsFrom D W W'):Held W' D r :=
 ⟨hk.same _ _ ak h.1 rfl,hk.same _ _ ak h.2 rfl⟩
def Calm(B:Nat)(K:World->Prop):Prop:=∀W r o o',K W->B<=r->W.heap[r]? = some o'->o'.isCells=false->K (W.putObj r o)
theorem lH{n:Nat}{g:Operand}{ps:Array Tmp}{assign body:Code}{a:Act}
  {gf:FuncId} {first lb:Array Value} (hg:a.eval g=.func (.func gf) first lb) (eg:∀args w,(callFunc gf args).run P w=.ok (.enter gf args) w)
  (N:Nat) (fr:Nat->Bool) (xs:Nat->Array Value) (hps:∀i,(xs i).size=ps.size) (K:Nat->World->Prop) (Kx:World->Prop)
  (hK:∀i,Calm w.heap.size (K i)) (hKx:Calm w.heap.size Kx) (h0:∀o1 o2,K 0 ((w.alloc o1).alloc o2))
  (hit:∀(lp:Nat) (J:Nat->World->Prop) (Jx:World->Prop) (W:World),(∀i W,J i W->K i W)->(∀i W,i<N->fr i=true->J i W->J (i+1) W) ->
   (∀i W,i<N->fr i=false->J i W->YieldAt Fence.wide (n-1-1) P lp (xs i) W λe W'=>(e=.returned (.bool true)/\J (i+1) W')\/(e=.returned (.bool false)/\Jx W'))->J 0 W ->
   CallsIn Fence.wide (n-1) P gf (first ++ #[.func (.yield lp) #[] #[]]++lb) W λe W'=>(∃v,e=.returned v)/\(J N W'\/Jx W'))
  (R8:∀i W,i<N->fr i=true->K i W->K (i+1) W) (upd:Nat->Array Value->Array Value)
  (hassign:∀(l i:Nat) (W:World) (G:Act->World->Prop),i<N->G { tmps:=upd i a.tmps,defers:=[] } W ->
   assign.wpIn (Fence.wide.inRound l) (n-1-1) P (Exit.then G (λ_ _ _=>False)) { tmps:=(ps.zip (xs i)).foldl (λt (p,v)=>t.setIfInBounds p v) a.tmps,defers:=[] } W)
  (hbody:∀(l i:Nat) (W:World),i<N->fr i=false->K i W->body.wpIn (Fence.wide.inRound l) (n-1-1) P (roundEnd w.heap.size (K (i+1)) Kx W) { tmps:=upd i a.tmps,defers:=[] } W)
  (hdone:∀(D:Nat) (W:World),w.heap.size<=D->K N W->W.heap[D]? = some (.deferred (some []))->Q .normal { a with defers:={ target:=.collected D,args:=#[] }::a.defers } W)
  (hstop:∀(D:Nat) (W:World),w.heap.size<=D->Kx W->W.heap[D]? = some (.deferred (some []))->Code.ret.wpIn Fence.wide n P Q { a with defers:={ target:=.collected D,args:=#[] }::a.defers } W) :
  (Code.rangeFunc g ps assign body).wpIn Fence.wide n P Q a w:=by
 refine wpIn_rangeFunc λfn _ => ?_
 let L:LoopState->Option Code->Loop:=λs p=>{ state:=s,pending:=p,fn:=fn,tmps:=a.tmps,params:=ps,assign:=assign,body:=body,defers:=w.heap.size }
 have hH:Held ((w.alloc (.deferred (some []))).alloc (.loop (L .ready none))) w.heap.size (L .ready none):=by
  exact Z39
 generalize hW:(w.alloc (.deferred (some []))).alloc (.loop (L .ready none))=W1 at hH;have h1:K 0 W1:=hW▸h0 _ _
 refine⟨w.heap.size+1,[{ target:=.collected w.heap.size,args:=#[] }],W1,{ target:=.fn (.func gf) lb,args:=first ++ #[.func (.yield (w.heap.size+1)) #[] #[]] },W1,gf,
  first ++ #[.func (.yield (w.heap.size+1)) #[] #[]]++lb,W1,?_,?_,λ_ _=>trivial,?_,λhd=>Z4t,?_⟩
 . rw[<-hW];exact run_enterLoop_outer fn _ _ _ _
 . simp only[resolve,hg]
   simp[go_sem]
 . simp[invoke,go_sem,eg]
 refine(hit (w.heap.size+1) (λi W=>K i W/\Held W w.heap.size (L .ready none)) (λW=>Kx W/\Held W w.heap.size (L .done (some .ret))) _ (λ_ _ h=>h.1) (λi W hi hf h=>⟨R8 i W hi hf h.1,h.2⟩) ?round ⟨h1,hH⟩).mono ?behind
 case round =>
  rintro i W hi hf ⟨hk,hh⟩;refine⟨fn,_,assign,body,run_yield hh.1 (hps i),roundIn_of_wpIn trivial (hassign _ i W _ hi ⟨_,run_beginRound hh.1 rfl,?_⟩)⟩;have hb:=hh.turn (L .busy none);refine wpIn_mono (hbody _ i _ hi hf (hK i _ _ _ _ hk ak hh.1 rfl)) ?_;intro e _ W3 hp;cases e with
  | normal =>
    have h3:=hb.keep hp.1;exact⟨_,_,run_endRound none h3.1,.inl ⟨rfl,hK _ _ _ _ _ hp.2 ak h3.1 rfl,h3.turn _⟩⟩
  | ret =>
    have h3:=hb.keep hp.1;exact⟨_,_,run_endRound (some .ret) h3.1,.inr ⟨rfl,hKx _ _ _ _ hp.2 ak h3.1 rfl,h3.turn _⟩⟩
  | exit _=>exact hp.elim
  | goto _=>exact hp.elim
  | panic _=>exact hp.elim
  | outgrown=>exact hp.elim
 case behind =>
  rintro e W2 ⟨⟨v,rfl⟩,⟨hk,hh⟩|⟨hk,hh⟩⟩
  . exact⟨none,_,run_endLoop hh.1 (by simp[L]),hdone _ _ aF (hK _ _ _ _ _ hk ak hh.1 rfl) (hh.turn _).2⟩
  . exact⟨some .ret,_,run_endLoop hh.1 (by simp[L]),hstop _ _ aF (hKx _ _ _ _ hk ak hh.1 rfl) (hh.turn _).2⟩
theorem Xv(o:Oper)(h:(match o.op with | .defer _=>false | _=>true)=true):∀c,o.op ≠ .defer c:=by
 intro c hc;rw[hc]at h;cases h
theorem Py{o:Oper}{a:Act}{n l:Nat}{K:Act->World->Prop}{r:Result Next}(h:o.upon P a K Q r):o.uponIn (Fence.wide.inRound l) n P a K Q r:=by
 cases r with
 | ok x w' =>
   cases x<;>simp only[Oper.upon,Oper.uponIn]at h ⊢ <;> first
    | exact h
    | exact⟨λhd=>Z4t,CallsIn.inRound l (callsIn_wide.2 h)⟩
    | (refine⟨λhd=>Z4t,λc cs _ => ?_⟩
       obtain⟨v,w'',hr,hs⟩:=h c cs
       exact⟨v,w'',hr,stepsIn_wide.2 hs⟩)
 | halt x w'=>cases x<;>simp only[Oper.upon,Oper.uponIn]at h ⊢ <;> exact h
theorem Xw{o:Oper}{a:Act}{n l:Nat}{K:Act->World->Prop}(hd:∀c,o.op ≠ .defer c)(h:o.wp P a w K Q):o.wpIn (Fence.wide.inRound l) n P a w K Q :=
 ⟨λ_ _=>trivial,by
  rw[show(Fence.wide.inRound l).round=some l from rfl,Oper.semAt_some l _ _ hd]
  exact Py h⟩
end Go.Proofs.YtfohooineeijkaaGreat.Fix
namespace Go.Proofs.YtfohooineeijkaaGreat.aj
open Go
section
open List renaming all_eq_true → jb6
section
variable {P:Program} {ops:Array Oper} {Q:Exit->Act->World->Prop} {md:Region.Mode} {S:World->Prop}
def later(md:Region.Mode)(ops:Array Oper)(i:Nat)(oi:Oper):List Oper->Bool
 | []=>true
 | oj::r=>(oj.after.any (λe=>Region.binds md e&&e.on==i)||oi.apart ops oj)&&later md ops i oi r
def zJ(md:Region.Mode)(ops:Array Oper):Nat->List Oper->Bool
 | _,[]=>true
 | i,o::r=>(o.after.all (λe => !Region.binds md e||Nat.blt e.on i)&&later md ops i o r)&&zJ md ops (i+1) r
theorem EA{i:Nat}{oi:Oper}:∀{l:List Oper},later md ops i oi l=true->∀(k:Nat) (oj:Oper),l[k]? = some oj->(∃e∈oj.after,Region.binds md e=true/\e.on=i)\/oi.apart ops oj=true
 | [],_,k,oj,hk=>by simp at hk
 | o::r,h,k,oj,hk=>by
  simp only[later,Bool.and_eq_true,Bool.or_eq_true]at h;cases k with
  | zero =>
    simp only[List.getElem?_cons_zero,Option.some.injEq]at hk;subst hk;rcases h.1 with h1|h1
    . obtain⟨e,he,hb⟩:=Array.any_eq_true'.1 h1
      simp only[Bool.and_eq_true,beq_iff_eq]at hb;exact .inl ⟨e,he,hb.1,hb.2⟩
    . exact .inr h1
  | succ k=>exact EA h.2 k oj (by simpa using hk)
theorem Uo{q:Nat}{listed:Array Bool}(h:listed.getD q false=true):listed.getD q true=true:=by
 rcases Nat.lt_or_ge q listed.size with h'|h'
 . simp[h']at h ⊢;exact h
 . simp[Array.getElem?_eq_none h']
theorem EB{m:Nat}(hs:Region.noSelect ops=true)(ht:cO md ops m=true)(hm:ops.toList.length=m):∀(k:Nat) (os:List Oper) (i:Nat) (listed:Array Bool) (a:Act),ops.toList.drop i=os->i+k=m->listed.size=m ->
  (∀q,q<i->listed.getD q false=true)->(∀q,i<=q->q<m->listed.getD q true=false)->zJ md ops i os=true ->
  eU P ops Q S k os a->mK P md ops S m (λlisted a=>∀w,S w->wpAny P md ops Q 0 listed a w) k listed a
 | 0,os,i,listed,a,hd,hi,hz,hl,hl',hk,h=>by
  have hlen:os=[]:=by rw[<-hd];exact List.drop_eq_nil_of_le ak
  subst hlen;refine⟨λq hq => ?_,λw hS => ?_⟩
  . exact Uo (hl q ak)
  . refine wE (P:=P) (Q:=Q) [] i listed a w hd ?_ (h w hS)
    show(Region.ready md ops listed).isEmpty=true;rw[List.isEmpty_iff];refine List.eq_nil_iff_forall_not_mem.2 λq hq => ?_;obtain⟨hun,o,ho,_⟩:=mem_ready.1 hq;have hq':q<ops.size:=(Array.getElem?_eq_some_iff.1 ho).1;have:=hl q (by have:ops.size=m:=(by simpa using hm);omega);exact qz hun this
 | k+1,[],i,listed,a,_,_,_,_,_,_,h=>h.elim
 | k+1,o::os,i,listed,a,hd,hi,hz,hl,hl',hk,⟨v,hy,hn⟩=>by
  simp only[zJ,Bool.and_eq_true]at hk;obtain⟨⟨he,hlat⟩,hk⟩:=hk;obtain⟨ho,hd'⟩:=drop_cons hd;have him:i<m:=by omega
  have hr:i∈Region.ready md ops listed:=mem_ready.2 ⟨hl' i aF him,o,ho,λe hm hb=>by
   have h1:=Array.all_eq_true_iff_forall_mem.1 he e hm;simp only[hb,Bool.not_true,Bool.false_or]at h1
   exact hl _ (by simpa[Nat.blt_eq]using h1)⟩
  have hc:Clear md ops listed i o:=λj oj hj hji hun=>by
   have akb:i<j:=by
    rcases Nat.lt_trichotomy i j with h'|h'|h'
    . exact h'
    . exact absurd h'.symm hji
    . exact(qz hun (hl j h')).elim
   refine EA hlat (j-(i+1)) oj ?_;rw[<-hd',List.getElem?_drop,show i+1+(j-(i+1))=j by omega];simpa using hj
  refine IX ht him ho (Region.noSelect_spec hs) k listed a hc hr hy ?_;refine EB hs ht hm k os (i+1) _ _ hd' ak (by simpa using hz) ?_ ?_ hk hn
  . intro q hq
    by_cases hqi:q=i
    . subst hqi
      simp[show q<listed.size by omega]
    . have:=hl q ak
      rw[getD_set_ne false (Ne.symm hqi)];exact this
  . intro q hq hqm
    rw[getD_set_ne true ak];exact hl' q ak hqm
theorem wO{id:Nat}{l:List Oper}{a:Act}{W0 w:World}(h0:RowKit.Below W0.heap.size W0 w)(hp:P.follows .mixedOrders=true)(hs:Region.noSelect l.toArray=true)
  (hk:zJ .any l.toArray 0 l=true) (h:eU P l.toArray Q (λw'=>RowKit.Below W0.heap.size W0 w') l.length l a):(Code.region id l.toArray true).wp P Q a w :=
 wp_region_any hp (by
  have ht:cO .any l.toArray l.length=true:=by
   unfold cO;rw[jb6];intro j hj;have:j<l.length:=by simpa using hj
   simp[this]
  have h1:=mK.any (Q:=Q) (tf:=0) l.length (Array.replicate l.length false) a (EB (md:=.any) (Q:=Q) (m:=l.length) hs ht bI l.length l 0 (Array.replicate l.length false) a bI ak bI (λq hq=>by omega) (λq _ hq=>by simp[hq]) hk h) _ h0.drew;have e:l.toArray.size=0+l.length:=by simp
  rw[e];have e2:Array.replicate (0+l.length) false=Array.replicate l.length false:=by rw[Nat.zero_add]
  rw[e2];exact h1)
end
end
open Fix
open List renaming all_eq_true → jb6
variable {l:List Oper}{n lp:Nat}{a:Act}
section
variable {P:Program} {ops:Array Oper} {Q:Exit->Act->World->Prop} {md:Region.Mode} {S:World->Prop}
def uK(l:List Oper):Bool:=l.all λo=>match o.op with | .defer _=>false | _=>true
theorem Ke(h:uK l=true){i:Nat}{o:Oper}(ho:l.toArray[i]? = some o):∀c,o.op ≠ .defer c:=by
 have hm:o∈l:=by
  have:=Array.mem_of_getElem? ho;simpa using this
 exact Xv o (List.all_eq_true.1 h o hm)
theorem Pz{n lp i:Nat}{K:Act->World->Prop}{w:World}(hd:uK l=true)(ho:¬ LetsOut Q)(h:wpOp P l.toArray Q i K a w):wpOpIn (Fence.wide.inRound lp) n P l.toArray Q i K a w:=by
 unfold Go.wpOp at h;unfold Go.wpOpIn;cases hi:l.toArray[i]? with
 | none=>simpa[hi]using h
 | some o =>
   simp only[hi]at h ⊢;split at h
   . rename_i hw
     simp only[hw,if_true];exact Xw (Ke hd hi) (h.resolve_right λh2=>ho h2.2)
   . rename_i hw
     simp only[hw,Bool.false_eq_true,if_false];exact⟨λ_ _=>trivial,h⟩
theorem rA(hd:uK l=true)(ho:¬ LetsOut Q):∀(fuel:Nat) (listed:Array Bool) (a:Act) (w:World),wpAny P md l.toArray Q fuel listed a w->wpAnyIn (Fence.wide.inRound lp) n P md l.toArray Q fuel listed a w
 | 0,_,_,_,h=>h
 | fuel+1,_,_,_,h=>⟨h.1,λi hi=>wpOpIn_mono (λa w=>rA hd ho fuel _ a w) (Pz hd ho (h.2 i hi))⟩
theorem PD{id:Nat}{w:World}(m t:Nat)(S:World->Prop)(hp:P.follows .mixedOrders=true)(hs:Region.noSelect l.toArray=true)
  (hl:l.length=m+t) (ht:cO .any l.toArray m=true) (hk:mJ .any l.toArray t m 0 (Array.replicate l.length false)=true) (hd:uK l=true) (ho:¬ LetsOut Q) (hS:S w.drew) (h:eU P l.toArray Q S m l a):(Code.region id l.toArray true).wpIn (Fence.wide.inRound lp) n P Q a w :=
 wpIn_region_any hp (rA hd ho _ _ _ _ (by
  have h1:=mK.any (Q:=Q) (tf:=t) m (Array.replicate l.length false) a (Ka (md:=.any) (Q:=Q) (m:=m) (t:=t) hs ht (by simpa using hl) m l 0 (Array.replicate l.length false) a bI ak (λq hq=>by omega) hk h) _ hS;have e:l.toArray.size=t+m:=by simp;omega
  rw[e];have e2:Array.replicate (t+m) false=Array.replicate l.length false:=by rw[hl,Nat.add_comm]
  rw[e2];exact h1))
theorem Uq(l:List Oper):cO .any l.toArray l.length=true:=by
 unfold cO;rw[jb6];intro j hj;have:j<l.length:=by simpa using hj
 simp[this]
theorem PE{id:Nat}{W0 w:World}(m t:Nat)(h0:RowKit.Below W0.heap.size W0 w)(hp:P.follows .mixedOrders=true)(hs:Region.noSelect l.toArray=true)
  (hl:l.length=m+t) (ht:cO .any l.toArray m=true) (hk:mJ .any l.toArray t m 0 (Array.replicate l.length false)=true) (hd:uK l=true) (ho:¬ LetsOut Q) (h:eU P l.toArray Q (λw'=>RowKit.Below W0.heap.size W0 w') m l a):(Code.region id l.toArray true).wpIn (Fence.wide.inRound lp) n P Q a w :=
 PD m t _ hp hs hl ht hk hd ho h0.drew h
theorem PG{id:Nat}{W0 w:World}(h0:RowKit.Below W0.heap.size W0 w)(hp:P.follows .mixedOrders=true)(hs:Region.noSelect l.toArray=true)
  (hk:zJ .any l.toArray 0 l=true) (hd:uK l=true) (ho:¬ LetsOut Q) (h:eU P l.toArray Q (λw'=>RowKit.Below W0.heap.size W0 w') l.length l a):(Code.region id l.toArray true).wpIn (Fence.wide.inRound lp) n P Q a w :=
 wpIn_region_any hp (rA hd ho _ _ _ _ (by
  have h1:=mK.any (Q:=Q) (tf:=0) l.length (Array.replicate l.length false) a (EB (md:=.any) (Q:=Q) (m:=l.length) hs (Uq l) bI l.length l 0 (Array.replicate l.length false) a bI ak bI (λq hq=>by omega) (λq _ hq=>by simp[hq]) hk h) _ h0.drew;have e:l.toArray.size=0+l.length:=by simp
  rw[e];have e2:Array.replicate (0+l.length) false=Array.replicate l.length false:=by rw[Nat.zero_add]
  rw[e2];exact h1))
end
end Go.Proofs.YtfohooineeijkaaGreat.aj
