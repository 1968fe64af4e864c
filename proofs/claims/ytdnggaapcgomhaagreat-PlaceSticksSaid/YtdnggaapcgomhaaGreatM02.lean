/- Steps of the program (2); no conditions. -/
import Derived.Test.YtdnggaapcgomhaaGreatRows
import Derived.Test.YtdnggaapcgomhaaGreatMK
import Derived.Test.YtdnggaapcgomhaaGreatM01
set_option linter.all false
set_option maxRecDepth 100000
set_option maxHeartbeats 400000
namespace Go.Proofs.YtdnggaapcgomhaaGreat.Fix
open Go.RowKit
open Go.Proofs.Tryz renaming prog → ja0
section
open Go.ChangeShapes Go.WideShapes Go.ChangeAt
theorem bA{k:IntKind}{a b:Int}(h:a=b):Ending.returned (.int k a)=.returned (.int k b):=by rw[h]
theorem eu(n:Int)(w:World):Calls ja0 48 #[n] w λe w'=>e=.returned (.int .i64 (Fx.cut n))/\w=w':=by
 go_enter Tryz.func48,Tryz.ntmps48
 go_wp2
 all_goals
  go_ret
  exact⟨bA (by unfold Fx.cut;repeat' split<;>(try split at *)<;>omega),rfl⟩
theorem iR(a b:Int)(w:World):Calls ja0 67 #[a,b] w λe w'=>e=.returned (.int .i64 (Fx.add a b))/\w=w':=by
 have ha:=Fx.dU a;have ha':=Fx.fU a;have hb:=Fx.dU b;have hb':=Fx.fU b;go_enter Tryz.func67,Tryz.ntmps67
 go_wp2_with (go_at_call 48;refine(eu _ _).mono ?_;rintro e w' ⟨rfl,rfl⟩)
 exact Zv
theorem kD(a b:Int)(w:World):Calls ja0 52 #[a,b] w λe w'=>e=.returned (.int .i64 (Fx.sub a b))/\w=w':=by
 have ha:=Fx.dU a;have ha':=Fx.fU a;have hb:=Fx.dU b;have hb':=Fx.fU b;go_enter Tryz.func52,Tryz.ntmps52
 go_wp2_with (go_at_call 48;refine(eu _ _).mono ?_;rintro e w' ⟨rfl,rfl⟩)
 exact Zv
theorem Ls(a b:Int)(w:World)(h1:1<=b)(h2:b<=1099511627776)(h3 : -1152921504606846976<=a)(h4:a<=1152921504606846976) :
  Calls ja0 195 #[a,b] w λe w'=>e=.returned (.int .i64 (a/b))/\w=w':=by
 have g1:=Fx.aaW h1 h3;have g2:=Fx.tdiv_le h1 h4;go_enter Tryz.func195,Tryz.ntmps195
 go_wp2
 . have h:a.tmod b<0:=by assumption
   go_ret
   exact⟨bA (Fx.zH h1 h),rfl⟩
 . have h:0<=a.tmod b:=by assumption
   go_ret
   exact⟨bA (Fx.zI h1 h),rfl⟩
theorem Ri(a b:Int)(w:World):Calls ja0 194 #[a,b] w λe w'=>e=.returned (.int .i64 (Fx.div a b))/\w=w':=by
 have ha:=Fx.dU a;have ha':=Fx.fU a;have hb:=Fx.dU b;by_cases h:b<=0
 . have h0:Fx.cut b<=0:=by unfold Fx.cut;repeat' split<;>omega
   have hr:Fx.div a b=0:=by unfold Fx.div;rw[if_pos h]
   have Hr:=ah hr;clear hr;go_enter Tryz.func194,Tryz.ntmps194
   go_wp2_with (go_at_call 48;refine(eu _ _).mono ?_;rintro e w' ⟨rfl,rfl⟩)
   go_ret
   exact⟨bA Hr.out.symm,rfl⟩
 . have h0:1<=Fx.cut b:=Fx.Rj ak
   have hr:Fx.div a b=Fx.cut a/Fx.cut b:=by unfold Fx.div;rw[if_neg h]
   have Hr:=ah hr;clear hr;go_enter Tryz.func194,Tryz.ntmps194
   go_wp2_with (first|(go_at_call 48;refine(eu _ _).mono ?_;rintro e w' ⟨rfl,rfl⟩)|(go_at_call 195;refine(Ls _ _ _ ak ak ak ak).mono ?_;rintro e w' ⟨rfl,rfl⟩))
   go_ret
   exact⟨bA Hr.out.symm,rfl⟩
theorem oF(n lo hi:Int)(w:World):Calls ja0 47 #[n,lo,hi] w λe w'=>e=.returned (.int .i64 (Fx.clamp n lo hi))/\w=w':=by
 go_enter Tryz.func47,Tryz.ntmps47
 go_wp2_with (go_at_call 48;refine(eu _ _).mono ?_;rintro e w' ⟨rfl,rfl⟩)
 all_goals
  go_ret
  exact⟨bA (by unfold Fx.clamp;repeat' split<;>(try split at *)<;>omega),rfl⟩
theorem WC(a n:Int)(w:World):Calls ja0 160 #[a,n] w λe w'=>e=.returned (.int .i64 (Fx.part a n))/\w=w':=by
 have hb:=Fx.Cv a n;obtain⟨hb1,hb2⟩:=hb;have hp:=Fx.KW n;have HP:=ah hp;clear hp;go_enter Tryz.func160,Tryz.ntmps160
 go_wp2_with (first|(go_at_call 47;refine(oF _ _ _ _).mono ?_;rw[HP.out];rintro e w' ⟨rfl,rfl⟩)|(go_at_call 195;refine(Ls _ _ _ ak ak ak ak).mono ?_;rintro e w' ⟨rfl,rfl⟩)|(go_at_call 48;refine(eu _ _).mono ?_;rintro e w' ⟨rfl,rfl⟩))
 exact Zv
theorem TK(a:Int)(w:World)(h1 : -1099511627776<=a)(h2:a<=1099511627776) :
  Calls ja0 224 #[a] w λe w'=>e=.returned (.int .u64 (Fx.V8 a))/\w=w':=by
 go_enter Tryz.func224,Tryz.ntmps224
 go_wp2
 all_goals
  go_ret
  exact⟨bA (by unfold Fx.V8;repeat' split<;>omega),rfl⟩
theorem Xh(x y:Int)(hx:0<=x)(hy:0<=y)(hy2:y<4294967296):bits .or .u64 (IntKind.u64.wrap (x*4294967296)) y=x%4294967296*4294967296+y:=by
 obtain⟨X,hX⟩:=Int.eq_ofNat_of_zero_le (show 0<=x%4294967296 by omega);obtain⟨Y,rfl⟩:=Int.eq_ofNat_of_zero_le hy;have e:IntKind.u64.wrap (x*4294967296)=((X*4294967296:Nat):Int):=by rw[IntKind.wrap_u64];omega
 rw[e,u64_or_nat _ _ ak ak,Fx.adE _ _ ak,hX];omega
theorem Jl{k:IntKind}{a b c d:Int}(h:a=c)(h2:b=d):Ending.returned (.tuple #[.int k a,.int k b])=.returned (.tuple #[.int k c,.int k d]):=by rw[h,h2]
theorem Lv(a b:Int)(w:World)(h1:0<=a)(h2:a<=1099511627776)(h3:0<=b)(h4:b<=1099511627776) :
  Calls ja0 223 #[.int .u64 a,.int .u64 b] w λe w'=>e=.returned (.tuple #[.int .u64 (a*b/18446744073709551616),.int .u64 (a*b%18446744073709551616)])/\w=w':=by
 have e:=Fx.halves a b;have b1:=Fx.zJ (x:=a/4294967296) (y:=b/4294967296) (c:=256) (d:=256) ak ak ak ak;have b2:=Fx.zJ (x:=a/4294967296) (y:=b%4294967296) (c:=256) (d:=4294967295) ak ak ak ak;have b3:=Fx.zJ (x:=a%4294967296) (y:=b/4294967296) (c:=4294967295) (d:=256) ak ak ak ak;have b4:=Fx.zJ (x:=a%4294967296) (y:=b%4294967296) (c:=4294967295) (d:=4294967295) ak ak ak ak;have E:=ah e;clear e;obtain⟨l1,u1⟩:=b1;obtain⟨l2,u2⟩:=b2;obtain⟨l3,u3⟩:=b3;obtain⟨l4,u4⟩:=b4;go_enter Tryz.func223,Tryz.ntmps223
 go_wp2
 go_ret2
 refine⟨Jl ?_ ?_,rfl⟩
 . rw[E.out];omega
 . rw[Xh _ _ ak ak ak,E.out];omega
theorem abg(a b:Int)(w:World):Calls ja0 216 #[a,b] w λe w'=>e=.returned (.int .i64 (Fx.mul a b))/\w=w':=by
 have ha:=Fx.dU a;have ha':=Fx.fU a;have hb:=Fx.dU b;have hb':=Fx.fU b;obtain⟨s1,s2⟩:=Fx.WK a;obtain⟨s3,s4⟩:=Fx.WK b;have hp:=Int.mul_nonneg s1 s3;have hm:=Fx.aaX a b;have HM:=ah hm;clear hm;go_enter Tryz.func216,Tryz.ntmps216
 go_wp2_with (first|(go_at_call 48;refine(eu _ _).mono ?_;rintro e w' ⟨rfl,rfl⟩)|(go_at_call 224;refine(TK _ _ ak ak).mono ?_;rintro e w' ⟨rfl,rfl⟩)|(go_at_call 223;refine(Lv _ _ _ ak ak ak ak).mono ?_;rintro e w' ⟨rfl,rfl⟩))
 all_goals
  go_ret
  refine⟨bA ?_,rfl⟩;rw[HM.out]
  first
   | rw[show(!(decide (Fx.cut a<0)==decide (Fx.cut b<0)))=true from by assumption,cond_true]
   | rw[show(!(decide (Fx.cut a<0)==decide (Fx.cut b<0)))=false from by assumption,cond_false]
  unfold Fx.cut at *;generalize Fx.V8 _*Fx.V8 _=p at *
  repeat' split<;>omega
theorem ru(fn:Fn)(first cap:Array Value)(w:World):(Instr.makeFunc fn first cap).run ja0 w=.ok (.func fn first cap) w:=rfl
end
section
variable {W:World}{T:TypeId}{b:Nat}{vs:Array Value}{o:Obj}
theorem fO{W w1:World}(hb:Below W W w1):(∀b o,b<W.heap.size->w1.cell? ⟨b,o,none⟩=W.cell? ⟨b,o,none⟩)/\(∀b o,b<W.heap.size->w1.frozen? ⟨b,o,none⟩=W.frozen? ⟨b,o,none⟩) :=
 ⟨λb o h=>hb.cell (p:=⟨b,o,none⟩) h,λb o h=>hb.frozen (p:=⟨b,o,none⟩) h⟩
theorem Below.alloc'{w a:World}(h:Below w w a)(o:Obj):Below w w (a.alloc o):=h.alloc h.size o
theorem Below.ay{N:Nat}{W0 W w1:World}(h0:Below N W0 W)(hN:N<=W0.heap.size)(hb:Below W W w1):Below N W0 w1:=h0.trans (hb.mono (aJ hN h0.size))
theorem Below.drewN{N:Nat}{w a:World}(h:Below N w a)(n:Nat):Below N w (a.drewN n):=⟨h.os,h.tape,h.output,h.size,h.block⟩
theorem Below.after{W0 W w1:World}(h0:Below W0 W0 W)(hb:Below W W w1):Below W0 W0 w1:=h0.trans (hb.mono h0.size)
theorem dF{a b:Bool}(h:a=b):Ending.returned (.bool a)=.returned (.bool b):=by rw[h]
def At(W:World)(b:Nat)(o:Obj):Prop:=W.heap[b]? = some o
theorem At.lt(h:At W b o):b<W.heap.size:=(Array.getElem?_eq_some_iff.1 h).1
theorem At.new(W:World)(o:Obj):At (W.alloc o) W.heap.size o:=by
 show(W.heap.push o)[W.heap.size]? = some o;simp
theorem At.new'(o:Obj)(h:b=W.heap.size):At (W.alloc o) b o:=h▸At.new W o
theorem At.alloc(h:At W b o)(o':Obj):At (W.alloc o') b o:=by
 show(W.alloc o').heap[b]? = some o;rw[Below.heap_alloc W o' b h.lt];exact h
theorem At.keep{W W':World}(h:At W b o)(hb:Below W W W'):At W' b o:=(hb.block b h.lt).trans h
theorem At.cell(h:At W b (.cells vs T))(i:Nat):W.cell? ⟨b,i,none⟩=vs[i]? := by
 unfold At at h;simp[World.cell?,h]
theorem At.thaw(h:At W b (.cells vs T))(i:Nat):W.frozen? ⟨b,i,none⟩=false:=by
 unfold At at h;simp[World.frozen?,h]
theorem At.lc(h:At W b (.cells vs T)):b<W.heap.size/\∀i,W.cell? ⟨b,i,none⟩=vs[i]? := ⟨h.lt,h.cell⟩
theorem At.nM(h:At W b (.cells vs T)):b<W.heap.size/\(∀i,W.cell? ⟨b,i,none⟩=vs[i]?)/\∀i,W.frozen? ⟨b,i,none⟩=false:=⟨h.lt,h.cell,h.thaw⟩
theorem At.off{b n:Nat}(h:At W b o)(hne:b≠n)(i:Nat)(x:Value):At (W.setCell ⟨n,i,none⟩ x) b o:=by
 have e:(W.setCell ⟨n,i,none⟩ x).heap[b]? = W.heap[b]? := Below.heap_setCell W ⟨n,i,none⟩ x b hne;exact e.trans h
theorem At.set(h:At W b (.cells vs T))(i:Nat)(x:Value):At (W.setCell ⟨b,i,none⟩ x) b (.cells (vs.setIfInBounds i x) T):=by
 unfold At at *;obtain⟨hlt,he⟩:=Array.getElem?_eq_some_iff.1 h;simp[World.setCell,hlt,Array.getElem_modify,he]
theorem At.SV{x y z u:Value}(h:At W b (.cells #[x,y,z,u] T))(x' y' z' u':Value) :
 At ((((W.setCell ⟨b,0,none⟩ x').setCell ⟨b,1,none⟩ y').setCell ⟨b,2,none⟩ z').setCell ⟨b,3,none⟩ u') b (.cells #[x',y',z',u'] T):=(((h.set 0 x').set 1 y').set 2 z').set 3 u'
theorem At.SK{x y:Value}(h:At W b (.cells #[x,y] T))(x' y':Value) :
 At ((W.setCell ⟨b,0,none⟩ x').setCell ⟨b,1,none⟩ y') b (.cells #[x',y'] T):=(h.set 0 x').set 1 y'
theorem At.one{x:Value}(h:At W b (.cells #[x] T)):b<W.heap.size/\W.cell? ⟨b,0,none⟩=some x:=⟨h.lt,h.cell 0⟩
theorem At.two{x y:Value}(h:At W b (.cells #[x,y] T)):b<W.heap.size/\W.cell? ⟨b,0,none⟩=some x/\W.cell? ⟨b,1,none⟩=some y:=⟨h.lt,h.cell 0,h.cell 1⟩
theorem At.three{x y z:Value}(h:At W b (.cells #[x,y,z] T)):b<W.heap.size/\W.cell? ⟨b,0,none⟩=some x/\W.cell? ⟨b,1,none⟩=some y/\W.cell? ⟨b,2,none⟩=some z:=⟨h.lt,h.cell 0,h.cell 1,h.cell 2⟩
theorem At.four{x y z u:Value}(h:At W b (.cells #[x,y,z,u] T)):b<W.heap.size/\W.cell? ⟨b,0,none⟩=some x/\W.cell? ⟨b,1,none⟩=some y/\W.cell? ⟨b,2,none⟩=some z/\W.cell? ⟨b,3,none⟩=some u:=⟨h.lt,h.cell 0,h.cell 1,h.cell 2,h.cell 3⟩
theorem At.eight{x y z u x' y' z' u':Value}(h:At W b (.cells #[x,y,z,u,x',y',z',u'] T)):b<W.heap.size/\W.cell? ⟨b,0,none⟩=some x/\W.cell? ⟨b,1,none⟩=some y/\W.cell? ⟨b,2,none⟩=some z/\W.cell? ⟨b,3,none⟩=some u/\W.cell? ⟨b,4,none⟩=some x'/\W.cell? ⟨b,5,none⟩=some y'/\W.cell? ⟨b,6,none⟩=some z'/\W.cell? ⟨b,7,none⟩=some u':=⟨h.lt,h.cell 0,h.cell 1,h.cell 2,h.cell 3,h.cell 4,h.cell 5,h.cell 6,h.cell 7⟩
end
open Go.ChangeShapes Go.WideShapes Go.ChangeAt
open World renaming setRow → jb9
open List renaming getElem?_eq_getElem → ja6,range → jb'
variable {M:Nat->Prop}{b i:Nat}{X Y W:World}{s:Re.St}{P:Program}
def cell(t:Re.St)(i:Nat):Value:=if Re.rW i=true then .bool (t.b i)else .int .i64 (t.c i)
def cells(t:Re.St):Array Value:=((jb' 55).map (cell t)).toArray
theorem bI(t:Re.St):(cells t).size=55:=by simp[cells]
theorem gM(t:Re.St)(h:i<55):(cells t)[i]? = some (cell t i):=by simp[cells,h]
theorem Dy(t:Re.St)(h:Re.rW i=false):cell t i=.int .i64 (t.c i):=by simp[cell,h]
theorem G6(t:Re.St)(h:Re.rW i=true):cell t i=.bool (t.b i):=by simp[cell,h]
theorem bJ(t:Re.St)(h:i<55)(hb:Re.rW i=false):(cells t)[i]? = some (.int .i64 (t.c i)):=by rw[gM t h,Dy t hb]
theorem sO(t:Re.St)(h:i<55)(hb:Re.rW i=true):(cells t)[i]? = some (.bool (t.b i)):=by rw[gM t h,G6 t hb]
theorem Xi(t:Re.St)(i:Nat):(cell t i).oneCell'=true:=by unfold cell;split<;>rfl
theorem cells_one(t:Re.St):(cells t).all (·.oneCell')=true:=by
 refine Array.all_eq_true_iff_forall_mem.2 λv hv => ?_;simp only[cells,List.mem_toArray,List.mem_map]at hv;obtain⟨i,_,rfl⟩:=hv;exact Xi t i
theorem G8{s t:Re.St}{v:Value}(hv:v=cell t i)(h:∀j,j<55->j≠i->cell s j=cell t j):(cells s).setIfInBounds i v=cells t:=by
 apply Array.ext_getElem?;intro j;rw[Array.getElem?_setIfInBounds];by_cases hj:j<55
 . by_cases e:i=j
   . subst e;rw[if_pos rfl,bI,if_pos hj,gM t hj,hv]
   . rw[if_neg e,gM s hj,gM t hj,h j hj (λq=>e q.symm)]
 . have e1:(cells s)[j]? = none:=Array.getElem?_eq_none Z4j
   have e2:(cells t)[j]? = none:=Array.getElem?_eq_none Z4j;rw[e1,e2,bI];by_cases e:i=j
   . rw[if_pos e,if_neg ak]
   . rw[if_neg e]
def mix(f:Nat->Int->Int)(t:Re.St)(k:Nat):Re.St:=⟨λi=>if i<k then f i (Re.num t i)else t.c i,λi=>if i<k then f i (Re.num t i)==1 else t.b i⟩
def ins(t:Re.St)(k:Nat):List Int:=(jb' k).map (Re.num t)
theorem yu(t:Re.St)(k:Nat):ins t (k+1)=ins t k++[Re.num t k]:=by simp[ins,List.range_succ]
theorem sG(t:Re.St)(k:Nat):(ins t k).length=k:=by simp[ins]
theorem adM(f:Nat->Int->Int)(t:Re.St){k i:Nat}(h:i<k):(mix f t k).c i=f i (Re.num t i):=by simp[mix,h]
theorem OB(f:Nat->Int->Int)(t:Re.St){k i:Nat}(h:k<=i):(mix f t k).c i=t.c i:=by simp[mix,show¬ i<k by omega]
theorem Jm(f:Nat->Int->Int)(t:Re.St){k i:Nat}(h:k<=i):(mix f t k).b i=t.b i:=by simp[mix,show¬ i<k by omega]
theorem abh(f:Nat->Int->Int)(t:Re.St){k i:Nat}(h:i<k):(mix f t k).b i=(f i (Re.num t i)==1):=by simp[mix,h]
theorem Xj(f:Nat->Int->Int)(t:Re.St):mix f t 0=t:=by simp[mix]
theorem uR(f:Nat->Int->Int)(t:Re.St){k:Nat}(hb:Re.rW k=false):(cells (mix f t k)).setIfInBounds k (.int .i64 (f k (t.c k)))=cells (mix f t (k+1)):=by
 refine G8 ?_ λj _ hj => ?_
 . rw[Dy _ hb,adM f t (Nat.lt_succ_self k),Re.KP hb]
 . unfold cell mix
   simp only[show(j<k+1)=(j<k)by simp;omega]
theorem IZ(f:Nat->Int->Int)(t:Re.St){k:Nat}(hb:Re.rW k=true):(cells (mix f t k)).setIfInBounds k (.bool (f k (Re.num t k)==1))=cells (mix f t (k+1)):=by
 refine G8 ?_ λj _ hj => ?_
 . rw[G6 _ hb,abh f t (Nat.lt_succ_self k)]
 . unfold cell mix
   simp only[show(j<k+1)=(j<k)by simp;omega]
def Out(M:Nat->Prop)(W W':World):Prop:=Below 0 W W'/\∀b,b<W.heap.size->¬ M b->W'.heap[b]? = W.heap[b]?
theorem Out.refl(M:Nat->Prop)(W:World):Out M W W:=⟨Below.refl _ _,λ_ _ _=>rfl⟩
theorem Out.size{W W':World}(h:Out M W W'):W.heap.size<=W'.heap.size:=h.1.size
theorem Out.trans{X Y Z:World}(h:Out M X Y)(k:Out M Y Z):Out M X Z:=⟨h.1.trans k.1,λb hb hm=>(k.2 b (aT hb h.size) hm).trans (h.2 b hb hm)⟩
theorem Out.mono{M M':Nat->Prop}(h:Out M X Y)(hm:∀b,b<X.heap.size->M b->M' b):Out M' X Y:=⟨h.1,λb hb hn=>h.2 b hb λq=>hn (hm b hb q)⟩
theorem Out.of_below(h:Below X X Y):Out M X Y:=⟨h.mono oI,λb hb _=>h.block b hb⟩
theorem Out.below{n:Nat}(h:Out M X Y)(hn:n<=X.heap.size)(hm:∀b,b<n->¬ M b):Below n X Y:=⟨h.1.os,h.1.tape,h.1.output,h.1.size,λb hb=>h.2 b (aT hb hn) (hm b hb)⟩
theorem Out.set(h:Out M X Y)(hb:M b)(i:Nat)(v:Value):Out M X (Y.setCell ⟨b,i,none⟩ v) :=
 ⟨Below.setCell h.1 aW _,λc hc hm=>(Below.heap_setCell Y ⟨b,i,none⟩ v c (λe=>hm (e▸hb))).trans (h.2 c hc hm)⟩
theorem At.out{o:Obj}(h:At X b o)(hm:¬ M b)(k:Out M X Y):At Y b o:=(k.2 b h.lt hm).trans h
theorem LA{cs:Array Value}{T:TypeId}(h:At W b (.cells cs T)):W.setRow b cs=W:=by
 unfold At at h;obtain⟨hlt,he⟩:=Array.getElem?_eq_some_iff.1 h;cases W with
 | mk heap tape drawn os output =>
   unfold jb9;congr 1;apply Array.ext
   . simp
   . intro k h1 h2
     simp only[Array.getElem_modify];split
     . rename_i hk;subst hk;simp at he;simp[he]
     . rfl
theorem At.setRow{cs:Array Value}{T:TypeId}(h:At W b (.cells cs T))(cs':Array Value):At (W.setRow b cs') b (.cells cs' T):=setRow_heap W b cs cs' T _ h
theorem At.gF{b b':Nat}{o:Obj}(h:At W b o)(hne:b≠b')(cs':Array Value):At (W.setRow b' cs') b o:=by
 unfold At jb9 at *;simp only[Array.getElem?_modify];rw[if_neg (λe=>hne e.symm)];exact h
theorem Out.setRow(h:Out M X Y)(hb:M b)(cs:Array Value):Out M X (Y.setRow b cs) :=
 ⟨⟨h.1.os,h.1.tape,h.1.output,by simpa[jb9]using h.1.size,λ_ hb=>absurd hb (Nat.not_lt_zero _)⟩,λc hc hm=>by
  have:=h.2 c hc hm;unfold jb9;simp only[Array.getElem?_modify];rw[if_neg (by rintro rfl;exact hm hb)]
  exact this⟩
theorem zN:(Tryz.prog.info? 68).map (·.size)=some 55:=by kernel_rfl
theorem Dz(h:At W b (.cells (cells s) 68)):(Instr.loadAt 68 (.pointer b)).run ja0 W=.ok (.agg (cells s)) W:=by
 simp only[Instr.loadAt,Instr.sureAddr,Sem.run_bind,Sem.run_pure,Result.andThen_ok,run_loadVar_row W b 68 68 (cells s) (0,0) _ h Tryz.underlying68 rfl (by rw[bI];exact zN)]
theorem FV(h:At W b (.cells (cells s) 68)):(loadVar 68 ⟨b,0,none⟩).run ja0 W=.ok (.agg (cells s)) W :=
 run_loadVar_row W b 68 68 (cells s) (0,0) _ h Tryz.underlying68 rfl (by rw[bI];exact zN)
theorem uZ{s t:Re.St}(h:At W b (.cells (cells s) 68)):(Instr.storeAt 68 (.pointer b) (.agg (cells t))).run ja0 W=.ok () (W.setRow b (cells t)):=by
 simp only[Instr.storeAt,Instr.sureAddr,Sem.run_bind,Sem.run_pure,Result.andThen_ok,run_storeVar_row W b 68 68 (cells s) (cells t) h (by rw[bI];exact zN) (by rw[bI,bI]) (cells_one t)]
theorem zO(h:At W b (.cells (cells s) 68)):(Instr.storeAt 68 (.pointer b) (.agg (cells s))).run ja0 W=.ok () W:=by
 rw[uZ h,LA h]
theorem LB(W:World):(Instr.build 68 #[]).run ja0 W=.ok (.agg (cells Re.zero)) W:=by kernel_rfl
theorem Az(W:World):(Instr.alloc 68 true (.tuple #[])).run ja0 W=.ok (.pointer W) (W.alloc (.cells (cells Re.zero) 68)):=by kernel_rfl
structure oQ(F:FuncId)(caps:Array Value)(f:Nat->Int->Int)(mine:Nat->Prop)(I:List Int->World->Prop):Prop where
 keep:∀xs W W',I xs W->Below W.heap.size W W'->I xs W'
 set:∀xs W b i v,I xs W->¬ mine b->I xs (W.setCell ⟨b,i,none⟩ v)
 enters:∀(x:Int) (w:World),(callFunc F (#[.int .i64 x]++caps)).run ja0 w=.ok (.enter F (#[.int .i64 x]++caps)) w
 call:∀xs x W,I xs W->xs.length<55->Calls ja0 F (#[.int .i64 x]++caps) W λe W'=>e=.returned (.int .i64 (f xs.length x))/\I (xs++[x]) W'/\Out mine W W'
theorem wpList_append_run{w w':World}{ops:Array Oper}{rest:List Oper}{o:Oper}{a:Act}{Q:Exit->Act->World->Prop}(hw:Region.wanted o (yielded ops a.tmps)=true)(s x:Operand)(t:TypeId)
  (ho:o.op=.call { callee:=.builtin .append,args:=#[s,x],argTypes:=#[t,t] }) {v u v':Value} (hs:a.eval s=v) (hx:a.eval x=u)
  (hrun:(Builtin.append_ #[t,t] o.type #[v,u]).run P w=.ok v' w') (h:wpList P ops Q rest (a.put o.dst v') w'):wpList P ops Q (o::rest) a w:=by
 unfold wpList;rw[if_pos hw];refine .inl ?_;unfold Oper.wp execOp;simp only[ho,resolve,invoke,builtin,Sem.run_bind,Sem.run_pure,Result.andThen_ok,List.map_toArray,List.map_cons,List.map_nil,hs,hx,hrun];exact h
def Ints(w:World)(A:Option Addr)(zs:List Int):Prop :=
 zs.length<=maxLen/\(0<zs.length->∃b off,A=some ⟨b,off,none⟩/\∀k,k<zs.length->w.cell? ⟨b,off+k,none⟩=some (.int .i64 (zs.getD k 0)))
theorem dW(zs:List Int)(k:Nat)(h:k<zs.length):zs.take (k+1)=zs.take k++[zs.getD k 0]:=by
 rw[List.take_succ_eq_append_getElem h];simp[ja6 h]
theorem LC(w:World)(l:List Int)(T:TypeId)(hl:l.length<=1000):Ints (w.alloc (.cells (l.map (Value.int .i64)).toArray T)) (some ⟨w,0,none⟩) l:=by
 refine⟨by unfold maxLen;omega,λ_=>⟨w.heap.size,0,rfl,λk hk => ?_⟩⟩;rw[cell_of_row _ w.heap.size (0+k) _ T (0,0) (heap_alloc_new w _)];simp[hk]
theorem Ints.keep{w w':World}{B:Nat}{A:Option Addr}{zs:List Int}(h:Ints w A zs)(hb:Below B w w')(hA:0<zs.length->∀a,A=some a->a.block<B):Ints w' A zs:=by
 refine⟨h.1,λh0 => ?_⟩;obtain⟨b,off,rfl,hc⟩:=h.2 h0;exact⟨b,off,rfl,λk hk=>(hb.cell (p:=⟨b,off+k,none⟩) (show b<B from hA h0 ⟨b,off,none⟩ rfl)).trans (hc k hk)⟩
theorem vg{w:World}{base:Nat}{e:TypeId}{v:Value}{n:Nat}{l:List Int}(h:w.ownsRow base e 1 v n (l.map (Value.int .i64)))(hm:n<=maxLen) :
  ∃A c,v=.slice A l.length c/\Ints w A l:=by
 have hl:l.length=n:=by simpa using h.1
 subst hl;rcases h.2 with⟨rfl,h0⟩|⟨g,cap,cur,rfl,_,_⟩
 . exact⟨none,0,by rw[h0],hm,λh=>absurd h ak⟩
 . refine⟨_,_,rfl,hm,λh0=>⟨g,0,rfl,λk hk => ?_⟩⟩
   have:=h.cells (g:=g) rfl k (.int .i64 (l.getD k 0)) (by simp[ja6 hk]);have e:(⟨g,0,none⟩:Addr).add k=⟨g,0+k,none⟩:=by
    unfold Addr.add;split
    . subst k;rfl
    . rfl
   rw[e]at this;exact this
section
variable {ops:Array Oper} {rest:List Oper} {o:Oper} {a:Act} {w w':World} {Q:Exit->Act->World->Prop}
theorem dL{v:Value}(hw:Region.wanted o (yielded ops a.tmps)=true)(hrun:(execOp a.eval o).run P w=.ok (.value v) w')(h:wpList P ops Q rest (a.put o.dst v) w'):wpList P ops Q (o::rest) a w:=by
 exact Z2l
theorem ni(hw:Region.wanted o (yielded ops a.tmps)=true)(hrun:(execOp a.eval o).run P w=.ok .skip w')(h:wpList P ops Q rest (a.put o.dst undef) w'):wpList P ops Q (o::rest) a w:=by
 exact Z2l
theorem aS(hw:Region.wanted o (yielded ops a.tmps)=true)(ho:o.op=.alloc 68)(h:wpList ja0 ops Q rest (a.put o.dst (.pointer w)) (w.alloc (.cells (cells Re.zero) 68))):wpList ja0 ops Q (o::rest) a w :=
 dL hw (by unfold execOp;simp only[ho,Sem.run_bind,Az,Result.andThen_ok,Sem.run_pure]) h
theorem bE(hw:Region.wanted o (yielded ops a.tmps)=true)(ho:o.op=.build 68 #[])(h:wpList ja0 ops Q rest (a.put o.dst (.agg (cells Re.zero))) w):wpList ja0 ops Q (o::rest) a w :=
 dL hw (by unfold execOp;simp only[ho,Sem.run_bind,List.map_toArray,List.map_nil,LB,Result.andThen_ok,Sem.run_pure]) h
theorem aQ(hw:Region.wanted o (yielded ops a.tmps)=true)(x:Operand)(ho:o.op=.load 68 x)(hx:a.eval x=.pointer b)(hs:At w b (.cells (cells s) 68))
  (h:wpList ja0 ops Q rest (a.put o.dst (.agg (cells s))) w):wpList ja0 ops Q (o::rest) a w :=
 dL hw (by unfold execOp;simp only[ho,hx,Sem.run_bind,Dz hs,Result.andThen_ok,Sem.run_pure]) h
theorem aU(hw:Region.wanted o (yielded ops a.tmps)=true)(x y:Operand)(ho:o.op=.store 68 x y)(hx:a.eval x=.pointer b){s t:Re.St}(hy:a.eval y=.agg (cells t))(hs:At w b (.cells (cells s) 68))
  (h:wpList ja0 ops Q rest (a.put o.dst undef) (w.setRow b (cells t))):wpList ja0 ops Q (o::rest) a w :=
 ni hw (by unfold execOp;simp only[ho,hx,hy,Sem.run_bind,uZ hs,Result.andThen_ok,Sem.run_pure]) h
theorem bF(hw:Region.wanted o (yielded ops a.tmps)=true)(x y:Operand)(ho:o.op=.store 68 x y)(hx:a.eval x=.pointer b)(hy:a.eval y=.agg (cells s))(hs:At w b (.cells (cells s) 68))
  (h:wpList ja0 ops Q rest (a.put o.dst undef) w):wpList ja0 ops Q (o::rest) a w :=
 ni hw (by unfold execOp;simp only[ho,hx,hy,Sem.run_bind,zO hs,Result.andThen_ok,Sem.run_pure]) h
end
end Go.Proofs.YtdnggaapcgomhaaGreat.Fix
namespace Go.Proofs.YtdnggaapcgomhaaGreat.aj
open Go
open List renaming ne_nil_of_mem → jb0,range → jb',all_eq_true → jc0
variable {a:Act}{os l:List Oper}{listed:Array Bool}{o:Oper}{v:Value}{i:Nat}{w:World}
section
variable {P:Program} {ops:Array Oper} {Q:Exit->Act->World->Prop} {md:Region.Mode} {S:World->Prop}
def Ends(P:Program)(S:World->Prop)(v:Value):Result Next->Prop
 | .ok (.value u) w'=>u=v/\S w'
 | .ok (.enter f args) w'=>Calls P f args w' λe w''=>e=.returned v/\S w''
 | _=>False
def Det(P:Program)(ops:Array Oper)(S:World->Prop)(o:Oper)(v:Value)(a:Act):Prop :=
 (Region.wanted o (yielded ops a.tmps)=true/\∀w,S w->Ends P S v ((execOp a.eval o).run P w)) \/
 (Region.wanted o (yielded ops a.tmps)=false/\v=undef)
theorem Det.of_same{a a':Act}(hy:Det P ops S o v a)(he:execOp a'.eval o=execOp a.eval o)
  (hw:Region.wanted o (yielded ops a'.tmps)=Region.wanted o (yielded ops a.tmps)):Det P ops S o v a':=by
 unfold Det at *;rw[he,hw];exact hy
theorem Det.wpOp(hi:ops[i]? = some o)(hy:Det P ops S o v a)
  {K:Act->World->Prop}  (hS:S w) (h:∀w',S w'->K (a.put o.dst v) w'):wpOp P ops Q i K a w:=by
 unfold Go.wpOp;simp only[hi];rcases hy with⟨hw,hv⟩|⟨hw,rfl⟩
 . simp only[hw,if_true]
   refine .inl ?_;unfold Oper.wp;have h1:=hv w hS;generalize (execOp a.eval o).run P w=r at *;cases r with
   | ok n w' =>
     cases n<;>simp only[Ends]at h1<;>simp only[Oper.upon]
     case value u=>obtain⟨rfl,hs⟩:=h1;exact h _ hs
     case enter f args=>exact Calls.mono h1 λe w'' ⟨he,hs⟩=>by subst he;exact h _ hs
   | halt x w'=>exact h1.elim
 . simp only[hw,Bool.false_eq_true,if_false];exact h _ hS
def jW(P:Program)(md:Region.Mode)(ops:Array Oper)(S:World->Prop)(m:Nat)(B:Array Bool->Act->Prop):Nat->Array Bool->Act->Prop
 | 0,listed,a=>(∀k,k<m->listed.getD k true=true)/\B listed a
 | fuel+1,listed,a =>
   Region.ready md ops listed≠[] /\
   ∀i∈Region.ready md ops listed,∃o v,ops[i]? = some o/\Det P ops S o v a/\jW P md ops S m B fuel (listed.setIfInBounds i true) (a.put o.dst v)
theorem jW.any{m tf:Nat}:∀(fuel:Nat) (listed:Array Bool) (a:Act),jW P md ops S m (λlisted a=>∀w,S w->wpAny P md ops Q tf listed a w) fuel listed a->∀w,S w->wpAny P md ops Q (tf+fuel) listed a w
 | 0,_,_,h=>h.2
 | fuel+1,_,_,h=>λw hS=>⟨λhr=>absurd hr h.1,λi hi=>by
  obtain⟨o,v,ho,hd,hn⟩:=h.2 i hi
  exact hd.wpOp ho hS λw' hS'=>jW.any fuel _ _ hn w' hS'⟩
def bH(md:Region.Mode)(ops:Array Oper)(m:Nat):Bool :=
 (jb' ops.size).all λj=>decide (j<m)||(jb' m).all λk=>match ops[j]? with
  | some o=>o.after.any λe=>Region.binds md e&&e.on==k
  | none=>true
theorem oL{m:Nat}(h:bH md ops m=true){j k:Nat}(ho:ops[j]? = some o)(hj:m<=j)(hk:k<m):∃e∈o.after,Region.binds md e=true/\e.on=k:=by
 unfold bH at h;rw[jc0]at h;have h1:=h j (List.mem_range.2 (Array.getElem?_eq_some_iff.1 ho).1);have hd:decide (j<m)=false:=by simpa using hj
 rw[hd,Bool.false_or,jc0]at h1;have h2:=h1 k (List.mem_range.2 hk);simp only[ho]at h2;obtain⟨e,he,hb⟩:=Array.any_eq_true'.1 h2;simp only[Bool.and_eq_true,beq_iff_eq]at hb;exact⟨e,he,hb.1,hb.2⟩
theorem oU(h0:listed.getD i true=false)(h1:listed.getD i false=true):False:=by
 rcases Nat.lt_or_ge i listed.size with h'|h'
 . simp[h']at h0 h1;rw[h0]at h1;cases h1
 . simp[Array.getElem?_eq_none h']at h1
def Clear(md:Region.Mode)(ops:Array Oper)(listed:Array Bool)(i:Nat)(oi:Oper):Prop :=
 ∀j oj,ops[j]? = some oj->j≠i->listed.getD j true=false->(∃e∈oj.after,Region.binds md e=true/\e.on=i)\/oi.apart ops oj=true
theorem Clear.set{oi:Oper}(h:Clear md ops listed i oi)(j:Nat):Clear md ops (listed.setIfInBounds j true) i oi:=λk ok hk hki hun =>
 h k ok hk hki (by
  by_cases hjk:j=k
  . subst hjk
    rcases Nat.lt_or_ge j listed.size with h'|h'
    . simp[h']at hun
    . simp at hun
  . rwa [getD_set_ne true hjk]at hun)
theorem jF{i j:Nat}{oj:Oper}(hi:i∈Region.ready md ops listed)(hj:j∈Region.ready md ops listed)(ho:ops[j]? = some oj)(h:∃e∈oj.after,Region.binds md e=true/\e.on=i):False:=by
 obtain⟨e,he,hb,rfl⟩:=h;obtain⟨_,o,ho',hall⟩:=mem_ready.1 hj;obtain rfl:oj=o:=Option.some.inj (ho.symm.trans ho');exact oU (mem_ready.1 hi).1 (hall e he hb)
theorem G9{m:Nat}{B:Array Bool->Act->Prop}(ht:bH md ops m=true){oi:Oper}(him:i<m)(hi:ops[i]? = some oi)(hsel:∀(j:Nat) (o:Oper) cs b,ops[j]? = some o->o.op ≠ .select cs b)
  (fuel:Nat) (listed:Array Bool) (a:Act) (hc:Clear md ops listed i oi) (hr:i∈Region.ready md ops listed) (hy:Det P ops S oi v a)
  (H:jW P md ops S m B fuel (listed.setIfInBounds i true) (a.put oi.dst v)):jW P md ops S m B (fuel+1) listed a:=by
 induction fuel generalizing listed a with
 | zero =>
   refine⟨jb0 hr,λj hj => ?_⟩;rcases Nat.decEq j i with hji|rfl
   . exact Z2e
   . exact⟨oi,v,hi,hy,H⟩
 | succ fuel ih =>
   refine⟨jb0 hr,λj hj => ?_⟩;rcases Nat.decEq j i with hji|rfl
   . obtain⟨oj,u,ho,hyj,hn⟩:=H.2 j (ready_mono hj hji)
     obtain⟨a1,a2,a3⟩:=Oper.apart_spec ((hc j oj ho hji (mem_ready.1 hj).1).resolve_left (jF hr hj ho));refine⟨oj,u,ho,hyj.of_same (execOp_put oj (λcs b=>hsel j oj cs b ho) a oi.dst v a1).symm (wanted_put oj a oi.dst v a1).symm,ih _ _ (hc.set j) (ready_mono hr (Ne.symm hji)) ?_ ?_⟩
     . exact Zx
     . exact Z1z
   . exact⟨oi,v,hi,hy,H⟩
def lM(P:Program)(ops:Array Oper)(Q:Exit->Act->World->Prop):List Oper->Act->World->Prop
 | [],a,w=>Q .normal a w
 | o::os,a,w=>if Region.wanted o (yielded ops a.tmps)=true then o.wp P a w (lM P ops Q os) Q else lM P ops Q os (a.put o.dst undef) w
def forced(md:Region.Mode)(ops:Array Oper):Nat->Nat->Array Bool->Bool
 | 0,_,listed=>(Region.ready md ops listed).isEmpty
 | t+1,i,listed=>(Region.ready md ops listed==[i])&&forced md ops t (i+1) (listed.setIfInBounds i true)
def jV(md:Region.Mode)(ops:Array Oper)(t:Nat):Nat->Nat->Array Bool->Bool
 | 0,i,listed=>forced md ops t i listed
 | k+1,i,listed=>Region.free md ops listed i&&(Region.ready md ops listed).contains i&&jV md ops t k (i+1) (listed.setIfInBounds i true)
def dJ(P:Program)(ops:Array Oper)(Q:Exit->Act->World->Prop)(S:World->Prop):Nat->List Oper->Act->Prop
 | 0,os,a=>∀w,S w->lM P ops Q os a w
 | _+1,[],_=>False
 | k+1,o::os,a=>∃v,Det P ops S o v a/\dJ P ops Q S k os (a.put o.dst v)
theorem drop_cons(hd:ops.toList.drop i=o::os):ops[i]? = some o/\ops.toList.drop (i+1)=os:=by
 have hlt:i<ops.toList.length:=by
  rcases Nat.lt_or_ge i ops.toList.length with h'|h'
  . exact h'
  . rw[List.drop_eq_nil_of_le h']at hd;cases hd
 rw[List.drop_eq_getElem_cons hlt]at hd;refine⟨?_,(List.cons.inj hd).2⟩;have:=(List.cons.inj hd).1;rw[<-this];simp at hlt ⊢
theorem j5{oi:Oper}(hi:ops[i]? = some oi)(h:Region.free md ops listed i=true):Clear md ops listed i oi:=λj oj ho hji hun=>by
 by_cases hw:∃e∈oj.after,Region.binds md e=true/\e.on=i
 . exact .inl hw
 . exact .inr (Region.free_spec hi h j oj ho hji hun λe he hb hon=>hw ⟨e,he,hb,hon⟩)
theorem uS:∀(os:List Oper) (i:Nat) (listed:Array Bool) (a:Act) (w:World),ops.toList.drop i=os->forced md ops os.length i listed=true ->
  lM P ops Q os a w->wpAny P md ops Q os.length listed a w
 | [],i,listed,a,w,_,hk,h=>by
  simp only[List.length_nil,forced,List.isEmpty_iff]at hk;exact⟨hk,h⟩
 | o::os,i,listed,a,w,hd,hk,h=>by
  simp only[List.length_cons,forced,Bool.and_eq_true,beq_iff_eq]at hk;obtain⟨hr,hk⟩:=hk;obtain⟨ho,hd'⟩:=drop_cons hd;refine⟨λh0=>(by rw[hr]at h0;cases h0),λj hj => ?_⟩;rw[hr]at hj;obtain rfl:j=i:=by simpa using hj
  unfold wpOp;simp only[ho];unfold lM at h;by_cases hw:Region.wanted o (yielded ops a.tmps)=true
  . rw[if_pos hw]at h
    simp only[hw,if_true];exact .inl (Oper.wp_mono (λa' w' h'=>uS os (j+1) _ a' w' hd' hk h') h)
  . rw[if_neg hw]at h
    simp only[hw,Bool.false_eq_true,if_false];exact uS os (j+1) _ _ _ hd' hk h
theorem Jo{m t:Nat}(hs:Region.noSelect ops=true)(ht:bH md ops m=true)(hm:ops.toList.length=m+t):∀(k:Nat) (os:List Oper) (i:Nat) (listed:Array Bool) (a:Act),ops.toList.drop i=os->i+k=m ->
  (∀q,q<i->listed.getD q true=true)->jV md ops t k i listed=true ->
  dJ P ops Q S k os a->jW P md ops S m (λlisted a=>∀w,S w->wpAny P md ops Q t listed a w) k listed a
 | 0,os,i,listed,a,hd,hi,hl,hk,h=>by
  exact Z22
 | k+1,[],i,listed,a,_,_,_,_,h=>h.elim
 | k+1,o::os,i,listed,a,hd,hi,hl,hk,⟨v,hy,hn⟩=>by
  simp only[jV,Bool.and_eq_true]at hk;obtain⟨⟨hf,hr⟩,hk⟩:=hk;obtain⟨ho,hd'⟩:=drop_cons hd;refine G9 ht ak ho (Region.noSelect_spec hs) k listed a (j5 ho hf) (by simpa using hr) hy ?_;refine Jo hs ht hm k os (i+1) _ _ hd' ak ?_ hk hn;exact Z1k
theorem vk{id:Nat}(m t:Nat)(S:World->Prop)(hp:P.follows .mixedOrders=true)(hs:Region.noSelect l.toArray=true)
  (hl:l.length=m+t) (ht:bH .any l.toArray m=true) (hk:jV .any l.toArray t m 0 (Array.replicate l.length false)=true) (hS:S w.drew) (h:dJ P l.toArray Q S m l a):(Code.region id l.toArray true).wp P Q a w :=
 wp_region_any hp (by
  have h1:=jW.any (Q:=Q) (tf:=t) m (Array.replicate l.length false) a (Jo (md:=.any) (Q:=Q) (m:=m) (t:=t) hs ht (by simpa using hl) m l 0 (Array.replicate l.length false) a aW ak (λq hq=>by omega) hk h) _ hS;have e:l.toArray.size=t+m:=by simp;omega
  rw[e];have e2:Array.replicate (t+m) false=Array.replicate l.length false:=by rw[hl,Nat.add_comm]
  rw[e2];exact h1)
theorem DC{id:Nat}{W0 w:World}(h0:RowKit.Below W0.heap.size W0 w)(hp:P.follows .mixedOrders=true)(hs:Region.noSelect l.toArray=true)
  (hk:jV .any l.toArray 0 l.length 0 (Array.replicate l.length false)=true) (h:dJ P l.toArray Q (λw'=>RowKit.Below W0.heap.size W0 w') l.length l a):(Code.region id l.toArray true).wp P Q a w :=
 vk l.length 0 _ hp hs aW (by
  unfold bH;rw[jc0];intro j hj;have:j<l.length:=by simpa using hj
  simp[this]) hk h0.drew h
theorem DF{id:Nat}{W0 w:World}(m t:Nat)(h0:RowKit.Below W0.heap.size W0 w)(hp:P.follows .mixedOrders=true)(hs:Region.noSelect l.toArray=true)
  (hl:l.length=m+t) (ht:bH .any l.toArray m=true) (hk:jV .any l.toArray t m 0 (Array.replicate l.length false)=true) (h:dJ P l.toArray Q (λw'=>RowKit.Below W0.heap.size W0 w') m l a):(Code.region id l.toArray true).wp P Q a w :=
 vk m t _ hp hs hl ht hk h0.drew h
theorem Xk{k:Nat}(hw:Region.wanted o (yielded ops a.tmps)=false)(h:dJ P ops Q S k os (a.put o.dst undef)):dJ P ops Q S (k+1) (o::os) a :=
 ⟨undef,.inr ⟨hw,rfl⟩,h⟩
theorem iG{k:Nat}(hw:Region.wanted o (yielded ops a.tmps)=true)(hv:∀w,S w->(execOp a.eval o).run P w=.ok (.value v) w)
  (h:dJ P ops Q S k os (a.put o.dst v)):dJ P ops Q S (k+1) (o::os) a :=
 ⟨v,.inl ⟨hw,λw hS=>by rw[hv w hS];exact⟨rfl,hS⟩⟩,h⟩
theorem DI{k:Nat}{f:FuncId}{args:Array Value}(hw:Region.wanted o (yielded ops a.tmps)=true)
  (hv:∀w,S w->(execOp a.eval o).run P w=.ok (.enter f args) w) (hc:∀w,S w->Calls P f args w λe w''=>e=.returned v/\S w'')
  (h:dJ P ops Q S k os (a.put o.dst v)):dJ P ops Q S (k+1) (o::os) a :=
 ⟨v,.inl ⟨hw,λw hS=>by rw[hv w hS];exact hc w hS⟩,h⟩
theorem bD(h:∀w,S w->Q .normal a w):dJ P ops Q S 0 [] a:=h
theorem bL(h:∀w,S w->lM P ops Q os a w):dJ P ops Q S 0 os a:=h
theorem zP(hw:Region.wanted o (yielded ops a.tmps)=true)(h:∀K:Act->World->Prop,(∀a w,lM P ops Q os a w->K a w)->o.wp P a w K Q):lM P ops Q (o::os) a w:=by
 unfold lM;rw[if_pos hw];exact h _ λ_ _ h=>h
theorem bC(h:Q .normal a w):lM P ops Q [] a w:=h
end
end Go.Proofs.YtdnggaapcgomhaaGreat.aj
namespace Go.Proofs.YtdnggaapcgomhaaGreat
open Go aj
variable {os:List Oper}{v:Value}{A:Array Value}{W0 w:World}{a a':Act}{F:FuncId}
section
variable {P:Program} {ops:Array Oper} {Q:Exit->Act->World->Prop} {md:Region.Mode} {S:World->Prop}
theorem eD{P:Prop}(h:P:=by go_simp;first|done|with_reducible rfl|exact⟨rfl,rfl⟩):P:=h
theorem bM(a:Act)(d:Option Tmp)(v:Value):a.put d v=match d with|some d=>{ a with tmps:=a.tmps.setIfInBounds d v }|none=>a:=rfl
theorem bN{α:Type}(l:List α)(i:Nat)(x:α):l.toArray.setIfInBounds i x=(l.set i x).toArray:=List.setIfInBounds_toArray ..
theorem bO{α:Type}(x:α)(l:List α)(y:α):(x::l).set 0 y=y::l:=rfl
theorem tks{α:Type}(x:α)(l:List α)(i:Nat)(y:α):(x::l).set (i+1) y=x::l.set i y:=rfl
theorem jc{k:Nat}{o:Oper}(h:dJ P ops Q S k os a')(hw:Region.wanted o (yielded ops a.tmps)=false:=by rfl)(ha:a.put o.dst undef=a':=by first|(simp only[Act.put,List.setIfInBounds_toArray,List.set_cons_zero,List.set_cons_succ];rfl)|(simp only[Act.put,List.setIfInBounds_toArray,List.set_cons_zero,List.set_cons_succ];done)|rfl):dJ P ops Q S (k+1) (o::os) a:=Xk hw (ha▸h)
theorem je{k:Nat}{o:Oper}(h:dJ P ops Q S k os a')(hw:Region.wanted o (yielded ops a.tmps)=true:=by rfl)
 (hv:∀w,S w->(execOp a.eval o).run P w=.ok (.value v) w:=by intro w2 hS;obtain⟨hc,hf⟩:=fO hS;go_simp;first|done|with_reducible rfl|exact⟨rfl,rfl⟩) (ha:a.put o.dst v=a':=by first|(simp only[Act.put,List.setIfInBounds_toArray,List.set_cons_zero,List.set_cons_succ];rfl)|(simp only[Act.put,List.setIfInBounds_toArray,List.set_cons_zero,List.set_cons_succ];done)|rfl):dJ P ops Q S (k+1) (o::os) a:=iG hw hv (ha▸h)
theorem jd{k:Nat}{d g x y t p af gd}{f:FuncId}{args:Array Value}(h:dJ P ops Q S k os a')(hw:Region.wanted ⟨d,.call ⟨.value g,x,y⟩,t,p,af,gd⟩ (yielded ops a.tmps)=true:=by rfl)
 (hv:∀w,S w->(execOp a.eval ⟨d,.call ⟨.value g,x,y⟩,t,p,af,gd⟩).run P w=.ok (.enter f args) w:=by intro w2 hS;go_simp;first|done|with_reducible rfl|exact⟨rfl,rfl⟩) (hc:∀w,S w->Calls P f args w λe w''=>e=.returned v/\S w'') (ha:a.put d v=a':=by first|(simp only[Act.put,List.setIfInBounds_toArray,List.set_cons_zero,List.set_cons_succ];rfl)|(simp only[Act.put,List.setIfInBounds_toArray,List.set_cons_zero,List.set_cons_succ];done)|rfl):dJ P ops Q S (k+1) (⟨d,.call ⟨.value g,x,y⟩,t,p,af,gd⟩::os) a:=DI hw hv hc (ha▸h)
theorem rZ{id:Nat}{l:List Oper}{a:Act}(h:dJ P l.toArray Q (λw'=>RowKit.Below W0.heap.size W0 w') l.length l a)(h0:RowKit.Below W0.heap.size W0 w:=by exact RowKit.Below.refl _ _)(hp:P.follows .mixedOrders=true:=by kernel_rfl)(hs:Region.noSelect l.toArray=true:=by kernel_rfl)
 (hk:jV .any l.toArray 0 l.length 0 (Array.replicate l.length false)=true:=by kernel_rfl):(Code.region id l.toArray true).wp P Q a w:=DC h0 hp hs hk h
theorem yw{id:Nat}{l:List Oper}{a:Act}(m t:Nat)(h:dJ P l.toArray Q (λw'=>RowKit.Below W0.heap.size W0 w') m l a)(h0:RowKit.Below W0.heap.size W0 w:=by exact RowKit.Below.refl _ _)(hp:P.follows .mixedOrders=true:=by kernel_rfl)(hs:Region.noSelect l.toArray=true:=by kernel_rfl)
 (hl:l.length=m+t:=by rfl) (ht:bH .any l.toArray m=true:=by kernel_rfl) (hk:jV .any l.toArray t m 0 (Array.replicate l.length false)=true:=by kernel_rfl):(Code.region id l.toArray true).wp P Q a w:=DF m t h0 hp hs hl ht hk h
theorem wz{o:Oper}{a:Act}{w:World}(h:∀K:Act->World->Prop,(∀a w,lM P ops Q os a w->K a w)->o.wp P a w K Q)(hw:Region.wanted o (yielded ops a.tmps)=true:=by rfl):lM P ops Q (o::os) a w:=zP hw h
theorem iq(hS:RowKit.Below W0.heap.size W0 w)(h:Calls P F A w λe w'=>e=.returned v/\RowKit.Below w.heap.size w w'):Calls P F A w λe w'=>e=.returned v/\RowKit.Below W0.heap.size W0 w':=h.mono λ_ _ h=>⟨h.1,hS.trans (h.2.mono hS.size)⟩
theorem zn{w:World}(hS:S w)(h:Calls P F A w λe w'=>e=.returned v/\w=w'):Calls P F A w λe w'=>e=.returned v/\S w':=h.mono λ_ _ h=>⟨h.1,h.2▸hS⟩
theorem mI{w:World}{R:Ending->World->Prop}(h:Calls P F A w λe w'=>e=.returned v/\w=w')(k:R (.returned v) w):Calls P F A w R:=h.mono λ_ _ ⟨e1,e2⟩=>by subst e1 e2;exact k
end
end Go.Proofs.YtdnggaapcgomhaaGreat
namespace Go.Proofs.YtdnggaapcgomhaaGreat.Fix
open Go.ChangeShapes Go.WideShapes Go.ChangeAt Go.RowKit
open Go.Proofs.Tryz renaming prog → ja0
open World renaming alloc → ja4
theorem jD(k n base:Int)(w:World):Calls ja0 159 #[.agg #[k,n],base] w λe w'=>e=.returned (.bool (Fx.dD k base))/\Below w w w':=by
 go_enter Tryz.func159,Tryz.ntmps159
 go_wp2
 all_goals go_ret
 all_goals
  refine⟨dF (by unfold Fx.dD;simp[*]),?_⟩;exact Z0
theorem iP(k n base none:Int)(w:World):Calls ja0 121 #[.agg #[k,n],base,none] w λe w'=>e=.returned (.int .i64 (Fx.len k n base none))/\Below w w w':=by
 cases hF:Fx.dD k base with
 | false =>
   have Hr:=ah (Fx.aa1 (n:=n) (none:=none) hF);go_enter Tryz.func121,Tryz.ntmps121
   go_wp2_with (first|(go_at_call 48;with_reducible refine mI (eu _ _) ?_)|(go_at_call 159;(with_reducible refine(jD _ _ _ _).mono ?_);rintro e w' ⟨rfl,hb⟩;(try replace hb:=Below.after (by assumption) hb);obtain⟨hc,hf⟩:=fO hb;have hz:=hb.size;(try simp at hz)))
   all_goals go_ret
   all_goals
    refine⟨bA Hr.out.symm,?_⟩;exact Z0
 | true =>
   have h:=Fx.WM.1 hF;by_cases h1:k=1
   . clear h
     subst h1;have Hr:=ah (Fx.adF (k:=1) (n:=n) (base:=base) (none:=none) rfl);exact Z19
   . obtain⟨h2,h3⟩:k=2/\0<=base:=by omega
     clear h;subst h2;have Hr:=ah (Fx.aa0 (k:=2) (n:=n) (none:=none) rfl h3);exact Z19
theorem TL(k n:Int)(w:World):Calls ja0 205 #[.agg #[k,n]] w λe w'=>e=.returned (.bool (Fx.valid k n))/\Below w w w':=by
 by_cases h0:k=0
 . subst h0
   go_enter Tryz.func205,Tryz.ntmps205
   go_wp2
   go_ret
   refine⟨dF (by unfold Fx.valid;rw[if_pos rfl];rfl),?_⟩;exact Z0
 . by_cases h1:k=1
   . subst h1
     go_enter Tryz.func205,Tryz.ntmps205
     go_wp2;refine rZ ?_ (h0:=by first|assumption|exact Below.refl _ _)
     (repeat (first|refine jc ?_ | refine jd ?_ (hc:=by intro w2 hS;first|with_reducible exact zn hS (eu _ _))|refine je ?_))
     refine aj.bD ?_;intro w2 hS;go_wp2
     go_ret
     refine⟨dF (by unfold Fx.valid;rw[if_neg ak,if_pos rfl];rfl),?_⟩;exact Z0
   . by_cases h2:k=2
     . subst h2
       go_enter Tryz.func205,Tryz.ntmps205
       exact Z31
     . have g0:(k==0)=false:=by simp[h0]
       have g1:(k==1)=false:=by simp[h1]
       have g2:(k==2)=false:=by simp[h2]
       go_enter Tryz.func205,Tryz.ntmps205
       go_wp2
       go_ret
       refine⟨dF (by unfold Fx.valid;rw[if_neg h0,if_neg h1,if_neg h2]),?_⟩;exact Z0
theorem OT(k n:Int)(w:World):Calls ja0 139 #[.agg #[k,n]] w λe w'=>e=.returned (.bool (Fx.valid k n))/\Below w w w':=by
 by_cases h0:k=0
 . subst h0
   go_enter Tryz.func139,Tryz.ntmps139
   go_wp2
   go_ret
   refine⟨dF (by unfold Fx.valid;rw[if_pos rfl];rfl),?_⟩;exact Z0
 . by_cases h1:k=1
   . subst h1
     go_enter Tryz.func139,Tryz.ntmps139
     go_wp2
     all_goals
      go_ret
      refine⟨dF (by unfold Fx.valid Fx.cut;rw[if_neg ak,if_pos rfl];(repeat' split)<;>rw[Bool.eq_iff_iff]<;>simp<;>omega),?_⟩;exact Z0
   . by_cases h2:k=2
     . subst h2
       go_enter Tryz.func139,Tryz.ntmps139
       exact Z31
     . have g0:(k==0)=false:=by simp[h0]
       have g1:(k==1)=false:=by simp[h1]
       have g2:(k==2)=false:=by simp[h2]
       go_enter Tryz.func139,Tryz.ntmps139
       go_wp2
       go_ret
       refine⟨dF (by unfold Fx.valid;rw[if_neg h0,if_neg h1,if_neg h2]),?_⟩;exact Z0
theorem abj(k n far base:Int)(B:Nat)(w:World)(hcell:w.cell? ⟨B,0,none⟩=some (.int .i64 base)):Calls ja0 162 #[.agg #[k,n],far,B] w λe w'=>e=.returned (.int .i64 (Fx.len k n base far))/\Below w w w':=by
 have hlt:B<w.heap.size:=World.block_lt_of_cell? _ _ hcell;go_enter Tryz.func162,Tryz.ntmps162
 go_wp2_with (first|(go_at_call 121;(with_reducible refine(iP _ _ _ _ _).mono ?_);rintro e w' ⟨rfl,hb⟩;(try replace hb:=Below.after (by assumption) hb);obtain⟨hc,hf⟩:=fO hb;have hz:=hb.size;(try simp at hz)))
 exact Z1y
theorem He(n lk ln hk hn base:Int)(w:World):Calls ja0 123 #[n,.agg #[lk,ln],.agg #[hk,hn],base] w λe w'=>e=.returned (.int .i64 (Fx.limit n lk ln hk hn base))/\Below w w w':=by
 have Jp:=@ru;by_cases h:Fx.clamp n (Fx.len lk ln base (-1099511627776)) (Fx.len hk hn base 1099511627776)<0
 all_goals
  (try replace h:=Int.not_lt.1 h)
  go_enter Tryz.func123,Tryz.ntmps123
  go_upto_region 1 with(fail)
  (generalize hW:ja4 (ja4 (ja4 w _) _) _=W0;have A0:At W0 (w.heap.size) (.cells #[lk,ln] 59):=WE;have A1:At W0 (w.heap.size+1) (.cells #[hk,hn] 59):=Tc;have A2:At W0 (w.heap.size+1+1) (.cells #[base] 3):=Td;have hB:Below w w W0:=Z3w;clear hW;have c0:=A0.lc;have c1:=A1.lc;obtain⟨l2,bS⟩:=At.one A2)
  go_upto_region 2 with(fail)
  refine rZ ?_
  (repeat (first|refine jc ?_ | refine jd ?_ (hc:=by intro w2 hS;first|with_reducible exact iq hS (abj _ _ _ _ _ _ (((fO hS).1 _ _ l2).trans bS))|with_reducible exact zn hS (oF _ _ _ _))|refine je ?_))
  refine aj.bD ?_;intro w2 hS;go_wp2
  go_ret
  exact⟨bA (by unfold Fx.limit Fx.mx;split<;>omega),Below.ay hB aC hS⟩
theorem yC(A:Option Addr)(zs:List Int)(n c:Nat)(w:World)(h:Ints w A zs)(hn:zs.length=n) :
  Calls ja0 181 #[.slice A n c] w λe w'=>e=.returned (.int .i64 (Fx.coll zs))/\w=w':=by
 obtain⟨hm,h⟩:=h;unfold maxLen at hm;rw[hn]at hm h;have HN:=ah hn;clear hn;have HA:=ah h;clear h;go_enter Tryz.func181,Tryz.ntmps181
 go_wp2
 go_loop [3,4,9] (λg s i=>∃k:Nat,k<=n/\i=.int .i64 k/\g=.int .i64 (Fx.top (zs.take k))/\s=.int .i64 (Fx.bot (zs.take k))) (λ_ _ i=>n-(intOf i).toNat)
 case atStart=>exact⟨0,by omega,rfl,rfl,rfl⟩
 case round =>
  obtain⟨k,hk,rfl,rfl,rfl⟩:=hrel;by_cases hlt:k<n
  . obtain⟨b,off,rfl,hc⟩:=HA.out ak
    have hcell:=hc k hlt;clear hc;have hs:Hid (max (Fx.top (zs.take k)) (zs.getD k 0)=Fx.top (zs.take (k+1))):=ah (by rw[dW zs k V7,Fx.WR]);have ht:Hid (min (Fx.bot (zs.take k)) (zs.getD k 0)=Fx.bot (zs.take (k+1))):=ah (by rw[dW zs k V7,Fx.WS]);clear HA;generalize zs.getD k 0=z at *;go_wp2
    go_round
    case rel=>exact⟨k+1,by omega,by go_num,by rw[hs.out],by rw[ht.out]⟩
    case measure=>simp[intOf];omega
  . go_wp2_with (first|(go_at_call 67;with_reducible refine mI (iR _ _ _) ?_))
    go_ret
    exact⟨bA (by rw[List.take_of_length_le (by rw[HN.out];omega)];rfl),rfl⟩
theorem LD(A:Option Addr)(zs:List Int)(n c:Nat)(w:World)(h:Ints w A zs)(hn:zs.length=n) :
  Calls ja0 141 #[.slice A n c] w λe w'=>e=.returned (.int .i64 (Fx.coll zs))/\w=w':=by
 have S1:=yC A zs n c w h hn;go_enter Tryz.func141,Tryz.ntmps141
 go_wp2_with fail
 refine S1.mono ?_;rintro e w' ⟨rfl,rfl⟩;go_wp2;exact Zv
theorem Xl(w:World)(a b:Int)(T:TypeId):Ints (w.alloc (.cells #[a,b] T)) (some ⟨w,0,none⟩) [a,b]:=LC w [a,b] T aW
theorem Xm(a b:Int)(w:World):Calls ja0 182 #[a,b] w λe w'=>e=.returned (.int .i64 (Fx.coll [a,b]))/\Below w w w':=by
 go_enter Tryz.func182,Tryz.ntmps182
 go_wp2_with (go_at_call 181;refine(yC _ [a,b] 2 2 _ (Xl _ _ _ _) rfl).mono ?_;rintro e w' ⟨rfl,rfl⟩)
 go_ret
 exact⟨rfl,aB aD _⟩
theorem TM(n:Int)(a b:Bool)(w:World)(h1 : -1099511627776<=n)(h2:n<=1099511627776):Calls ja0 180 #[n,a,b] w λe w'=>e=.returned (.tuple #[Fx.shA n a b,Fx.shB n a b])/\w=w':=by
 by_cases h:n<=0
 . go_enter Tryz.func180,Tryz.ntmps180
   go_wp2_with (first|(go_at_call 52;with_reducible refine mI (kD _ _ _) ?_))
   go_ret2
   exact⟨Jl (by unfold Fx.shA;rw[if_pos ak]) (by unfold Fx.shB;rw[if_pos ak]),rfl⟩
 . cases a<;>cases b
   all_goals
    go_enter Tryz.func180,Tryz.ntmps180
    go_wp2_with (first|(go_at_call 52;with_reducible refine mI (kD _ _ _) ?_))
    go_ret2
    exact⟨Jl (by unfold Fx.shA;rw[if_neg ak];rfl) (by unfold Fx.shB;rw[if_neg ak];rfl),rfl⟩
theorem Xn(room size bk bn ek en base:Int)(w:World):Calls ja0 140 #[room,size,.agg #[bk,bn],.agg #[ek,en],base] w λe w'=>e=.returned (.tuple #[.int .i64 (Fx.WT room size (Fx.len bk bn base 0) (Fx.len ek en base 0) (Fx.dD bk base) (Fx.dD ek base)),.int .i64 (Fx.afN room size (Fx.len bk bn base 0) (Fx.len ek en base 0) (Fx.dD bk base) (Fx.dD ek base))])/\Below w w w':=by
 go_enter Tryz.func140,Tryz.ntmps140
 go_upto_region 1 with(fail)
 (generalize hW:ja4 (ja4 w _) _=W0;have A0:At W0 (w.heap.size) (.cells #[bk,bn] 59):=Tc;have A1:At W0 (w.heap.size+1) (.cells #[ek,en] 59):=Td;have hB:Below w w W0:=(by((rw[<-hW])<;>exact aB (aB aD _) _));clear hW;have c0:=A0.lc;have c1:=A1.lc)
 refine rZ ?_
 (repeat (first|refine jc ?_ | refine jd ?_ (hc:=by intro w2 hS;first|with_reducible exact iq hS (iP _ _ _ _ _))|refine je ?_))
 refine aj.bD ?_;intro w2 hS
 (clear c0 c1);(replace hB:=Below.ay qN aC hS);replace A0:=At.keep uL hS;replace A1:=At.keep sH hS;clear hS;have c0:=A0.lc;have c1:=A1.lc
 go_upto_region 3 with(first|(go_at_call 52;with_reducible refine mI (kD _ _ _) ?_)|(go_at_call 67;with_reducible refine mI (iR _ _ _) ?_))
 refine rZ ?_
 (repeat (first|refine jc ?_ | refine jd ?_ (hc:=by intro w2 hS;first|with_reducible exact iq hS (jD _ _ _ _)|with_reducible exact zn hS (TM _ _ _ _ (Fx.adG _ _) (Fx.sub_le _ _)))|refine je ?_))
 refine aj.bD ?_;intro w2 hS
 (clear c0 c1);(replace hB:=Below.ay qN aC hS);replace A0:=At.keep uL hS;replace A1:=At.keep sH hS;clear hS;have c0:=A0.lc;have c1:=A1.lc
 go_wp2_with (first|(go_at_call 67;with_reducible refine mI (iR _ _ _) ?_))
 go_ret2
 exact⟨rfl,hB⟩
end Go.Proofs.YtdnggaapcgomhaaGreat.Fix
namespace Go.Proofs.YtdnggaapcgomhaaGreat.aj
open Go Fix
open List renaming ne_nil_of_mem → jb0,range → jb',all_eq_true → jc0,contains_iff_mem → jc6
variable {a:Act}{v:Value}{o:Oper}{os:List Oper}{i:Nat}
section
variable {P:Program} {ops:Array Oper} {Q:Exit->Act->World->Prop} {md:Region.Mode} {S:World->Prop} {N:Value->World->Prop} {s m t:Nat} {so:Oper} {tail:List Oper}
def ac3(P:Program)(w:World)(v:Value):Result Next->Prop
 | .ok (.value u) w'=>u=v/\RowKit.Below w.heap.size w w'
 | .ok (.enter f args) w'=>Calls P f args w' λe w''=>e=.returned v/\RowKit.Below w.heap.size w w''
 | _=>False
def FW(P:Program)(ops:Array Oper)(S:World->Prop)(o:Oper)(v:Value)(a:Act):Prop :=
 (Region.wanted o (yielded ops a.tmps)=true/\∀w,S w->ac3 P w v ((execOp a.eval o).run P w)) \/
 (Region.wanted o (yielded ops a.tmps)=false/\v=undef)
def Stable(S:World->Prop):Prop:=∀w w',S w->RowKit.Below w.heap.size w w'->S w'
theorem FW.of_same{a a':Act}(hy:FW P ops S o v a)(he:execOp a'.eval o=execOp a.eval o)
  (hw:Region.wanted o (yielded ops a'.tmps)=Region.wanted o (yielded ops a.tmps)):FW P ops S o v a':=by
 unfold FW at *;rw[he,hw];exact hy
theorem FW.wpOp(hi:ops[i]? = some o)(hy:FW P ops S o v a)
  {K:Act->World->Prop} {w:World} (hS:S w) (h:∀w',RowKit.Below w.heap.size w w'->K (a.put o.dst v) w'):wpOp P ops Q i K a w:=by
 unfold Go.wpOp;simp only[hi];rcases hy with⟨hw,hv⟩|⟨hw,rfl⟩
 . simp only[hw,if_true]
   refine .inl ?_;unfold Oper.wp;have h1:=hv w hS;generalize (execOp a.eval o).run P w=r at *;cases r with
   | ok n w' =>
     cases n<;>simp only[ac3]at h1<;>simp only[Oper.upon]
     case value u=>obtain⟨rfl,hs⟩:=h1;exact h _ hs
     case enter f args=>exact Calls.mono h1 λe w'' ⟨he,hs⟩=>by subst he;exact h _ hs
   | halt x w'=>exact h1.elim
 . simp only[hw,Bool.false_eq_true,if_false];exact h _ (RowKit.Below.refl _ _)
def Known(S:World->Prop)(N:Value->World->Prop):Option Value->World->Prop
 | none,w=>S w
 | some v,w=>N v w
def iY(P:Program)(md:Region.Mode)(ops:Array Oper)(S:World->Prop)(s m:Nat)(B:Value->Array Bool->Act->Prop):Nat->Array Bool->Act->Option Value->Prop
 | 0,listed,a,g=>(∀k,k<m->listed.getD k true=true)/\∃v,g=some v/\B v listed a
 | fuel+1,listed,a,g =>
   Region.ready md ops listed≠[] /\
   ∀i∈Region.ready md ops listed,∃o,ops[i]? = some o /\
    ((i≠s/\∃v,FW P ops S o v a/\iY P md ops S s m B fuel (listed.setIfInBounds i true) (a.put o.dst v) g) \/
     (i=s/\g=none/\∀v,iY P md ops S s m B fuel (listed.setIfInBounds i true) (a.put o.dst v) (some v)))
def Special(P:Program)(ops:Array Oper)(S:World->Prop)(N:Value->World->Prop)(o:Oper):Prop :=
 ∀(a:Act) (w:World),S w->Region.wanted o (yielded ops a.tmps)=true/\∃v w',(execOp a.eval o).run P w=.ok (.value v) w'/\N v w'
theorem Special.wpOp(hi:ops[i]? = some so)(hy:Special P ops S N so)
  {K:Act->World->Prop} {w:World} (hS:S w) (h:∀v w',N v w'->K (a.put so.dst v) w'):wpOp P ops Q i K a w:=by
 unfold Go.wpOp;simp only[hi];obtain⟨hw,v,w',hr,hN⟩:=hy a w hS;simp only[hw,if_true];refine .inl ?_;unfold Oper.wp;rw[hr];simp only[Oper.upon];exact h v w' hN
theorem iY.any{tf:Nat}(hso:ops[s]? = some so)(hsp:Special P ops S N so)(hS0:Stable S)(hN0:∀v,Stable (N v))(hNS:∀v w,N v w->S w) :
  ∀(fuel:Nat) (listed:Array Bool) (a:Act) (g:Option Value),iY P md ops S s m (λv listed a=>∀w,N v w->wpAny P md ops Q tf listed a w) fuel listed a g->∀w,Known S N g w->wpAny P md ops Q (tf+fuel) listed a w
 | 0,_,_,g,⟨_,v,hg,hB⟩=>λw hw=>by subst hg;exact hB w hw
 | fuel+1,_,_,g,h=>λw hw=>⟨λhr=>absurd hr h.1,λi hi=>by
  obtain⟨o,ho,hcase⟩:=h.2 i hi;have hSw:S w:=by
   cases g with
   | none=>exact hw
   | some v=>exact hNS v w hw
  rcases hcase with⟨_,v,hd,hn⟩|⟨hi,hg,hn⟩
  . refine hd.wpOp ho hSw λw' hb=>iY.any hso hsp hS0 hN0 hNS fuel _ _ g hn w' ?_
    cases g with
    | none=>exact hS0 w w' hw hb
    | some u=>exact hN0 u w w' hw hb
  . obtain rfl:so=o:=Option.some.inj (hso.symm.trans (hi▸ho))
    subst hg
    exact hsp.wpOp ho hSw λv w' hN=>iY.any hso hsp hS0 hN0 hNS fuel _ _ (some v) (hn v) w' hN⟩
theorem OU{B:Value->Array Bool->Act->Prop}(ht:bH md ops m=true){oi:Oper}(him:i<m)(his:i≠s)(hi:ops[i]? = some oi)(hsel:∀(j:Nat) (o:Oper) cs b,ops[j]? = some o->o.op ≠ .select cs b)
  (fuel:Nat) (listed:Array Bool) (a:Act) (g:Option Value) (hc:Clear md ops listed i oi) (hr:i∈Region.ready md ops listed) (hy:FW P ops S oi v a)
  (H:iY P md ops S s m B fuel (listed.setIfInBounds i true) (a.put oi.dst v) g):iY P md ops S s m B (fuel+1) listed a g:=by
 induction fuel generalizing listed a g with
 | zero =>
   refine⟨jb0 hr,λj hj => ?_⟩;rcases Nat.decEq j i with hji|rfl
   . exact Z2e
   . exact⟨oi,hi,.inl ⟨his,v,hy,H⟩⟩
 | succ fuel ih =>
   refine⟨jb0 hr,λj hj => ?_⟩;rcases Nat.decEq j i with hji|rfl
   . obtain⟨oj,ho,hcase⟩:=H.2 j (ready_mono hj hji)
     obtain⟨a1,a2,a3⟩:=Oper.apart_spec ((hc j oj ho hji (mem_ready.1 hj).1).resolve_left (jF hr hj ho));rcases hcase with⟨hjs,u,hyj,hn⟩|⟨hjs,hg,hn⟩
     . refine⟨oj,ho,.inl ⟨hjs,u,hyj.of_same (execOp_put oj (λcs b=>hsel j oj cs b ho) a oi.dst v a1).symm (wanted_put oj a oi.dst v a1).symm,ih _ _ _ (hc.set j) (ready_mono hr (Ne.symm hji)) ?_ ?_⟩⟩
       . exact Zx
       . exact Z1z
     . refine⟨oj,ho,.inr ⟨hjs,hg,λu=>ih _ _ _ (hc.set j) (ready_mono hr (Ne.symm hji)) ?_ ?_⟩⟩
       . exact Zx
       . rw[Array.setIfInBounds_comm _ _ hji,<-Act.put_comm a v u a2];exact hn u
   . exact⟨oi,hi,.inl ⟨his,v,hy,H⟩⟩
def vv(md:Region.Mode)(ops:Array Oper)(s m t:Nat):List Nat->Array Bool->Bool
 | [],listed=>(Region.ready md ops listed).contains s&&forced md ops t m (listed.setIfInBounds s true)
 | i::r,listed=>Region.free md ops listed i&&(Region.ready md ops listed).contains i&&decide (i<m) && !(i==s)&&vv md ops s m t r (listed.setIfInBounds i true)
def fC(P:Program)(ops:Array Oper)(Q:Exit->Act->World->Prop)(S:World->Prop)(N:Value->World->Prop)(so:Oper)(tail:List Oper):List Oper->Act->Prop
 | [],a=>∀v w,N v w->lM P ops Q tail (a.put so.dst v) w
 | o::os,a=>∃v,FW P ops S o v a/\fC P ops Q S N so tail os (a.put o.dst v)
theorem xF{listed:Array Bool}{i q:Nat}(h:q=i->i<listed.size)(h':q≠i->listed.getD q true=true):(listed.setIfInBounds i true).getD q true=true:=by
 by_cases e:q=i
 . subst e
   have:=h rfl;simp[this]
 . rw[getD_set_ne true (Ne.symm e)];exact h' e
theorem Di{listed:Array Bool}(h:i∈Region.ready md ops listed):i<listed.size:=by
 have hun:=(mem_ready.1 h).1;rcases Nat.lt_or_ge i listed.size with h'|h'
 . exact h'
 . simp[Array.getElem?_eq_none h']at hun
theorem LG(hs:Region.noSelect ops=true)(ht:bH md ops m=true)(hso:ops[s]? = some so)(hsm:s<m)(htail:ops.toList.drop m=tail)(htl:tail.length=t) :
  ∀(os:List Oper) (L:List Nat) (listed:Array Bool) (a:Act),L.map (λi=>ops[i]?)=os.map some->(∀q,q<m->q ∉ L->q≠s->listed.getD q true=true)->vv md ops s m t L listed=true ->
  fC P ops Q S N so tail os a->iY P md ops S s m (λv listed a=>∀w,N v w->wpAny P md ops Q t listed a w) (L.length+1) listed a none
 | [],[],listed,a,_,hl,hk,h=>by
  simp only[vv,Bool.and_eq_true,jc6]at hk;obtain⟨hr,hf⟩:=hk;refine⟨jb0 hr,λi hi => ?_⟩;by_cases his:i=s
  . exact Z1n
  . exfalso
    obtain⟨hun,oi,ho,_⟩:=mem_ready.1 hi;by_cases him:i<m
    . have:=hl i him aW his
      rw[hun]at this;cases this
    . exact jF hr hi ho (oL ht ho ak hsm)
 | [],i::r,_,_,hL,_,_,_=>by simp at hL
 | o::os,[],_,_,hL,_,_,_=>by simp at hL
 | o::os,i::r,listed,a,hL,hl,hk,⟨v,hy,hn⟩=>by
  simp only[List.map_cons,List.cons.injEq]at hL;obtain⟨ho,hL⟩:=hL;simp only[vv,Bool.and_eq_true,Bool.not_eq_true',beq_eq_false_iff_ne,decide_eq_true_eq,jc6]at hk;obtain⟨⟨⟨⟨hf,hr⟩,him⟩,his⟩,hk⟩:=hk;refine OU ht him his ho (Region.noSelect_spec hs) _ listed a none (j5 ho hf) hr hy ?_;refine LG hs ht hso hsm htail htl os r _ _ hL ?_ hk hn;intro q hq hqr hqs;exact xF (λ_=>Di hr) (λhne=>hl q hq (by simp[hne,hqr]) hqs)
def Made(W0:World)(x:Obj)(v:Value)(w:World):Prop:=∃b,v=.pointer (some ⟨b,0,none⟩)/\W0.heap.size<=b/\At w b x/\RowKit.Below W0.heap.size W0 w
theorem yD(W0:World):Stable λw=>RowKit.Below W0.heap.size W0 w:=λ_ _ h hb=>Below.ay h aC hb
theorem AA(W0:World)(x:Obj)(v:Value):Stable (Made W0 x v):=λ_ _ ⟨b,hv,h0,hA,h⟩ hb=>⟨b,hv,h0,hA.keep hb,Below.ay h aC hb⟩
theorem BM{id:Nat}{l:List Oper}{W0 w:World}{x:Obj}{norm:List Oper}(L:List Nat)(s m:Nat)(h0:RowKit.Below W0.heap.size W0 w)(hp:P.follows .mixedOrders=true)(hs:Region.noSelect l.toArray=true)
  (hso:l.toArray[s]? = some so) (htl:l.drop m=tail) (hL:L.map (λi=>l.toArray[i]?)=norm.map some) (hn:l.length=tail.length+(L.length+1))
  (hq:((jb' m).all λq=>L.contains q||q==s)&&decide (s<m)=true) (ht:bH .any l.toArray m=true)
  (hk:vv .any l.toArray s m tail.length L (Array.replicate l.length false)=true)
  (hsp:∀(a:Act) (w:World),RowKit.Below W0.heap.size W0 w->Region.wanted so (yielded l.toArray a.tmps)=true/\(execOp a.eval so).run P w=.ok (.value (.pointer w)) (w.alloc x))
  (h:fC P l.toArray Q (λw'=>RowKit.Below W0.heap.size W0 w') (Made W0 x) so tail norm a):(Code.region id l.toArray true).wp P Q a w:=by
 refine wp_region_any hp ?_;simp only[Bool.and_eq_true,jc0,List.mem_range,Bool.or_eq_true,jc6,beq_iff_eq,decide_eq_true_eq]at hq
 have hspec:Special P l.toArray (λw'=>RowKit.Below W0.heap.size W0 w') (Made W0 x) so:=λa w hb=>by
  obtain⟨hw,hr⟩:=hsp a w hb;exact⟨hw,_,_,hr,w.heap.size,rfl,hb.size,At.new _ _,aB hb _⟩
 have h1:=iY.any (Q:=Q) (tf:=tail.length) hso hspec (yD W0) (AA W0 x) (λv w ⟨_,_,_,_,hb⟩=>hb) (L.length+1) (Array.replicate l.length false) a none
  (LG (md:=.any) (Q:=Q) hs ht hso hq.2 (by simpa using htl) rfl norm L (Array.replicate l.length false) a hL (λq hqm hqL hqs=>by
   rcases hq.1 q hqm with h'|h'
   . exact absurd h' hqL
   . exact absurd h' hqs) hk h) w.drew h0.drew
 exact Z2k
theorem TN(hw:Region.wanted o (yielded ops a.tmps)=false)(h:fC P ops Q S N so tail os (a.put o.dst undef)):fC P ops Q S N so tail (o::os) a :=
 ⟨undef,.inr ⟨hw,rfl⟩,h⟩
theorem OV(hw:Region.wanted o (yielded ops a.tmps)=true)(hv:∀w,S w->(execOp a.eval o).run P w=.ok (.value v) w)
  (h:fC P ops Q S N so tail os (a.put o.dst v)):fC P ops Q S N so tail (o::os) a :=
 ⟨v,.inl ⟨hw,λw hS=>by rw[hv w hS];exact⟨rfl,RowKit.Below.refl _ _⟩⟩,h⟩
theorem TQ{f:FuncId}{args:Array Value}(hw:Region.wanted o (yielded ops a.tmps)=true)
  (hv:∀w,S w->(execOp a.eval o).run P w=.ok (.enter f args) w) (hc:∀w,S w->Calls P f args w λe w''=>e=.returned v/\RowKit.Below w.heap.size w w'')
  (h:fC P ops Q S N so tail os (a.put o.dst v)):fC P ops Q S N so tail (o::os) a :=
 ⟨v,.inl ⟨hw,λw hS=>by rw[hv w hS];exact hc w hS⟩,h⟩
theorem yj{W0:World}{x:Obj}(h:∀(b:Nat) (w:World),W0.heap.size<=b->At w b x->RowKit.Below W0.heap.size W0 w->lM P ops Q tail (a.put so.dst (.pointer b)) w):fC P ops Q S (Made W0 x) so tail [] a :=
 λ_ w ⟨b,hv,hb,hA,hS⟩=>by subst hv;exact h b w hb hA hS
end
end Go.Proofs.YtdnggaapcgomhaaGreat.aj
namespace Go.Proofs.YtdnggaapcgomhaaGreat
open Go aj
variable {os:List Oper}{a a':Act}
section
variable {P:Program} {ops:Array Oper} {Q:Exit->Act->World->Prop} {md:Region.Mode} {S:World->Prop} {N:Value->World->Prop} {so:Oper} {tail:List Oper}
theorem sbk{o:Oper}(h:fC P ops Q S N so tail os a')(hw:Region.wanted o (yielded ops a.tmps)=false:=by rfl)(ha:a.put o.dst undef=a':=by first|(simp only[Act.put,List.setIfInBounds_toArray,List.set_cons_zero,List.set_cons_succ];rfl)|(simp only[Act.put,List.setIfInBounds_toArray,List.set_cons_zero,List.set_cons_succ];done)|rfl):fC P ops Q S N so tail (o::os) a:=TN hw (ha▸h)
theorem sbv{o:Oper}{v:Value}(h:fC P ops Q S N so tail os a')(hw:Region.wanted o (yielded ops a.tmps)=true:=by rfl)
 (hv:∀w,S w->(execOp a.eval o).run P w=.ok (.value v) w:=by intro w2 hS;obtain⟨hc,hf⟩:=fO hS;go_simp;first|done|with_reducible rfl|exact⟨rfl,rfl⟩) (ha:a.put o.dst v=a':=by first|(simp only[Act.put,List.setIfInBounds_toArray,List.set_cons_zero,List.set_cons_succ];rfl)|(simp only[Act.put,List.setIfInBounds_toArray,List.set_cons_zero,List.set_cons_succ];done)|rfl):fC P ops Q S N so tail (o::os) a:=OV hw hv (ha▸h)
theorem sbc{d g x y t p af gd}{v:Value}{f:FuncId}{args:Array Value}(h:fC P ops Q S N so tail os a')(hw:Region.wanted ⟨d,.call ⟨.value g,x,y⟩,t,p,af,gd⟩ (yielded ops a.tmps)=true:=by rfl)
 (hv:∀w,S w->(execOp a.eval ⟨d,.call ⟨.value g,x,y⟩,t,p,af,gd⟩).run P w=.ok (.enter f args) w:=by intro w2 hS;go_simp;first|done|with_reducible rfl|exact⟨rfl,rfl⟩) (hc:∀w,S w->Calls P f args w λe w''=>e=.returned v/\RowKit.Below w.heap.size w w'') (ha:a.put d v=a':=by first|(simp only[Act.put,List.setIfInBounds_toArray,List.set_cons_zero,List.set_cons_succ];rfl)|(simp only[Act.put,List.setIfInBounds_toArray,List.set_cons_zero,List.set_cons_succ];done)|rfl):fC P ops Q S N so tail (⟨d,.call ⟨.value g,x,y⟩,t,p,af,gd⟩::os) a:=TQ hw hv hc (ha▸h)
theorem sbt{id:Nat}{l:List Oper}{a:Act}{W0 w:World}{x:Obj}{norm:List Oper}(L:List Nat)(s m:Nat)
 (h:fC P l.toArray Q (λw'=>RowKit.Below W0.heap.size W0 w') (Made W0 x) so tail norm a) (h0:RowKit.Below W0.heap.size W0 w:=by exact RowKit.Below.refl _ _) (hp:P.follows .mixedOrders=true:=by kernel_rfl) (hs:Region.noSelect l.toArray=true:=by kernel_rfl)
 (hso:l.toArray[s]? = some so:=by rfl) (htl:l.drop m=tail:=by rfl) (hL:L.map (λi=>l.toArray[i]?)=norm.map some:=by rfl) (hn:l.length=tail.length+(L.length+1):=by rfl)
 (hq:((List.range m).all λq=>L.contains q||q==s)&&decide (s<m)=true:=by kernel_rfl) (ht:bH .any l.toArray m=true:=by kernel_rfl)
 (hk:vv .any l.toArray s m tail.length L (Array.replicate l.length false)=true:=by kernel_rfl)
 (hsp:∀(a:Act) (w:World),RowKit.Below W0.heap.size W0 w->Region.wanted so (yielded l.toArray a.tmps)=true/\(execOp a.eval so).run P w=.ok (.value (.pointer w)) (w.alloc x):=by intro a w2 hS;refine⟨rfl,?_⟩;go_simp;first|done|with_reducible rfl|exact⟨rfl,rfl⟩):(Code.region id l.toArray true).wp P Q a w:=BM L s m h0 hp hs hso htl hL hn hq ht hk hsp h
end
end Go.Proofs.YtdnggaapcgomhaaGreat
namespace Go.Proofs.YtdnggaapcgomhaaGreat.Fix
open Go.ChangeShapes Go.WideShapes Go.ChangeAt Go.RowKit
open Go.Proofs.Tryz renaming prog → ja0
open List renaming getElem?_eq_getElem → ja6,range → jb'
variable {Q:Exit->Act->World->Prop}{A:Option Addr}{w:World}{zs:List Int}{P:Program}
theorem Ints.lt(h:Ints w A zs)(h0:0<zs.length):∀x,A=some x->x.block<w.heap.size:=by
 intro x hx;obtain⟨b,off,rfl,hc⟩:=h.2 h0;injection hx with hx;subst hx;exact World.block_lt_of_cell? _ _ (hc 0 h0)
theorem Ints.after{W w:World}(h:Ints W A zs)(hb:Below W W w):Ints w A zs:=h.keep hb h.lt
theorem Ints.at_(h:Ints w A zs){k:Nat}(hk:k<zs.length):∃b off,A=some ⟨b,off,none⟩/\b<w.heap.size/\w.cell? ⟨b,off+k,none⟩=some (.int .i64 (zs.getD k 0)):=by
 obtain⟨b,off,rfl,hc⟩:=h.2 ak;exact⟨b,off,rfl,World.block_lt_of_cell? _ _ (hc k hk),hc k hk⟩
def aX(f:Nat->Int)(n k:Nat):Array Value:=((jb' n).map λj=>Value.int .i64 (if j<k then f j else 0)).toArray
theorem dh(f:Nat->Int){n k j:Nat}(h:j<n):(aX f n k)[j]? = some (.int .i64 (if j<k then f j else 0)):=by simp[aX,h]
theorem xI(f:Nat->Int)(n k:Nat):(aX f n k).size=n:=by simp[aX]
theorem jk(f:Nat->Int)(n:Nat):madeCells #[()] n=aX f n 0:=by
 apply Array.ext
 . simp[aX,size_madeCells]
 . intro i h1 h2
   simp[madeCells,aX,Nat.mod_one]
theorem jE(f:Nat->Int){n k:Nat}(h:k<n):(aX f n k).setIfInBounds k (.int .i64 (f k))=aX f n (k+1):=by
 apply Array.ext_getElem?;intro i;rw[Array.getElem?_setIfInBounds,xI];by_cases hin:i<n
 . rw[dh f hin,dh f hin]
   by_cases hik:k=i
   . subst hik;simp[hin]
   . simp only[hik,if_false]
     have:(i<k)=(i<k+1):=by simp;omega
     simp only[this]
 . have h1:(aX f n k)[i]? = none:=Array.getElem?_eq_none (by rw[xI];omega)
   have h2:(aX f n (k+1))[i]? = none:=Array.getElem?_eq_none (by rw[xI];omega);rw[h1,h2];rw[if_neg ak]
theorem OW(f:Nat->Int)(n:Nat)(h:f 0=0):aX f n 0=aX f n 1:=by
 unfold aX;congr 1;apply List.map_congr_left;intro j hj;by_cases h0:j=0
 . subst h0;simp[h]
 . simp;omega
theorem FX{b:Nat}{T:TypeId}(s t u:List Int)(n:Nat)(hn:n<=maxLen)(h:At w b (.cells (aX (Fx.nV s t u) n n) T)):Ints w (some ⟨b,0,none⟩) (Fx.uW s t u n):=by
 refine⟨by rw[Fx.qp];exact hn,λh0=>⟨b,0,rfl,λk hk => ?_⟩⟩;rw[Fx.qp]at hk;rw[h.cell,Nat.zero_add,dh _ hk,Fx.Dk _ _ _ hk];simp[hk]
theorem intZero:(Tryz.prog.info? 3).map (λi=>(i.zero,i.size,i.bytes))=some (some (.int .i64 0),1,8):=by kernel_rfl
theorem jl{w0 W:World}{base:Nat}{v:Value}{k m c:Nat}{xs l:List Int}(hown:W.ownsRow base 3 1 v k (xs.map (Value.int .i64)))(hB:Below base w0 W)(hbase:base<=W.heap.size)
  (hI:Ints W A l) (hl:l.length=m) (hc:A=none->c=0) (hkm:k+m<=100000) :
  ∃v' w',(Builtin.append_ #[37,37] 37 #[v,.slice A m c]).run ja0 W=.ok v' w'/\w'.ownsRow base 3 1 v' (k+m) ((xs++l).map (Value.int .i64))/\Below base w0 w'/\base<=w'.heap.size:=by
 obtain⟨i0,hi0,hz0,hz1,hz2⟩:=info_parts intZero;rcases A with _ | ad
 . have h0:l=[]:=by
    rcases Nat.eq_zero_or_pos l.length with h|h
    . exact List.eq_nil_of_length_eq_zero h
    . obtain⟨b,o,e,_⟩:=hI.2 h;cases e
   subst h0;subst hl;rw[hc rfl];exact⟨_,_,run_append_owned_none _ _ 37 37 3 i0 1 Tryz.underlying37 hi0 _ k _ hown,by simpa using hown,hB,hbase⟩
 . obtain⟨v',w',hr,ho,hg,_,_⟩:=run_append_own_at (P:=ja0) W base 37 37 3 i0 (.int .i64 0) 1 8 Tryz.underlying37 hi0 hz0 hz1 hz2 rfl aG _ k _ hown ad m c (l.map (Value.int .i64)) (by simp[hl])
    (by
     intro j u hu;have hj:j<l.length:=by
      rcases Nat.lt_or_ge j l.length with h|h
      . exact h
      . rw[List.getElem?_eq_none (by simpa using h)]at hu;cases hu
     obtain⟨b,o,e,hcell⟩:=hI.2 ak;injection e with e;subst e;have hcj:=hcell j hj;have e2:(⟨b,o,none⟩:Addr).add j=⟨b,o+j,none⟩:=by
      unfold Addr.add;split
      . subst j;rfl
      . rfl
     rw[e2,hcj,<-hu]
     simp[ja6 hj])
    (by intro u hu;obtain⟨z,_,rfl⟩:=List.mem_map.1 hu;rfl) Oi ak hbase
   refine⟨v',w',hr,by rw[List.map_append];exact ho,hB.grown hg hbase (λg hgg=>(hown.lt g hgg).1),?_⟩;exact aJ hbase hg.size
theorem DJ{w0 W:World}{base:Nat}{v:Value}{k:Nat}{xs:List Int}(x:Int)(hown:W.ownsRow base 3 1 v k (xs.map (Value.int .i64)))(hB:Below base w0 W)(hbase:base<=W.heap.size)(hk:k<=10000) :
  ∃v' w',(Builtin.append_ #[37,37] 37 #[v,.slice W 1 1]).run ja0 (W.alloc (.cells #[x] 3))=.ok v' w'/\w'.ownsRow base 3 1 v' (k+1) ((xs++[x]).map (Value.int .i64))/\Below base w0 w'/\base<=w'.heap.size :=
 jl (hown.alloc _) (hB.alloc hbase _) iJ (LC W [x] 3 aW) rfl (λh=>by cases h) ak
def roundEnd(B:Nat)(K Kx:World->Prop)(W:World):Exit->Act->World->Prop
 | .normal,_,W'=>KeepsFrom B W W'/\K W'
 | .ret,_,W'=>KeepsFrom B W W'/\Kx W'
 | _,_,_=>False
def Held(W:World)(D:Nat)(r:Loop):Prop:=W.heap[D+1]? = some (.loop r)/\W.heap[D]? = some (.deferred (some []))
theorem Held.turn{W:World}{D:Nat}{r:Loop}(h:Held W D r)(r':Loop):Held (W.putObj (D+1) (.loop r')) D r' :=
 ⟨World.putObj_heap_same (Array.getElem?_eq_some_iff.1 h.1).1,(World.putObj_heap_other ak).trans h.2⟩
theorem Held.keep{W W':World}{D:Nat}{r:Loop}(h:Held W D r)(hk:KeepsFrom D W W'):Held W' D r :=
 ⟨hk.same _ _ ak h.1 rfl,hk.same _ _ ak h.2 rfl⟩
def Calm(B:Nat)(K:World->Prop):Prop:=∀W r o o',K W->B<=r->W.heap[r]? = some o'->o'.isCells=false->K (W.putObj r o)
theorem jH{n:Nat}{g:Operand}{ps:Array Tmp}{assign body:Code}{a:Act}
  {gf:FuncId} {first lb:Array Value} (hg:a.eval g=.func (.func gf) first lb) (eg:∀args w,(callFunc gf args).run P w=.ok (.enter gf args) w)
  (N:Nat) (fr:Nat->Bool) (xs:Nat->Array Value) (hps:∀i,(xs i).size=ps.size) (K:Nat->World->Prop) (Kx:World->Prop)
  (hK:∀i,Calm w.heap.size (K i)) (hKx:Calm w.heap.size Kx) (h0:∀o1 o2,K 0 ((w.alloc o1).alloc o2))
  (hit:∀(lp:Nat) (J:Nat->World->Prop) (Jx:World->Prop) (W:World),(∀i W,J i W->K i W)->(∀i W,i<N->fr i=true->J i W->J (i+1) W) ->
   (∀i W,i<N->fr i=false->J i W->YieldAt Fence.wide (n-1-1) P lp (xs i) W λe W'=>(e=.returned (.bool true)/\J (i+1) W')\/(e=.returned (.bool false)/\Jx W'))->J 0 W ->
   CallsIn Fence.wide (n-1) P gf (first ++ #[.func (.yield lp) #[] #[]]++lb) W λe W'=>(∃v,e=.returned v)/\(J N W'\/Jx W'))
  (Ry:∀i W,i<N->fr i=true->K i W->K (i+1) W) (upd:Nat->Array Value->Array Value)
  (hassign:∀(l i:Nat) (W:World) (G:Act->World->Prop),i<N->G { tmps:=upd i a.tmps,defers:=[] } W ->
   assign.wpIn (Fence.wide.inRound l) (n-1-1) P (Exit.then G (λ_ _ _=>False)) { tmps:=(ps.zip (xs i)).foldl (λt (p,v)=>t.setIfInBounds p v) a.tmps,defers:=[] } W)
  (hbody:∀(l i:Nat) (W:World),i<N->fr i=false->K i W->body.wpIn (Fence.wide.inRound l) (n-1-1) P (roundEnd w.heap.size (K (i+1)) Kx W) { tmps:=upd i a.tmps,defers:=[] } W)
  (hdone:∀(D:Nat) (W:World),w.heap.size<=D->K N W->W.heap[D]? = some (.deferred (some []))->Q .normal { a with defers:={ target:=.collected D,args:=#[] }::a.defers } W)
  (hstop:∀(D:Nat) (W:World),w.heap.size<=D->Kx W->W.heap[D]? = some (.deferred (some []))->Code.ret.wpIn Fence.wide n P Q { a with defers:={ target:=.collected D,args:=#[] }::a.defers } W) :
  (Code.rangeFunc g ps assign body).wpIn Fence.wide n P Q a w:=by
 refine wpIn_rangeFunc λfn _ => ?_
 let L:LoopState->Option Code->Loop:=λs p=>{ state:=s,pending:=p,fn:=fn,tmps:=a.tmps,params:=ps,assign:=assign,body:=body,defers:=w.heap.size }
 have hH:Held ((w.alloc (.deferred (some []))).alloc (.loop (L .ready none))) w.heap.size (L .ready none):=by
  exact Z30
 generalize hW:(w.alloc (.deferred (some []))).alloc (.loop (L .ready none))=W1 at hH;have h1:K 0 W1:=hW▸h0 _ _
 refine⟨w.heap.size+1,[{ target:=.collected w.heap.size,args:=#[] }],W1,{ target:=.fn (.func gf) lb,args:=first ++ #[.func (.yield (w.heap.size+1)) #[] #[]] },W1,gf,
  first ++ #[.func (.yield (w.heap.size+1)) #[] #[]]++lb,W1,?_,?_,λ_ _=>trivial,?_,λhd=>Z4l,?_⟩
 . rw[<-hW];exact run_enterLoop_outer fn _ _ _ _
 . simp only[resolve,hg]
   simp[go_sem]
 . simp[invoke,go_sem,eg]
 refine(hit (w.heap.size+1) (λi W=>K i W/\Held W w.heap.size (L .ready none)) (λW=>Kx W/\Held W w.heap.size (L .done (some .ret))) _ (λ_ _ h=>h.1) (λi W hi hf h=>⟨Ry i W hi hf h.1,h.2⟩) ?round ⟨h1,hH⟩).mono ?behind
 case round =>
  rintro i W hi hf ⟨hk,hh⟩;refine⟨fn,_,assign,body,run_yield hh.1 (hps i),roundIn_of_wpIn trivial (hassign _ i W _ hi ⟨_,run_beginRound hh.1 rfl,?_⟩)⟩;have hb:=hh.turn (L .busy none);refine wpIn_mono (hbody _ i _ hi hf (hK i _ _ _ _ hk ak hh.1 rfl)) ?_;intro e _ W3 hp;cases e with
  | normal =>
    have h3:=hb.keep hp.1;exact⟨_,_,run_endRound none h3.1,.inl ⟨rfl,hK _ _ _ _ _ hp.2 ak h3.1 rfl,h3.turn _⟩⟩
  | ret =>
    have h3:=hb.keep hp.1;exact⟨_,_,run_endRound (some .ret) h3.1,.inr ⟨rfl,hKx _ _ _ _ hp.2 ak h3.1 rfl,h3.turn _⟩⟩
  | exit _=>exact hp.elim
  | goto _=>exact hp.elim
  | panic _=>exact hp.elim
  | outgrown=>exact hp.elim
 case behind =>
  rintro e W2 ⟨⟨v,rfl⟩,⟨hk,hh⟩|⟨hk,hh⟩⟩
  . exact⟨none,_,run_endLoop hh.1 (by simp[L]),hdone _ _ aC (hK _ _ _ _ _ hk ak hh.1 rfl) (hh.turn _).2⟩
  . exact⟨some .ret,_,run_endLoop hh.1 (by simp[L]),hstop _ _ aC (hKx _ _ _ _ hk ak hh.1 rfl) (hh.turn _).2⟩
theorem Xo(o:Oper)(h:(match o.op with | .defer _=>false | _=>true)=true):∀c,o.op ≠ .defer c:=by
 intro c hc;rw[hc]at h;cases h
theorem OY{o:Oper}{a:Act}{n l:Nat}{K:Act->World->Prop}{r:Result Next}(h:o.upon P a K Q r):o.uponIn (Fence.wide.inRound l) n P a K Q r:=by
 cases r with
 | ok x w' =>
   cases x<;>simp only[Oper.upon,Oper.uponIn]at h ⊢ <;> first
    | exact h
    | exact⟨λhd=>Z4l,CallsIn.inRound l (callsIn_wide.2 h)⟩
    | (refine⟨λhd=>Z4l,λc cs _ => ?_⟩
       obtain⟨v,w'',hr,hs⟩:=h c cs
       exact⟨v,w'',hr,stepsIn_wide.2 hs⟩)
 | halt x w'=>cases x<;>simp only[Oper.upon,Oper.uponIn]at h ⊢ <;> exact h
theorem Xp{o:Oper}{a:Act}{n l:Nat}{K:Act->World->Prop}(hd:∀c,o.op ≠ .defer c)(h:o.wp P a w K Q):o.wpIn (Fence.wide.inRound l) n P a w K Q :=
 ⟨λ_ _=>trivial,by
  rw[show(Fence.wide.inRound l).round=some l from rfl,Oper.semAt_some l _ _ hd]
  exact OY h⟩
end Go.Proofs.YtdnggaapcgomhaaGreat.Fix
namespace Go.Proofs.YtdnggaapcgomhaaGreat.aj
open Go
section
open List renaming all_eq_true → jc0
section
variable {P:Program} {ops:Array Oper} {Q:Exit->Act->World->Prop} {md:Region.Mode} {S:World->Prop}
def later(md:Region.Mode)(ops:Array Oper)(i:Nat)(oi:Oper):List Oper->Bool
 | []=>true
 | oj::r=>(oj.after.any (λe=>Region.binds md e&&e.on==i)||oi.apart ops oj)&&later md ops i oi r
def yE(md:Region.Mode)(ops:Array Oper):Nat->List Oper->Bool
 | _,[]=>true
 | i,o::r=>(o.after.all (λe => !Region.binds md e||Nat.blt e.on i)&&later md ops i o r)&&yE md ops (i+1) r
theorem DK{i:Nat}{oi:Oper}:∀{l:List Oper},later md ops i oi l=true->∀(k:Nat) (oj:Oper),l[k]? = some oj->(∃e∈oj.after,Region.binds md e=true/\e.on=i)\/oi.apart ops oj=true
 | [],_,k,oj,hk=>by simp at hk
 | o::r,h,k,oj,hk=>by
  simp only[later,Bool.and_eq_true,Bool.or_eq_true]at h;cases k with
  | zero =>
    simp only[List.getElem?_cons_zero,Option.some.injEq]at hk;subst hk;rcases h.1 with h1|h1
    . obtain⟨e,he,hb⟩:=Array.any_eq_true'.1 h1
      simp only[Bool.and_eq_true,beq_iff_eq]at hb;exact .inl ⟨e,he,hb.1,hb.2⟩
    . exact .inr h1
  | succ k=>exact DK h.2 k oj (by simpa using hk)
theorem TR{q:Nat}{listed:Array Bool}(h:listed.getD q false=true):listed.getD q true=true:=by
 rcases Nat.lt_or_ge q listed.size with h'|h'
 . simp[h']at h ⊢;exact h
 . simp[Array.getElem?_eq_none h']
theorem DL{m:Nat}(hs:Region.noSelect ops=true)(ht:bH md ops m=true)(hm:ops.toList.length=m):∀(k:Nat) (os:List Oper) (i:Nat) (listed:Array Bool) (a:Act),ops.toList.drop i=os->i+k=m->listed.size=m ->
  (∀q,q<i->listed.getD q false=true)->(∀q,i<=q->q<m->listed.getD q true=false)->yE md ops i os=true ->
  dJ P ops Q S k os a->jW P md ops S m (λlisted a=>∀w,S w->wpAny P md ops Q 0 listed a w) k listed a
 | 0,os,i,listed,a,hd,hi,hz,hl,hl',hk,h=>by
  have hlen:os=[]:=by rw[<-hd];exact List.drop_eq_nil_of_le ak
  subst hlen;refine⟨λq hq => ?_,λw hS => ?_⟩
  . exact TR (hl q ak)
  . refine uS (P:=P) (Q:=Q) [] i listed a w hd ?_ (h w hS)
    show(Region.ready md ops listed).isEmpty=true;rw[List.isEmpty_iff];refine List.eq_nil_iff_forall_not_mem.2 λq hq => ?_;obtain⟨hun,o,ho,_⟩:=mem_ready.1 hq;have hq':q<ops.size:=(Array.getElem?_eq_some_iff.1 ho).1;have:=hl q (by have:ops.size=m:=(by simpa using hm);omega);exact oU hun this
 | k+1,[],i,listed,a,_,_,_,_,_,_,h=>h.elim
 | k+1,o::os,i,listed,a,hd,hi,hz,hl,hl',hk,⟨v,hy,hn⟩=>by
  simp only[yE,Bool.and_eq_true]at hk;obtain⟨⟨he,hlat⟩,hk⟩:=hk;obtain⟨ho,hd'⟩:=drop_cons hd;have him:i<m:=by omega
  have hr:i∈Region.ready md ops listed:=mem_ready.2 ⟨hl' i aC him,o,ho,λe hm hb=>by
   have h1:=Array.all_eq_true_iff_forall_mem.1 he e hm;simp only[hb,Bool.not_true,Bool.false_or]at h1
   exact hl _ (by simpa[Nat.blt_eq]using h1)⟩
  have hc:Clear md ops listed i o:=λj oj hj hji hun=>by
   have akw:i<j:=by
    rcases Nat.lt_trichotomy i j with h'|h'|h'
    . exact h'
    . exact absurd h'.symm hji
    . exact(oU hun (hl j h')).elim
   refine DK hlat (j-(i+1)) oj ?_;rw[<-hd',List.getElem?_drop,show i+1+(j-(i+1))=j by omega];simpa using hj
  refine G9 ht him ho (Region.noSelect_spec hs) k listed a hc hr hy ?_;refine DL hs ht hm k os (i+1) _ _ hd' ak (by simpa using hz) ?_ ?_ hk hn
  . intro q hq
    by_cases hqi:q=i
    . subst hqi
      simp[show q<listed.size by omega]
    . have:=hl q ak
      rw[getD_set_ne false (Ne.symm hqi)];exact this
  . intro q hq hqm
    rw[getD_set_ne true ak];exact hl' q ak hqm
theorem vB{id:Nat}{l:List Oper}{a:Act}{W0 w:World}(h0:RowKit.Below W0.heap.size W0 w)(hp:P.follows .mixedOrders=true)(hs:Region.noSelect l.toArray=true)
  (hk:yE .any l.toArray 0 l=true) (h:dJ P l.toArray Q (λw'=>RowKit.Below W0.heap.size W0 w') l.length l a):(Code.region id l.toArray true).wp P Q a w :=
 wp_region_any hp (by
  have ht:bH .any l.toArray l.length=true:=by
   unfold bH;rw[jc0];intro j hj;have:j<l.length:=by simpa using hj
   simp[this]
  have h1:=jW.any (Q:=Q) (tf:=0) l.length (Array.replicate l.length false) a (DL (md:=.any) (Q:=Q) (m:=l.length) hs ht aW l.length l 0 (Array.replicate l.length false) a aW ak aW (λq hq=>by omega) (λq _ hq=>by simp[hq]) hk h) _ h0.drew;have e:l.toArray.size=0+l.length:=by simp
  rw[e];have e2:Array.replicate (0+l.length) false=Array.replicate l.length false:=by rw[Nat.zero_add]
  rw[e2];exact h1)
end
end
open Fix
open List renaming ne_nil_of_mem → jb0,all_eq_true → jc0
variable {l:List Oper}{a:Act}{w w':World}{listed:Array Bool}{r:Result Next}{K:Value->World->Prop}{n lp id i fuel:Nat}{o:Oper}
section
variable {P:Program} {ops:Array Oper} {Q:Exit->Act->World->Prop} {md:Region.Mode} {S:World->Prop}
def sP(l:List Oper):Bool:=l.all λo=>match o.op with | .defer _=>false | _=>true
theorem Jq(h:sP l=true)(ho:l.toArray[i]? = some o):∀c,o.op ≠ .defer c:=by
 have hm:o∈l:=by
  have:=Array.mem_of_getElem? ho;simpa using this
 exact Xo o (List.all_eq_true.1 h o hm)
theorem OZ{n lp i:Nat}{K:Act->World->Prop}(hd:sP l=true)(ho:¬ LetsOut Q)(h:wpOp P l.toArray Q i K a w):wpOpIn (Fence.wide.inRound lp) n P l.toArray Q i K a w:=by
 unfold Go.wpOp at h;unfold Go.wpOpIn;cases hi:l.toArray[i]? with
 | none=>simpa[hi]using h
 | some o =>
   simp only[hi]at h ⊢;split at h
   . rename_i hw
     simp only[hw,if_true];exact Xp (Jq hd hi) (h.resolve_right λh2=>ho h2.2)
   . rename_i hw
     simp only[hw,Bool.false_eq_true,if_false];exact⟨λ_ _=>trivial,h⟩
theorem pW(hd:sP l=true)(ho:¬ LetsOut Q):∀(fuel:Nat) (listed:Array Bool) (a:Act) (w:World),wpAny P md l.toArray Q fuel listed a w->wpAnyIn (Fence.wide.inRound lp) n P md l.toArray Q fuel listed a w
 | 0,_,_,_,h=>h
 | fuel+1,_,_,_,h=>⟨h.1,λi hi=>wpOpIn_mono (λa w=>pW hd ho fuel _ a w) (OZ hd ho (h.2 i hi))⟩
theorem O4(m t:Nat)(S:World->Prop)(hp:P.follows .mixedOrders=true)(hs:Region.noSelect l.toArray=true)
  (hl:l.length=m+t) (ht:bH .any l.toArray m=true) (hk:jV .any l.toArray t m 0 (Array.replicate l.length false)=true) (hd:sP l=true) (ho:¬ LetsOut Q) (hS:S w.drew) (h:dJ P l.toArray Q S m l a):(Code.region id l.toArray true).wpIn (Fence.wide.inRound lp) n P Q a w :=
 wpIn_region_any hp (pW hd ho _ _ _ _ (by
  have h1:=jW.any (Q:=Q) (tf:=t) m (Array.replicate l.length false) a (Jo (md:=.any) (Q:=Q) (m:=m) (t:=t) hs ht (by simpa using hl) m l 0 (Array.replicate l.length false) a aW ak (λq hq=>by omega) hk h) _ hS;have e:l.toArray.size=t+m:=by simp;omega
  rw[e];have e2:Array.replicate (t+m) false=Array.replicate l.length false:=by rw[hl,Nat.add_comm]
  rw[e2];exact h1))
theorem TT(l:List Oper):bH .any l.toArray l.length=true:=by
 unfold bH;rw[jc0];intro j hj;have:j<l.length:=by simpa using hj
 simp[this]
theorem O5{W0 w:World}(m t:Nat)(h0:RowKit.Below W0.heap.size W0 w)(hp:P.follows .mixedOrders=true)(hs:Region.noSelect l.toArray=true)
  (hl:l.length=m+t) (ht:bH .any l.toArray m=true) (hk:jV .any l.toArray t m 0 (Array.replicate l.length false)=true) (hd:sP l=true) (ho:¬ LetsOut Q) (h:dJ P l.toArray Q (λw'=>RowKit.Below W0.heap.size W0 w') m l a):(Code.region id l.toArray true).wpIn (Fence.wide.inRound lp) n P Q a w :=
 O4 m t _ hp hs hl ht hk hd ho h0.drew h
theorem O6{W0 w:World}(h0:RowKit.Below W0.heap.size W0 w)(hp:P.follows .mixedOrders=true)(hs:Region.noSelect l.toArray=true)
  (hk:yE .any l.toArray 0 l=true) (hd:sP l=true) (ho:¬ LetsOut Q) (h:dJ P l.toArray Q (λw'=>RowKit.Below W0.heap.size W0 w') l.length l a):(Code.region id l.toArray true).wpIn (Fence.wide.inRound lp) n P Q a w :=
 wpIn_region_any hp (pW hd ho _ _ _ _ (by
  have h1:=jW.any (Q:=Q) (tf:=0) l.length (Array.replicate l.length false) a (DL (md:=.any) (Q:=Q) (m:=l.length) hs (TT l) aW l.length l 0 (Array.replicate l.length false) a aW ak aW (λq hq=>by omega) (λq _ hq=>by simp[hq]) hk h) _ h0.drew;have e:l.toArray.size=0+l.length:=by simp
  rw[e];have e2:Array.replicate (0+l.length) false=Array.replicate l.length false:=by rw[Nat.zero_add]
  rw[e2];exact h1))
end
section
variable {P:Program} {ops:Array Oper} {Q:Exit->Act->World->Prop} {md:Region.Mode} {S:World->Prop} {m:Nat}
def Step(P:Program)(K:Value->World->Prop):Result Next->Prop
 | .ok (.value u) w'=>K u w'
 | .ok .skip w'=>K undef w'
 | .ok (.enter f args) w'=>Calls P f args w' λe w''=>∃u,e=.returned u/\K u w''
 | _=>False
theorem Step.mono{K K':Value->World->Prop}(h:Step P K r)(hk:∀u w,K u w->K' u w):Step P K' r:=by
 cases r with
 | ok x w' =>
   cases x<;>simp only[Step]at h ⊢
   case value=>exact hk _ _ h
   case skip=>exact hk _ _ h
   case enter=>exact h.mono λe w'' ⟨u,he,hu⟩=>⟨u,he,hk _ _ hu⟩
 | halt=>exact h.elim
theorem Step.value{u:Value}(hr:r=.ok (.value u) w')(h:K u w'):Step P K r:=by subst hr;exact h
theorem Step.skip(hr:r=.ok .skip w')(h:K undef w'):Step P K r:=by subst hr;exact h
theorem Step.call{f:FuncId}{args:Array Value}{R:Ending->World->Prop}(hr:r=.ok (.enter f args) w')(hc:Calls P f args w' R)(h:∀e w'',R e w''->∃u,e=.returned u/\K u w''):Step P K r:=by
 subst hr;exact hc.mono h
def bq(P:Program)(md:Region.Mode)(ops:Array Oper)(Q:Exit->Act->World->Prop)(S:World->Prop)(m:Nat):Nat->Array Bool->Act->World->Prop
 | 0,listed,a,w=>Region.ready md ops listed=[]/\Q .normal a w
 | fuel+1,listed,a,w =>
   Region.ready md ops listed≠[] /\
   ∀i∈Region.ready md ops listed,∃o,ops[i]? = some o /\
    ((Region.wanted o (yielded ops a.tmps)=true/\Step P (λu w'=>(i<m->S w')/\bq P md ops Q S m fuel (listed.setIfInBounds i true) (a.put o.dst u) w') ((execOp a.eval o).run P w)) \/
     (Region.wanted o (yielded ops a.tmps)=false/\bq P md ops Q S m fuel (listed.setIfInBounds i true) (a.put o.dst undef) w))
theorem bq.any:∀(fuel:Nat) (listed:Array Bool) (a:Act) (w:World),bq P md ops Q S m fuel listed a w->wpAny P md ops Q fuel listed a w
 | 0,_,_,_,h=>h
 | fuel+1,listed,a,w,h=>⟨λhr=>absurd hr h.1,λi hi=>by
  obtain⟨o,ho,hcase⟩:=h.2 i hi;unfold Go.wpOp;simp only[ho];rcases hcase with⟨hw,hs⟩|⟨hw,hs⟩
  . simp only[hw,if_true]
    refine .inl ?_;unfold Oper.wp;generalize (execOp a.eval o).run P w=r at *;cases r with
    | ok x w' =>
      cases x<;>simp only[Step]at hs<;>simp only[Oper.upon]
      case value=>exact bq.any fuel _ _ _ hs.2
      case skip=>exact bq.any fuel _ _ _ hs.2
      case enter=>exact Calls.mono hs λe w'' ⟨u,he,hu⟩=>by subst he;exact bq.any fuel _ _ _ hu.2
    | halt=>exact hs.elim
  . simp only[hw,Bool.false_eq_true,if_false]
    exact bq.any fuel _ _ _ hs⟩
def Reads(P:Program)(ops:Array Oper)(S:World->Prop)(o:Oper)(v:Value)(a:Act):Prop :=
 (Region.wanted o (yielded ops a.tmps)=true/\∀w,S w->(execOp a.eval o).run P w=.ok (.value v) w)\/(Region.wanted o (yielded ops a.tmps)=false/\v=undef)
theorem Reads.of_same{v:Value}{a a':Act}(hy:Reads P ops S o v a)(he:execOp a'.eval o=execOp a.eval o)
  (hw:Region.wanted o (yielded ops a'.tmps)=Region.wanted o (yielded ops a.tmps)):Reads P ops S o v a':=by
 unfold Reads at *;rw[he,hw];exact hy
theorem TU(ht:bH md ops m=true)(hsel:∀(j:Nat) (o:Oper) cs b,ops[j]? = some o->o.op ≠ .select cs b){oi:Oper}{v:Value}(him:i<m)(hi:ops[i]? = some oi)
  (fuel:Nat) (listed:Array Bool) (a:Act) (w:World) (hc:Clear md ops listed i oi) (hr:i∈Region.ready md ops listed) (hS:S w) (hy:Reads P ops S oi v a)
  (H:bq P md ops Q S m fuel (listed.setIfInBounds i true) (a.put oi.dst v) w):bq P md ops Q S m (fuel+1) listed a w:=by
 have self:∀(fuel:Nat) (listed:Array Bool) (a:Act) (w:World),S w->Reads P ops S oi v a->bq P md ops Q S m fuel (listed.setIfInBounds i true) (a.put oi.dst v) w ->
   ∃o,ops[i]? = some o/\((Region.wanted o (yielded ops a.tmps)=true/\Step P (λu w'=>(i<m->S w')/\bq P md ops Q S m fuel (listed.setIfInBounds i true) (a.put o.dst u) w') ((execOp a.eval o).run P w)) \/
    (Region.wanted o (yielded ops a.tmps)=false/\bq P md ops Q S m fuel (listed.setIfInBounds i true) (a.put o.dst undef) w)):=by
  intro fuel listed a w hS hy H;rcases hy with⟨hw,hv⟩|⟨hw,rfl⟩
  . exact⟨oi,hi,.inl ⟨hw,Step.value (hv w hS) ⟨λ_=>hS,H⟩⟩⟩
  . exact⟨oi,hi,.inr ⟨hw,H⟩⟩
 induction fuel generalizing listed a w with
 | zero =>
   refine⟨jb0 hr,λj hj => ?_⟩;rcases Nat.decEq j i with hji|rfl
   . exfalso
     have:=ready_mono hj hji;rw[H.1]at this;cases this
   . exact self 0 listed a w hS hy H
 | succ fuel ih =>
   refine⟨jb0 hr,λj hj => ?_⟩;rcases Nat.decEq j i with hji|rfl
   . obtain⟨oj,ho,hcase⟩:=H.2 j (ready_mono hj hji)
     obtain⟨a1,a2,a3⟩:=Oper.apart_spec ((hc j oj ho hji (mem_ready.1 hj).1).resolve_left (jF hr hj ho));have hjm:j<m:=by
      rcases Nat.lt_or_ge j m with h'|h'
      . exact h'
      . exact(jF hr hj ho (oL ht ho h' him)).elim
     have e1:=execOp_put oj (λcs b=>hsel j oj cs b ho) a oi.dst v a1;have e2:=wanted_put oj a oi.dst v a1;refine⟨oj,ho,?_⟩;have next:∀(u:Value) (w':World),S w'->bq P md ops Q S m fuel ((listed.setIfInBounds i true).setIfInBounds j true) ((a.put oi.dst v).put oj.dst u) w'->bq P md ops Q S m (fuel+1) (listed.setIfInBounds j true) (a.put oj.dst u) w':=by
      intro u w' hS' hn;refine ih _ _ _ (hc.set j) (ready_mono hr (Ne.symm hji)) hS' ?_ ?_
      . exact Zx
      . exact Z1z
     rcases hcase with⟨hw,hs⟩|⟨hw,hs⟩
     . refine .inl ⟨by rw[<-e2];exact hw,?_⟩
       rw[e1]at hs;exact hs.mono λu w' ⟨h1,h2⟩=>⟨h1,next u w' (h1 hjm) h2⟩
     . exact .inr ⟨by rw[<-e2];exact hw,next _ _ hS hs⟩
   . exact self (fuel+1) listed a w hS hy H
theorem sQ(h:ops.toList[i]? = some o):ops[i]? = some o:=by rw[<-h];simp
theorem aN{oi:Oper}{v:Value}(hi0:ops.toList[i]? = some oi)(ht:bH md ops m=true)(hs:Region.noSelect ops=true)
  (hf:Region.free md ops listed i=true) (hr:(Region.ready md ops listed).contains i=true) (him:i<m) (hS:S w) (hy:Reads P ops S oi v a)
  (H:bq P md ops Q S m fuel (listed.setIfInBounds i true) (a.put oi.dst v) w):bq P md ops Q S m (fuel+1) listed a w :=
 TU ht (Region.noSelect_spec hs) him (sQ hi0) fuel listed a w (j5 (sQ hi0) hf) (by simpa using hr) hS hy H
theorem abk(hr:Region.ready md ops listed=[i])(hi0:ops.toList[i]? = some o)(hw:Region.wanted o (yielded ops a.tmps)=true)
  (h:Step P (λu w'=>(i<m->S w')/\bq P md ops Q S m fuel (listed.setIfInBounds i true) (a.put o.dst u) w') ((execOp a.eval o).run P w)):bq P md ops Q S m (fuel+1) listed a w :=
 ⟨by rw[hr];simp,λj hj=>by rw[hr]at hj;obtain rfl:j=i:=(by simpa using hj);exact⟨o,sQ hi0,.inl ⟨hw,h⟩⟩⟩
theorem abl{i j:Nat}{o o2:Oper}(hr:Region.ready md ops listed=[i,j])(hi0:ops.toList[i]? = some o)(hj0:ops.toList[j]? = some o2)(hw:Region.wanted o (yielded ops a.tmps)=true)(hw2:Region.wanted o2 (yielded ops a.tmps)=true)
  (h:Step P (λu w'=>(i<m->S w')/\bq P md ops Q S m fuel (listed.setIfInBounds i true) (a.put o.dst u) w') ((execOp a.eval o).run P w))
  (h2:Step P (λu w'=>(j<m->S w')/\bq P md ops Q S m fuel (listed.setIfInBounds j true) (a.put o2.dst u) w') ((execOp a.eval o2).run P w)):bq P md ops Q S m (fuel+1) listed a w :=
 ⟨by rw[hr];simp,λk hk=>by
  rw[hr]at hk;rcases(show k=i\/k=j by simpa using hk)with rfl|rfl
  . exact⟨o,sQ hi0,.inl ⟨hw,h⟩⟩
  . exact⟨o2,sQ hj0,.inl ⟨hw2,h2⟩⟩⟩
theorem abm(hr:Region.ready md ops listed=[])(h:Q .normal a w):bq P md ops Q S m 0 listed a w:=⟨hr,h⟩
theorem qx(m:Nat)(hp:P.follows .mixedOrders=true)(hS:S w.drew)
  (h:S w.drew->bq P .any l.toArray Q S m l.toArray.size (Array.replicate l.toArray.size false) a w.drew):(Code.region id l.toArray true).wp P Q a w :=
 wp_region_any hp (bq.any _ _ _ _ (h hS))
theorem TV(m:Nat)(hp:P.follows .mixedOrders=true)(hd:sP l=true)(ho:¬ LetsOut Q)(hS:S w.drew)
  (h:S w.drew->bq P .any l.toArray Q S m l.toArray.size (Array.replicate l.toArray.size false) a w.drew):(Code.region id l.toArray true).wpIn (Fence.wide.inRound lp) n P Q a w :=
 wpIn_region_any hp (pW hd ho _ _ _ _ (bq.any _ _ _ _ (h hS)))
theorem fQ{c:Code}{a0:Act}{w0:World}{Q:Exit->Act->World->Prop}(F:Act->Act->World->Prop)(h1:c.wp P (λe a w=>e=.normal/\F a0 a w) a0 w0)(h2:∀a w,F a0 a w->Q .normal a w):c.wp P Q a0 w0 :=
 wp_mono h1 λe a w ⟨he,hf⟩=>by subst he;exact h2 a w hf
end
end Go.Proofs.YtdnggaapcgomhaaGreat.aj
namespace Go.Proofs.YtdnggaapcgomhaaGreat
open Go aj
variable {listed l':Array Bool}{w:World}{fuel:Nat}{a a':Act}{v:Value}{oi:Oper}
section
variable {P:Program} {ops:Array Oper} {Q:Exit->Act->World->Prop} {md:Region.Mode} {S:World->Prop} {m:Nat}
theorem aF(i:Nat)(H:bq P md ops Q S m fuel l' a' w)(hi0:ops.toList[i]? = some oi:=by rfl)(ht:bH md ops m=true:=by kernel_rfl)(hs:Region.noSelect ops=true:=by kernel_rfl)
 (hf:Region.free md ops listed i=true:=by kernel_rfl) (hr:(Region.ready md ops listed).contains i=true:=by kernel_rfl) (him:i<m:=by omega) (hS:S w:=by assumption) (hy:Reads P ops S oi v a:=by first|exact .inr ⟨by rfl,rfl⟩|exact .inl ⟨by rfl,by intro w2 hS;obtain⟨hc,hf⟩:=fO hS;go_simp;first|done|with_reducible rfl|exact⟨rfl,rfl⟩⟩)
 (hl:listed.setIfInBounds i true=l':=by first|(simp only[Act.put,List.setIfInBounds_toArray,List.set_cons_zero,List.set_cons_succ];rfl)|(simp only[Act.put,List.setIfInBounds_toArray,List.set_cons_zero,List.set_cons_succ];done)|rfl) (ha:a.put oi.dst v=a':=by first|(simp only[Act.put,List.setIfInBounds_toArray,List.set_cons_zero,List.set_cons_succ];rfl)|(simp only[Act.put,List.setIfInBounds_toArray,List.set_cons_zero,List.set_cons_succ];done)|rfl):bq P md ops Q S m (fuel+1) listed a w:=aN hi0 ht hs hf hr him hS hy (hl▸ha▸H)
theorem aO(i:Nat)(H:bq P md ops Q S m fuel l' a' w)(hi0:ops.toList[i]? = some oi:=by rfl)(ht:bH md ops m=true:=by kernel_rfl)(hs:Region.noSelect ops=true:=by kernel_rfl)
 (hf:Region.free md ops listed i=true:=by kernel_rfl) (hr:(Region.ready md ops listed).contains i=true:=by kernel_rfl) (him:i<m:=by omega) (hS:S w:=by first|assumption|exact hS0) (hy:Reads P ops S oi v a:=by first|exact .inr ⟨by rfl,rfl⟩|exact .inl ⟨by rfl,by intro w2 hS;(repeat (obtain⟨_,hS⟩:_/\_:=hS));go_simp;first|done|with_reducible rfl|exact⟨rfl,rfl⟩⟩)
 (hl:listed.setIfInBounds i true=l':=by first|(simp only[Act.put,List.setIfInBounds_toArray,List.set_cons_zero,List.set_cons_succ];rfl)|(simp only[Act.put,List.setIfInBounds_toArray,List.set_cons_zero,List.set_cons_succ];done)|rfl) (ha:a.put oi.dst v=a':=by first|(simp only[Act.put,List.setIfInBounds_toArray,List.set_cons_zero,List.set_cons_succ];rfl)|(simp only[Act.put,List.setIfInBounds_toArray,List.set_cons_zero,List.set_cons_succ];done)|rfl):bq P md ops Q S m (fuel+1) listed a w:=aN hi0 ht hs hf hr him hS hy (hl▸ha▸H)
theorem yc(i:Nat)(H:bq P md ops Q S m fuel l' a' w)(hi0:ops.toList[i]? = some oi:=by rfl)(ht:bH md ops m=true:=by kernel_rfl)(hs:Region.noSelect ops=true:=by kernel_rfl)
 (hf:Region.free md ops listed i=true:=by kernel_rfl) (hr:(Region.ready md ops listed).contains i=true:=by kernel_rfl) (him:i<m:=by omega) (hS:S w:=by assumption) (hy:Reads P ops S oi v a:=by first|exact .inr ⟨by rfl,rfl⟩|exact .inl ⟨by rfl,by intro w2 hS;have hc:=wC hS;go_simp;first|done|with_reducible rfl|exact⟨rfl,rfl⟩⟩)
 (hl:listed.setIfInBounds i true=l':=by first|(simp only[Act.put,List.setIfInBounds_toArray,List.set_cons_zero,List.set_cons_succ];rfl)|(simp only[Act.put,List.setIfInBounds_toArray,List.set_cons_zero,List.set_cons_succ];done)|rfl) (ha:a.put oi.dst v=a':=by first|(simp only[Act.put,List.setIfInBounds_toArray,List.set_cons_zero,List.set_cons_succ];rfl)|(simp only[Act.put,List.setIfInBounds_toArray,List.set_cons_zero,List.set_cons_succ];done)|rfl):bq P md ops Q S m (fuel+1) listed a w:=aN hi0 ht hs hf hr him hS hy (hl▸ha▸H)
theorem Wh(i:Nat)(H:bq P md ops Q S m fuel l' a' w)(hi0:ops.toList[i]? = some oi:=by rfl)(ht:bH md ops m=true:=by kernel_rfl)(hs:Region.noSelect ops=true:=by kernel_rfl)
 (hf:Region.free md ops listed i=true:=by kernel_rfl) (hr:(Region.ready md ops listed).contains i=true:=by kernel_rfl) (him:i<m:=by omega) (hS:S w:=by assumption) (hy:Reads P ops S oi v a:=by first|exact .inr ⟨by rfl,rfl⟩|exact .inl ⟨by rfl,by intro w2 hS;have hc:=LH hS;go_simp;first|done|with_reducible rfl|exact⟨rfl,rfl⟩⟩)
 (hl:listed.setIfInBounds i true=l':=by first|(simp only[Act.put,List.setIfInBounds_toArray,List.set_cons_zero,List.set_cons_succ];rfl)|(simp only[Act.put,List.setIfInBounds_toArray,List.set_cons_zero,List.set_cons_succ];done)|rfl) (ha:a.put oi.dst v=a':=by first|(simp only[Act.put,List.setIfInBounds_toArray,List.set_cons_zero,List.set_cons_succ];rfl)|(simp only[Act.put,List.setIfInBounds_toArray,List.set_cons_zero,List.set_cons_succ];done)|rfl):bq P md ops Q S m (fuel+1) listed a w:=aN hi0 ht hs hf hr him hS hy (hl▸ha▸H)
theorem fJ(i:Nat)(H:bq P md ops Q S m fuel l' a' w)(hi0:ops.toList[i]? = some oi:=by rfl)(ht:bH md ops m=true:=by kernel_rfl)(hs:Region.noSelect ops=true:=by kernel_rfl)
 (hf:Region.free md ops listed i=true:=by kernel_rfl) (hr:(Region.ready md ops listed).contains i=true:=by kernel_rfl) (him:i<m:=by omega) (hS:S w:=by assumption) (hy:Reads P ops S oi v a:=by first|exact .inr ⟨by rfl,rfl⟩|exact .inl ⟨by rfl,by intro w2 hS;obtain⟨hS,hSs⟩:=hS;(repeat (obtain⟨_,hSs⟩:_/\_:=hSs));(first|have hc:=wC hS|have hc:=LH hS);go_simp;first|done|with_reducible rfl|exact⟨rfl,rfl⟩⟩)
 (hl:listed.setIfInBounds i true=l':=by first|(simp only[Act.put,List.setIfInBounds_toArray,List.set_cons_zero,List.set_cons_succ];rfl)|(simp only[Act.put,List.setIfInBounds_toArray,List.set_cons_zero,List.set_cons_succ];done)|rfl) (ha:a.put oi.dst v=a':=by first|(simp only[Act.put,List.setIfInBounds_toArray,List.set_cons_zero,List.set_cons_succ];rfl)|(simp only[Act.put,List.setIfInBounds_toArray,List.set_cons_zero,List.set_cons_succ];done)|rfl):bq P md ops Q S m (fuel+1) listed a w:=aN hi0 ht hs hf hr him hS hy (hl▸ha▸H)
theorem jh(i:Nat)(hi0:ops.toList[i]? = some oi)(hy:Reads P ops S oi v a)(H:bq P md ops Q S m fuel l' a' w)(ht:bH md ops m=true:=by kernel_rfl)(hs:Region.noSelect ops=true:=by kernel_rfl)
 (hf:Region.free md ops listed i=true:=by kernel_rfl) (hr:(Region.ready md ops listed).contains i=true:=by kernel_rfl) (him:i<m:=by omega) (hS:S w:=by assumption)
 (hl:listed.setIfInBounds i true=l':=by first|(simp only[Act.put,List.setIfInBounds_toArray,List.set_cons_zero,List.set_cons_succ];rfl)|(simp only[Act.put,List.setIfInBounds_toArray,List.set_cons_zero,List.set_cons_succ];done)|rfl) (ha:a.put oi.dst v=a':=by first|(simp only[Act.put,List.setIfInBounds_toArray,List.set_cons_zero,List.set_cons_succ];rfl)|(simp only[Act.put,List.setIfInBounds_toArray,List.set_cons_zero,List.set_cons_succ];done)|rfl):bq P md ops Q S m (fuel+1) listed a w:=aN hi0 ht hs hf hr him hS hy (hl▸ha▸H)
theorem tk1(i:Nat){o:Oper}{listed:Array Bool}{a:Act}(h:Step P (λu w'=>(i<m->S w')/\bq P md ops Q S m fuel (listed.setIfInBounds i true) (a.put o.dst u) w') ((execOp a.eval o).run P w))(hr:Region.ready md ops listed=[i]:=by kernel_rfl)(hi0:ops.toList[i]? = some o:=by rfl)(hw:Region.wanted o (yielded ops a.tmps)=true:=by rfl):bq P md ops Q S m (fuel+1) listed a w:=abk hr hi0 hw h
theorem tk2(i j:Nat){o o2:Oper}{listed:Array Bool}{a:Act}(h:Step P (λu w'=>(i<m->S w')/\bq P md ops Q S m fuel (listed.setIfInBounds i true) (a.put o.dst u) w') ((execOp a.eval o).run P w))
 (h2:Step P (λu w'=>(j<m->S w')/\bq P md ops Q S m fuel (listed.setIfInBounds j true) (a.put o2.dst u) w') ((execOp a.eval o2).run P w)) (hr:Region.ready md ops listed=[i,j]:=by kernel_rfl) (hi0:ops.toList[i]? = some o:=by rfl) (hj0:ops.toList[j]? = some o2:=by rfl) (hw:Region.wanted o (yielded ops a.tmps)=true:=by rfl) (hw2:Region.wanted o2 (yielded ops a.tmps)=true:=by rfl):bq P md ops Q S m (fuel+1) listed a w:=abl hr hi0 hj0 hw hw2 h h2
theorem gZ{listed:Array Bool}{a:Act}(h:Q .normal a w)(hr:Region.ready md ops listed=[]:=by kernel_rfl):bq P md ops Q S m 0 listed a w:=abm hr h
theorem uG{i fuel:Nat}{o:Oper}{r:Result Next}{u:Value}{w':World}(h:bq P md ops Q S m fuel l' a' w')(hr:r=.ok (.value u) w':=by go_simp;first|done|with_reducible rfl|exact⟨rfl,rfl⟩)(hS:i<m->S w')(hl:listed.setIfInBounds i true=l':=by first|(simp only[Act.put,List.setIfInBounds_toArray,List.set_cons_zero,List.set_cons_succ];rfl)|(simp only[Act.put,List.setIfInBounds_toArray,List.set_cons_zero,List.set_cons_succ];done)|rfl)(ha:a.put o.dst u=a':=by first|(simp only[Act.put,List.setIfInBounds_toArray,List.set_cons_zero,List.set_cons_succ];rfl)|(simp only[Act.put,List.setIfInBounds_toArray,List.set_cons_zero,List.set_cons_succ];done)|rfl):Step P (λu w'=>(i<m->S w')/\bq P md ops Q S m fuel (listed.setIfInBounds i true) (a.put o.dst u) w') r:=Step.value hr ⟨hS,hl▸ha▸h⟩
theorem BH{W0:World}{i fuel:Nat}{o:Oper}{r:Result Next}{f:FuncId}{args:Array Value}(hc:Calls P f args w λe w'=>e=.returned v/\RowKit.Below w.heap.size w w')(hx:RowKit.Below W0.heap.size W0 w)(h:∀w',RowKit.Below W0.heap.size W0 w'->bq P md ops Q (λX=>RowKit.Below W0.heap.size W0 X) m fuel l' a' w')(hr:r=.ok (.enter f args) w:=by go_simp;first|done|with_reducible rfl|exact⟨rfl,rfl⟩|rfl)(hl:listed.setIfInBounds i true=l':=by first|(simp only[Act.put,List.setIfInBounds_toArray,List.set_cons_zero,List.set_cons_succ];rfl)|(simp only[Act.put,List.setIfInBounds_toArray,List.set_cons_zero,List.set_cons_succ];done)|rfl)(ha:a.put o.dst v=a':=by first|(simp only[Act.put,List.setIfInBounds_toArray,List.set_cons_zero,List.set_cons_succ];rfl)|(simp only[Act.put,List.setIfInBounds_toArray,List.set_cons_zero,List.set_cons_succ];done)|rfl):Step P (λu w'=>(i<m->(λX=>RowKit.Below W0.heap.size W0 X) w')/\bq P md ops Q (λX=>RowKit.Below W0.heap.size W0 X) m fuel (listed.setIfInBounds i true) (a.put o.dst u) w') r:=Step.call hr hc λ_ w' ⟨he,hb⟩=>⟨v,he,λ_=>hx.trans (hb.mono hx.size),hl▸ha▸h w' (hx.trans (hb.mono hx.size))⟩
theorem iC{id:Nat}{l:List Oper}{a:Act}(m:Nat)(hS:S w.drew)(h:S w.drew->bq P .any l.toArray Q S m l.toArray.size (Array.replicate l.toArray.size false) a w.drew)(hp:P.follows .mixedOrders=true:=by kernel_rfl):(Code.region id l.toArray true).wp P Q a w:=qx m hp hS h
end
end Go.Proofs.YtdnggaapcgomhaaGreat
