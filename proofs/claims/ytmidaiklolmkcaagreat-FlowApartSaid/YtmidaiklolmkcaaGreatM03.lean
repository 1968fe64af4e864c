/- What functions of the program do, in plain numbers, part 3; no conditions. -/
import Derived.Test.YtmidaiklolmkcaaGreatRows
import Derived.Test.YtmidaiklolmkcaaGreatMK
import Derived.Test.YtmidaiklolmkcaaGreatM01
set_option linter.unusedVariables false
set_option linter.unusedSimpArgs false
set_option linter.unusedSectionVars false
set_option maxRecDepth 100000
namespace Go.Proofs.YtmidaiklolmkcaaGreat.Fix
open Go.ChangeShapes Go.WideShapes Go.ChangeAt Go.RowKit
theorem bO{k:IntKind}{a b:Int}(h:a=b):Ending.returned (.int k a)=.returned (.int k b):=by rw[h]
theorem fI(n:Int)(w:World):Calls Tryz.prog 46 #[.int .i64 n] w λe w'=>e=.returned (.int .i64 (Fx.cut n))/\w=w':=by
 go_enter Tryz.func46,Tryz.ntmps46
 go_wp2
 all_goals
  go_ret
  exact⟨bO (by unfold Fx.cut;repeat' split<;>(try split at *)<;>omega),rfl⟩
theorem pO(a b:Int)(w:World):Calls Tryz.prog 125 #[.int .i64 a,.int .i64 b] w λe w'=>e=.returned (.int .i64 (Fx.add a b))/\w=w':=by
 have ha:=Fx.jP a;have ha':=Fx.nK a;have hb:=Fx.jP b;have hb':=Fx.nK b;go_enter Tryz.func125,Tryz.ntmps125
 go_wp2_with (go_at_call 46;refine(fI _ _).mono ?_;rintro e w' ⟨rfl,rfl⟩)
 exact EL
theorem vW(a b:Int)(w:World):Calls Tryz.prog 124 #[.int .i64 a,.int .i64 b] w λe w'=>e=.returned (.int .i64 (Fx.sub a b))/\w=w':=by
 have ha:=Fx.jP a;have ha':=Fx.nK a;have hb:=Fx.jP b;have hb':=Fx.nK b;go_enter Tryz.func124,Tryz.ntmps124
 go_wp2_with (go_at_call 46;refine(fI _ _).mono ?_;rintro e w' ⟨rfl,rfl⟩)
 exact EL
theorem J7(a b:Int)(w:World)(h1:1<=b)(h2:b<=1099511627776)(h3 : -1152921504606846976<=a)(h4:a<=1152921504606846976) :
  Calls Tryz.prog 141 #[.int .i64 a,.int .i64 b] w λe w'=>e=.returned (.int .i64 (a/b))/\w=w':=by
 have g1:=Fx.YO h1 h3;have g2:=Fx.tdiv_le h1 h4;go_enter Tryz.func141,Tryz.ntmps141
 go_wp2
 . have h:a.tmod b<0:=by assumption
   go_ret
   exact⟨bO (Fx.zF h1 h),rfl⟩
 . have h:0<=a.tmod b:=by assumption
   go_ret
   exact⟨bO (Fx.zG h1 h),rfl⟩
theorem Pw(a b:Int)(w:World):Calls Tryz.prog 140 #[.int .i64 a,.int .i64 b] w λe w'=>e=.returned (.int .i64 (Fx.div a b))/\w=w':=by
 have ha:=Fx.jP a;have ha':=Fx.nK a;have hb:=Fx.jP b;by_cases h:b<=0
 . have h0:Fx.cut b<=0:=by unfold Fx.cut;repeat' split<;>omega
   have hr:Fx.div a b=0:=by unfold Fx.div;rw[if_pos h]
   have Hr:=ah hr;clear hr;go_enter Tryz.func140,Tryz.ntmps140
   go_wp2_with (go_at_call 46;refine(fI _ _).mono ?_;rintro e w' ⟨rfl,rfl⟩)
   go_ret
   exact⟨bO Hr.out.symm,rfl⟩
 . have h0:1<=Fx.cut b:=Fx.YL aj
   have hr:Fx.div a b=Fx.cut a/Fx.cut b:=by unfold Fx.div;rw[if_neg h]
   have Hr:=ah hr;clear hr;go_enter Tryz.func140,Tryz.ntmps140
   go_wp2_with (first|(go_at_call 46;refine(fI _ _).mono ?_;rintro e w' ⟨rfl,rfl⟩)|(go_at_call 141;refine(J7 _ _ _ aj aj aj aj).mono ?_;rintro e w' ⟨rfl,rfl⟩))
   go_ret
   exact⟨bO Hr.out.symm,rfl⟩
theorem rV(n lo hi:Int)(w:World):Calls Tryz.prog 110 #[.int .i64 n,.int .i64 lo,.int .i64 hi] w λe w'=>e=.returned (.int .i64 (Fx.clamp n lo hi))/\w=w':=by
 go_enter Tryz.func110,Tryz.ntmps110
 go_wp2_with (go_at_call 46;refine(fI _ _).mono ?_;rintro e w' ⟨rfl,rfl⟩)
 all_goals
  go_ret
  exact⟨bO (by unfold Fx.clamp;repeat' split<;>(try split at *)<;>omega),rfl⟩
theorem Ud(a n:Int)(w:World):Calls Tryz.prog 107 #[.int .i64 a,.int .i64 n] w λe w'=>e=.returned (.int .i64 (Fx.part a n))/\w=w':=by
 have hb:=Fx.Ca a n;obtain⟨hb1,hb2⟩:=hb;have hp:=Fx.JO n;have HP:=ah hp;clear hp;go_enter Tryz.func107,Tryz.ntmps107
 go_wp2_with (first|(go_at_call 110;refine(rV _ _ _ _).mono ?_;rw[HP.out];rintro e w' ⟨rfl,rfl⟩)|(go_at_call 141;refine(J7 _ _ _ aj aj aj aj).mono ?_;rintro e w' ⟨rfl,rfl⟩)|(go_at_call 46;refine(fI _ _).mono ?_;rintro e w' ⟨rfl,rfl⟩))
 exact EL
theorem Q5(a:Int)(w:World)(h1 : -1099511627776<=a)(h2:a<=1099511627776) :
  Calls Tryz.prog 166 #[.int .i64 a] w λe w'=>e=.returned (.int .u64 (Fx.Tw a))/\w=w':=by
 go_enter Tryz.func166,Tryz.ntmps166
 go_wp2
 all_goals
  go_ret
  exact⟨bO (by unfold Fx.Tw;repeat' split<;>omega),rfl⟩
theorem UE(x y:Int)(hx:0<=x)(hy:0<=y)(hy2:y<4294967296):bits .or .u64 (IntKind.u64.wrap (x*4294967296)) y=x%4294967296*4294967296+y:=by
 obtain⟨X,hX⟩:=Int.eq_ofNat_of_zero_le (show 0<=x%4294967296 by omega);obtain⟨Y,rfl⟩:=Int.eq_ofNat_of_zero_le hy;have e:IntKind.u64.wrap (x*4294967296)=((X*4294967296:Nat):Int):=by rw[IntKind.wrap_u64];omega
 rw[e,u64_or_nat _ _ aj aj,Fx.ab5 _ _ aj,hX];omega
theorem Il{k:IntKind}{a b c d:Int}(h:a=c)(h2:b=d):Ending.returned (.tuple #[.int k a,.int k b])=.returned (.tuple #[.int k c,.int k d]):=by rw[h,h2]
theorem J8(a b:Int)(w:World)(h1:0<=a)(h2:a<=1099511627776)(h3:0<=b)(h4:b<=1099511627776) :
  Calls Tryz.prog 165 #[.int .u64 a,.int .u64 b] w λe w'=>e=.returned (.tuple #[.int .u64 (a*b/18446744073709551616),.int .u64 (a*b%18446744073709551616)])/\w=w':=by
 have e:=Fx.halves a b;have b1:=Fx.zH (x:=a/4294967296) (y:=b/4294967296) (c:=256) (d:=256) aj aj aj aj;have b2:=Fx.zH (x:=a/4294967296) (y:=b%4294967296) (c:=256) (d:=4294967295) aj aj aj aj;have b3:=Fx.zH (x:=a%4294967296) (y:=b/4294967296) (c:=4294967295) (d:=256) aj aj aj aj;have b4:=Fx.zH (x:=a%4294967296) (y:=b%4294967296) (c:=4294967295) (d:=4294967295) aj aj aj aj;have E:=ah e;clear e;obtain⟨l1,u1⟩:=b1;obtain⟨l2,u2⟩:=b2;obtain⟨l3,u3⟩:=b3;obtain⟨l4,u4⟩:=b4;go_enter Tryz.func165,Tryz.ntmps165
 go_wp2
 go_ret2
 refine⟨Il ?_ ?_,rfl⟩
 . rw[E.out];omega
 . rw[UE _ _ aj aj aj,E.out];omega
theorem Y'(a b:Int)(w:World):Calls Tryz.prog 159 #[.int .i64 a,.int .i64 b] w λe w'=>e=.returned (.int .i64 (Fx.mul a b))/\w=w':=by
 have ha:=Fx.jP a;have ha':=Fx.nK a;have hb:=Fx.jP b;have hb':=Fx.nK b;obtain⟨s1,s2⟩:=Fx.Ug a;obtain⟨s3,s4⟩:=Fx.Ug b;have hp:=Int.mul_nonneg s1 s3;have hm:=Fx.YP a b;have HM:=ah hm;clear hm;go_enter Tryz.func159,Tryz.ntmps159
 go_wp2_with (first|(go_at_call 46;refine(fI _ _).mono ?_;rintro e w' ⟨rfl,rfl⟩)|(go_at_call 166;refine(Q5 _ _ aj aj).mono ?_;rintro e w' ⟨rfl,rfl⟩)|(go_at_call 165;refine(J8 _ _ _ aj aj aj aj).mono ?_;rintro e w' ⟨rfl,rfl⟩))
 all_goals
  go_ret
  refine⟨bO ?_,rfl⟩;rw[HM.out]
  first
   | rw[show(!(decide (Fx.cut a<0)==decide (Fx.cut b<0)))=true from by assumption,cond_true]
   | rw[show(!(decide (Fx.cut a<0)==decide (Fx.cut b<0)))=false from by assumption,cond_false]
  unfold Fx.cut at *;generalize Fx.Tw _*Fx.Tw _=p at *
  repeat' split<;>omega
end Go.Proofs.YtmidaiklolmkcaaGreat.Fix
namespace Go.Proofs.YtmidaiklolmkcaaGreat.Fix
open Go.RowKit
theorem kY{W w1:World}(hb:Below W.heap.size W w1):(∀b o,b<W.heap.size->w1.cell? ⟨b,o,none⟩=W.cell? ⟨b,o,none⟩)/\(∀b o,b<W.heap.size->w1.frozen? ⟨b,o,none⟩=W.frozen? ⟨b,o,none⟩) :=
 ⟨λb o h=>hb.cell (p:=⟨b,o,none⟩) h,λb o h=>hb.frozen (p:=⟨b,o,none⟩) h⟩
theorem Below.alloc'{w a:World}(h:Below w.heap.size w a)(o:Obj):Below w.heap.size w (a.alloc o):=h.alloc h.size o
theorem Below.ay{N:Nat}{W0 W w1:World}(h0:Below N W0 W)(hN:N<=W0.heap.size)(hb:Below W.heap.size W w1):Below N W0 w1:=h0.trans (hb.mono (aJ hN h0.size))
theorem Below.drewN{N:Nat}{w a:World}(h:Below N w a)(n:Nat):Below N w (a.drewN n):=⟨h.os,h.tape,h.output,h.size,h.block⟩
theorem Below.after{W0 W w1:World}(h0:Below W0.heap.size W0 W)(hb:Below W.heap.size W w1):Below W0.heap.size W0 w1:=h0.trans (hb.mono h0.size)
theorem fT{a b:Bool}(h:a=b):Ending.returned (.bool a)=.returned (.bool b):=by rw[h]
def At(W:World)(b:Nat)(o:Obj):Prop:=W.heap[b]? = some o
theorem At.lt{W:World}{b:Nat}{o:Obj}(h:At W b o):b<W.heap.size:=(Array.getElem?_eq_some_iff.1 h).1
theorem At.new(W:World)(o:Obj):At (W.alloc o) W.heap.size o:=by
 show(W.heap.push o)[W.heap.size]? = some o;simp
theorem At.new'{W:World}{b:Nat}(o:Obj)(h:b=W.heap.size):At (W.alloc o) b o:=h▸At.new W o
theorem At.alloc{W:World}{b:Nat}{o:Obj}(h:At W b o)(o':Obj):At (W.alloc o') b o:=by
 show(W.alloc o').heap[b]? = some o;rw[Below.heap_alloc W o' b h.lt];exact h
theorem At.keep{W W':World}{b:Nat}{o:Obj}(h:At W b o)(hb:Below W.heap.size W W'):At W' b o:=(hb.block b h.lt).trans h
theorem At.cell{W:World}{b:Nat}{vs:Array Value}{T:TypeId}(h:At W b (.cells vs T))(i:Nat):W.cell? ⟨b,i,none⟩=vs[i]? := by
 unfold At at h;simp[World.cell?,h]
theorem At.thaw{W:World}{b:Nat}{vs:Array Value}{T:TypeId}(h:At W b (.cells vs T))(i:Nat):W.frozen? ⟨b,i,none⟩=false:=by
 unfold At at h;simp[World.frozen?,h]
theorem At.off{W:World}{b n:Nat}{o:Obj}(h:At W b o)(hne:b≠n)(i:Nat)(x:Value):At (W.setCell ⟨n,i,none⟩ x) b o:=by
 have e:(W.setCell ⟨n,i,none⟩ x).heap[b]? = W.heap[b]? := Below.heap_setCell W ⟨n,i,none⟩ x b hne;exact e.trans h
theorem At.set{W:World}{b:Nat}{vs:Array Value}{T:TypeId}(h:At W b (.cells vs T))(i:Nat)(x:Value):At (W.setCell ⟨b,i,none⟩ x) b (.cells (vs.setIfInBounds i x) T):=by
 unfold At at *;obtain⟨hlt,he⟩:=Array.getElem?_eq_some_iff.1 h;simp[World.setCell,hlt,Array.getElem_modify,he]
theorem At.Ua{W:World}{b:Nat}{x y z u:Value}{T:TypeId}(h:At W b (.cells #[x,y,z,u] T))(x' y' z' u':Value) :
 At ((((W.setCell ⟨b,0,none⟩ x').setCell ⟨b,1,none⟩ y').setCell ⟨b,2,none⟩ z').setCell ⟨b,3,none⟩ u') b (.cells #[x',y',z',u'] T):=(((h.set 0 x').set 1 y').set 2 z').set 3 u'
theorem At.QI{W:World}{b:Nat}{x y:Value}{T:TypeId}(h:At W b (.cells #[x,y] T))(x' y':Value) :
 At ((W.setCell ⟨b,0,none⟩ x').setCell ⟨b,1,none⟩ y') b (.cells #[x',y'] T):=(h.set 0 x').set 1 y'
theorem At.one{W:World}{b:Nat}{x:Value}{T:TypeId}(h:At W b (.cells #[x] T)):b<W.heap.size/\W.cell? ⟨b,0,none⟩=some x:=⟨h.lt,h.cell 0⟩
theorem At.two{W:World}{b:Nat}{x y:Value}{T:TypeId}(h:At W b (.cells #[x,y] T)):b<W.heap.size/\W.cell? ⟨b,0,none⟩=some x/\W.cell? ⟨b,1,none⟩=some y:=⟨h.lt,h.cell 0,h.cell 1⟩
theorem At.three{W:World}{b:Nat}{x y z:Value}{T:TypeId}(h:At W b (.cells #[x,y,z] T)):b<W.heap.size/\W.cell? ⟨b,0,none⟩=some x/\W.cell? ⟨b,1,none⟩=some y/\W.cell? ⟨b,2,none⟩=some z:=⟨h.lt,h.cell 0,h.cell 1,h.cell 2⟩
theorem At.four{W:World}{b:Nat}{x y z u:Value}{T:TypeId}(h:At W b (.cells #[x,y,z,u] T)):b<W.heap.size/\W.cell? ⟨b,0,none⟩=some x/\W.cell? ⟨b,1,none⟩=some y/\W.cell? ⟨b,2,none⟩=some z/\W.cell? ⟨b,3,none⟩=some u:=⟨h.lt,h.cell 0,h.cell 1,h.cell 2,h.cell 3⟩
theorem At.eight{W:World}{b:Nat}{x y z u x' y' z' u':Value}{T:TypeId}(h:At W b (.cells #[x,y,z,u,x',y',z',u'] T)):b<W.heap.size/\W.cell? ⟨b,0,none⟩=some x/\W.cell? ⟨b,1,none⟩=some y/\W.cell? ⟨b,2,none⟩=some z/\W.cell? ⟨b,3,none⟩=some u/\W.cell? ⟨b,4,none⟩=some x'/\W.cell? ⟨b,5,none⟩=some y'/\W.cell? ⟨b,6,none⟩=some z'/\W.cell? ⟨b,7,none⟩=some u':=⟨h.lt,h.cell 0,h.cell 1,h.cell 2,h.cell 3,h.cell 4,h.cell 5,h.cell 6,h.cell 7⟩
end Go.Proofs.YtmidaiklolmkcaaGreat.Fix
namespace Go.Proofs.YtmidaiklolmkcaaGreat.ak
open Go
section
variable {P:Program} {ops:Array Oper} {Q:Exit->Act->World->Prop} {md:Region.Mode} {S:World->Prop}
def Ends(P:Program)(S:World->Prop)(v:Value):Result Next->Prop
 | .ok (.value u) w'=>u=v/\S w'
 | .ok (.enter f args) w'=>Calls P f args w' λe w''=>e=.returned v/\S w''
 | _=>False
def Yf(P:Program)(ops:Array Oper)(S:World->Prop)(o:Oper)(v:Value)(a:Act):Prop :=
 (Region.wanted o (yielded ops a.tmps)=true/\∀w,S w->Ends P S v ((execOp a.eval o).run P w)) \/
 (Region.wanted o (yielded ops a.tmps)=false/\v=undef)
theorem Yf.of_same{o:Oper}{v:Value}{a a':Act}(hy:Yf P ops S o v a)(he:execOp a'.eval o=execOp a.eval o)
  (hw:Region.wanted o (yielded ops a'.tmps)=Region.wanted o (yielded ops a.tmps)):Yf P ops S o v a':=by
 unfold Yf at *;rw[he,hw];exact hy
theorem Yf.wpOp{i:Nat}{o:Oper}{v:Value}{a:Act}(hi:ops[i]? = some o)(hy:Yf P ops S o v a)
  {K:Act->World->Prop} {w:World} (hS:S w) (h:∀w',S w'->K (a.put o.dst v) w'):wpOp P ops Q i K a w:=by
 unfold Go.wpOp;simp only[hi];rcases hy with⟨hw,hv⟩|⟨hw,rfl⟩
 . simp only[hw,if_true]
   refine .inl ?_;unfold Oper.wp;have h1:=hv w hS;generalize (execOp a.eval o).run P w=r at *;cases r with
   | ok n w' =>
     cases n<;>simp only[Ends]at h1<;>simp only[Oper.upon]
     case value u=>obtain⟨rfl,hs⟩:=h1;exact h _ hs
     case enter f args=>exact Calls.mono h1 λe w'' ⟨he,hs⟩=>by subst he;exact h _ hs
   | halt x w'=>exact h1.elim
 . simp only[hw,Bool.false_eq_true,if_false];exact h _ hS
def lI(P:Program)(md:Region.Mode)(ops:Array Oper)(S:World->Prop)(m:Nat)(B:Array Bool->Act->Prop):Nat->Array Bool->Act->Prop
 | 0,listed,a=>(∀k,k<m->listed.getD k true=true)/\B listed a
 | fuel+1,listed,a =>
   Region.ready md ops listed≠[] /\
   ∀i∈Region.ready md ops listed,∃o v,ops[i]? = some o/\Yf P ops S o v a/\lI P md ops S m B fuel (listed.setIfInBounds i true) (a.put o.dst v)
theorem lI.any{m tf:Nat}:∀(fuel:Nat) (listed:Array Bool) (a:Act),lI P md ops S m (λlisted a=>∀w,S w->wpAny P md ops Q tf listed a w) fuel listed a->∀w,S w->wpAny P md ops Q (tf+fuel) listed a w
 | 0,_,_,h=>h.2
 | fuel+1,_,_,h=>λw hS=>⟨λhr=>absurd hr h.1,λi hi=>by
  obtain⟨o,v,ho,hd,hn⟩:=h.2 i hi
  exact hd.wpOp ho hS λw' hS'=>lI.any fuel _ _ hn w' hS'⟩
def bZ(md:Region.Mode)(ops:Array Oper)(m:Nat):Bool :=
 (List.range ops.size).all λj=>decide (j<m)||(List.range m).all λk=>match ops[j]? with
  | some o=>o.after.any λe=>Region.binds md e&&e.on==k
  | none=>true
theorem uX{m:Nat}(h:bZ md ops m=true){j k:Nat}{o:Oper}(ho:ops[j]? = some o)(hj:m<=j)(hk:k<m):∃e∈o.after,Region.binds md e=true/\e.on=k:=by
 unfold bZ at h;rw[List.all_eq_true]at h;have h1:=h j (List.mem_range.2 (Array.getElem?_eq_some_iff.1 ho).1);have hd:decide (j<m)=false:=by simpa using hj
 rw[hd,Bool.false_or,List.all_eq_true]at h1;have h2:=h1 k (List.mem_range.2 hk);simp only[ho]at h2;obtain⟨e,he,hb⟩:=Array.any_eq_true'.1 h2;simp only[Bool.and_eq_true,beq_iff_eq]at hb;exact⟨e,he,hb.1,hb.2⟩
theorem qj{i:Nat}{listed:Array Bool}(h0:listed.getD i true=false)(h1:listed.getD i false=true):False:=by
 rcases Nat.lt_or_ge i listed.size with h'|h'
 . simp[h']at h0 h1;rw[h0]at h1;cases h1
 . simp[Array.getElem?_eq_none h']at h1
def Clear(md:Region.Mode)(ops:Array Oper)(listed:Array Bool)(i:Nat)(oi:Oper):Prop :=
 ∀j oj,ops[j]? = some oj->j≠i->listed.getD j true=false->(∃e∈oj.after,Region.binds md e=true/\e.on=i)\/oi.apart ops oj=true
theorem Clear.set{listed:Array Bool}{i:Nat}{oi:Oper}(h:Clear md ops listed i oi)(j:Nat):Clear md ops (listed.setIfInBounds j true) i oi:=λk ok hk hki hun =>
 h k ok hk hki (by
  by_cases hjk:j=k
  . subst hjk
    rcases Nat.lt_or_ge j listed.size with h'|h'
    . simp[h']at hun
    . simp at hun
  . rwa [getD_set_ne true hjk]at hun)
theorem ow{i j:Nat}{listed:Array Bool}{oj:Oper}(hi:i∈Region.ready md ops listed)(hj:j∈Region.ready md ops listed)(ho:ops[j]? = some oj)(h:∃e∈oj.after,Region.binds md e=true/\e.on=i):False:=by
 obtain⟨e,he,hb,rfl⟩:=h;obtain⟨_,o,ho',hall⟩:=mem_ready.1 hj;obtain rfl:oj=o:=Option.some.inj (ho.symm.trans ho');exact qj (mem_ready.1 hi).1 (hall e he hb)
theorem Gm{m:Nat}{B:Array Bool->Act->Prop}(ht:bZ md ops m=true){i:Nat}{oi:Oper}{v:Value}(him:i<m)(hi:ops[i]? = some oi)(hsel:∀(j:Nat) (o:Oper) cs b,ops[j]? = some o->o.op ≠ .select cs b)
  (fuel:Nat) (listed:Array Bool) (a:Act) (hc:Clear md ops listed i oi) (hr:i∈Region.ready md ops listed) (hy:Yf P ops S oi v a)
  (H:lI P md ops S m B fuel (listed.setIfInBounds i true) (a.put oi.dst v)):lI P md ops S m B (fuel+1) listed a:=by
 induction fuel generalizing listed a with
 | zero =>
   refine⟨List.ne_nil_of_mem hr,λj hj => ?_⟩;rcases Nat.decEq j i with hji|rfl
   . exfalso
     obtain⟨hun,oj,ho,_⟩:=mem_ready.1 hj;by_cases hjm:j<m
     . have:=H.1 j hjm
       rw[getD_set_ne true (Ne.symm hji),hun]at this;cases this
     . exact ow hr hj ho (uX ht ho aj him)
   . exact⟨oi,v,hi,hy,H⟩
 | succ fuel ih =>
   refine⟨List.ne_nil_of_mem hr,λj hj => ?_⟩;rcases Nat.decEq j i with hji|rfl
   . obtain⟨oj,u,ho,hyj,hn⟩:=H.2 j (ready_mono hj hji)
     obtain⟨a1,a2,a3⟩:=Oper.apart_spec ((hc j oj ho hji (mem_ready.1 hj).1).resolve_left (ow hr hj ho));refine⟨oj,u,ho,hyj.of_same (execOp_put oj (λcs b=>hsel j oj cs b ho) a oi.dst v a1).symm (wanted_put oj a oi.dst v a1).symm,ih _ _ (hc.set j) (ready_mono hr (Ne.symm hji)) ?_ ?_⟩
     . exact Z20
     . exact Z3a
   . exact⟨oi,v,hi,hy,H⟩
def nL(P:Program)(ops:Array Oper)(Q:Exit->Act->World->Prop):List Oper->Act->World->Prop
 | [],a,w=>Q .normal a w
 | o::os,a,w=>if Region.wanted o (yielded ops a.tmps)=true then o.wp P a w (nL P ops Q os) Q else nL P ops Q os (a.put o.dst undef) w
def forced(md:Region.Mode)(ops:Array Oper):Nat->Nat->Array Bool->Bool
 | 0,_,listed=>(Region.ready md ops listed).isEmpty
 | t+1,i,listed=>(Region.ready md ops listed==[i])&&forced md ops t (i+1) (listed.setIfInBounds i true)
def lG(md:Region.Mode)(ops:Array Oper)(t:Nat):Nat->Nat->Array Bool->Bool
 | 0,i,listed=>forced md ops t i listed
 | k+1,i,listed=>Region.free md ops listed i&&(Region.ready md ops listed).contains i&&lG md ops t k (i+1) (listed.setIfInBounds i true)
def dY(P:Program)(ops:Array Oper)(Q:Exit->Act->World->Prop)(S:World->Prop):Nat->List Oper->Act->Prop
 | 0,os,a=>∀w,S w->nL P ops Q os a w
 | _+1,[],_=>False
 | k+1,o::os,a=>∃v,Yf P ops S o v a/\dY P ops Q S k os (a.put o.dst v)
theorem drop_cons{i:Nat}{o:Oper}{os:List Oper}(hd:ops.toList.drop i=o::os):ops[i]? = some o/\ops.toList.drop (i+1)=os:=by
 have hlt:i<ops.toList.length:=by
  rcases Nat.lt_or_ge i ops.toList.length with h'|h'
  . exact h'
  . rw[List.drop_eq_nil_of_le h']at hd;cases hd
 rw[List.drop_eq_getElem_cons hlt]at hd;refine⟨?_,(List.cons.inj hd).2⟩;have:=(List.cons.inj hd).1;rw[<-this];simp at hlt ⊢
theorem oI{i:Nat}{oi:Oper}{listed:Array Bool}(hi:ops[i]? = some oi)(h:Region.free md ops listed i=true):Clear md ops listed i oi:=λj oj ho hji hun=>by
 by_cases hw:∃e∈oj.after,Region.binds md e=true/\e.on=i
 . exact .inl hw
 . exact .inr (Region.free_spec hi h j oj ho hji hun λe he hb hon=>hw ⟨e,he,hb,hon⟩)
theorem uU:∀(os:List Oper) (i:Nat) (listed:Array Bool) (a:Act) (w:World),ops.toList.drop i=os->forced md ops os.length i listed=true ->
  nL P ops Q os a w->wpAny P md ops Q os.length listed a w
 | [],i,listed,a,w,_,hk,h=>by
  simp only[List.length_nil,forced,List.isEmpty_iff]at hk;exact⟨hk,h⟩
 | o::os,i,listed,a,w,hd,hk,h=>by
  simp only[List.length_cons,forced,Bool.and_eq_true,beq_iff_eq]at hk;obtain⟨hr,hk⟩:=hk;obtain⟨ho,hd'⟩:=drop_cons hd;refine⟨λh0=>(by rw[hr]at h0;cases h0),λj hj => ?_⟩;rw[hr]at hj;obtain rfl:j=i:=by simpa using hj
  unfold wpOp;simp only[ho];unfold nL at h;by_cases hw:Region.wanted o (yielded ops a.tmps)=true
  . rw[if_pos hw]at h
    simp only[hw,if_true];exact .inl (Oper.wp_mono (λa' w' h'=>uU os (j+1) _ a' w' hd' hk h') h)
  . rw[if_neg hw]at h
    simp only[hw,Bool.false_eq_true,if_false];exact uU os (j+1) _ _ _ hd' hk h
theorem Io{m t:Nat}(hs:Region.noSelect ops=true)(ht:bZ md ops m=true)(hm:ops.toList.length=m+t):∀(k:Nat) (os:List Oper) (i:Nat) (listed:Array Bool) (a:Act),ops.toList.drop i=os->i+k=m ->
  (∀q,q<i->listed.getD q true=true)->lG md ops t k i listed=true ->
  dY P ops Q S k os a->lI P md ops S m (λlisted a=>∀w,S w->wpAny P md ops Q t listed a w) k listed a
 | 0,os,i,listed,a,hd,hi,hl,hk,h=>by
  exact Z2t
 | k+1,[],i,listed,a,_,_,_,_,h=>h.elim
 | k+1,o::os,i,listed,a,hd,hi,hl,hk,⟨v,hy,hn⟩=>by
  simp only[lG,Bool.and_eq_true]at hk;obtain⟨⟨hf,hr⟩,hk⟩:=hk;obtain⟨ho,hd'⟩:=drop_cons hd;refine Gm ht aj ho (Region.noSelect_spec hs) k listed a (oI ho hf) (by simpa using hr) hy ?_;refine Io hs ht hm k os (i+1) _ _ hd' aj ?_ hk hn;exact Z27
theorem uY{id:Nat}{l:List Oper}{a:Act}{w:World}(m t:Nat)(S:World->Prop)(hp:P.follows .mixedOrders=true)(hs:Region.noSelect l.toArray=true)
  (hl:l.length=m+t) (ht:bZ .any l.toArray m=true) (hk:lG .any l.toArray t m 0 (Array.replicate l.length false)=true) (hS:S w.drew) (h:dY P l.toArray Q S m l a):(Code.region id l.toArray true).wp P Q a w :=
 wp_region_any hp (by
  have h1:=lI.any (Q:=Q) (tf:=t) m (Array.replicate l.length false) a (Io (md:=.any) (Q:=Q) (m:=m) (t:=t) hs ht (by simpa using hl) m l 0 (Array.replicate l.length false) a eZ aj (λq hq=>by omega) hk h) _ hS;have e:l.toArray.size=t+m:=by simp;omega
  rw[e];have e2:Array.replicate (t+m) false=Array.replicate l.length false:=by rw[hl,Nat.add_comm]
  rw[e2];exact h1)
theorem Di{id:Nat}{l:List Oper}{a:Act}{W0 w:World}(h0:RowKit.Below W0.heap.size W0 w)(hp:P.follows .mixedOrders=true)(hs:Region.noSelect l.toArray=true)
  (hk:lG .any l.toArray 0 l.length 0 (Array.replicate l.length false)=true) (h:dY P l.toArray Q (λw'=>RowKit.Below W0.heap.size W0 w') l.length l a):(Code.region id l.toArray true).wp P Q a w :=
 uY l.length 0 _ hp hs eZ (by
  unfold bZ;rw[List.all_eq_true];intro j hj;have:j<l.length:=by simpa using hj
  simp[this]) hk h0.drew h
theorem Dj{id:Nat}{l:List Oper}{a:Act}{W0 w:World}(m t:Nat)(h0:RowKit.Below W0.heap.size W0 w)(hp:P.follows .mixedOrders=true)(hs:Region.noSelect l.toArray=true)
  (hl:l.length=m+t) (ht:bZ .any l.toArray m=true) (hk:lG .any l.toArray t m 0 (Array.replicate l.length false)=true) (h:dY P l.toArray Q (λw'=>RowKit.Below W0.heap.size W0 w') m l a):(Code.region id l.toArray true).wp P Q a w :=
 uY m t _ hp hs hl ht hk h0.drew h
theorem UF{k:Nat}{o:Oper}{os:List Oper}{a:Act}(hw:Region.wanted o (yielded ops a.tmps)=false)(h:dY P ops Q S k os (a.put o.dst undef)):dY P ops Q S (k+1) (o::os) a :=
 ⟨undef,.inr ⟨hw,rfl⟩,h⟩
theorem jc{k:Nat}{o:Oper}{os:List Oper}{a:Act}{v:Value}(hw:Region.wanted o (yielded ops a.tmps)=true)(hv:∀w,S w->(execOp a.eval o).run P w=.ok (.value v) w)
  (h:dY P ops Q S k os (a.put o.dst v)):dY P ops Q S (k+1) (o::os) a :=
 ⟨v,.inl ⟨hw,λw hS=>by rw[hv w hS];exact⟨rfl,hS⟩⟩,h⟩
theorem Dk{k:Nat}{o:Oper}{os:List Oper}{a:Act}{v:Value}{f:FuncId}{args:Array Value}(hw:Region.wanted o (yielded ops a.tmps)=true)
  (hv:∀w,S w->(execOp a.eval o).run P w=.ok (.enter f args) w) (hc:∀w,S w->Calls P f args w λe w''=>e=.returned v/\S w'')
  (h:dY P ops Q S k os (a.put o.dst v)):dY P ops Q S (k+1) (o::os) a :=
 ⟨v,.inl ⟨hw,λw hS=>by rw[hv w hS];exact hc w hS⟩,h⟩
theorem cK{a:Act}(h:∀w,S w->Q .normal a w):dY P ops Q S 0 [] a:=h
theorem dN{a:Act}{os:List Oper}(h:∀w,S w->nL P ops Q os a w):dY P ops Q S 0 os a:=h
theorem oz{o:Oper}{os:List Oper}{a:Act}{w:World}(hw:Region.wanted o (yielded ops a.tmps)=true)(h:∀K:Act->World->Prop,(∀a w,nL P ops Q os a w->K a w)->o.wp P a w K Q):nL P ops Q (o::os) a w:=by
 unfold nL;rw[if_pos hw];exact h _ λ_ _ h=>h
theorem bV{a:Act}{w:World}(h:Q .normal a w):nL P ops Q [] a w:=h
end
end Go.Proofs.YtmidaiklolmkcaaGreat.ak
namespace Go.Proofs.YtmidaiklolmkcaaGreat
open Go ak
section
variable {P:Program} {ops:Array Oper} {Q:Exit->Act->World->Prop} {md:Region.Mode} {S:World->Prop}
theorem dV{P:Prop}(h:P:=by go_simp;first|done|with_reducible rfl|exact⟨rfl,rfl⟩):P:=h
theorem bL(a:Act)(d:Option Tmp)(v:Value):a.put d v=match d with|some d=>{ a with tmps:=a.tmps.setIfInBounds d v }|none=>a:=rfl
theorem bM{α:Type}(l:List α)(i:Nat)(x:α):l.toArray.setIfInBounds i x=(l.set i x).toArray:=List.setIfInBounds_toArray ..
theorem bN{α:Type}(x:α)(l:List α)(y:α):(x::l).set 0 y=y::l:=rfl
theorem tks{α:Type}(x:α)(l:List α)(i:Nat)(y:α):(x::l).set (i+1) y=x::l.set i y:=rfl
theorem nW{k:Nat}{o:Oper}{os:List Oper}{a a':Act}(h:dY P ops Q S k os a')(hw:Region.wanted o (yielded ops a.tmps)=false:=by rfl)(ha:a.put o.dst undef=a':=by first|(simp only[Act.put,List.setIfInBounds_toArray,List.set_cons_zero,List.set_cons_succ];rfl)|(simp only[Act.put,List.setIfInBounds_toArray,List.set_cons_zero,List.set_cons_succ];done)|rfl):dY P ops Q S (k+1) (o::os) a:=UF hw (ha▸h)
theorem nY{k:Nat}{o:Oper}{os:List Oper}{a a':Act}{v:Value}(h:dY P ops Q S k os a')(hw:Region.wanted o (yielded ops a.tmps)=true:=by rfl)
 (hv:∀w,S w->(execOp a.eval o).run P w=.ok (.value v) w:=by intro w2 hS;obtain⟨hc,hf⟩:=kY hS;go_simp;first|done|with_reducible rfl|exact⟨rfl,rfl⟩) (ha:a.put o.dst v=a':=by first|(simp only[Act.put,List.setIfInBounds_toArray,List.set_cons_zero,List.set_cons_succ];rfl)|(simp only[Act.put,List.setIfInBounds_toArray,List.set_cons_zero,List.set_cons_succ];done)|rfl):dY P ops Q S (k+1) (o::os) a:=jc hw hv (ha▸h)
theorem nX{k:Nat}{d g x y t p af gd}{os:List Oper}{a a':Act}{v:Value}{f:FuncId}{args:Array Value}(h:dY P ops Q S k os a')(hw:Region.wanted ⟨d,.call ⟨.value g,x,y⟩,t,p,af,gd⟩ (yielded ops a.tmps)=true:=by rfl)
 (hv:∀w,S w->(execOp a.eval ⟨d,.call ⟨.value g,x,y⟩,t,p,af,gd⟩).run P w=.ok (.enter f args) w:=by intro w2 hS;go_simp;first|done|with_reducible rfl|exact⟨rfl,rfl⟩) (hc:∀w,S w->Calls P f args w λe w''=>e=.returned v/\S w'') (ha:a.put d v=a':=by first|(simp only[Act.put,List.setIfInBounds_toArray,List.set_cons_zero,List.set_cons_succ];rfl)|(simp only[Act.put,List.setIfInBounds_toArray,List.set_cons_zero,List.set_cons_succ];done)|rfl):dY P ops Q S (k+1) (⟨d,.call ⟨.value g,x,y⟩,t,p,af,gd⟩::os) a:=Dk hw hv hc (ha▸h)
theorem xW{id:Nat}{l:List Oper}{a:Act}{W0 w:World}(h:dY P l.toArray Q (λw'=>RowKit.Below W0.heap.size W0 w') l.length l a)(h0:RowKit.Below W0.heap.size W0 w:=by exact RowKit.Below.refl _ _)(hp:P.follows .mixedOrders=true:=by kernel_rfl)(hs:Region.noSelect l.toArray=true:=by kernel_rfl)
 (hk:lG .any l.toArray 0 l.length 0 (Array.replicate l.length false)=true:=by kernel_rfl):(Code.region id l.toArray true).wp P Q a w:=Di h0 hp hs hk h
theorem Q6{id:Nat}{l:List Oper}{a:Act}{W0 w:World}(m t:Nat)(h:dY P l.toArray Q (λw'=>RowKit.Below W0.heap.size W0 w') m l a)(h0:RowKit.Below W0.heap.size W0 w:=by exact RowKit.Below.refl _ _)(hp:P.follows .mixedOrders=true:=by kernel_rfl)(hs:Region.noSelect l.toArray=true:=by kernel_rfl)
 (hl:l.length=m+t:=by rfl) (ht:bZ .any l.toArray m=true:=by kernel_rfl) (hk:lG .any l.toArray t m 0 (Array.replicate l.length false)=true:=by kernel_rfl):(Code.region id l.toArray true).wp P Q a w:=Dj m t h0 hp hs hl ht hk h
theorem x9{o:Oper}{os:List Oper}{a:Act}{w:World}(h:∀K:Act->World->Prop,(∀a w,nL P ops Q os a w->K a w)->o.wp P a w K Q)(hw:Region.wanted o (yielded ops a.tmps)=true:=by rfl):nL P ops Q (o::os) a w:=oz hw h
theorem nR{F:FuncId}{A:Array Value}{v:Value}{W0 w:World}(hS:RowKit.Below W0.heap.size W0 w)(h:Calls P F A w λe w'=>e=.returned v/\RowKit.Below w.heap.size w w'):Calls P F A w λe w'=>e=.returned v/\RowKit.Below W0.heap.size W0 w':=h.mono λ_ _ h=>⟨h.1,hS.trans (h.2.mono hS.size)⟩
theorem J9{F:FuncId}{A:Array Value}{v:Value}{w:World}(hS:S w)(h:Calls P F A w λe w'=>e=.returned v/\w=w'):Calls P F A w λe w'=>e=.returned v/\S w':=h.mono λ_ _ h=>⟨h.1,h.2▸hS⟩
theorem wR{F:FuncId}{A:Array Value}{v:Value}{w:World}{R:Ending->World->Prop}(h:Calls P F A w λe w'=>e=.returned v/\w=w')(k:R (.returned v) w):Calls P F A w R:=h.mono λ_ _ ⟨e1,e2⟩=>by subst e1 e2;exact k
end
end Go.Proofs.YtmidaiklolmkcaaGreat
namespace Go.Proofs.YtmidaiklolmkcaaGreat.Fix
open Go.ChangeShapes Go.WideShapes Go.ChangeAt Go.RowKit
theorem rJ(k n base:Int)(w:World):Calls Tryz.prog 106 #[.agg #[.int .i64 k,.int .i64 n],.int .i64 base] w λe w'=>e=.returned (.bool (Fx.jg k base))/\Below w.heap.size w w':=by
 go_enter Tryz.func106,Tryz.ntmps106
 go_wp2
 all_goals go_ret
 all_goals
  refine⟨fT (by unfold Fx.jg;simp[*]),?_⟩;exact Z5
theorem nI(k n base none:Int)(w:World):Calls Tryz.prog 76 #[.agg #[.int .i64 k,.int .i64 n],.int .i64 base,.int .i64 none] w λe w'=>e=.returned (.int .i64 (Fx.len k n base none))/\Below w.heap.size w w':=by
 cases hF:Fx.jg k base with
 | false =>
   have Hr:=ah (Fx.yu (n:=n) (none:=none) hF);go_enter Tryz.func76,Tryz.ntmps76
   go_wp2_with (first|(go_at_call 46;with_reducible refine wR (fI _ _) ?_)|(go_at_call 106;(with_reducible refine(rJ _ _ _ _).mono ?_);rintro e w' ⟨rfl,hb⟩;(try replace hb:=Below.after (by assumption) hb);obtain⟨hc,hf⟩:=kY hb;have hz:=hb.size;(try simp at hz)))
   all_goals go_ret
   all_goals
    refine⟨bO Hr.out.symm,?_⟩;exact Z5
 | true =>
   have h:=Fx.JQ.1 hF;by_cases h1:k=1
   . clear h
     subst h1;have Hr:=ah (Fx.Na (k:=1) (n:=n) (base:=base) (none:=none) rfl);exact Z1v
   . obtain⟨h2,h3⟩:k=2/\0<=base:=by omega
     clear h;subst h2;have Hr:=ah (Fx.YQ (k:=2) (n:=n) (none:=none) rfl h3);exact Z1v
theorem Q7(k n:Int)(w:World):Calls Tryz.prog 148 #[.agg #[.int .i64 k,.int .i64 n]] w λe w'=>e=.returned (.bool (Fx.valid k n))/\Below w.heap.size w w':=by
 by_cases h0:k=0
 . subst h0
   go_enter Tryz.func148,Tryz.ntmps148
   go_wp2
   go_ret
   refine⟨fT (by unfold Fx.valid;rw[if_pos rfl];rfl),?_⟩;exact Z5
 . by_cases h1:k=1
   . subst h1
     go_enter Tryz.func148,Tryz.ntmps148
     go_wp2;refine xW ?_ (h0:=by first|assumption|exact Below.refl _ _)
     (repeat (first|refine nW ?_ | refine nX ?_ (hc:=by intro w2 hS;first|with_reducible exact J9 hS (fI _ _))|refine nY ?_))
     refine ak.cK ?_;intro w2 hS;go_wp2
     go_ret
     refine⟨fT (by unfold Fx.valid;rw[if_neg aj,if_pos rfl];rfl),?_⟩;exact Z5
   . by_cases h2:k=2
     . subst h2
       go_enter Tryz.func148,Tryz.ntmps148
       exact Z3v
     . have g0:(k==0)=false:=by simp[h0]
       have g1:(k==1)=false:=by simp[h1]
       have g2:(k==2)=false:=by simp[h2]
       go_enter Tryz.func148,Tryz.ntmps148
       go_wp2
       go_ret
       refine⟨fT (by unfold Fx.valid;rw[if_neg h0,if_neg h1,if_neg h2]),?_⟩;exact Z5
theorem Nj(k n:Int)(w:World):Calls Tryz.prog 86 #[.agg #[.int .i64 k,.int .i64 n]] w λe w'=>e=.returned (.bool (Fx.valid k n))/\Below w.heap.size w w':=by
 by_cases h0:k=0
 . subst h0
   go_enter Tryz.func86,Tryz.ntmps86
   go_wp2
   go_ret
   refine⟨fT (by unfold Fx.valid;rw[if_pos rfl];rfl),?_⟩;exact Z5
 . by_cases h1:k=1
   . subst h1
     go_enter Tryz.func86,Tryz.ntmps86
     go_wp2
     all_goals
      go_ret
      refine⟨fT (by unfold Fx.valid Fx.cut;rw[if_neg aj,if_pos rfl];(repeat' split)<;>rw[Bool.eq_iff_iff]<;>simp<;>omega),?_⟩;exact Z5
   . by_cases h2:k=2
     . subst h2
       go_enter Tryz.func86,Tryz.ntmps86
       exact Z3v
     . have g0:(k==0)=false:=by simp[h0]
       have g1:(k==1)=false:=by simp[h1]
       have g2:(k==2)=false:=by simp[h2]
       go_enter Tryz.func86,Tryz.ntmps86
       go_wp2
       go_ret
       refine⟨fT (by unfold Fx.valid;rw[if_neg h0,if_neg h1,if_neg h2]),?_⟩;exact Z5
theorem ZA(k n far base:Int)(B:Nat)(w:World)(hcell:w.cell? ⟨B,0,none⟩=some (.int .i64 base)):Calls Tryz.prog 109 #[.agg #[.int .i64 k,.int .i64 n],.int .i64 far,.pointer (some ⟨B,0,none⟩)] w λe w'=>e=.returned (.int .i64 (Fx.len k n base far))/\Below w.heap.size w w':=by
 have hlt:B<w.heap.size:=World.block_lt_of_cell? _ _ hcell;go_enter Tryz.func109,Tryz.ntmps109
 go_wp2_with (first|(go_at_call 76;(with_reducible refine(nI _ _ _ _ _).mono ?_);rintro e w' ⟨rfl,hb⟩;(try replace hb:=Below.after (by assumption) hb);obtain⟨hc,hf⟩:=kY hb;have hz:=hb.size;(try simp at hz)))
 go_ret
 refine⟨rfl,?_⟩;exact Z5
theorem Gn(n lk ln hk hn base:Int)(w:World):Calls Tryz.prog 78 #[.int .i64 n,.agg #[.int .i64 lk,.int .i64 ln],.agg #[.int .i64 hk,.int .i64 hn],.int .i64 base] w λe w'=>e=.returned (.int .i64 (Fx.limit n lk ln hk hn base))/\Below w.heap.size w w':=by
 have JM:∀(fn:Fn) (first cap:Array Value) (w:World),(Instr.makeFunc fn first cap).run Tryz.prog w=.ok (.func fn first cap) w:=λ_ _ _ _=>rfl;by_cases h:Fx.clamp n (Fx.len lk ln base (-1099511627776)) (Fx.len hk hn base 1099511627776)<0
 all_goals
  (try replace h:=Int.not_lt.1 h)
  go_enter Tryz.func78,Tryz.ntmps78
  go_upto_region 1 with(fail)
  (generalize hW:World.alloc (World.alloc (World.alloc w _) _) _=W0;have A0:At W0 (w.heap.size) (.cells #[.int .i64 lk,.int .i64 ln] 37):=(by((rw[<-hW])<;>exact At.alloc (At.alloc (At.new' _ EM) _) _));have A1:At W0 (w.heap.size+1) (.cells #[.int .i64 hk,.int .i64 hn] 37):=Z57;have A2:At W0 (w.heap.size+1+1) (.cells #[.int .i64 base] 3):=(by((rw[<-hW])<;>exact At.new' _ EM));have hB:Below w.heap.size w W0:=(by((rw[<-hW])<;>exact Below.alloc' (Below.alloc' (Below.alloc' aF _) _) _));clear hW;obtain⟨l0,aB,aC⟩:=At.two A0;obtain⟨l1,aP,aQ⟩:=At.two A1;obtain⟨l2,aR⟩:=At.one A2)
  go_upto_region 2 with(fail)
  refine xW ?_
  (repeat (first|refine nW ?_ | refine nX ?_ (hc:=by intro w2 hS;first|with_reducible exact nR hS (ZA _ _ _ _ _ _ (((kY hS).1 _ _ l2).trans aR))|with_reducible exact J9 hS (rV _ _ _ _))|refine nY ?_))
  refine ak.cK ?_;intro w2 hS;go_wp2
  go_ret
  exact⟨bO (by unfold Fx.limit Fx.mx;split<;>omega),Below.ay hB aD hS⟩
theorem yF{a b c d a' b' c' d':Int}(h1:a=a')(h2:b=b')(h3:c=c')(h4:d=d'):Ending.returned (.agg #[.int .i64 a,.int .i64 b,.int .i64 c,.int .i64 d])=.returned (.agg #[.int .i64 a',.int .i64 b',.int .i64 c',.int .i64 d']):=by rw[h1,h2,h3,h4]
theorem Nk(k0 n0 k1 n1 k2 n2 k3 n3 base:Int)(w:World):Calls Tryz.prog 108 #[.agg #[.int .i64 k0,.int .i64 n0,.int .i64 k1,.int .i64 n1,.int .i64 k2,.int .i64 n2,.int .i64 k3,.int .i64 n3],.int .i64 base] w λe w'=>e=.returned (.agg #[.int .i64 (Fx.len k0 n0 base 0),.int .i64 (Fx.len k1 n1 base 0),.int .i64 (Fx.len k2 n2 base 0),.int .i64 (Fx.len k3 n3 base 0)])/\Below w.heap.size w w':=by
 have i0:∀w:World,(Instr.index 38 (.agg #[.int .i64 k0,.int .i64 n0,.int .i64 k1,.int .i64 n1,.int .i64 k2,.int .i64 n2,.int .i64 k3,.int .i64 n3]) (.int .i64 0)).run Tryz.prog w=.ok (.agg #[.int .i64 k0,.int .i64 n0]) w:=λ_=>by kernel_rfl
 have i1:∀w:World,(Instr.index 38 (.agg #[.int .i64 k0,.int .i64 n0,.int .i64 k1,.int .i64 n1,.int .i64 k2,.int .i64 n2,.int .i64 k3,.int .i64 n3]) (.int .i64 1)).run Tryz.prog w=.ok (.agg #[.int .i64 k1,.int .i64 n1]) w:=λ_=>by kernel_rfl
 have i2:∀w:World,(Instr.index 38 (.agg #[.int .i64 k0,.int .i64 n0,.int .i64 k1,.int .i64 n1,.int .i64 k2,.int .i64 n2,.int .i64 k3,.int .i64 n3]) (.int .i64 2)).run Tryz.prog w=.ok (.agg #[.int .i64 k2,.int .i64 n2]) w:=λ_=>by kernel_rfl
 have i3:∀w:World,(Instr.index 38 (.agg #[.int .i64 k0,.int .i64 n0,.int .i64 k1,.int .i64 n1,.int .i64 k2,.int .i64 n2,.int .i64 k3,.int .i64 n3]) (.int .i64 3)).run Tryz.prog w=.ok (.agg #[.int .i64 k3,.int .i64 n3]) w:=λ_=>by kernel_rfl
 go_enter Tryz.func108,Tryz.ntmps108
 go_upto_region 2 with(fail)
 (generalize hW:World.alloc (World.alloc (World.alloc w _) _) _=W0;have A0:At W0 (w.heap.size) (.cells #[.int .i64 k0,.int .i64 n0,.int .i64 k1,.int .i64 n1,.int .i64 k2,.int .i64 n2,.int .i64 k3,.int .i64 n3] 38):=(by((rw[<-hW])<;>exact At.alloc (At.alloc (At.new' _ EM) _) _));have A1:At W0 (w.heap.size+1) (.cells #[.int .i64 0,.int .i64 0,.int .i64 0,.int .i64 0] 39):=Z57;have A2:At W0 (w.heap.size+1+1) (.cells #[.int .i64 0,.int .i64 0,.int .i64 0,.int .i64 0] 39):=(by((rw[<-hW])<;>exact At.new' _ EM));have hB:Below w.heap.size w W0:=(by((rw[<-hW])<;>exact Below.alloc' (Below.alloc' (Below.alloc' aF _) _) _));clear hW;obtain⟨l0,aB,aC,bH,mF,ql,qm,Ip,ag0⟩:=At.eight A0;obtain⟨l1,aP,aQ,gG,gH⟩:=At.four A1;have fO:=A1.thaw 0;have fP:=A1.thaw 1;have gZ:=A1.thaw 2;have iq:=A1.thaw 3;obtain⟨l2,aR,aS,aT,aU⟩:=At.four A2;have lJ:=A2.thaw 0;have lM:=A2.thaw 1;have lW:=A2.thaw 2;have lX:=A2.thaw 3)
 go_wp2;clear l0 aB aC bH mF ql qm Ip ag0 A0;refine wp_loop_rounds 5 ?_;rw[rounds_succ]
 go_upto_region 5 with(fail)
 (generalize hW:World.alloc _ _=W1;clear l1 aP aQ gG gH fO fP gZ iq l2 aR aS aT aU lJ lM lW lX;have A3:At W1 _ _:=hW▸At.new _ _;replace A1:At W1 _ _:=hW▸At.alloc A1 _;replace A2:At W1 _ _:=hW▸At.alloc A2 _;replace hB:Below w.heap.size w W1:=hW▸Below.alloc' hB _;clear hW;obtain⟨l1,aP,aQ,gG,gH⟩:=At.four A1;have fO:=A1.thaw 0;have fP:=A1.thaw 1;have gZ:=A1.thaw 2;have iq:=A1.thaw 3;obtain⟨l2,aR,aS,aT,aU⟩:=At.four A2;have lJ:=A2.thaw 0;have lM:=A2.thaw 1;have lW:=A2.thaw 2;have lX:=A2.thaw 3;obtain⟨l3,bP,bQ⟩:=At.two A3)
 go_upto_region 6 with(first|(go_at_call 76;(with_reducible refine(nI _ _ _ _ _).mono ?_);rintro e w' ⟨rfl,hb⟩;(clear l1 aP aQ gG gH fO fP gZ iq l2 aR aS aT aU lJ lM lW lX l3 bP bQ);(replace hB:=Below.ay zn aD hb);replace A1:=At.keep zD hb;replace A2:=At.keep Bo hb;replace A3:=At.keep MN hb;clear hb;obtain⟨l1,aP,aQ,gG,gH⟩:=At.four A1;have fO:=A1.thaw 0;have fP:=A1.thaw 1;have gZ:=A1.thaw 2;have iq:=A1.thaw 3;obtain⟨l2,aR,aS,aT,aU⟩:=At.four A2;have lJ:=A2.thaw 0;have lM:=A2.thaw 1;have lW:=A2.thaw 2;have lX:=A2.thaw 3;obtain⟨l3,bP,bQ⟩:=At.two A3))
 generalize hW:World.setCell _ _ _=W2;clear l1 aP aQ gG gH fO fP gZ iq l2 aR aS aT aU lJ lM lW lX l3 bP bQ A3;replace A2:At W2 (w.heap.size+1+1) (.cells #[.int .i64 (Fx.len k0 n0 base 0),.int .i64 0,.int .i64 0,.int .i64 0] 39):=hW▸At.set A2 0 _;replace A1:At W2 (w.heap.size+1) _:=hW▸At.off A1 aj 0 _;replace hB:Below w.heap.size w W2:=hW▸Below.setCell hB jM _;clear hW;obtain⟨l1,aP,aQ,gG,gH⟩:=At.four A1;obtain⟨l2,aR,aS,aT,aU⟩:=At.four A2;have fO:=A1.thaw 0;have fP:=A1.thaw 1;have gZ:=A1.thaw 2;have iq:=A1.thaw 3;have lJ:=A2.thaw 0;have lM:=A2.thaw 1;have lW:=A2.thaw 2;have lX:=A2.thaw 3;go_wp2;rw[rounds_succ]
 go_upto_region 5 with(fail)
 (generalize hW:World.alloc _ _=W1;clear l1 aP aQ gG gH fO fP gZ iq l2 aR aS aT aU lJ lM lW lX;have A3:At W1 _ _:=hW▸At.new _ _;replace A1:At W1 _ _:=hW▸At.alloc A1 _;replace A2:At W1 _ _:=hW▸At.alloc A2 _;replace hB:Below w.heap.size w W1:=hW▸Below.alloc' hB _;clear hW;obtain⟨l1,aP,aQ,gG,gH⟩:=At.four A1;have fO:=A1.thaw 0;have fP:=A1.thaw 1;have gZ:=A1.thaw 2;have iq:=A1.thaw 3;obtain⟨l2,aR,aS,aT,aU⟩:=At.four A2;have lJ:=A2.thaw 0;have lM:=A2.thaw 1;have lW:=A2.thaw 2;have lX:=A2.thaw 3;obtain⟨l3,bP,bQ⟩:=At.two A3)
 go_upto_region 6 with(first|(go_at_call 76;(with_reducible refine(nI _ _ _ _ _).mono ?_);rintro e w' ⟨rfl,hb⟩;(clear l1 aP aQ gG gH fO fP gZ iq l2 aR aS aT aU lJ lM lW lX l3 bP bQ);(replace hB:=Below.ay zn aD hb);replace A1:=At.keep zD hb;replace A2:=At.keep Bo hb;replace A3:=At.keep MN hb;clear hb;obtain⟨l1,aP,aQ,gG,gH⟩:=At.four A1;have fO:=A1.thaw 0;have fP:=A1.thaw 1;have gZ:=A1.thaw 2;have iq:=A1.thaw 3;obtain⟨l2,aR,aS,aT,aU⟩:=At.four A2;have lJ:=A2.thaw 0;have lM:=A2.thaw 1;have lW:=A2.thaw 2;have lX:=A2.thaw 3;obtain⟨l3,bP,bQ⟩:=At.two A3))
 generalize hW:World.setCell _ _ _=W2;clear l1 aP aQ gG gH fO fP gZ iq l2 aR aS aT aU lJ lM lW lX l3 bP bQ A3;replace A2:At W2 (w.heap.size+1+1) (.cells #[.int .i64 (Fx.len k0 n0 base 0),.int .i64 (Fx.len k1 n1 base 0),.int .i64 0,.int .i64 0] 39):=hW▸At.set A2 1 _;replace A1:At W2 (w.heap.size+1) _:=hW▸At.off A1 aj 1 _;replace hB:Below w.heap.size w W2:=hW▸Below.setCell hB jM _;clear hW;obtain⟨l1,aP,aQ,gG,gH⟩:=At.four A1;obtain⟨l2,aR,aS,aT,aU⟩:=At.four A2;have fO:=A1.thaw 0;have fP:=A1.thaw 1;have gZ:=A1.thaw 2;have iq:=A1.thaw 3;have lJ:=A2.thaw 0;have lM:=A2.thaw 1;have lW:=A2.thaw 2;have lX:=A2.thaw 3;go_wp2;rw[rounds_succ]
 go_upto_region 5 with(fail)
 (generalize hW:World.alloc _ _=W1;clear l1 aP aQ gG gH fO fP gZ iq l2 aR aS aT aU lJ lM lW lX;have A3:At W1 _ _:=hW▸At.new _ _;replace A1:At W1 _ _:=hW▸At.alloc A1 _;replace A2:At W1 _ _:=hW▸At.alloc A2 _;replace hB:Below w.heap.size w W1:=hW▸Below.alloc' hB _;clear hW;obtain⟨l1,aP,aQ,gG,gH⟩:=At.four A1;have fO:=A1.thaw 0;have fP:=A1.thaw 1;have gZ:=A1.thaw 2;have iq:=A1.thaw 3;obtain⟨l2,aR,aS,aT,aU⟩:=At.four A2;have lJ:=A2.thaw 0;have lM:=A2.thaw 1;have lW:=A2.thaw 2;have lX:=A2.thaw 3;obtain⟨l3,bP,bQ⟩:=At.two A3)
 go_upto_region 6 with(first|(go_at_call 76;(with_reducible refine(nI _ _ _ _ _).mono ?_);rintro e w' ⟨rfl,hb⟩;(clear l1 aP aQ gG gH fO fP gZ iq l2 aR aS aT aU lJ lM lW lX l3 bP bQ);(replace hB:=Below.ay zn aD hb);replace A1:=At.keep zD hb;replace A2:=At.keep Bo hb;replace A3:=At.keep MN hb;clear hb;obtain⟨l1,aP,aQ,gG,gH⟩:=At.four A1;have fO:=A1.thaw 0;have fP:=A1.thaw 1;have gZ:=A1.thaw 2;have iq:=A1.thaw 3;obtain⟨l2,aR,aS,aT,aU⟩:=At.four A2;have lJ:=A2.thaw 0;have lM:=A2.thaw 1;have lW:=A2.thaw 2;have lX:=A2.thaw 3;obtain⟨l3,bP,bQ⟩:=At.two A3))
 generalize hW:World.setCell _ _ _=W2;clear l1 aP aQ gG gH fO fP gZ iq l2 aR aS aT aU lJ lM lW lX l3 bP bQ A3;replace A2:At W2 (w.heap.size+1+1) (.cells #[.int .i64 (Fx.len k0 n0 base 0),.int .i64 (Fx.len k1 n1 base 0),.int .i64 (Fx.len k2 n2 base 0),.int .i64 0] 39):=hW▸At.set A2 2 _;replace A1:At W2 (w.heap.size+1) _:=hW▸At.off A1 aj 2 _;replace hB:Below w.heap.size w W2:=hW▸Below.setCell hB jM _;clear hW;obtain⟨l1,aP,aQ,gG,gH⟩:=At.four A1;obtain⟨l2,aR,aS,aT,aU⟩:=At.four A2;have fO:=A1.thaw 0;have fP:=A1.thaw 1;have gZ:=A1.thaw 2;have iq:=A1.thaw 3;have lJ:=A2.thaw 0;have lM:=A2.thaw 1;have lW:=A2.thaw 2;have lX:=A2.thaw 3;go_wp2;rw[rounds_succ]
 go_upto_region 5 with(fail)
 (generalize hW:World.alloc _ _=W1;clear l1 aP aQ gG gH fO fP gZ iq l2 aR aS aT aU lJ lM lW lX;have A3:At W1 _ _:=hW▸At.new _ _;replace A1:At W1 _ _:=hW▸At.alloc A1 _;replace A2:At W1 _ _:=hW▸At.alloc A2 _;replace hB:Below w.heap.size w W1:=hW▸Below.alloc' hB _;clear hW;obtain⟨l1,aP,aQ,gG,gH⟩:=At.four A1;have fO:=A1.thaw 0;have fP:=A1.thaw 1;have gZ:=A1.thaw 2;have iq:=A1.thaw 3;obtain⟨l2,aR,aS,aT,aU⟩:=At.four A2;have lJ:=A2.thaw 0;have lM:=A2.thaw 1;have lW:=A2.thaw 2;have lX:=A2.thaw 3;obtain⟨l3,bP,bQ⟩:=At.two A3)
 go_upto_region 6 with(first|(go_at_call 76;(with_reducible refine(nI _ _ _ _ _).mono ?_);rintro e w' ⟨rfl,hb⟩;(clear l1 aP aQ gG gH fO fP gZ iq l2 aR aS aT aU lJ lM lW lX l3 bP bQ);(replace hB:=Below.ay zn aD hb);replace A1:=At.keep zD hb;replace A2:=At.keep Bo hb;replace A3:=At.keep MN hb;clear hb;obtain⟨l1,aP,aQ,gG,gH⟩:=At.four A1;have fO:=A1.thaw 0;have fP:=A1.thaw 1;have gZ:=A1.thaw 2;have iq:=A1.thaw 3;obtain⟨l2,aR,aS,aT,aU⟩:=At.four A2;have lJ:=A2.thaw 0;have lM:=A2.thaw 1;have lW:=A2.thaw 2;have lX:=A2.thaw 3;obtain⟨l3,bP,bQ⟩:=At.two A3))
 generalize hW:World.setCell _ _ _=W2;clear l1 aP aQ gG gH fO fP gZ iq l2 aR aS aT aU lJ lM lW lX l3 bP bQ A3;replace A2:At W2 (w.heap.size+1+1) (.cells #[.int .i64 (Fx.len k0 n0 base 0),.int .i64 (Fx.len k1 n1 base 0),.int .i64 (Fx.len k2 n2 base 0),.int .i64 (Fx.len k3 n3 base 0)] 39):=hW▸At.set A2 3 _;replace A1:At W2 (w.heap.size+1) _:=hW▸At.off A1 aj 3 _;replace hB:Below w.heap.size w W2:=hW▸Below.setCell hB jM _;clear hW;obtain⟨l1,aP,aQ,gG,gH⟩:=At.four A1;obtain⟨l2,aR,aS,aT,aU⟩:=At.four A2;have fO:=A1.thaw 0;have fP:=A1.thaw 1;have gZ:=A1.thaw 2;have iq:=A1.thaw 3;have lJ:=A2.thaw 0;have lM:=A2.thaw 1;have lW:=A2.thaw 2;have lX:=A2.thaw 3;go_wp2;rw[rounds_succ];go_wp2;refine bodyPost_ret (v:=.agg #[.int .i64 _,.int .i64 _,.int .i64 _,.int .i64 _]) (by simp[results,Tryz.results108,go_sem, *];first|done|exact⟨rfl,rfl⟩|exact⟨rfl,rfl,rfl,rfl⟩|rfl) rfl ⟨yF rfl rfl rfl rfl,?_⟩;exact Z5
def cell(t:Re.St)(i:Nat):Value:=if Re.sO i=true then .bool (t.b i)else .int .i64 (t.c i)
def cells(t:Re.St):Array Value:=((List.range 55).map (cell t)).toArray
theorem bI(t:Re.St):(cells t).size=55:=by simp[cells]
theorem iC(t:Re.St){i:Nat}(h:i<55):(cells t)[i]? = some (cell t i):=by simp[cells,h]
theorem yj(t:Re.St){i:Nat}(h:Re.sO i=false):cell t i=.int .i64 (t.c i):=by simp[cell,h]
theorem Gq(t:Re.St){i:Nat}(h:Re.sO i=true):cell t i=.bool (t.b i):=by simp[cell,h]
theorem bG(t:Re.St){i:Nat}(h:i<55)(hb:Re.sO i=false):(cells t)[i]? = some (.int .i64 (t.c i)):=by rw[iC t h,yj t hb]
theorem tH(t:Re.St){i:Nat}(h:i<55)(hb:Re.sO i=true):(cells t)[i]? = some (.bool (t.b i)):=by rw[iC t h,Gq t hb]
theorem UG(t:Re.St)(i:Nat):(cell t i).oneCell'=true:=by unfold cell;split<;>rfl
theorem cells_one(t:Re.St):(cells t).all (·.oneCell')=true:=by
 refine Array.all_eq_true_iff_forall_mem.2 λv hv => ?_;simp only[cells,List.mem_toArray,List.mem_map]at hv;obtain⟨i,_,rfl⟩:=hv;exact UG t i
theorem ng{s t:Re.St}{i:Nat}{v:Value}(hv:v=cell t i)(h:∀j,j<55->j≠i->cell s j=cell t j):(cells s).setIfInBounds i v=cells t:=by
 apply Array.ext_getElem?;intro j;rw[Array.getElem?_setIfInBounds];by_cases hj:j<55
 . by_cases e:i=j
   . subst e;rw[if_pos rfl,bI,if_pos hj,iC t hj,hv]
   . rw[if_neg e,iC s hj,iC t hj,h j hj (λq=>e q.symm)]
 . have e1:(cells s)[j]? = none:=Array.getElem?_eq_none Z55
   have e2:(cells t)[j]? = none:=Array.getElem?_eq_none Z55;rw[e1,e2,bI];by_cases e:i=j
   . rw[if_pos e,if_neg aj]
   . rw[if_neg e]
def mix(f:Nat->Int->Int)(t:Re.St)(k:Nat):Re.St:=⟨λi=>if i<k then f i (Re.num t i)else t.c i,λi=>if i<k then f i (Re.num t i)==1 else t.b i⟩
def ins(t:Re.St)(k:Nat):List Int:=(List.range k).map (Re.num t)
theorem yh(t:Re.St)(k:Nat):ins t (k+1)=ins t k++[Re.num t k]:=by simp[ins,List.range_succ]
theorem sZ(t:Re.St)(k:Nat):(ins t k).length=k:=by simp[ins]
theorem acd(f:Nat->Int->Int)(t:Re.St){k i:Nat}(h:i<k):(mix f t k).c i=f i (Re.num t i):=by simp[mix,h]
theorem M8(f:Nat->Int->Int)(t:Re.St){k i:Nat}(h:k<=i):(mix f t k).c i=t.c i:=by simp[mix,show¬ i<k by omega]
theorem Iq(f:Nat->Int->Int)(t:Re.St){k i:Nat}(h:k<=i):(mix f t k).b i=t.b i:=by simp[mix,show¬ i<k by omega]
theorem ZB(f:Nat->Int->Int)(t:Re.St){k i:Nat}(h:i<k):(mix f t k).b i=(f i (Re.num t i)==1):=by simp[mix,h]
theorem UH(f:Nat->Int->Int)(t:Re.St):mix f t 0=t:=by simp[mix]
theorem uS(f:Nat->Int->Int)(t:Re.St){k:Nat}(hb:Re.sO k=false):(cells (mix f t k)).setIfInBounds k (.int .i64 (f k (t.c k)))=cells (mix f t (k+1)):=by
 refine ng ?_ λj _ hj => ?_
 . rw[yj _ hb,acd f t (Nat.lt_succ_self k),Re.JI hb]
 . unfold cell mix
   simp only[show(j<k+1)=(j<k)by simp;omega]
theorem Hq(f:Nat->Int->Int)(t:Re.St){k:Nat}(hb:Re.sO k=true):(cells (mix f t k)).setIfInBounds k (.bool (f k (Re.num t k)==1))=cells (mix f t (k+1)):=by
 refine ng ?_ λj _ hj => ?_
 . rw[Gq _ hb,ZB f t (Nat.lt_succ_self k)]
 . unfold cell mix
   simp only[show(j<k+1)=(j<k)by simp;omega]
def Out(M:Nat->Prop)(W W':World):Prop:=Below 0 W W'/\∀b,b<W.heap.size->¬ M b->W'.heap[b]? = W.heap[b]?
theorem Out.refl(M:Nat->Prop)(W:World):Out M W W:=⟨Below.refl _ _,λ_ _ _=>rfl⟩
theorem Out.size{M:Nat->Prop}{W W':World}(h:Out M W W'):W.heap.size<=W'.heap.size:=h.1.size
theorem Out.trans{M:Nat->Prop}{X Y Z:World}(h:Out M X Y)(k:Out M Y Z):Out M X Z:=⟨h.1.trans k.1,λb hb hm=>(k.2 b (aV hb h.size) hm).trans (h.2 b hb hm)⟩
theorem Out.mono{M M':Nat->Prop}{X Y:World}(h:Out M X Y)(hm:∀b,b<X.heap.size->M b->M' b):Out M' X Y:=⟨h.1,λb hb hn=>h.2 b hb λq=>hn (hm b hb q)⟩
theorem Out.of_below{M:Nat->Prop}{X Y:World}(h:Below X.heap.size X Y):Out M X Y:=⟨h.mono sQ,λb hb _=>h.block b hb⟩
theorem Out.below{M:Nat->Prop}{n:Nat}{X Y:World}(h:Out M X Y)(hn:n<=X.heap.size)(hm:∀b,b<n->¬ M b):Below n X Y:=⟨h.1.os,h.1.tape,h.1.output,h.1.size,λb hb=>h.2 b (aV hb hn) (hm b hb)⟩
theorem Out.set{M:Nat->Prop}{X Y:World}(h:Out M X Y){b:Nat}(hb:M b)(i:Nat)(v:Value):Out M X (Y.setCell ⟨b,i,none⟩ v) :=
 ⟨Below.setCell h.1 eZ _,λc hc hm=>(Below.heap_setCell Y ⟨b,i,none⟩ v c (λe=>hm (e▸hb))).trans (h.2 c hc hm)⟩
theorem At.out{M:Nat->Prop}{X Y:World}{b:Nat}{o:Obj}(h:At X b o)(hm:¬ M b)(k:Out M X Y):At Y b o:=(k.2 b h.lt hm).trans h
theorem Ka{W:World}{b:Nat}{cs:Array Value}{T:TypeId}(h:At W b (.cells cs T)):W.setRow b cs=W:=by
 unfold At at h;obtain⟨hlt,he⟩:=Array.getElem?_eq_some_iff.1 h;cases W with
 | mk heap tape drawn os output =>
   unfold World.setRow;congr 1;apply Array.ext
   . simp
   . intro k h1 h2
     simp only[Array.getElem_modify];split
     . rename_i hk;subst hk;simp at he;simp[he]
     . rfl
theorem At.setRow{W:World}{b:Nat}{cs:Array Value}{T:TypeId}(h:At W b (.cells cs T))(cs':Array Value):At (W.setRow b cs') b (.cells cs' T):=setRow_heap W b cs cs' T _ h
theorem At.nG{W:World}{b b':Nat}{o:Obj}(h:At W b o)(hne:b≠b')(cs':Array Value):At (W.setRow b' cs') b o:=by
 unfold At World.setRow at *;simp only[Array.getElem?_modify];rw[if_neg (λe=>hne e.symm)];exact h
theorem Out.setRow{M:Nat->Prop}{X Y:World}(h:Out M X Y){b:Nat}(hb:M b)(cs:Array Value):Out M X (Y.setRow b cs) :=
 ⟨⟨h.1.os,h.1.tape,h.1.output,by simpa[World.setRow]using h.1.size,λ_ hb=>absurd hb (Nat.not_lt_zero _)⟩,λc hc hm=>by
  have:=h.2 c hc hm;unfold World.setRow;simp only[Array.getElem?_modify];rw[if_neg (by rintro rfl;exact hm hb)]
  exact this⟩
theorem zL:(Tryz.prog.info? 46).map (·.size)=some 55:=by kernel_rfl
theorem Dl{W:World}{b:Nat}{s:Re.St}(h:At W b (.cells (cells s) 46)):(Instr.loadAt 46 (.pointer (some ⟨b,0,none⟩))).run Tryz.prog W=.ok (.agg (cells s)) W:=by
 simp only[Instr.loadAt,Instr.sureAddr,Sem.run_bind,Sem.run_pure,Result.andThen_ok,run_loadVar_row W b 46 46 (cells s) (0,0) _ h Tryz.underlying46 rfl (by rw[bI];exact zL)]
theorem EZ{W:World}{b:Nat}{s:Re.St}(h:At W b (.cells (cells s) 46)):(loadVar 46 ⟨b,0,none⟩).run Tryz.prog W=.ok (.agg (cells s)) W :=
 run_loadVar_row W b 46 46 (cells s) (0,0) _ h Tryz.underlying46 rfl (by rw[bI];exact zL)
theorem uZ{W:World}{b:Nat}{s t:Re.St}(h:At W b (.cells (cells s) 46)):(Instr.storeAt 46 (.pointer (some ⟨b,0,none⟩)) (.agg (cells t))).run Tryz.prog W=.ok () (W.setRow b (cells t)):=by
 simp only[Instr.storeAt,Instr.sureAddr,Sem.run_bind,Sem.run_pure,Result.andThen_ok,run_storeVar_row W b 46 46 (cells s) (cells t) h (by rw[bI];exact zL) (by rw[bI,bI]) (cells_one t)]
theorem zM{W:World}{b:Nat}{s:Re.St}(h:At W b (.cells (cells s) 46)):(Instr.storeAt 46 (.pointer (some ⟨b,0,none⟩)) (.agg (cells s))).run Tryz.prog W=.ok () W:=by
 rw[uZ h,Ka h]
theorem Kc(W:World):(Instr.build 46 #[]).run Tryz.prog W=.ok (.agg (cells Re.zero)) W:=by kernel_rfl
theorem Ar(W:World):(Instr.alloc 46 true (.tuple #[])).run Tryz.prog W=.ok (.pointer (some ⟨W.heap.size,0,none⟩)) (W.alloc (.cells (cells Re.zero) 46)):=by kernel_rfl
structure jF(F:FuncId)(caps:Array Value)(f:Nat->Int->Int)(mine:Nat->Prop)(I:List Int->World->Prop):Prop where
 keep:∀xs W W',I xs W->Below W.heap.size W W'->I xs W'
 set:∀xs W b i v,I xs W->¬ mine b->I xs (W.setCell ⟨b,i,none⟩ v)
 enters:∀(x:Int) (w:World),(callFunc F (#[.int .i64 x]++caps)).run Tryz.prog w=.ok (.enter F (#[.int .i64 x]++caps)) w
 call:∀xs x W,I xs W->xs.length<55->Calls Tryz.prog F (#[.int .i64 x]++caps) W λe W'=>e=.returned (.int .i64 (f xs.length x))/\I (xs++[x]) W'/\Out mine W W'
end Go.Proofs.YtmidaiklolmkcaaGreat.Fix
namespace Go.Proofs.YtmidaiklolmkcaaGreat.Fix
open Go.ChangeShapes Go.WideShapes Go.ChangeAt Go.RowKit Go.Joins
def xH(i:Nat)(v:Value):Prop:=if Re.sO i=true then ∃b,v=.bool b else ∃n:Int,v=.int .i64 n/\(Lit.int .i64 n).wf=true
def Fits(s:Re.St):Prop:=∀i,i<55->Re.sO i=false->(Lit.int .i64 (s.c i)).wf=true
theorem UJ{i:Nat}{n:Int}(hb:Re.sO i=false)(h:(Lit.int .i64 n).wf=true):xH i (.int .i64 n):=by
 unfold xH;rw[if_neg (by simp[hb])];exact⟨n,rfl,h⟩
theorem Q8{i:Nat}{b:Bool}(hb:Re.sO i=true):xH i (.bool b):=by
 unfold xH;rw[if_pos hb];exact⟨b,rfl⟩
theorem xI:Tryz.prog.cellsOf 3=1:=by kernel_rfl
theorem Ci:Tryz.prog.cellsOf 4=1:=by kernel_rfl
theorem Ir:Tryz.prog.cellsOf 41=1:=by kernel_rfl
theorem Dm:Tryz.prog.cellsOf 32=1:=by kernel_rfl
theorem Dn:Tryz.prog.cellsOf 40=1:=by kernel_rfl
theorem Dq:Tryz.prog.cellsOf 35=1:=by kernel_rfl
theorem Bv:Tryz.prog.cellsOf 34=1:=by kernel_rfl
theorem Bw:Tryz.prog.cellsOf 33=1:=by kernel_rfl
theorem zN:Tryz.prog.cellsOf 43=1:=by kernel_rfl
theorem Bz:Tryz.prog.cellsOf 42=1:=by kernel_rfl
theorem jS:Tryz.prog.cellsOf 37=2:=by kernel_rfl
theorem Aw:Tryz.prog.cellsOf 38=8:=by kernel_rfl
theorem PV:Tryz.prog.cellsOf 39=4:=by kernel_rfl
theorem ZC:Tryz.prog.cellsOf 44=2:=by kernel_rfl
theorem yG:Tryz.prog.cellsOf 46=55:=by kernel_rfl
theorem Ke{cs:List Value}{o:Nat}{v:Value}(h:(cs.drop o).take 1=[v]):cs[o]? = some v:=by
 have:=congrArg (λl:List Value=>l[0]?) h;simpa[List.getElem?_take,List.getElem?_drop]using this
theorem yH{cs:List Value}{o n j m:Nat}(h:j+m<=n):(((cs.drop o).take n).drop j).take m=(cs.drop (o+j)).take m:=by
 rw[List.drop_take,List.take_take,Nat.min_eq_left aj,List.drop_drop]
section
variable {H:Type} {enc:TypeId×Value->H} {w:World} {base:Nat} {spare:Nat->Bool} {held:Bool}
theorem dW{n:Nat}{t:TypeId}{cs:List Value}{o:Nat}{y:DataW H×List MemPlace}(ht:Tryz.prog.underlying t=some (.int .i64))(hb:Re.sO o=false)(h:DataW.trod enc Tryz.prog w base spare held n t ((cs.drop o).take 1)=some y):∃v,cs[o]? = some v/\xH o v:=by
 obtain⟨a,e,_,wf⟩:=DataW.trod_int ht h;exact⟨_,Ke e,UJ hb wf⟩
theorem pQ{n:Nat}{cs:List Value}{o:Nat}{y:DataW H×List MemPlace}(hb:Re.sO o=true)(h:DataW.trod enc Tryz.prog w base spare held n 4 ((cs.drop o).take 1)=some y):∃v,cs[o]? = some v/\xH o v:=by
 obtain⟨a,e,_⟩:=DataW.trod_bool Tryz.underlying4 h;exact⟨_,Ke e,Q8 hb⟩
theorem iG{n:Nat}{cs:List Value}{o:Nat}{y:DataW H×List MemPlace}(h0:Re.sO o=false)(h1:Re.sO (o+1)=false)(h:DataW.trod enc Tryz.prog w base spare held n 37 ((cs.drop o).take 2)=some y):(∃v,cs[o]? = some v/\xH o v)/\∃v,cs[o+1]? = some v/\xH (o+1) v:=by
 obtain⟨xs,k,rfl,_,_,hxl,hf⟩:=DataW.trod_struct Tryz.underlying37 h
 match xs,hxl with
 | [y0,y1],_ =>
   have g0:DataW.trod enc Tryz.prog w base spare held k 35 ((((cs.drop o).take 2).drop 0).take (Tryz.prog.cellsOf 35))=some y0:=hf 0 _ rfl;have g1:DataW.trod enc Tryz.prog w base spare held k 3 ((((cs.drop o).take 2).drop 1).take (Tryz.prog.cellsOf 3))=some y1:=hf 1 _ rfl;rw[Dq,yH aj]at g0;rw[xI,yH aj]at g1;exact⟨dW Tryz.underlying35 h0 g0,dW Tryz.underlying3 h1 g1⟩
theorem wT{n:Nat}{cs:List Value}{o:Nat}{y:DataW H×List MemPlace}(hb:∀j,j<8->Re.sO (o+j)=false)(h:DataW.trod enc Tryz.prog w base spare held n 38 ((cs.drop o).take 8)=some y):∀j,j<8->∃v,cs[o+j]? = some v/\xH (o+j) v:=by
 obtain⟨xs,k,rfl,_,_,hxl,hf⟩:=DataW.trod_array Tryz.underlying38 h;have key:∀i,i<4->(∃v,cs[o+i*2]? = some v/\xH (o+i*2) v)/\∃v,cs[o+i*2+1]? = some v/\xH (o+i*2+1) v:=by
  intro i hi;have g:=hf i hi;rw[jS,yH aj,List.getElem?_eq_getElem aj]at g;exact iG (hb (i*2) aj) (hb (i*2+1) aj) g
 intro j hj;have:j=j/2*2\/j=j/2*2+1:=by omega
 rcases this with e|e
 . rw[e];exact(key (j/2) aj).1
 . rw[e];exact(key (j/2) aj).2
theorem qW{n m sz:Nat}{t:TypeId}{cs:List Value}{o:Nat}{y:DataW H×List MemPlace}(ht:Tryz.prog.underlying t=some (.array m 3))(hb:∀j,j<m->Re.sO (o+j)=false)(h:DataW.trod enc Tryz.prog w base spare held n t ((cs.drop o).take m)=some y):∀j,j<m->∃v,cs[o+j]? = some v/\xH (o+j) v:=by
 obtain⟨xs,k,rfl,_,_,hxl,hf⟩:=DataW.trod_array ht h;intro i hi;have g:=hf i hi;rw[xI,yH aj,List.getElem?_eq_getElem aj,Nat.mul_one]at g;exact dW Tryz.underlying3 (hb i hi) g
set_option maxRecDepth 10000 in
theorem Nl{n:Nat}{cs:List Value}{y:DataW H×List MemPlace}(h:DataW.trod enc Tryz.prog w base spare held n 46 cs=some y):cs.length=55/\∀i,i<55->∃v,cs[i]? = some v/\xH i v:=by
 obtain⟨xs,k,rfl,_,hl,hxl,hf⟩:=DataW.trod_struct Tryz.underlying46 h;rw[yG]at hl;refine⟨hl,?_⟩;have ex:∀i,i<27->∃y,xs[i]? = some y:=λi hi=>⟨_,List.getElem?_eq_getElem (by rw[hxl];exact hi)⟩;obtain⟨y0,q0⟩:=ex 0 aH;have g0:DataW.trod enc Tryz.prog w base spare held k 32 ((cs.drop 0).take (Tryz.prog.cellsOf 32))=some y0:=(hf 0 _ rfl).trans q0;rw[Dm]at g0;have r0:=dW (o:=0) Tryz.underlying32 rfl g0;obtain⟨y1,q1⟩:=ex 1 aH;have g1:DataW.trod enc Tryz.prog w base spare held k 33 ((cs.drop 1).take (Tryz.prog.cellsOf 33))=some y1:=(hf 1 _ rfl).trans q1;rw[Bw]at g1;have r1:=dW (o:=1) Tryz.underlying33 rfl g1;obtain⟨y2,q2⟩:=ex 2 aH;have g2:DataW.trod enc Tryz.prog w base spare held k 34 ((cs.drop 2).take (Tryz.prog.cellsOf 34))=some y2:=(hf 2 _ rfl).trans q2;rw[Bv]at g2;have r2:=dW (o:=2) Tryz.underlying34 rfl g2;obtain⟨y3,q3⟩:=ex 3 aH;have g3:DataW.trod enc Tryz.prog w base spare held k 37 ((cs.drop 3).take (Tryz.prog.cellsOf 37))=some y3:=(hf 3 _ rfl).trans q3;rw[jS]at g3;have r3:=iG (o:=3) rfl rfl g3;obtain⟨y4,q4⟩:=ex 4 aH;have g4:DataW.trod enc Tryz.prog w base spare held k 37 ((cs.drop 5).take (Tryz.prog.cellsOf 37))=some y4:=(hf 4 _ rfl).trans q4;rw[jS]at g4;have r4:=iG (o:=5) rfl rfl g4;obtain⟨y5,q5⟩:=ex 5 aH;have g5:DataW.trod enc Tryz.prog w base spare held k 37 ((cs.drop 7).take (Tryz.prog.cellsOf 37))=some y5:=(hf 5 _ rfl).trans q5;rw[jS]at g5;have r5:=iG (o:=7) rfl rfl g5;obtain⟨y6,q6⟩:=ex 6 aH;have g6:DataW.trod enc Tryz.prog w base spare held k 37 ((cs.drop 9).take (Tryz.prog.cellsOf 37))=some y6:=(hf 6 _ rfl).trans q6;rw[jS]at g6;have r6:=iG (o:=9) rfl rfl g6;obtain⟨y7,q7⟩:=ex 7 aH;have g7:DataW.trod enc Tryz.prog w base spare held k 37 ((cs.drop 11).take (Tryz.prog.cellsOf 37))=some y7:=(hf 7 _ rfl).trans q7;rw[jS]at g7;have r7:=iG (o:=11) rfl rfl g7;obtain⟨y8,q8⟩:=ex 8 aH;have g8:DataW.trod enc Tryz.prog w base spare held k 37 ((cs.drop 13).take (Tryz.prog.cellsOf 37))=some y8:=(hf 8 _ rfl).trans q8;rw[jS]at g8;have r8:=iG (o:=13) rfl rfl g8;obtain⟨y9,q9⟩:=ex 9 aH;have g9:DataW.trod enc Tryz.prog w base spare held k 38 ((cs.drop 15).take (Tryz.prog.cellsOf 38))=some y9:=(hf 9 _ rfl).trans q9;rw[Aw]at g9;have r9:=wT (o:=15) aH g9;obtain⟨y10,q10⟩:=ex 10 aH;have g10:DataW.trod enc Tryz.prog w base spare held k 38 ((cs.drop 23).take (Tryz.prog.cellsOf 38))=some y10:=(hf 10 _ rfl).trans q10;rw[Aw]at g10;have r10:=wT (o:=23) aH g10;obtain⟨y11,q11⟩:=ex 11 aH;have g11:DataW.trod enc Tryz.prog w base spare held k 39 ((cs.drop 31).take (Tryz.prog.cellsOf 39))=some y11:=(hf 11 _ rfl).trans q11;rw[PV]at g11;have r11:=qW (o:=31) (m:=4) (sz:=1) Tryz.underlying39 aH g11;obtain⟨y12,q12⟩:=ex 12 aH;have g12:DataW.trod enc Tryz.prog w base spare held k 39 ((cs.drop 35).take (Tryz.prog.cellsOf 39))=some y12:=(hf 12 _ rfl).trans q12;rw[PV]at g12;have r12:=qW (o:=35) (m:=4) (sz:=1) Tryz.underlying39 aH g12;obtain⟨y13,q13⟩:=ex 13 aH;have g13:DataW.trod enc Tryz.prog w base spare held k 3 ((cs.drop 39).take (Tryz.prog.cellsOf 3))=some y13:=(hf 13 _ rfl).trans q13;rw[xI]at g13;have r13:=dW (o:=39) Tryz.underlying3 rfl g13;obtain⟨y14,q14⟩:=ex 14 aH;have g14:DataW.trod enc Tryz.prog w base spare held k 3 ((cs.drop 40).take (Tryz.prog.cellsOf 3))=some y14:=(hf 14 _ rfl).trans q14;rw[xI]at g14;have r14:=dW (o:=40) Tryz.underlying3 rfl g14;obtain⟨y15,q15⟩:=ex 15 aH;have g15:DataW.trod enc Tryz.prog w base spare held k 37 ((cs.drop 41).take (Tryz.prog.cellsOf 37))=some y15:=(hf 15 _ rfl).trans q15;rw[jS]at g15;have r15:=iG (o:=41) rfl rfl g15;obtain⟨y16,q16⟩:=ex 16 aH;have g16:DataW.trod enc Tryz.prog w base spare held k 40 ((cs.drop 43).take (Tryz.prog.cellsOf 40))=some y16:=(hf 16 _ rfl).trans q16;rw[Dn]at g16;have r16:=dW (o:=43) Tryz.underlying40 rfl g16;obtain⟨y17,q17⟩:=ex 17 aH;have g17:DataW.trod enc Tryz.prog w base spare held k 41 ((cs.drop 44).take (Tryz.prog.cellsOf 41))=some y17:=(hf 17 _ rfl).trans q17;rw[Ir]at g17;have r17:=dW (o:=44) Tryz.underlying41 rfl g17;obtain⟨y18,q18⟩:=ex 18 aH;have g18:DataW.trod enc Tryz.prog w base spare held k 4 ((cs.drop 45).take (Tryz.prog.cellsOf 4))=some y18:=(hf 18 _ rfl).trans q18;rw[Ci]at g18;have r18:=pQ (o:=45) rfl g18;obtain⟨y19,q19⟩:=ex 19 aH;have g19:DataW.trod enc Tryz.prog w base spare held k 3 ((cs.drop 46).take (Tryz.prog.cellsOf 3))=some y19:=(hf 19 _ rfl).trans q19;rw[xI]at g19;have r19:=dW (o:=46) Tryz.underlying3 rfl g19;obtain⟨y20,q20⟩:=ex 20 aH;have g20:DataW.trod enc Tryz.prog w base spare held k 4 ((cs.drop 47).take (Tryz.prog.cellsOf 4))=some y20:=(hf 20 _ rfl).trans q20;rw[Ci]at g20;have r20:=pQ (o:=47) rfl g20;obtain⟨y21,q21⟩:=ex 21 aH;have g21:DataW.trod enc Tryz.prog w base spare held k 3 ((cs.drop 48).take (Tryz.prog.cellsOf 3))=some y21:=(hf 21 _ rfl).trans q21;rw[xI]at g21;have r21:=dW (o:=48) Tryz.underlying3 rfl g21;obtain⟨y22,q22⟩:=ex 22 aH;have g22:DataW.trod enc Tryz.prog w base spare held k 42 ((cs.drop 49).take (Tryz.prog.cellsOf 42))=some y22:=(hf 22 _ rfl).trans q22;rw[Bz]at g22;have r22:=dW (o:=49) Tryz.underlying42 rfl g22;obtain⟨y23,q23⟩:=ex 23 aH;have g23:DataW.trod enc Tryz.prog w base spare held k 43 ((cs.drop 50).take (Tryz.prog.cellsOf 43))=some y23:=(hf 23 _ rfl).trans q23;rw[zN]at g23;have r23:=dW (o:=50) Tryz.underlying43 rfl g23;obtain⟨y24,q24⟩:=ex 24 aH;have g24:DataW.trod enc Tryz.prog w base spare held k 4 ((cs.drop 51).take (Tryz.prog.cellsOf 4))=some y24:=(hf 24 _ rfl).trans q24;rw[Ci]at g24;have r24:=pQ (o:=51) rfl g24;obtain⟨y25,q25⟩:=ex 25 aH;have g25:DataW.trod enc Tryz.prog w base spare held k 4 ((cs.drop 52).take (Tryz.prog.cellsOf 4))=some y25:=(hf 25 _ rfl).trans q25;rw[Ci]at g25;have r25:=pQ (o:=52) rfl g25;obtain⟨y26,q26⟩:=ex 26 aH;have g26:DataW.trod enc Tryz.prog w base spare held k 44 ((cs.drop 53).take (Tryz.prog.cellsOf 44))=some y26:=(hf 26 _ rfl).trans q26;rw[ZC]at g26;have r26:=qW (o:=53) (m:=2) (sz:=1) Tryz.underlying44 aH g26;intro i hi
 match i,hi with
 | 0,_=>exact r0
 | 1,_=>exact r1
 | 2,_=>exact r2
 | 3,_=>exact r3.1
 | 4,_=>exact r3.2
 | 5,_=>exact r4.1
 | 6,_=>exact r4.2
 | 7,_=>exact r5.1
 | 8,_=>exact r5.2
 | 9,_=>exact r6.1
 | 10,_=>exact r6.2
 | 11,_=>exact r7.1
 | 12,_=>exact r7.2
 | 13,_=>exact r8.1
 | 14,_=>exact r8.2
 | 15,_=>exact r9 0 aH
 | 16,_=>exact r9 1 aH
 | 17,_=>exact r9 2 aH
 | 18,_=>exact r9 3 aH
 | 19,_=>exact r9 4 aH
 | 20,_=>exact r9 5 aH
 | 21,_=>exact r9 6 aH
 | 22,_=>exact r9 7 aH
 | 23,_=>exact r10 0 aH
 | 24,_=>exact r10 1 aH
 | 25,_=>exact r10 2 aH
 | 26,_=>exact r10 3 aH
 | 27,_=>exact r10 4 aH
 | 28,_=>exact r10 5 aH
 | 29,_=>exact r10 6 aH
 | 30,_=>exact r10 7 aH
 | 31,_=>exact r11 0 aH
 | 32,_=>exact r11 1 aH
 | 33,_=>exact r11 2 aH
 | 34,_=>exact r11 3 aH
 | 35,_=>exact r12 0 aH
 | 36,_=>exact r12 1 aH
 | 37,_=>exact r12 2 aH
 | 38,_=>exact r12 3 aH
 | 39,_=>exact r13
 | 40,_=>exact r14
 | 41,_=>exact r15.1
 | 42,_=>exact r15.2
 | 43,_=>exact r16
 | 44,_=>exact r17
 | 45,_=>exact r18
 | 46,_=>exact r19
 | 47,_=>exact r20
 | 48,_=>exact r21
 | 49,_=>exact r22
 | 50,_=>exact r23
 | 51,_=>exact r24
 | 52,_=>exact r25
 | 53,_=>exact r26 0 aH
 | 54,_=>exact r26 1 aH
 | n+55,h=>exact absurd h aj
theorem Nn{cs:Array Value}{d:DataW H}{p:List MemPlace}(h:DataW.Trod enc Tryz.prog w base spare held 46 (.agg cs) d p):∃s:Re.St,Value.agg cs=.agg (cells s)/\Fits s:=by
 obtain⟨fuel,hf⟩:=h;obtain⟨hl,hc⟩:=Nl hf;simp only[Value.cells]at hl hc;refine⟨⟨λi=>match cs[i]? with|some (.int _ n)=>n | _=>0,λi=>match cs[i]? with|some (.bool b)=>b | _=>false⟩,?_,?_⟩
 . congr 1
   apply Array.ext_getElem?;intro i;by_cases hi:i<55
   . obtain⟨v,hv,ok⟩:=hc i hi
     rw[Array.getElem?_toList]at hv;rw[iC _ hi,hv];unfold xH at ok;unfold cell;by_cases hb:Re.sO i=true
     . rw[if_pos hb]at ok ⊢
       obtain⟨b,rfl⟩:=ok;simp[hv]
     . rw[if_neg hb]at ok ⊢
       obtain⟨b,rfl,_⟩:=ok;simp[hv]
   . rw[Array.getElem?_eq_none (by rw[<-Array.length_toList,hl];omega),Array.getElem?_eq_none Z55]
 . intro i hi hb
   obtain⟨v,hv,ok⟩:=hc i hi;rw[Array.getElem?_toList]at hv;unfold xH at ok;rw[if_neg (by simp[hb])]at ok;obtain⟨n,rfl,hw⟩:=ok;simp only[hv];exact hw
end
end Go.Proofs.YtmidaiklolmkcaaGreat.Fix
namespace Go.Proofs.YtmidaiklolmkcaaGreat.Fix
open Go.ChangeShapes Go.WideShapes Go.ChangeAt Go.RowKit
theorem wpList_append_run{P:Program}{w w':World}{ops:Array Oper}{rest:List Oper}{o:Oper}{a:Act}{Q:Exit->Act->World->Prop}(hw:Region.wanted o (yielded ops a.tmps)=true)(s x:Operand)(t:TypeId)
  (ho:o.op=.call { callee:=.builtin .append,args:=#[s,x],argTypes:=#[t,t] }) {v u v':Value} (hs:a.eval s=v) (hx:a.eval x=u)
  (hrun:(Builtin.append_ #[t,t] o.type #[v,u]).run P w=.ok v' w') (h:wpList P ops Q rest (a.put o.dst v') w'):wpList P ops Q (o::rest) a w:=by
 unfold wpList;rw[if_pos hw];refine .inl ?_;unfold Oper.wp execOp;simp only[ho,resolve,invoke,builtin,Sem.run_bind,Sem.run_pure,Result.andThen_ok,List.map_toArray,List.map_cons,List.map_nil,hs,hx,hrun];exact h
def Ints(w:World)(A:Option Addr)(zs:List Int):Prop :=
 zs.length<=maxLen/\(0<zs.length->∃b off,A=some ⟨b,off,none⟩/\∀k,k<zs.length->w.cell? ⟨b,off+k,none⟩=some (.int .i64 (zs.getD k 0)))
theorem eO(zs:List Int)(k:Nat)(h:k<zs.length):zs.take (k+1)=zs.take k++[zs.getD k 0]:=by
 rw[List.take_succ_eq_append_getElem h];simp[List.getElem?_eq_getElem h]
theorem Kg(w:World)(l:List Int)(T:TypeId)(hl:l.length<=1000):Ints (w.alloc (.cells (l.map (Value.int .i64)).toArray T)) (some ⟨w.heap.size,0,none⟩) l:=by
 refine⟨by unfold maxLen;omega,λ_=>⟨w.heap.size,0,rfl,λk hk => ?_⟩⟩;rw[cell_of_row _ w.heap.size (0+k) _ T (0,0) (heap_alloc_new w _)];simp[hk]
theorem Ints.keep{w w':World}{B:Nat}{A:Option Addr}{zs:List Int}(h:Ints w A zs)(hb:Below B w w')(hA:0<zs.length->∀a,A=some a->a.block<B):Ints w' A zs:=by
 refine⟨h.1,λh0 => ?_⟩;obtain⟨b,off,rfl,hc⟩:=h.2 h0;exact⟨b,off,rfl,λk hk=>(hb.cell (p:=⟨b,off+k,none⟩) (show b<B from hA h0 ⟨b,off,none⟩ rfl)).trans (hc k hk)⟩
theorem vg{w:World}{base:Nat}{e:TypeId}{v:Value}{n:Nat}{l:List Int}(h:w.ownsRow base e 1 v n (l.map (Value.int .i64)))(hm:n<=maxLen) :
  ∃A c,v=.slice A l.length c/\Ints w A l:=by
 have hl:l.length=n:=by simpa using h.1
 subst hl;rcases h.2 with⟨rfl,h0⟩|⟨g,cap,cur,rfl,_,_⟩
 . exact⟨none,0,by rw[h0],hm,λh=>absurd h aj⟩
 . refine⟨_,_,rfl,hm,λh0=>⟨g,0,rfl,λk hk => ?_⟩⟩
   have:=h.cells (g:=g) rfl k (.int .i64 (l.getD k 0)) (by simp[List.getElem?_eq_getElem hk]);have e:(⟨g,0,none⟩:Addr).add k=⟨g,0+k,none⟩:=by
    unfold Addr.add;split
    . subst k;rfl
    . rfl
   rw[e]at this;exact this
theorem yI(A:Option Addr)(zs:List Int)(n c:Nat)(w:World)(h:Ints w A zs)(hn:zs.length=n) :
  Calls Tryz.prog 127 #[.slice A n c] w λe w'=>e=.returned (.int .i64 (Fx.coll zs))/\w=w':=by
 obtain⟨hm,h⟩:=h;unfold maxLen at hm;rw[hn]at hm h;have HN:=ah hn;clear hn;have HA:=ah h;clear h;go_enter Tryz.func127,Tryz.ntmps127
 go_wp2
 go_loop [3,4,9] (λg s i=>∃k:Nat,k<=n/\i=.int .i64 k/\g=.int .i64 (Fx.top (zs.take k))/\s=.int .i64 (Fx.bot (zs.take k))) (λ_ _ i=>n-(intOf i).toNat)
 case atStart=>exact⟨0,by omega,rfl,rfl,rfl⟩
 case round =>
  obtain⟨k,hk,rfl,rfl,rfl⟩:=hrel;by_cases hlt:k<n
  . obtain⟨b,off,rfl,hc⟩:=HA.out aj
    have hcell:=hc k hlt;clear hc;have hs:Hid (max (Fx.top (zs.take k)) (zs.getD k 0)=Fx.top (zs.take (k+1))):=ah (by rw[eO zs k Tt,Fx.Un]);have ht:Hid (min (Fx.bot (zs.take k)) (zs.getD k 0)=Fx.bot (zs.take (k+1))):=ah (by rw[eO zs k Tt,Fx.Uo]);clear HA;generalize zs.getD k 0=z at *;go_wp2
    go_round
    case rel=>exact⟨k+1,by omega,by go_num,by rw[hs.out],by rw[ht.out]⟩
    case measure=>simp[intOf];omega
  . go_wp2_with (first|(go_at_call 125;with_reducible refine wR (pO _ _ _) ?_))
    go_ret
    exact⟨bO (by rw[List.take_of_length_le (by rw[HN.out];omega)];rfl),rfl⟩
theorem Kh(A:Option Addr)(zs:List Int)(n c:Nat)(w:World)(h:Ints w A zs)(hn:zs.length=n) :
  Calls Tryz.prog 88 #[.slice A n c] w λe w'=>e=.returned (.int .i64 (Fx.coll zs))/\w=w':=by
 have S1:=yI A zs n c w h hn;go_enter Tryz.func88,Tryz.ntmps88
 go_wp2_with fail
 refine S1.mono ?_;rintro e w' ⟨rfl,rfl⟩;go_wp2;exact EL
theorem UK(w:World)(a b:Int)(T:TypeId):Ints (w.alloc (.cells #[.int .i64 a,.int .i64 b] T)) (some ⟨w.heap.size,0,none⟩) [a,b]:=Kg w [a,b] T eZ
theorem UL(a b:Int)(w:World):Calls Tryz.prog 128 #[.int .i64 a,.int .i64 b] w λe w'=>e=.returned (.int .i64 (Fx.coll [a,b]))/\Below w.heap.size w w':=by
 go_enter Tryz.func128,Tryz.ntmps128
 go_wp2_with (go_at_call 127;refine(yI _ [a,b] 2 2 _ (UK _ _ _ _) rfl).mono ?_;rintro e w' ⟨rfl,rfl⟩)
 go_ret
 exact⟨rfl,Below.alloc' aF _⟩
theorem Q9(n:Int)(a b:Bool)(w:World)(h1 : -1099511627776<=n)(h2:n<=1099511627776):Calls Tryz.prog 126 #[.int .i64 n,.bool a,.bool b] w λe w'=>e=.returned (.tuple #[.int .i64 (Fx.shA n a b),.int .i64 (Fx.shB n a b)])/\w=w':=by
 by_cases h:n<=0
 . go_enter Tryz.func126,Tryz.ntmps126
   go_wp2_with (first|(go_at_call 124;with_reducible refine wR (vW _ _ _) ?_))
   go_ret2
   exact⟨Il (by unfold Fx.shA;rw[if_pos aj]) (by unfold Fx.shB;rw[if_pos aj]),rfl⟩
 . cases a<;>cases b
   all_goals
    go_enter Tryz.func126,Tryz.ntmps126
    go_wp2_with (first|(go_at_call 124;with_reducible refine wR (vW _ _ _) ?_))
    go_ret2
    exact⟨Il (by unfold Fx.shA;rw[if_neg aj];rfl) (by unfold Fx.shB;rw[if_neg aj];rfl),rfl⟩
theorem UM(room size bk bn ek en base:Int)(w:World):Calls Tryz.prog 87 #[.int .i64 room,.int .i64 size,.agg #[.int .i64 bk,.int .i64 bn],.agg #[.int .i64 ek,.int .i64 en],.int .i64 base] w λe w'=>e=.returned (.tuple #[.int .i64 (Fx.PD room size (Fx.len bk bn base 0) (Fx.len ek en base 0) (Fx.jg bk base) (Fx.jg ek base)),.int .i64 (Fx.aee room size (Fx.len bk bn base 0) (Fx.len ek en base 0) (Fx.jg bk base) (Fx.jg ek base))])/\Below w.heap.size w w':=by
 go_enter Tryz.func87,Tryz.ntmps87
 go_upto_region 1 with(fail)
 (generalize hW:World.alloc (World.alloc w _) _=W0;have A0:At W0 (w.heap.size) (.cells #[.int .i64 bk,.int .i64 bn] 37):=Z57;have A1:At W0 (w.heap.size+1) (.cells #[.int .i64 ek,.int .i64 en] 37):=(by((rw[<-hW])<;>exact At.new' _ EM));have hB:Below w.heap.size w W0:=(by((rw[<-hW])<;>exact Below.alloc' (Below.alloc' aF _) _));clear hW;obtain⟨l0,aB,aC⟩:=At.two A0;obtain⟨l1,aP,aQ⟩:=At.two A1)
 refine xW ?_
 (repeat (first|refine nW ?_ | refine nX ?_ (hc:=by intro w2 hS;first|with_reducible exact nR hS (nI _ _ _ _ _))|refine nY ?_))
 refine ak.cK ?_;intro w2 hS
 (clear l0 aB aC l1 aP aQ);(replace hB:=Below.ay zn aD hS);replace A0:=At.keep BX hS;replace A1:=At.keep zD hS;clear hS;obtain⟨l0,aB,aC⟩:=At.two A0;obtain⟨l1,aP,aQ⟩:=At.two A1
 go_upto_region 3 with(first|(go_at_call 124;with_reducible refine wR (vW _ _ _) ?_)|(go_at_call 125;with_reducible refine wR (pO _ _ _) ?_))
 refine xW ?_
 (repeat (first|refine nW ?_ | refine nX ?_ (hc:=by intro w2 hS;first|with_reducible exact nR hS (rJ _ _ _ _)|with_reducible exact J9 hS (Q9 _ _ _ _ (Fx.ab6 _ _) (Fx.sub_le _ _)))|refine nY ?_))
 refine ak.cK ?_;intro w2 hS
 (clear l0 aB aC l1 aP aQ);(replace hB:=Below.ay zn aD hS);replace A0:=At.keep BX hS;replace A1:=At.keep zD hS;clear hS;obtain⟨l0,aB,aC⟩:=At.two A0;obtain⟨l1,aP,aQ⟩:=At.two A1
 go_wp2_with (first|(go_at_call 125;with_reducible refine wR (pO _ _ _) ?_))
 go_ret2
 exact⟨rfl,hB⟩
end Go.Proofs.YtmidaiklolmkcaaGreat.Fix
