/- Proved here: what functions of the program do, in plain numbers (part 4); no conditions but those in sight. -/
import Derived.Test.YtcbcfdihofclkaaGreatRows
import Derived.WalkKit
import Derived.ProofKit
import Derived.OpenShut
import Derived.Lib.Hide
import Derived.WalkLawsBesides
import Derived.Below
import Derived.Deep.QuietTactic
import Derived.Orders
import Derived.Deep.Cut
import Derived.BigQuiet
import Derived.WalkMore
import Derived.Test.YtcbcfdihofclkaaGreatQK
import Derived.Test.YtcbcfdihofclkaaGreatQ01
set_option linter.unusedVariables false
set_option linter.unusedSimpArgs false
set_option linter.unusedSectionVars false
set_option maxRecDepth 100000
namespace Go.Proofs.YtcbcfdihofclkaaGreat.Fix
open Go.ChangeShapes Go.WideShapes Go.ChangeAt Go.RowKit
theorem bI{k:IntKind}{a b:Int}(h:a=b):Ending.returned (.int k a)=.returned (.int k b):=by rw[h]
theorem fF(n:Int)(w:World):Calls Tryz.prog 102 #[.int .i64 n] w λe w'=>e=.returned (.int .i64 (Fx.cut n))/\w=w':=by
 go_enter Tryz.func102,Tryz.ntmps102
 go_wp2
 all_goals
  go_ret
  exact⟨bI (by unfold Fx.cut;repeat' split<;>(try split at *)<;>omega),rfl⟩
theorem pz(a b:Int)(w:World):Calls Tryz.prog 109 #[.int .i64 a,.int .i64 b] w λe w'=>e=.returned (.int .i64 (Fx.add a b))/\w=w':=by
 have ha:=Fx.mJ a;have ha':=Fx.mK a;have hb:=Fx.mJ b;have hb':=Fx.mK b;go_enter Tryz.func109,Tryz.ntmps109
 go_wp2_with (go_at_call 102;refine(fF _ _).mono ?_;rintro e w' ⟨rfl,rfl⟩)
 exact Eu
theorem vV(a b:Int)(w:World):Calls Tryz.prog 93 #[.int .i64 a,.int .i64 b] w λe w'=>e=.returned (.int .i64 (Fx.sub a b))/\w=w':=by
 have ha:=Fx.mJ a;have ha':=Fx.mK a;have hb:=Fx.mJ b;have hb':=Fx.mK b;go_enter Tryz.func93,Tryz.ntmps93
 go_wp2_with (go_at_call 102;refine(fF _ _).mono ?_;rintro e w' ⟨rfl,rfl⟩)
 exact Eu
theorem JK(a b:Int)(w:World)(h1:1<=b)(h2:b<=1099511627776)(h3 : -1152921504606846976<=a)(h4:a<=1152921504606846976) :
  Calls Tryz.prog 282 #[.int .i64 a,.int .i64 b] w λe w'=>e=.returned (.int .i64 (a/b))/\w=w':=by
 have g1:=Fx.X4 h1 h3;have g2:=Fx.tdiv_le h1 h4;go_enter Tryz.func282,Tryz.ntmps282
 go_wp2
 . have h:a.tmod b<0:=by assumption
   go_ret
   exact⟨bI (Fx.zo h1 h),rfl⟩
 . have h:0<=a.tmod b:=by assumption
   go_ret
   exact⟨bI (Fx.zq h1 h),rfl⟩
theorem OX(a b:Int)(w:World):Calls Tryz.prog 281 #[.int .i64 a,.int .i64 b] w λe w'=>e=.returned (.int .i64 (Fx.div a b))/\w=w':=by
 have ha:=Fx.mJ a;have ha':=Fx.mK a;have hb:=Fx.mJ b;by_cases h:b<=0
 . have h0:Fx.cut b<=0:=by unfold Fx.cut;repeat' split<;>omega
   have hr:Fx.div a b=0:=by unfold Fx.div;rw[if_pos h]
   have Hr:=Lib.hid hr;clear hr;go_enter Tryz.func281,Tryz.ntmps281
   go_wp2_with (go_at_call 102;refine(fF _ _).mono ?_;rintro e w' ⟨rfl,rfl⟩)
   go_ret
   exact⟨bI Hr.out.symm,rfl⟩
 . have h0:1<=Fx.cut b:=Fx.XZ ak
   have hr:Fx.div a b=Fx.cut a/Fx.cut b:=by unfold Fx.div;rw[if_neg h]
   have Hr:=Lib.hid hr;clear hr;go_enter Tryz.func281,Tryz.ntmps281
   go_wp2_with (first|(go_at_call 102;refine(fF _ _).mono ?_;rintro e w' ⟨rfl,rfl⟩)|(go_at_call 282;refine(JK _ _ _ ak ak ak ak).mono ?_;rintro e w' ⟨rfl,rfl⟩))
   go_ret
   exact⟨bI Hr.out.symm,rfl⟩
theorem rP(n lo hi:Int)(w:World):Calls Tryz.prog 101 #[.int .i64 n,.int .i64 lo,.int .i64 hi] w λe w'=>e=.returned (.int .i64 (Fx.clamp n lo hi))/\w=w':=by
 go_enter Tryz.func101,Tryz.ntmps101
 go_wp2_with (go_at_call 102;refine(fF _ _).mono ?_;rintro e w' ⟨rfl,rfl⟩)
 all_goals
  go_ret
  exact⟨bI (by unfold Fx.clamp;repeat' split<;>(try split at *)<;>omega),rfl⟩
theorem Tj(a n:Int)(w:World):Calls Tryz.prog 241 #[.int .i64 a,.int .i64 n] w λe w'=>e=.returned (.int .i64 (Fx.part a n))/\w=w':=by
 have hb:=Fx.BM a n;obtain⟨hb1,hb2⟩:=hb;have hp:=Fx.JA n;have HP:=Lib.hid hp;clear hp;go_enter Tryz.func241,Tryz.ntmps241
 go_wp2_with (first|(go_at_call 101;refine(rP _ _ _ _).mono ?_;rw[HP.out];rintro e w' ⟨rfl,rfl⟩)|(go_at_call 282;refine(JK _ _ _ ak ak ak ak).mono ?_;rintro e w' ⟨rfl,rfl⟩)|(go_at_call 102;refine(fF _ _).mono ?_;rintro e w' ⟨rfl,rfl⟩))
 exact Eu
theorem TY(a:Int)(w:World)(h1 : -1099511627776<=a)(h2:a<=1099511627776) :
  Calls Tryz.prog 313 #[.int .i64 a] w λe w'=>e=.returned (.int .u64 (Fx.SE a))/\w=w':=by
 go_enter Tryz.func313,Tryz.ntmps313
 go_wp2
 all_goals
  go_ret
  exact⟨bI (by unfold Fx.SE;repeat' split<;>omega),rfl⟩
theorem Ua(x y:Int)(hx:0<=x)(hy:0<=y)(hy2:y<4294967296):bits .or .u64 (IntKind.u64.wrap (x*4294967296)) y=x%4294967296*4294967296+y:=by
 obtain⟨X,hX⟩:=Int.eq_ofNat_of_zero_le (show 0<=x%4294967296 by omega);obtain⟨Y,rfl⟩:=Int.eq_ofNat_of_zero_le hy;have e:IntKind.u64.wrap (x*4294967296)=((X*4294967296:Nat):Int):=by rw[IntKind.wrap_u64];omega
 rw[e,u64_or_nat _ _ ak ak,Fx.abn _ _ ak,hX];omega
theorem Hw{k:IntKind}{a b c d:Int}(h:a=c)(h2:b=d):Ending.returned (.tuple #[.int k a,.int k b])=.returned (.tuple #[.int k c,.int k d]):=by rw[h,h2]
theorem JL(a b:Int)(w:World)(h1:0<=a)(h2:a<=1099511627776)(h3:0<=b)(h4:b<=1099511627776) :
  Calls Tryz.prog 312 #[.int .u64 a,.int .u64 b] w λe w'=>e=.returned (.tuple #[.int .u64 (a*b/18446744073709551616),.int .u64 (a*b%18446744073709551616)])/\w=w':=by
 have e:=Fx.halves a b;have b1:=Fx.zu (x:=a/4294967296) (y:=b/4294967296) (c:=256) (d:=256) ak ak ak ak;have b2:=Fx.zu (x:=a/4294967296) (y:=b%4294967296) (c:=256) (d:=4294967295) ak ak ak ak;have b3:=Fx.zu (x:=a%4294967296) (y:=b/4294967296) (c:=4294967295) (d:=256) ak ak ak ak;have b4:=Fx.zu (x:=a%4294967296) (y:=b%4294967296) (c:=4294967295) (d:=4294967295) ak ak ak ak;have E:=Lib.hid e;clear e;obtain⟨l1,u1⟩:=b1;obtain⟨l2,u2⟩:=b2;obtain⟨l3,u3⟩:=b3;obtain⟨l4,u4⟩:=b4;go_enter Tryz.func312,Tryz.ntmps312
 go_wp2
 go_ret2
 refine⟨Hw ?_ ?_,rfl⟩
 . rw[E.out];omega
 . rw[Ua _ _ ak ak ak,E.out];omega
theorem Yo(a b:Int)(w:World):Calls Tryz.prog 304 #[.int .i64 a,.int .i64 b] w λe w'=>e=.returned (.int .i64 (Fx.mul a b))/\w=w':=by
 have ha:=Fx.mJ a;have ha':=Fx.mK a;have hb:=Fx.mJ b;have hb':=Fx.mK b;obtain⟨s1,s2⟩:=Fx.Tw a;obtain⟨s3,s4⟩:=Fx.Tw b;have hp:=Int.mul_nonneg s1 s3;have hm:=Fx.X5 a b;have HM:=Lib.hid hm;clear hm;go_enter Tryz.func304,Tryz.ntmps304
 go_wp2_with (first|(go_at_call 102;refine(fF _ _).mono ?_;rintro e w' ⟨rfl,rfl⟩)|(go_at_call 313;refine(TY _ _ ak ak).mono ?_;rintro e w' ⟨rfl,rfl⟩)|(go_at_call 312;refine(JL _ _ _ ak ak ak ak).mono ?_;rintro e w' ⟨rfl,rfl⟩))
 all_goals
  go_ret
  refine⟨bI ?_,rfl⟩;rw[HM.out]
  first
   | rw[show(!(decide (Fx.cut a<0)==decide (Fx.cut b<0)))=true from by assumption,cond_true]
   | rw[show(!(decide (Fx.cut a<0)==decide (Fx.cut b<0)))=false from by assumption,cond_false]
  unfold Fx.cut at *;generalize Fx.SE _*Fx.SE _=p at *
  repeat' split<;>omega
end Go.Proofs.YtcbcfdihofclkaaGreat.Fix
namespace Go.Proofs.YtcbcfdihofclkaaGreat.Fix
open Go.RowKit
theorem kP{W w1:World}(hb:Below W.heap.size W w1):(∀b o,b<W.heap.size->w1.cell? ⟨b,o,none⟩=W.cell? ⟨b,o,none⟩)/\(∀b o,b<W.heap.size->w1.frozen? ⟨b,o,none⟩=W.frozen? ⟨b,o,none⟩) :=
 ⟨λb o h=>hb.cell (p:=⟨b,o,none⟩) h,λb o h=>hb.frozen (p:=⟨b,o,none⟩) h⟩
theorem Below.alloc'{w a:World}(h:Below w.heap.size w a)(o:Obj):Below w.heap.size w (a.alloc o):=h.alloc h.size o
theorem Below.ay{N:Nat}{W0 W w1:World}(h0:Below N W0 W)(hN:N<=W0.heap.size)(hb:Below W.heap.size W w1):Below N W0 w1:=h0.trans (hb.mono (aC hN h0.size))
theorem Below.drewN{N:Nat}{w a:World}(h:Below N w a)(n:Nat):Below N w (a.drewN n):=⟨h.os,h.tape,h.output,h.size,h.block⟩
theorem Below.after{W0 W w1:World}(h0:Below W0.heap.size W0 W)(hb:Below W.heap.size W w1):Below W0.heap.size W0 w1:=h0.trans (hb.mono h0.size)
theorem fM{a b:Bool}(h:a=b):Ending.returned (.bool a)=.returned (.bool b):=by rw[h]
def At(W:World)(b:Nat)(o:Obj):Prop:=W.heap[b]? = some o
theorem At.lt{W:World}{b:Nat}{o:Obj}(h:At W b o):b<W.heap.size:=(Array.getElem?_eq_some_iff.1 h).1
theorem At.new(W:World)(o:Obj):At (W.alloc o) W.heap.size o:=by
 show(W.heap.push o)[W.heap.size]? = some o;simp
theorem At.new'{W:World}{b:Nat}(o:Obj)(h:b=W.heap.size):At (W.alloc o) b o:=h▸At.new W o
theorem At.alloc{W:World}{b:Nat}{o:Obj}(h:At W b o)(o':Obj):At (W.alloc o') b o:=by
 show(W.alloc o').heap[b]? = some o;rw[Below.heap_alloc W o' b h.lt];exact h
theorem At.keep{W W':World}{b:Nat}{o:Obj}(h:At W b o)(hb:Below W.heap.size W W'):At W' b o:=(hb.block b h.lt).trans h
theorem At.cell{W:World}{b:Nat}{vs:Array Value}{T:TypeId}(h:At W b (.cells vs T))(i:Nat):W.cell? ⟨b,i,none⟩=vs[i]? := by
 unfold At at h;simp[World.cell?,h]
theorem At.thaw{W:World}{b:Nat}{vs:Array Value}{T:TypeId}(h:At W b (.cells vs T))(i:Nat):W.frozen? ⟨b,i,none⟩=false:=by
 unfold At at h;simp[World.frozen?,h]
theorem At.off{W:World}{b n:Nat}{o:Obj}(h:At W b o)(hne:b≠n)(i:Nat)(x:Value):At (W.setCell ⟨n,i,none⟩ x) b o:=by
 have e:(W.setCell ⟨n,i,none⟩ x).heap[b]? = W.heap[b]? := Below.heap_setCell W ⟨n,i,none⟩ x b hne;exact e.trans h
theorem At.set{W:World}{b:Nat}{vs:Array Value}{T:TypeId}(h:At W b (.cells vs T))(i:Nat)(x:Value):At (W.setCell ⟨b,i,none⟩ x) b (.cells (vs.setIfInBounds i x) T):=by
 unfold At at *;obtain⟨hlt,he⟩:=Array.getElem?_eq_some_iff.1 h;simp[World.setCell,hlt,Array.getElem_modify,he]
theorem At.Tf{W:World}{b:Nat}{x y z u:Value}{T:TypeId}(h:At W b (.cells #[x,y,z,u] T))(x' y' z' u':Value) :
 At ((((W.setCell ⟨b,0,none⟩ x').setCell ⟨b,1,none⟩ y').setCell ⟨b,2,none⟩ z').setCell ⟨b,3,none⟩ u') b (.cells #[x',y',z',u'] T):=(((h.set 0 x').set 1 y').set 2 z').set 3 u'
theorem At.Qk{W:World}{b:Nat}{x y:Value}{T:TypeId}(h:At W b (.cells #[x,y] T))(x' y':Value) :
 At ((W.setCell ⟨b,0,none⟩ x').setCell ⟨b,1,none⟩ y') b (.cells #[x',y'] T):=(h.set 0 x').set 1 y'
theorem At.one{W:World}{b:Nat}{x:Value}{T:TypeId}(h:At W b (.cells #[x] T)):b<W.heap.size/\W.cell? ⟨b,0,none⟩=some x:=⟨h.lt,h.cell 0⟩
theorem At.two{W:World}{b:Nat}{x y:Value}{T:TypeId}(h:At W b (.cells #[x,y] T)):b<W.heap.size/\W.cell? ⟨b,0,none⟩=some x/\W.cell? ⟨b,1,none⟩=some y:=⟨h.lt,h.cell 0,h.cell 1⟩
theorem At.three{W:World}{b:Nat}{x y z:Value}{T:TypeId}(h:At W b (.cells #[x,y,z] T)):b<W.heap.size/\W.cell? ⟨b,0,none⟩=some x/\W.cell? ⟨b,1,none⟩=some y/\W.cell? ⟨b,2,none⟩=some z:=⟨h.lt,h.cell 0,h.cell 1,h.cell 2⟩
theorem At.four{W:World}{b:Nat}{x y z u:Value}{T:TypeId}(h:At W b (.cells #[x,y,z,u] T)):b<W.heap.size/\W.cell? ⟨b,0,none⟩=some x/\W.cell? ⟨b,1,none⟩=some y/\W.cell? ⟨b,2,none⟩=some z/\W.cell? ⟨b,3,none⟩=some u:=⟨h.lt,h.cell 0,h.cell 1,h.cell 2,h.cell 3⟩
theorem At.eight{W:World}{b:Nat}{x y z u x' y' z' u':Value}{T:TypeId}(h:At W b (.cells #[x,y,z,u,x',y',z',u'] T)):b<W.heap.size/\W.cell? ⟨b,0,none⟩=some x/\W.cell? ⟨b,1,none⟩=some y/\W.cell? ⟨b,2,none⟩=some z/\W.cell? ⟨b,3,none⟩=some u/\W.cell? ⟨b,4,none⟩=some x'/\W.cell? ⟨b,5,none⟩=some y'/\W.cell? ⟨b,6,none⟩=some z'/\W.cell? ⟨b,7,none⟩=some u':=⟨h.lt,h.cell 0,h.cell 1,h.cell 2,h.cell 3,h.cell 4,h.cell 5,h.cell 6,h.cell 7⟩
end Go.Proofs.YtcbcfdihofclkaaGreat.Fix
namespace Go.Proofs.YtcbcfdihofclkaaGreat.aj
open Go
section
variable {P:Program} {ops:Array Oper} {Q:Exit->Act->World->Prop} {md:Region.Mode} {S:World->Prop}
def Ends(P:Program)(S:World->Prop)(v:Value):Result Next->Prop
 | .ok (.value u) w'=>u=v/\S w'
 | .ok (.enter f args) w'=>Calls P f args w' λe w''=>e=.returned v/\S w''
 | _=>False
def Xr(P:Program)(ops:Array Oper)(S:World->Prop)(o:Oper)(v:Value)(a:Act):Prop :=
 (Region.wanted o (yielded ops a.tmps)=true/\∀w,S w->Ends P S v ((execOp a.eval o).run P w)) \/
 (Region.wanted o (yielded ops a.tmps)=false/\v=undef)
theorem Xr.of_same{o:Oper}{v:Value}{a a':Act}(hy:Xr P ops S o v a)(he:execOp a'.eval o=execOp a.eval o)
  (hw:Region.wanted o (yielded ops a'.tmps)=Region.wanted o (yielded ops a.tmps)):Xr P ops S o v a':=by
 unfold Xr at *;rw[he,hw];exact hy
theorem Xr.wpOp{i:Nat}{o:Oper}{v:Value}{a:Act}(hi:ops[i]? = some o)(hy:Xr P ops S o v a)
  {K:Act->World->Prop} {w:World} (hS:S w) (h:∀w',S w'->K (a.put o.dst v) w'):wpOp P ops Q i K a w:=by
 unfold Go.wpOp;simp only[hi];rcases hy with⟨hw,hv⟩|⟨hw,rfl⟩
 . simp only[hw,if_true]
   refine .inl ?_;unfold Oper.wp;have h1:=hv w hS;generalize (execOp a.eval o).run P w=r at *;cases r with
   | ok n w' =>
     cases n<;>simp only[Ends]at h1<;>simp only[Oper.upon]
     case value u=>obtain⟨rfl,hs⟩:=h1;exact h _ hs
     case enter f args=>exact Calls.mono h1 λe w'' ⟨he,hs⟩=>by subst he;exact h _ hs
   | halt x w'=>exact h1.elim
 . simp only[hw,Bool.false_eq_true,if_false];exact h _ hS
def kV(P:Program)(md:Region.Mode)(ops:Array Oper)(S:World->Prop)(m:Nat)(B:Array Bool->Act->Prop):Nat->Array Bool->Act->Prop
 | 0,listed,a=>(∀k,k<m->listed.getD k true=true)/\B listed a
 | fuel+1,listed,a =>
   Region.ready md ops listed≠[] /\
   ∀i∈Region.ready md ops listed,∃o v,ops[i]? = some o/\Xr P ops S o v a/\kV P md ops S m B fuel (listed.setIfInBounds i true) (a.put o.dst v)
theorem kV.any{m tf:Nat}:∀(fuel:Nat) (listed:Array Bool) (a:Act),kV P md ops S m (λlisted a=>∀w,S w->wpAny P md ops Q tf listed a w) fuel listed a->∀w,S w->wpAny P md ops Q (tf+fuel) listed a w
 | 0,_,_,h=>h.2
 | fuel+1,_,_,h=>λw hS=>⟨λhr=>absurd hr h.1,λi hi=>by
  obtain⟨o,v,ho,hd,hn⟩:=h.2 i hi
  exact hd.wpOp ho hS λw' hS'=>kV.any fuel _ _ hn w' hS'⟩
def bX(md:Region.Mode)(ops:Array Oper)(m:Nat):Bool :=
 (List.range ops.size).all λj=>decide (j<m)||(List.range m).all λk=>match ops[j]? with
  | some o=>o.after.any λe=>Region.binds md e&&e.on==k
  | none=>true
theorem uS{m:Nat}(h:bX md ops m=true){j k:Nat}{o:Oper}(ho:ops[j]? = some o)(hj:m<=j)(hk:k<m):∃e∈o.after,Region.binds md e=true/\e.on=k:=by
 unfold bX at h;rw[List.all_eq_true]at h;have h1:=h j (List.mem_range.2 (Array.getElem?_eq_some_iff.1 ho).1);have hd:decide (j<m)=false:=by simpa using hj
 rw[hd,Bool.false_or,List.all_eq_true]at h1;have h2:=h1 k (List.mem_range.2 hk);simp only[ho]at h2;obtain⟨e,he,hb⟩:=Array.any_eq_true'.1 h2;simp only[Bool.and_eq_true,beq_iff_eq]at hb;exact⟨e,he,hb.1,hb.2⟩
theorem pY{i:Nat}{listed:Array Bool}(h0:listed.getD i true=false)(h1:listed.getD i false=true):False:=by
 rcases Nat.lt_or_ge i listed.size with h'|h'
 . simp[h']at h0 h1;rw[h0]at h1;cases h1
 . simp[Array.getElem?_eq_none h']at h1
def Clear(md:Region.Mode)(ops:Array Oper)(listed:Array Bool)(i:Nat)(oi:Oper):Prop :=
 ∀j oj,ops[j]? = some oj->j≠i->listed.getD j true=false->(∃e∈oj.after,Region.binds md e=true/\e.on=i)\/oi.apart ops oj=true
theorem Clear.set{listed:Array Bool}{i:Nat}{oi:Oper}(h:Clear md ops listed i oi)(j:Nat):Clear md ops (listed.setIfInBounds j true) i oi:=λk ok hk hki hun =>
 h k ok hk hki (by
  by_cases hjk:j=k
  . subst hjk
    rcases Nat.lt_or_ge j listed.size with h'|h'
    . simp[h']at hun
    . simp at hun
  . rwa [getD_set_ne true hjk]at hun)
theorem oh{i j:Nat}{listed:Array Bool}{oj:Oper}(hi:i∈Region.ready md ops listed)(hj:j∈Region.ready md ops listed)(ho:ops[j]? = some oj)(h:∃e∈oj.after,Region.binds md e=true/\e.on=i):False:=by
 obtain⟨e,he,hb,rfl⟩:=h;obtain⟨_,o,ho',hall⟩:=mem_ready.1 hj;obtain rfl:oj=o:=Option.some.inj (ho.symm.trans ho');exact pY (mem_ready.1 hi).1 (hall e he hb)
theorem F3{m:Nat}{B:Array Bool->Act->Prop}(ht:bX md ops m=true){i:Nat}{oi:Oper}{v:Value}(him:i<m)(hi:ops[i]? = some oi)(hsel:∀(j:Nat) (o:Oper) cs b,ops[j]? = some o->o.op ≠ .select cs b)
  (fuel:Nat) (listed:Array Bool) (a:Act) (hc:Clear md ops listed i oi) (hr:i∈Region.ready md ops listed) (hy:Xr P ops S oi v a)
  (H:kV P md ops S m B fuel (listed.setIfInBounds i true) (a.put oi.dst v)):kV P md ops S m B (fuel+1) listed a:=by
 induction fuel generalizing listed a with
 | zero =>
   refine⟨List.ne_nil_of_mem hr,λj hj => ?_⟩;rcases Nat.decEq j i with hji|rfl
   . exfalso
     obtain⟨hun,oj,ho,_⟩:=mem_ready.1 hj;by_cases hjm:j<m
     . have:=H.1 j hjm
       rw[getD_set_ne true (Ne.symm hji),hun]at this;cases this
     . exact oh hr hj ho (uS ht ho ak him)
   . exact⟨oi,v,hi,hy,H⟩
 | succ fuel ih =>
   refine⟨List.ne_nil_of_mem hr,λj hj => ?_⟩;rcases Nat.decEq j i with hji|rfl
   . obtain⟨oj,u,ho,hyj,hn⟩:=H.2 j (ready_mono hj hji)
     obtain⟨a1,a2,a3⟩:=Oper.apart_spec ((hc j oj ho hji (mem_ready.1 hj).1).resolve_left (oh hr hj ho));refine⟨oj,u,ho,hyj.of_same (execOp_put oj (λcs b=>hsel j oj cs b ho) a oi.dst v a1).symm (wanted_put oj a oi.dst v a1).symm,ih _ _ (hc.set j) (ready_mono hr (Ne.symm hji)) ?_ ?_⟩
     . exact Z20
     . exact Z3d
   . exact⟨oi,v,hi,hy,H⟩
def nA(P:Program)(ops:Array Oper)(Q:Exit->Act->World->Prop):List Oper->Act->World->Prop
 | [],a,w=>Q .normal a w
 | o::os,a,w=>if Region.wanted o (yielded ops a.tmps)=true then o.wp P a w (nA P ops Q os) Q else nA P ops Q os (a.put o.dst undef) w
def forced(md:Region.Mode)(ops:Array Oper):Nat->Nat->Array Bool->Bool
 | 0,_,listed=>(Region.ready md ops listed).isEmpty
 | t+1,i,listed=>(Region.ready md ops listed==[i])&&forced md ops t (i+1) (listed.setIfInBounds i true)
def kU(md:Region.Mode)(ops:Array Oper)(t:Nat):Nat->Nat->Array Bool->Bool
 | 0,i,listed=>forced md ops t i listed
 | k+1,i,listed=>Region.free md ops listed i&&(Region.ready md ops listed).contains i&&kU md ops t k (i+1) (listed.setIfInBounds i true)
def dW(P:Program)(ops:Array Oper)(Q:Exit->Act->World->Prop)(S:World->Prop):Nat->List Oper->Act->Prop
 | 0,os,a=>∀w,S w->nA P ops Q os a w
 | _+1,[],_=>False
 | k+1,o::os,a=>∃v,Xr P ops S o v a/\dW P ops Q S k os (a.put o.dst v)
theorem drop_cons{i:Nat}{o:Oper}{os:List Oper}(hd:ops.toList.drop i=o::os):ops[i]? = some o/\ops.toList.drop (i+1)=os:=by
 have hlt:i<ops.toList.length:=by
  rcases Nat.lt_or_ge i ops.toList.length with h'|h'
  . exact h'
  . rw[List.drop_eq_nil_of_le h']at hd;cases hd
 rw[List.drop_eq_getElem_cons hlt]at hd;refine⟨?_,(List.cons.inj hd).2⟩;have:=(List.cons.inj hd).1;rw[<-this];simp at hlt ⊢
theorem ow{i:Nat}{oi:Oper}{listed:Array Bool}(hi:ops[i]? = some oi)(h:Region.free md ops listed i=true):Clear md ops listed i oi:=λj oj ho hji hun=>by
 by_cases hw:∃e∈oj.after,Region.binds md e=true/\e.on=i
 . exact .inl hw
 . exact .inr (Region.free_spec hi h j oj ho hji hun λe he hb hon=>hw ⟨e,he,hb,hon⟩)
theorem uM:∀(os:List Oper) (i:Nat) (listed:Array Bool) (a:Act) (w:World),ops.toList.drop i=os->forced md ops os.length i listed=true ->
  nA P ops Q os a w->wpAny P md ops Q os.length listed a w
 | [],i,listed,a,w,_,hk,h=>by
  simp only[List.length_nil,forced,List.isEmpty_iff]at hk;exact⟨hk,h⟩
 | o::os,i,listed,a,w,hd,hk,h=>by
  simp only[List.length_cons,forced,Bool.and_eq_true,beq_iff_eq]at hk;obtain⟨hr,hk⟩:=hk;obtain⟨ho,hd'⟩:=drop_cons hd;refine⟨λh0=>(by rw[hr]at h0;cases h0),λj hj => ?_⟩;rw[hr]at hj;obtain rfl:j=i:=by simpa using hj
  unfold wpOp;simp only[ho];unfold nA at h;by_cases hw:Region.wanted o (yielded ops a.tmps)=true
  . rw[if_pos hw]at h
    simp only[hw,if_true];exact .inl (Oper.wp_mono (λa' w' h'=>uM os (j+1) _ a' w' hd' hk h') h)
  . rw[if_neg hw]at h
    simp only[hw,Bool.false_eq_true,if_false];exact uM os (j+1) _ _ _ hd' hk h
theorem Hy{m t:Nat}(hs:Region.noSelect ops=true)(ht:bX md ops m=true)(hm:ops.toList.length=m+t):∀(k:Nat) (os:List Oper) (i:Nat) (listed:Array Bool) (a:Act),ops.toList.drop i=os->i+k=m ->
  (∀q,q<i->listed.getD q true=true)->kU md ops t k i listed=true ->
  dW P ops Q S k os a->kV P md ops S m (λlisted a=>∀w,S w->wpAny P md ops Q t listed a w) k listed a
 | 0,os,i,listed,a,hd,hi,hl,hk,h=>by
  exact Z2t
 | k+1,[],i,listed,a,_,_,_,_,h=>h.elim
 | k+1,o::os,i,listed,a,hd,hi,hl,hk,⟨v,hy,hn⟩=>by
  simp only[kU,Bool.and_eq_true]at hk;obtain⟨⟨hf,hr⟩,hk⟩:=hk;obtain⟨ho,hd'⟩:=drop_cons hd;refine F3 ht ak ho (Region.noSelect_spec hs) k listed a (ow ho hf) (by simpa using hr) hy ?_;refine Hy hs ht hm k os (i+1) _ _ hd' ak ?_ hk hn;exact Z28
theorem uT{id:Nat}{l:List Oper}{a:Act}{w:World}(m t:Nat)(S:World->Prop)(hp:P.follows .mixedOrders=true)(hs:Region.noSelect l.toArray=true)
  (hl:l.length=m+t) (ht:bX .any l.toArray m=true) (hk:kU .any l.toArray t m 0 (Array.replicate l.length false)=true) (hS:S w.drew) (h:dW P l.toArray Q S m l a):(Code.region id l.toArray true).wp P Q a w :=
 wp_region_any hp (by
  have h1:=kV.any (Q:=Q) (tf:=t) m (Array.replicate l.length false) a (Hy (md:=.any) (Q:=Q) (m:=m) (t:=t) hs ht (by simpa using hl) m l 0 (Array.replicate l.length false) a eY ak (λq hq=>by omega) hk h) _ hS;have e:l.toArray.size=t+m:=by simp;omega
  rw[e];have e2:Array.replicate (t+m) false=Array.replicate l.length false:=by rw[hl,Nat.add_comm]
  rw[e2];exact h1)
theorem CP{id:Nat}{l:List Oper}{a:Act}{W0 w:World}(h0:RowKit.Below W0.heap.size W0 w)(hp:P.follows .mixedOrders=true)(hs:Region.noSelect l.toArray=true)
  (hk:kU .any l.toArray 0 l.length 0 (Array.replicate l.length false)=true) (h:dW P l.toArray Q (λw'=>RowKit.Below W0.heap.size W0 w') l.length l a):(Code.region id l.toArray true).wp P Q a w :=
 uT l.length 0 _ hp hs eY (by
  unfold bX;rw[List.all_eq_true];intro j hj;have:j<l.length:=by simpa using hj
  simp[this]) hk h0.drew h
theorem CQ{id:Nat}{l:List Oper}{a:Act}{W0 w:World}(m t:Nat)(h0:RowKit.Below W0.heap.size W0 w)(hp:P.follows .mixedOrders=true)(hs:Region.noSelect l.toArray=true)
  (hl:l.length=m+t) (ht:bX .any l.toArray m=true) (hk:kU .any l.toArray t m 0 (Array.replicate l.length false)=true) (h:dW P l.toArray Q (λw'=>RowKit.Below W0.heap.size W0 w') m l a):(Code.region id l.toArray true).wp P Q a w :=
 uT m t _ hp hs hl ht hk h0.drew h
theorem Ub{k:Nat}{o:Oper}{os:List Oper}{a:Act}(hw:Region.wanted o (yielded ops a.tmps)=false)(h:dW P ops Q S k os (a.put o.dst undef)):dW P ops Q S (k+1) (o::os) a :=
 ⟨undef,.inr ⟨hw,rfl⟩,h⟩
theorem iX{k:Nat}{o:Oper}{os:List Oper}{a:Act}{v:Value}(hw:Region.wanted o (yielded ops a.tmps)=true)(hv:∀w,S w->(execOp a.eval o).run P w=.ok (.value v) w)
  (h:dW P ops Q S k os (a.put o.dst v)):dW P ops Q S (k+1) (o::os) a :=
 ⟨v,.inl ⟨hw,λw hS=>by rw[hv w hS];exact⟨rfl,hS⟩⟩,h⟩
theorem CU{k:Nat}{o:Oper}{os:List Oper}{a:Act}{v:Value}{f:FuncId}{args:Array Value}(hw:Region.wanted o (yielded ops a.tmps)=true)
  (hv:∀w,S w->(execOp a.eval o).run P w=.ok (.enter f args) w) (hc:∀w,S w->Calls P f args w λe w''=>e=.returned v/\S w'')
  (h:dW P ops Q S k os (a.put o.dst v)):dW P ops Q S (k+1) (o::os) a :=
 ⟨v,.inl ⟨hw,λw hS=>by rw[hv w hS];exact hc w hS⟩,h⟩
theorem bZ{a:Act}(h:∀w,S w->Q .normal a w):dW P ops Q S 0 [] a:=h
theorem dJ{a:Act}{os:List Oper}(h:∀w,S w->nA P ops Q os a w):dW P ops Q S 0 os a:=h
theorem om{o:Oper}{os:List Oper}{a:Act}{w:World}(hw:Region.wanted o (yielded ops a.tmps)=true)(h:∀K:Act->World->Prop,(∀a w,nA P ops Q os a w->K a w)->o.wp P a w K Q):nA P ops Q (o::os) a w:=by
 unfold nA;rw[if_pos hw];exact h _ λ_ _ h=>h
theorem bP{a:Act}{w:World}(h:Q .normal a w):nA P ops Q [] a w:=h
end
end Go.Proofs.YtcbcfdihofclkaaGreat.aj
namespace Go.Proofs.YtcbcfdihofclkaaGreat
open Go aj
section
variable {P:Program} {ops:Array Oper} {Q:Exit->Act->World->Prop} {md:Region.Mode} {S:World->Prop}
theorem dQ{P:Prop}(h:P:=by go_simp;first|done|with_reducible rfl|exact⟨rfl,rfl⟩):P:=h
theorem bF(a:Act)(d:Option Tmp)(v:Value):a.put d v=match d with|some d=>{ a with tmps:=a.tmps.setIfInBounds d v }|none=>a:=rfl
theorem bG{α:Type}(l:List α)(i:Nat)(x:α):l.toArray.setIfInBounds i x=(l.set i x).toArray:=List.setIfInBounds_toArray ..
theorem bH{α:Type}(x:α)(l:List α)(y:α):(x::l).set 0 y=y::l:=rfl
theorem tks{α:Type}(x:α)(l:List α)(i:Nat)(y:α):(x::l).set (i+1) y=x::l.set i y:=rfl
theorem nN{k:Nat}{o:Oper}{os:List Oper}{a a':Act}(h:dW P ops Q S k os a')(hw:Region.wanted o (yielded ops a.tmps)=false:=by rfl)(ha:a.put o.dst undef=a':=by first|(simp only[Act.put,List.setIfInBounds_toArray,List.set_cons_zero,List.set_cons_succ];rfl)|(simp only[Act.put,List.setIfInBounds_toArray,List.set_cons_zero,List.set_cons_succ];done)|rfl):dW P ops Q S (k+1) (o::os) a:=Ub hw (ha▸h)
theorem nP{k:Nat}{o:Oper}{os:List Oper}{a a':Act}{v:Value}(h:dW P ops Q S k os a')(hw:Region.wanted o (yielded ops a.tmps)=true:=by rfl)
 (hv:∀w,S w->(execOp a.eval o).run P w=.ok (.value v) w:=by intro w2 hS;obtain⟨hc,hf⟩:=kP hS;go_simp;first|done|with_reducible rfl|exact⟨rfl,rfl⟩) (ha:a.put o.dst v=a':=by first|(simp only[Act.put,List.setIfInBounds_toArray,List.set_cons_zero,List.set_cons_succ];rfl)|(simp only[Act.put,List.setIfInBounds_toArray,List.set_cons_zero,List.set_cons_succ];done)|rfl):dW P ops Q S (k+1) (o::os) a:=iX hw hv (ha▸h)
theorem nO{k:Nat}{d g x y t p af gd}{os:List Oper}{a a':Act}{v:Value}{f:FuncId}{args:Array Value}(h:dW P ops Q S k os a')(hw:Region.wanted ⟨d,.call ⟨.value g,x,y⟩,t,p,af,gd⟩ (yielded ops a.tmps)=true:=by rfl)
 (hv:∀w,S w->(execOp a.eval ⟨d,.call ⟨.value g,x,y⟩,t,p,af,gd⟩).run P w=.ok (.enter f args) w:=by intro w2 hS;go_simp;first|done|with_reducible rfl|exact⟨rfl,rfl⟩) (hc:∀w,S w->Calls P f args w λe w''=>e=.returned v/\S w'') (ha:a.put d v=a':=by first|(simp only[Act.put,List.setIfInBounds_toArray,List.set_cons_zero,List.set_cons_succ];rfl)|(simp only[Act.put,List.setIfInBounds_toArray,List.set_cons_zero,List.set_cons_succ];done)|rfl):dW P ops Q S (k+1) (⟨d,.call ⟨.value g,x,y⟩,t,p,af,gd⟩::os) a:=CU hw hv hc (ha▸h)
theorem xP{id:Nat}{l:List Oper}{a:Act}{W0 w:World}(h:dW P l.toArray Q (λw'=>RowKit.Below W0.heap.size W0 w') l.length l a)(h0:RowKit.Below W0.heap.size W0 w:=by exact RowKit.Below.refl _ _)(hp:P.follows .mixedOrders=true:=by kernel_rfl)(hs:Region.noSelect l.toArray=true:=by kernel_rfl)
 (hk:kU .any l.toArray 0 l.length 0 (Array.replicate l.length false)=true:=by kernel_rfl):(Code.region id l.toArray true).wp P Q a w:=CP h0 hp hs hk h
theorem QB{id:Nat}{l:List Oper}{a:Act}{W0 w:World}(m t:Nat)(h:dW P l.toArray Q (λw'=>RowKit.Below W0.heap.size W0 w') m l a)(h0:RowKit.Below W0.heap.size W0 w:=by exact RowKit.Below.refl _ _)(hp:P.follows .mixedOrders=true:=by kernel_rfl)(hs:Region.noSelect l.toArray=true:=by kernel_rfl)
 (hl:l.length=m+t:=by rfl) (ht:bX .any l.toArray m=true:=by kernel_rfl) (hk:kU .any l.toArray t m 0 (Array.replicate l.length false)=true:=by kernel_rfl):(Code.region id l.toArray true).wp P Q a w:=CQ m t h0 hp hs hl ht hk h
theorem xV{o:Oper}{os:List Oper}{a:Act}{w:World}(h:∀K:Act->World->Prop,(∀a w,nA P ops Q os a w->K a w)->o.wp P a w K Q)(hw:Region.wanted o (yielded ops a.tmps)=true:=by rfl):nA P ops Q (o::os) a w:=om hw h
theorem nI{F:FuncId}{A:Array Value}{v:Value}{W0 w:World}(hS:RowKit.Below W0.heap.size W0 w)(h:Calls P F A w λe w'=>e=.returned v/\RowKit.Below w.heap.size w w'):Calls P F A w λe w'=>e=.returned v/\RowKit.Below W0.heap.size W0 w':=h.mono λ_ _ h=>⟨h.1,hS.trans (h.2.mono hS.size)⟩
theorem JM{F:FuncId}{A:Array Value}{v:Value}{w:World}(hS:S w)(h:Calls P F A w λe w'=>e=.returned v/\w=w'):Calls P F A w λe w'=>e=.returned v/\S w':=h.mono λ_ _ h=>⟨h.1,h.2▸hS⟩
theorem wL{F:FuncId}{A:Array Value}{v:Value}{w:World}{R:Ending->World->Prop}(h:Calls P F A w λe w'=>e=.returned v/\w=w')(k:R (.returned v) w):Calls P F A w R:=h.mono λ_ _ ⟨e1,e2⟩=>by subst e1 e2;exact k
end
end Go.Proofs.YtcbcfdihofclkaaGreat
namespace Go.Proofs.YtcbcfdihofclkaaGreat.Fix
open Go.ChangeShapes Go.WideShapes Go.ChangeAt Go.RowKit
theorem rA(k n base:Int)(w:World):Calls Tryz.prog 240 #[.agg #[.int .i64 k,.int .i64 n],.int .i64 base] w λe w'=>e=.returned (.bool (Fx.mX k base))/\Below w.heap.size w w':=by
 go_enter Tryz.func240,Tryz.ntmps240
 go_wp2
 all_goals go_ret
 all_goals
  refine⟨fM (by unfold Fx.mX;simp[*]),?_⟩;exact Z5
theorem ng(k n base none:Int)(w:World):Calls Tryz.prog 181 #[.agg #[.int .i64 k,.int .i64 n],.int .i64 base,.int .i64 none] w λe w'=>e=.returned (.int .i64 (Fx.len k n base none))/\Below w.heap.size w w':=by
 cases hF:Fx.mX k base with
 | false =>
   have Hr:=Lib.hid (Fx.X7 (n:=n) (none:=none) hF);go_enter Tryz.func181,Tryz.ntmps181
   go_wp2_with (first|(go_at_call 102;with_reducible refine wL (fF _ _) ?_)|(go_at_call 240;(with_reducible refine(rA _ _ _ _).mono ?_);rintro e w' ⟨rfl,hb⟩;(try replace hb:=Below.after (by assumption) hb);obtain⟨hc,hf⟩:=kP hb;have hz:=hb.size;(try simp at hz)))
   all_goals go_ret
   all_goals
    refine⟨bI Hr.out.symm,?_⟩;exact Z5
 | true =>
   have h:=Fx.TA.1 hF;by_cases h1:k=1
   . clear h
     subst h1;have Hr:=Lib.hid (Fx.abo (k:=1) (n:=n) (base:=base) (none:=none) rfl);exact Z1v
   . obtain⟨h2,h3⟩:k=2/\0<=base:=by omega
     clear h;subst h2;have Hr:=Lib.hid (Fx.X6 (k:=2) (n:=n) (none:=none) rfl h3);exact Z1v
theorem QC(k n:Int)(w:World):Calls Tryz.prog 290 #[.agg #[.int .i64 k,.int .i64 n]] w λe w'=>e=.returned (.bool (Fx.valid k n))/\Below w.heap.size w w':=by
 by_cases h0:k=0
 . subst h0
   go_enter Tryz.func290,Tryz.ntmps290
   go_wp2
   go_ret
   refine⟨fM (by unfold Fx.valid;rw[if_pos rfl];rfl),?_⟩;exact Z5
 . by_cases h1:k=1
   . subst h1
     go_enter Tryz.func290,Tryz.ntmps290
     go_wp2;refine xP ?_ (h0:=by first|assumption|exact Below.refl _ _)
     (repeat (first|refine nN ?_ | refine nO ?_ (hc:=by intro w2 hS;first|with_reducible exact JM hS (fF _ _))|refine nP ?_))
     refine aj.bZ ?_;intro w2 hS;go_wp2
     go_ret
     refine⟨fM (by unfold Fx.valid;rw[if_neg ak,if_pos rfl];rfl),?_⟩;exact Z5
   . by_cases h2:k=2
     . subst h2
       go_enter Tryz.func290,Tryz.ntmps290
       exact Z3y
     . have g0:(k==0)=false:=by simp[h0]
       have g1:(k==1)=false:=by simp[h1]
       have g2:(k==2)=false:=by simp[h2]
       go_enter Tryz.func290,Tryz.ntmps290
       go_wp2
       go_ret
       refine⟨fM (by unfold Fx.valid;rw[if_neg h0,if_neg h1,if_neg h2]),?_⟩;exact Z5
theorem MR(k n:Int)(w:World):Calls Tryz.prog 220 #[.agg #[.int .i64 k,.int .i64 n]] w λe w'=>e=.returned (.bool (Fx.valid k n))/\Below w.heap.size w w':=by
 by_cases h0:k=0
 . subst h0
   go_enter Tryz.func220,Tryz.ntmps220
   go_wp2
   go_ret
   refine⟨fM (by unfold Fx.valid;rw[if_pos rfl];rfl),?_⟩;exact Z5
 . by_cases h1:k=1
   . subst h1
     go_enter Tryz.func220,Tryz.ntmps220
     go_wp2
     all_goals
      go_ret
      refine⟨fM (by unfold Fx.valid Fx.cut;rw[if_neg ak,if_pos rfl];(repeat' split)<;>rw[Bool.eq_iff_iff]<;>simp<;>omega),?_⟩;exact Z5
   . by_cases h2:k=2
     . subst h2
       go_enter Tryz.func220,Tryz.ntmps220
       exact Z3y
     . have g0:(k==0)=false:=by simp[h0]
       have g1:(k==1)=false:=by simp[h1]
       have g2:(k==2)=false:=by simp[h2]
       go_enter Tryz.func220,Tryz.ntmps220
       go_wp2
       go_ret
       refine⟨fM (by unfold Fx.valid;rw[if_neg h0,if_neg h1,if_neg h2]),?_⟩;exact Z5
theorem Yp(k n far base:Int)(B:Nat)(w:World)(hcell:w.cell? ⟨B,0,none⟩=some (.int .i64 base)):Calls Tryz.prog 243 #[.agg #[.int .i64 k,.int .i64 n],.int .i64 far,.pointer (some ⟨B,0,none⟩)] w λe w'=>e=.returned (.int .i64 (Fx.len k n base far))/\Below w.heap.size w w':=by
 have hlt:B<w.heap.size:=World.block_lt_of_cell? _ _ hcell;go_enter Tryz.func243,Tryz.ntmps243
 go_wp2_with (first|(go_at_call 181;(with_reducible refine(ng _ _ _ _ _).mono ?_);rintro e w' ⟨rfl,hb⟩;(try replace hb:=Below.after (by assumption) hb);obtain⟨hc,hf⟩:=kP hb;have hz:=hb.size;(try simp at hz)))
 go_ret
 refine⟨rfl,?_⟩;exact Z5
theorem F4(n lk ln hk hn base:Int)(w:World):Calls Tryz.prog 183 #[.int .i64 n,.agg #[.int .i64 lk,.int .i64 ln],.agg #[.int .i64 hk,.int .i64 hn],.int .i64 base] w λe w'=>e=.returned (.int .i64 (Fx.limit n lk ln hk hn base))/\Below w.heap.size w w':=by
 have Jy:∀(fn:Fn) (first cap:Array Value) (w:World),(Instr.makeFunc fn first cap).run Tryz.prog w=.ok (.func fn first cap) w:=λ_ _ _ _=>rfl;by_cases h:Fx.clamp n (Fx.len lk ln base (-1099511627776)) (Fx.len hk hn base 1099511627776)<0
 all_goals
  (try replace h:=Int.not_lt.1 h)
  go_enter Tryz.func183,Tryz.ntmps183
  go_upto_region 1 with(fail)
  (generalize hW:World.alloc (World.alloc (World.alloc w _) _) _=W0;have A0:At W0 (w.heap.size) (.cells #[.int .i64 lk,.int .i64 ln] 43):=(by((rw[<-hW])<;>exact At.alloc (At.alloc (At.new' _ Ev) _) _));have A1:At W0 (w.heap.size+1) (.cells #[.int .i64 hk,.int .i64 hn] 43):=Z5c;have A2:At W0 (w.heap.size+1+1) (.cells #[.int .i64 base] 3):=(by((rw[<-hW])<;>exact At.new' _ Ev));have hB:Below w.heap.size w W0:=(by((rw[<-hW])<;>exact Below.alloc' (Below.alloc' (Below.alloc' (Below.refl _ _) _) _) _));clear hW;obtain⟨l0,aA,aB⟩:=At.two A0;obtain⟨l1,aL,aM⟩:=At.two A1;obtain⟨l2,aN⟩:=At.one A2)
  go_upto_region 2 with(fail)
  refine xP ?_
  (repeat (first|refine nN ?_ | refine nO ?_ (hc:=by intro w2 hS;first|with_reducible exact nI hS (Yp _ _ _ _ _ _ (((kP hS).1 _ _ l2).trans aN))|with_reducible exact JM hS (rP _ _ _ _))|refine nP ?_))
  refine aj.bZ ?_;intro w2 hS;go_wp2
  go_ret
  exact⟨bI (by unfold Fx.limit Fx.mx;split<;>omega),Below.ay hB (ah _) hS⟩
end Go.Proofs.YtcbcfdihofclkaaGreat.Fix
