/- Proved here: what functions of the program do, in plain numbers (part 5); no conditions but those in sight. -/
import Derived.Deep.MidRow
import Derived.ProofKit
import Derived.ChangeSame
import Derived.Below
import Derived.DeepKeys
import Derived.Laws.StructEq
import Derived.OpenShut
import Derived.Lib.SmallJoins
import Derived.Deep.QuietTactic
import Derived.BigQuiet
import Derived.Lib.MinMax
import Derived.Test.YtcbcfdihofclkaaGreatQK
import Derived.Test.YtcbcfdihofclkaaGreatQ01
import Derived.Test.YtcbcfdihofclkaaGreatQ04
set_option linter.unusedVariables false
set_option linter.unusedSimpArgs false
set_option linter.unusedSectionVars false
set_option maxRecDepth 100000
namespace Go.Proofs.YtcbcfdihofclkaaGreat.Fix
open Go.ChangeShapes Go.WideShapes Go.ChangeAt Go.RowKit
theorem yg{a b c d a' b' c' d':Int}(h1:a=a')(h2:b=b')(h3:c=c')(h4:d=d'):Ending.returned (.agg #[.int .i64 a,.int .i64 b,.int .i64 c,.int .i64 d])=.returned (.agg #[.int .i64 a',.int .i64 b',.int .i64 c',.int .i64 d']):=by rw[h1,h2,h3,h4]
theorem MS(k0 n0 k1 n1 k2 n2 k3 n3 base:Int)(w:World):Calls Tryz.prog 242 #[.agg #[.int .i64 k0,.int .i64 n0,.int .i64 k1,.int .i64 n1,.int .i64 k2,.int .i64 n2,.int .i64 k3,.int .i64 n3],.int .i64 base] w λe w'=>e=.returned (.agg #[.int .i64 (Fx.len k0 n0 base 0),.int .i64 (Fx.len k1 n1 base 0),.int .i64 (Fx.len k2 n2 base 0),.int .i64 (Fx.len k3 n3 base 0)])/\Below w.heap.size w w':=by
 have i0:∀w:World,(Instr.index 44 (.agg #[.int .i64 k0,.int .i64 n0,.int .i64 k1,.int .i64 n1,.int .i64 k2,.int .i64 n2,.int .i64 k3,.int .i64 n3]) (.int .i64 0)).run Tryz.prog w=.ok (.agg #[.int .i64 k0,.int .i64 n0]) w:=λ_=>by kernel_rfl
 have i1:∀w:World,(Instr.index 44 (.agg #[.int .i64 k0,.int .i64 n0,.int .i64 k1,.int .i64 n1,.int .i64 k2,.int .i64 n2,.int .i64 k3,.int .i64 n3]) (.int .i64 1)).run Tryz.prog w=.ok (.agg #[.int .i64 k1,.int .i64 n1]) w:=λ_=>by kernel_rfl
 have i2:∀w:World,(Instr.index 44 (.agg #[.int .i64 k0,.int .i64 n0,.int .i64 k1,.int .i64 n1,.int .i64 k2,.int .i64 n2,.int .i64 k3,.int .i64 n3]) (.int .i64 2)).run Tryz.prog w=.ok (.agg #[.int .i64 k2,.int .i64 n2]) w:=λ_=>by kernel_rfl
 have i3:∀w:World,(Instr.index 44 (.agg #[.int .i64 k0,.int .i64 n0,.int .i64 k1,.int .i64 n1,.int .i64 k2,.int .i64 n2,.int .i64 k3,.int .i64 n3]) (.int .i64 3)).run Tryz.prog w=.ok (.agg #[.int .i64 k3,.int .i64 n3]) w:=λ_=>by kernel_rfl
 go_enter Tryz.func242,Tryz.ntmps242
 go_upto_region 2 with(fail)
 (generalize hW:World.alloc (World.alloc (World.alloc w _) _) _=W0;have A0:At W0 (w.heap.size) (.cells #[.int .i64 k0,.int .i64 n0,.int .i64 k1,.int .i64 n1,.int .i64 k2,.int .i64 n2,.int .i64 k3,.int .i64 n3] 44):=(by((rw[<-hW])<;>exact At.alloc (At.alloc (At.new' _ Ev) _) _));have A1:At W0 (w.heap.size+1) (.cells #[.int .i64 0,.int .i64 0,.int .i64 0,.int .i64 0] 36):=Z5c;have A2:At W0 (w.heap.size+1+1) (.cells #[.int .i64 0,.int .i64 0,.int .i64 0,.int .i64 0] 36):=(by((rw[<-hW])<;>exact At.new' _ Ev));have hB:Below w.heap.size w W0:=(by((rw[<-hW])<;>exact Below.alloc' (Below.alloc' (Below.alloc' (Below.refl _ _) _) _) _));clear hW;obtain⟨l0,aA,aB,bB,lM,p8,p9,Hz,af5⟩:=At.eight A0;obtain⟨l1,aL,aM,gD,gF⟩:=At.four A1;have fI:=A1.thaw 0;have fJ:=A1.thaw 1;have gZ:=A1.thaw 2;have iq:=A1.thaw 3;obtain⟨l2,aN,aO,aP,aQ⟩:=At.four A2;have kW:=A2.thaw 0;have kX:=A2.thaw 1;have kZ:=A2.thaw 2;have lD:=A2.thaw 3)
 go_wp2;clear l0 aA aB bB lM p8 p9 Hz af5 A0;refine wp_loop_rounds 5 ?_;rw[rounds_succ]
 go_upto_region 5 with(fail)
 (generalize hW:World.alloc _ _=W1;clear l1 aL aM gD gF fI fJ gZ iq l2 aN aO aP aQ kW kX kZ lD;have A3:At W1 _ _:=hW▸At.new _ _;replace A1:At W1 _ _:=hW▸At.alloc A1 _;replace A2:At W1 _ _:=hW▸At.alloc A2 _;replace hB:Below w.heap.size w W1:=hW▸Below.alloc' hB _;clear hW;obtain⟨l1,aL,aM,gD,gF⟩:=At.four A1;have fI:=A1.thaw 0;have fJ:=A1.thaw 1;have gZ:=A1.thaw 2;have iq:=A1.thaw 3;obtain⟨l2,aN,aO,aP,aQ⟩:=At.four A2;have kW:=A2.thaw 0;have kX:=A2.thaw 1;have kZ:=A2.thaw 2;have lD:=A2.thaw 3;obtain⟨l3,bL,bM⟩:=At.two A3)
 go_upto_region 6 with(first|(go_at_call 181;(with_reducible refine(ng _ _ _ _ _).mono ?_);rintro e w' ⟨rfl,hb⟩;(clear l1 aL aM gD gF fI fJ gZ iq l2 aN aO aP aQ kW kX kZ lD l3 bL bM);(replace hB:=Below.ay yT (ah _) hb);replace A1:=At.keep zn hb;replace A2:=At.keep AZ hb;replace A3:=At.keep Mh hb;clear hb;obtain⟨l1,aL,aM,gD,gF⟩:=At.four A1;have fI:=A1.thaw 0;have fJ:=A1.thaw 1;have gZ:=A1.thaw 2;have iq:=A1.thaw 3;obtain⟨l2,aN,aO,aP,aQ⟩:=At.four A2;have kW:=A2.thaw 0;have kX:=A2.thaw 1;have kZ:=A2.thaw 2;have lD:=A2.thaw 3;obtain⟨l3,bL,bM⟩:=At.two A3))
 generalize hW:World.setCell _ _ _=W2;clear l1 aL aM gD gF fI fJ gZ iq l2 aN aO aP aQ kW kX kZ lD l3 bL bM A3;replace A2:At W2 (w.heap.size+1+1) (.cells #[.int .i64 (Fx.len k0 n0 base 0),.int .i64 0,.int .i64 0,.int .i64 0] 36):=hW▸At.set A2 0 _;replace A1:At W2 (w.heap.size+1) _:=hW▸At.off A1 ak 0 _;replace hB:Below w.heap.size w W2:=hW▸Below.setCell hB jH _;clear hW;obtain⟨l1,aL,aM,gD,gF⟩:=At.four A1;obtain⟨l2,aN,aO,aP,aQ⟩:=At.four A2;have fI:=A1.thaw 0;have fJ:=A1.thaw 1;have gZ:=A1.thaw 2;have iq:=A1.thaw 3;have kW:=A2.thaw 0;have kX:=A2.thaw 1;have kZ:=A2.thaw 2;have lD:=A2.thaw 3;go_wp2;rw[rounds_succ]
 go_upto_region 5 with(fail)
 (generalize hW:World.alloc _ _=W1;clear l1 aL aM gD gF fI fJ gZ iq l2 aN aO aP aQ kW kX kZ lD;have A3:At W1 _ _:=hW▸At.new _ _;replace A1:At W1 _ _:=hW▸At.alloc A1 _;replace A2:At W1 _ _:=hW▸At.alloc A2 _;replace hB:Below w.heap.size w W1:=hW▸Below.alloc' hB _;clear hW;obtain⟨l1,aL,aM,gD,gF⟩:=At.four A1;have fI:=A1.thaw 0;have fJ:=A1.thaw 1;have gZ:=A1.thaw 2;have iq:=A1.thaw 3;obtain⟨l2,aN,aO,aP,aQ⟩:=At.four A2;have kW:=A2.thaw 0;have kX:=A2.thaw 1;have kZ:=A2.thaw 2;have lD:=A2.thaw 3;obtain⟨l3,bL,bM⟩:=At.two A3)
 go_upto_region 6 with(first|(go_at_call 181;(with_reducible refine(ng _ _ _ _ _).mono ?_);rintro e w' ⟨rfl,hb⟩;(clear l1 aL aM gD gF fI fJ gZ iq l2 aN aO aP aQ kW kX kZ lD l3 bL bM);(replace hB:=Below.ay yT (ah _) hb);replace A1:=At.keep zn hb;replace A2:=At.keep AZ hb;replace A3:=At.keep Mh hb;clear hb;obtain⟨l1,aL,aM,gD,gF⟩:=At.four A1;have fI:=A1.thaw 0;have fJ:=A1.thaw 1;have gZ:=A1.thaw 2;have iq:=A1.thaw 3;obtain⟨l2,aN,aO,aP,aQ⟩:=At.four A2;have kW:=A2.thaw 0;have kX:=A2.thaw 1;have kZ:=A2.thaw 2;have lD:=A2.thaw 3;obtain⟨l3,bL,bM⟩:=At.two A3))
 generalize hW:World.setCell _ _ _=W2;clear l1 aL aM gD gF fI fJ gZ iq l2 aN aO aP aQ kW kX kZ lD l3 bL bM A3;replace A2:At W2 (w.heap.size+1+1) (.cells #[.int .i64 (Fx.len k0 n0 base 0),.int .i64 (Fx.len k1 n1 base 0),.int .i64 0,.int .i64 0] 36):=hW▸At.set A2 1 _;replace A1:At W2 (w.heap.size+1) _:=hW▸At.off A1 ak 1 _;replace hB:Below w.heap.size w W2:=hW▸Below.setCell hB jH _;clear hW;obtain⟨l1,aL,aM,gD,gF⟩:=At.four A1;obtain⟨l2,aN,aO,aP,aQ⟩:=At.four A2;have fI:=A1.thaw 0;have fJ:=A1.thaw 1;have gZ:=A1.thaw 2;have iq:=A1.thaw 3;have kW:=A2.thaw 0;have kX:=A2.thaw 1;have kZ:=A2.thaw 2;have lD:=A2.thaw 3;go_wp2;rw[rounds_succ]
 go_upto_region 5 with(fail)
 (generalize hW:World.alloc _ _=W1;clear l1 aL aM gD gF fI fJ gZ iq l2 aN aO aP aQ kW kX kZ lD;have A3:At W1 _ _:=hW▸At.new _ _;replace A1:At W1 _ _:=hW▸At.alloc A1 _;replace A2:At W1 _ _:=hW▸At.alloc A2 _;replace hB:Below w.heap.size w W1:=hW▸Below.alloc' hB _;clear hW;obtain⟨l1,aL,aM,gD,gF⟩:=At.four A1;have fI:=A1.thaw 0;have fJ:=A1.thaw 1;have gZ:=A1.thaw 2;have iq:=A1.thaw 3;obtain⟨l2,aN,aO,aP,aQ⟩:=At.four A2;have kW:=A2.thaw 0;have kX:=A2.thaw 1;have kZ:=A2.thaw 2;have lD:=A2.thaw 3;obtain⟨l3,bL,bM⟩:=At.two A3)
 go_upto_region 6 with(first|(go_at_call 181;(with_reducible refine(ng _ _ _ _ _).mono ?_);rintro e w' ⟨rfl,hb⟩;(clear l1 aL aM gD gF fI fJ gZ iq l2 aN aO aP aQ kW kX kZ lD l3 bL bM);(replace hB:=Below.ay yT (ah _) hb);replace A1:=At.keep zn hb;replace A2:=At.keep AZ hb;replace A3:=At.keep Mh hb;clear hb;obtain⟨l1,aL,aM,gD,gF⟩:=At.four A1;have fI:=A1.thaw 0;have fJ:=A1.thaw 1;have gZ:=A1.thaw 2;have iq:=A1.thaw 3;obtain⟨l2,aN,aO,aP,aQ⟩:=At.four A2;have kW:=A2.thaw 0;have kX:=A2.thaw 1;have kZ:=A2.thaw 2;have lD:=A2.thaw 3;obtain⟨l3,bL,bM⟩:=At.two A3))
 generalize hW:World.setCell _ _ _=W2;clear l1 aL aM gD gF fI fJ gZ iq l2 aN aO aP aQ kW kX kZ lD l3 bL bM A3;replace A2:At W2 (w.heap.size+1+1) (.cells #[.int .i64 (Fx.len k0 n0 base 0),.int .i64 (Fx.len k1 n1 base 0),.int .i64 (Fx.len k2 n2 base 0),.int .i64 0] 36):=hW▸At.set A2 2 _;replace A1:At W2 (w.heap.size+1) _:=hW▸At.off A1 ak 2 _;replace hB:Below w.heap.size w W2:=hW▸Below.setCell hB jH _;clear hW;obtain⟨l1,aL,aM,gD,gF⟩:=At.four A1;obtain⟨l2,aN,aO,aP,aQ⟩:=At.four A2;have fI:=A1.thaw 0;have fJ:=A1.thaw 1;have gZ:=A1.thaw 2;have iq:=A1.thaw 3;have kW:=A2.thaw 0;have kX:=A2.thaw 1;have kZ:=A2.thaw 2;have lD:=A2.thaw 3;go_wp2;rw[rounds_succ]
 go_upto_region 5 with(fail)
 (generalize hW:World.alloc _ _=W1;clear l1 aL aM gD gF fI fJ gZ iq l2 aN aO aP aQ kW kX kZ lD;have A3:At W1 _ _:=hW▸At.new _ _;replace A1:At W1 _ _:=hW▸At.alloc A1 _;replace A2:At W1 _ _:=hW▸At.alloc A2 _;replace hB:Below w.heap.size w W1:=hW▸Below.alloc' hB _;clear hW;obtain⟨l1,aL,aM,gD,gF⟩:=At.four A1;have fI:=A1.thaw 0;have fJ:=A1.thaw 1;have gZ:=A1.thaw 2;have iq:=A1.thaw 3;obtain⟨l2,aN,aO,aP,aQ⟩:=At.four A2;have kW:=A2.thaw 0;have kX:=A2.thaw 1;have kZ:=A2.thaw 2;have lD:=A2.thaw 3;obtain⟨l3,bL,bM⟩:=At.two A3)
 go_upto_region 6 with(first|(go_at_call 181;(with_reducible refine(ng _ _ _ _ _).mono ?_);rintro e w' ⟨rfl,hb⟩;(clear l1 aL aM gD gF fI fJ gZ iq l2 aN aO aP aQ kW kX kZ lD l3 bL bM);(replace hB:=Below.ay yT (ah _) hb);replace A1:=At.keep zn hb;replace A2:=At.keep AZ hb;replace A3:=At.keep Mh hb;clear hb;obtain⟨l1,aL,aM,gD,gF⟩:=At.four A1;have fI:=A1.thaw 0;have fJ:=A1.thaw 1;have gZ:=A1.thaw 2;have iq:=A1.thaw 3;obtain⟨l2,aN,aO,aP,aQ⟩:=At.four A2;have kW:=A2.thaw 0;have kX:=A2.thaw 1;have kZ:=A2.thaw 2;have lD:=A2.thaw 3;obtain⟨l3,bL,bM⟩:=At.two A3))
 generalize hW:World.setCell _ _ _=W2;clear l1 aL aM gD gF fI fJ gZ iq l2 aN aO aP aQ kW kX kZ lD l3 bL bM A3;replace A2:At W2 (w.heap.size+1+1) (.cells #[.int .i64 (Fx.len k0 n0 base 0),.int .i64 (Fx.len k1 n1 base 0),.int .i64 (Fx.len k2 n2 base 0),.int .i64 (Fx.len k3 n3 base 0)] 36):=hW▸At.set A2 3 _;replace A1:At W2 (w.heap.size+1) _:=hW▸At.off A1 ak 3 _;replace hB:Below w.heap.size w W2:=hW▸Below.setCell hB jH _;clear hW;obtain⟨l1,aL,aM,gD,gF⟩:=At.four A1;obtain⟨l2,aN,aO,aP,aQ⟩:=At.four A2;have fI:=A1.thaw 0;have fJ:=A1.thaw 1;have gZ:=A1.thaw 2;have iq:=A1.thaw 3;have kW:=A2.thaw 0;have kX:=A2.thaw 1;have kZ:=A2.thaw 2;have lD:=A2.thaw 3;go_wp2;rw[rounds_succ];go_wp2;refine bodyPost_ret (v:=.agg #[.int .i64 _,.int .i64 _,.int .i64 _,.int .i64 _]) (by simp[results,Tryz.results242,go_sem, *];first|done|exact⟨rfl,rfl⟩|exact⟨rfl,rfl,rfl,rfl⟩|rfl) rfl ⟨yg rfl rfl rfl rfl,?_⟩;exact Z5
def cell(t:Re.St)(i:Nat):Value:=if Re.sJ i=true then .bool (t.b i)else .int .i64 (t.c i)
def cells(t:Re.St):Array Value:=((List.range 55).map (cell t)).toArray
theorem bC(t:Re.St):(cells t).size=55:=by simp[cells]
theorem iB(t:Re.St){i:Nat}(h:i<55):(cells t)[i]? = some (cell t i):=by simp[cells,h]
theorem CW(t:Re.St){i:Nat}(h:Re.sJ i=false):cell t i=.int .i64 (t.c i):=by simp[cell,h]
theorem F5(t:Re.St){i:Nat}(h:Re.sJ i=true):cell t i=.bool (t.b i):=by simp[cell,h]
theorem bE(t:Re.St){i:Nat}(h:i<55)(hb:Re.sJ i=false):(cells t)[i]? = some (.int .i64 (t.c i)):=by rw[iB t h,CW t hb]
theorem sU(t:Re.St){i:Nat}(h:i<55)(hb:Re.sJ i=true):(cells t)[i]? = some (.bool (t.b i)):=by rw[iB t h,F5 t hb]
theorem Uc(t:Re.St)(i:Nat):(cell t i).oneCell'=true:=by unfold cell;split<;>rfl
theorem cells_one(t:Re.St):(cells t).all (·.oneCell')=true:=by
 refine Array.all_eq_true_iff_forall_mem.2 λv hv => ?_;simp only[cells,List.mem_toArray,List.mem_map]at hv;obtain⟨i,_,rfl⟩:=hv;exact Uc t i
theorem F6{s t:Re.St}{i:Nat}{v:Value}(hv:v=cell t i)(h:∀j,j<55->j≠i->cell s j=cell t j):(cells s).setIfInBounds i v=cells t:=by
 apply Array.ext_getElem?;intro j;rw[Array.getElem?_setIfInBounds];by_cases hj:j<55
 . by_cases e:i=j
   . subst e;rw[if_pos rfl,bC,if_pos hj,iB t hj,hv]
   . rw[if_neg e,iB s hj,iB t hj,h j hj (λq=>e q.symm)]
 . have e1:(cells s)[j]? = none:=Array.getElem?_eq_none Z5a
   have e2:(cells t)[j]? = none:=Array.getElem?_eq_none Z5a;rw[e1,e2,bC];by_cases e:i=j
   . rw[if_pos e,if_neg ak]
   . rw[if_neg e]
def mix(f:Nat->Int->Int)(t:Re.St)(k:Nat):Re.St:=⟨λi=>if i<k then f i (Re.num t i)else t.c i,λi=>if i<k then f i (Re.num t i)==1 else t.b i⟩
def ins(t:Re.St)(k:Nat):List Int:=(List.range k).map (Re.num t)
theorem xY(t:Re.St)(k:Nat):ins t (k+1)=ins t k++[Re.num t k]:=by simp[ins,List.range_succ]
theorem sQ(t:Re.St)(k:Nat):(ins t k).length=k:=by simp[ins]
theorem abw(f:Nat->Int->Int)(t:Re.St){k i:Nat}(h:i<k):(mix f t k).c i=f i (Re.num t i):=by simp[mix,h]
theorem MH(f:Nat->Int->Int)(t:Re.St){k i:Nat}(h:k<=i):(mix f t k).c i=t.c i:=by simp[mix,show¬ i<k by omega]
theorem H6(f:Nat->Int->Int)(t:Re.St){k i:Nat}(h:k<=i):(mix f t k).b i=t.b i:=by simp[mix,show¬ i<k by omega]
theorem Yq(f:Nat->Int->Int)(t:Re.St){k i:Nat}(h:i<k):(mix f t k).b i=(f i (Re.num t i)==1):=by simp[mix,h]
theorem Ud(f:Nat->Int->Int)(t:Re.St):mix f t 0=t:=by simp[mix]
theorem uK(f:Nat->Int->Int)(t:Re.St){k:Nat}(hb:Re.sJ k=false):(cells (mix f t k)).setIfInBounds k (.int .i64 (f k (t.c k)))=cells (mix f t (k+1)):=by
 refine F6 ?_ λj _ hj => ?_
 . rw[CW _ hb,abw f t (Nat.lt_succ_self k),Re.Js hb]
 . unfold cell mix
   simp only[show(j<k+1)=(j<k)by simp;omega]
theorem GU(f:Nat->Int->Int)(t:Re.St){k:Nat}(hb:Re.sJ k=true):(cells (mix f t k)).setIfInBounds k (.bool (f k (Re.num t k)==1))=cells (mix f t (k+1)):=by
 refine F6 ?_ λj _ hj => ?_
 . rw[F5 _ hb,Yq f t (Nat.lt_succ_self k)]
 . unfold cell mix
   simp only[show(j<k+1)=(j<k)by simp;omega]
def Out(M:Nat->Prop)(W W':World):Prop:=Below 0 W W'/\∀b,b<W.heap.size->¬ M b->W'.heap[b]? = W.heap[b]?
theorem Out.refl(M:Nat->Prop)(W:World):Out M W W:=⟨Below.refl _ _,λ_ _ _=>rfl⟩
theorem Out.size{M:Nat->Prop}{W W':World}(h:Out M W W'):W.heap.size<=W'.heap.size:=h.1.size
theorem Out.trans{M:Nat->Prop}{X Y Z:World}(h:Out M X Y)(k:Out M Y Z):Out M X Z:=⟨h.1.trans k.1,λb hb hm=>(k.2 b (aR hb h.size) hm).trans (h.2 b hb hm)⟩
theorem Out.mono{M M':Nat->Prop}{X Y:World}(h:Out M X Y)(hm:∀b,b<X.heap.size->M b->M' b):Out M' X Y:=⟨h.1,λb hb hn=>h.2 b hb λq=>hn (hm b hb q)⟩
theorem Out.of_below{M:Nat->Prop}{X Y:World}(h:Below X.heap.size X Y):Out M X Y:=⟨h.mono (bJ _),λb hb _=>h.block b hb⟩
theorem Out.below{M:Nat->Prop}{n:Nat}{X Y:World}(h:Out M X Y)(hn:n<=X.heap.size)(hm:∀b,b<n->¬ M b):Below n X Y:=⟨h.1.os,h.1.tape,h.1.output,h.1.size,λb hb=>h.2 b (aR hb hn) (hm b hb)⟩
theorem Out.set{M:Nat->Prop}{X Y:World}(h:Out M X Y){b:Nat}(hb:M b)(i:Nat)(v:Value):Out M X (Y.setCell ⟨b,i,none⟩ v) :=
 ⟨Below.setCell h.1 eY _,λc hc hm=>(Below.heap_setCell Y ⟨b,i,none⟩ v c (λe=>hm (e▸hb))).trans (h.2 c hc hm)⟩
theorem At.out{M:Nat->Prop}{X Y:World}{b:Nat}{o:Obj}(h:At X b o)(hm:¬ M b)(k:Out M X Y):At Y b o:=(k.2 b h.lt hm).trans h
theorem JN{W:World}{b:Nat}{cs:Array Value}{T:TypeId}(h:At W b (.cells cs T)):W.setRow b cs=W:=by
 unfold At at h;obtain⟨hlt,he⟩:=Array.getElem?_eq_some_iff.1 h;cases W with
 | mk heap tape drawn os output =>
   unfold World.setRow;congr 1;apply Array.ext
   . simp
   . intro k h1 h2
     simp only[Array.getElem_modify];split
     . rename_i hk;subst hk;simp at he;simp[he]
     . rfl
theorem At.setRow{W:World}{b:Nat}{cs:Array Value}{T:TypeId}(h:At W b (.cells cs T))(cs':Array Value):At (W.setRow b cs') b (.cells cs' T):=setRow_heap W b cs cs' T _ h
theorem At.mY{W:World}{b b':Nat}{o:Obj}(h:At W b o)(hne:b≠b')(cs':Array Value):At (W.setRow b' cs') b o:=by
 unfold At World.setRow at *;simp only[Array.getElem?_modify];rw[if_neg (λe=>hne e.symm)];exact h
theorem Out.setRow{M:Nat->Prop}{X Y:World}(h:Out M X Y){b:Nat}(hb:M b)(cs:Array Value):Out M X (Y.setRow b cs) :=
 ⟨⟨h.1.os,h.1.tape,h.1.output,by simpa[World.setRow]using h.1.size,λ_ hb=>absurd hb (Nat.not_lt_zero _)⟩,λc hc hm=>by
  have:=h.2 c hc hm;unfold World.setRow;simp only[Array.getElem?_modify];rw[if_neg (by rintro rfl;exact hm hb)]
  exact this⟩
theorem zA:(Tryz.prog.info? 51).map (·.size)=some 55:=by kernel_rfl
theorem CX{W:World}{b:Nat}{s:Re.St}(h:At W b (.cells (cells s) 51)):(Instr.loadAt 51 (.pointer (some ⟨b,0,none⟩))).run Tryz.prog W=.ok (.agg (cells s)) W:=by
 simp only[Instr.loadAt,Instr.sureAddr,Sem.run_bind,Sem.run_pure,Result.andThen_ok,run_loadVar_row W b 51 51 (cells s) (0,0) _ h Tryz.underlying51 rfl (by rw[bC];exact zA)]
theorem EJ{W:World}{b:Nat}{s:Re.St}(h:At W b (.cells (cells s) 51)):(loadVar 51 ⟨b,0,none⟩).run Tryz.prog W=.ok (.agg (cells s)) W :=
 run_loadVar_row W b 51 51 (cells s) (0,0) _ h Tryz.underlying51 rfl (by rw[bC];exact zA)
theorem uU{W:World}{b:Nat}{s t:Re.St}(h:At W b (.cells (cells s) 51)):(Instr.storeAt 51 (.pointer (some ⟨b,0,none⟩)) (.agg (cells t))).run Tryz.prog W=.ok () (W.setRow b (cells t)):=by
 simp only[Instr.storeAt,Instr.sureAddr,Sem.run_bind,Sem.run_pure,Result.andThen_ok,run_storeVar_row W b 51 51 (cells s) (cells t) h (by rw[bC];exact zA) (by rw[bC,bC]) (cells_one t)]
theorem zB{W:World}{b:Nat}{s:Re.St}(h:At W b (.cells (cells s) 51)):(Instr.storeAt 51 (.pointer (some ⟨b,0,none⟩)) (.agg (cells s))).run Tryz.prog W=.ok () W:=by
 rw[uU h,JN h]
theorem JO(W:World):(Instr.build 51 #[]).run Tryz.prog W=.ok (.agg (cells Re.zero)) W:=by kernel_rfl
theorem z8(W:World):(Instr.alloc 51 true (.tuple #[])).run Tryz.prog W=.ok (.pointer (some ⟨W.heap.size,0,none⟩)) (W.alloc (.cells (cells Re.zero) 51)):=by kernel_rfl
structure jv(F:FuncId)(caps:Array Value)(f:Nat->Int->Int)(mine:Nat->Prop)(I:List Int->World->Prop):Prop where
 keep:∀xs W W',I xs W->Below W.heap.size W W'->I xs W'
 set:∀xs W b i v,I xs W->¬ mine b->I xs (W.setCell ⟨b,i,none⟩ v)
 enters:∀(x:Int) (w:World),(callFunc F (#[.int .i64 x]++caps)).run Tryz.prog w=.ok (.enter F (#[.int .i64 x]++caps)) w
 call:∀xs x W,I xs W->xs.length<55->Calls Tryz.prog F (#[.int .i64 x]++caps) W λe W'=>e=.returned (.int .i64 (f xs.length x))/\I (xs++[x]) W'/\Out mine W W'
end Go.Proofs.YtcbcfdihofclkaaGreat.Fix
namespace Go.Proofs.YtcbcfdihofclkaaGreat.Fix
open Go.ChangeShapes Go.WideShapes Go.ChangeAt Go.RowKit Go.Joins
def xg(i:Nat)(v:Value):Prop:=if Re.sJ i=true then ∃b,v=.bool b else ∃n:Int,v=.int .i64 n/\(Lit.int .i64 n).wf=true
def Fits(s:Re.St):Prop:=∀i,i<55->Re.sJ i=false->(Lit.int .i64 (s.c i)).wf=true
theorem Ue{i:Nat}{n:Int}(hb:Re.sJ i=false)(h:(Lit.int .i64 n).wf=true):xg i (.int .i64 n):=by
 unfold xg;rw[if_neg (by simp[hb])];exact⟨n,rfl,h⟩
theorem QD{i:Nat}{b:Bool}(hb:Re.sJ i=true):xg i (.bool b):=by
 unfold xg;rw[if_pos hb];exact⟨b,rfl⟩
theorem xk:Tryz.prog.cellsOf 3=1:=by kernel_rfl
theorem BO:Tryz.prog.cellsOf 4=1:=by kernel_rfl
theorem H7:Tryz.prog.cellsOf 46=1:=by kernel_rfl
theorem CY:Tryz.prog.cellsOf 38=1:=by kernel_rfl
theorem CZ:Tryz.prog.cellsOf 45=1:=by kernel_rfl
theorem C8:Tryz.prog.cellsOf 41=1:=by kernel_rfl
theorem Bd:Tryz.prog.cellsOf 40=1:=by kernel_rfl
theorem Bf:Tryz.prog.cellsOf 39=1:=by kernel_rfl
theorem zC:Tryz.prog.cellsOf 48=1:=by kernel_rfl
theorem Bg:Tryz.prog.cellsOf 47=1:=by kernel_rfl
theorem jL:Tryz.prog.cellsOf 43=2:=by kernel_rfl
theorem Ab:Tryz.prog.cellsOf 44=8:=by kernel_rfl
theorem Pj:Tryz.prog.cellsOf 36=4:=by kernel_rfl
theorem Yr:Tryz.prog.cellsOf 49=2:=by kernel_rfl
theorem yh:Tryz.prog.cellsOf 51=55:=by kernel_rfl
theorem JQ{cs:List Value}{o:Nat}{v:Value}(h:(cs.drop o).take 1=[v]):cs[o]? = some v:=by
 have:=congrArg (λl:List Value=>l[0]?) h;simpa[List.getElem?_take,List.getElem?_drop]using this
theorem yj{cs:List Value}{o n j m:Nat}(h:j+m<=n):(((cs.drop o).take n).drop j).take m=(cs.drop (o+j)).take m:=by
 rw[List.drop_take,List.take_take,Nat.min_eq_left ak,List.drop_drop]
section
variable {H:Type} {enc:TypeId×Value->H} {w:World} {base:Nat} {spare:Nat->Bool} {held:Bool}
theorem dU{n:Nat}{t:TypeId}{cs:List Value}{o:Nat}{y:DataW H×List MemPlace}(ht:Tryz.prog.underlying t=some (.int .i64))(hb:Re.sJ o=false)(h:DataW.trod enc Tryz.prog w base spare held n t ((cs.drop o).take 1)=some y):∃v,cs[o]? = some v/\xg o v:=by
 obtain⟨a,e,_,wf⟩:=DataW.trod_int ht h;exact⟨_,JQ e,Ue hb wf⟩
theorem pE{n:Nat}{cs:List Value}{o:Nat}{y:DataW H×List MemPlace}(hb:Re.sJ o=true)(h:DataW.trod enc Tryz.prog w base spare held n 4 ((cs.drop o).take 1)=some y):∃v,cs[o]? = some v/\xg o v:=by
 obtain⟨a,e,_⟩:=DataW.trod_bool Tryz.underlying4 h;exact⟨_,JQ e,QD hb⟩
theorem iE{n:Nat}{cs:List Value}{o:Nat}{y:DataW H×List MemPlace}(h0:Re.sJ o=false)(h1:Re.sJ (o+1)=false)(h:DataW.trod enc Tryz.prog w base spare held n 43 ((cs.drop o).take 2)=some y):(∃v,cs[o]? = some v/\xg o v)/\∃v,cs[o+1]? = some v/\xg (o+1) v:=by
 obtain⟨xs,k,rfl,_,_,hxl,hf⟩:=DataW.trod_struct Tryz.underlying43 h
 match xs,hxl with
 | [y0,y1],_ =>
   have g0:DataW.trod enc Tryz.prog w base spare held k 41 ((((cs.drop o).take 2).drop 0).take (Tryz.prog.cellsOf 41))=some y0:=hf 0 _ rfl;have g1:DataW.trod enc Tryz.prog w base spare held k 3 ((((cs.drop o).take 2).drop 1).take (Tryz.prog.cellsOf 3))=some y1:=hf 1 _ rfl;rw[C8,yj ak]at g0;rw[xk,yj ak]at g1;exact⟨dU Tryz.underlying41 h0 g0,dU Tryz.underlying3 h1 g1⟩
theorem wN{n:Nat}{cs:List Value}{o:Nat}{y:DataW H×List MemPlace}(hb:∀j,j<8->Re.sJ (o+j)=false)(h:DataW.trod enc Tryz.prog w base spare held n 44 ((cs.drop o).take 8)=some y):∀j,j<8->∃v,cs[o+j]? = some v/\xg (o+j) v:=by
 obtain⟨xs,k,rfl,_,_,hxl,hf⟩:=DataW.trod_array Tryz.underlying44 h;have key:∀i,i<4->(∃v,cs[o+i*2]? = some v/\xg (o+i*2) v)/\∃v,cs[o+i*2+1]? = some v/\xg (o+i*2+1) v:=by
  intro i hi;have g:=hf i hi;rw[jL,yj ak,List.getElem?_eq_getElem ak]at g;exact iE (hb (i*2) ak) (hb (i*2+1) ak) g
 intro j hj;have:j=j/2*2\/j=j/2*2+1:=by omega
 rcases this with e|e
 . rw[e];exact(key (j/2) ak).1
 . rw[e];exact(key (j/2) ak).2
theorem qO{n m sz:Nat}{t:TypeId}{cs:List Value}{o:Nat}{y:DataW H×List MemPlace}(ht:Tryz.prog.underlying t=some (.array m 3))(hb:∀j,j<m->Re.sJ (o+j)=false)(h:DataW.trod enc Tryz.prog w base spare held n t ((cs.drop o).take m)=some y):∀j,j<m->∃v,cs[o+j]? = some v/\xg (o+j) v:=by
 obtain⟨xs,k,rfl,_,_,hxl,hf⟩:=DataW.trod_array ht h;intro i hi;have g:=hf i hi;rw[xk,yj ak,List.getElem?_eq_getElem ak,Nat.mul_one]at g;exact dU Tryz.underlying3 (hb i hi) g
set_option maxRecDepth 10000 in
theorem MU{n:Nat}{cs:List Value}{y:DataW H×List MemPlace}(h:DataW.trod enc Tryz.prog w base spare held n 51 cs=some y):cs.length=55/\∀i,i<55->∃v,cs[i]? = some v/\xg i v:=by
 obtain⟨xs,k,rfl,_,hl,hxl,hf⟩:=DataW.trod_struct Tryz.underlying51 h;rw[yh]at hl;refine⟨hl,?_⟩;have ex:∀i,i<27->∃y,xs[i]? = some y:=λi hi=>⟨_,List.getElem?_eq_getElem (by rw[hxl];exact hi)⟩;obtain⟨y0,q0⟩:=ex 0 aG;have g0:DataW.trod enc Tryz.prog w base spare held k 38 ((cs.drop 0).take (Tryz.prog.cellsOf 38))=some y0:=(hf 0 _ rfl).trans q0;rw[CY]at g0;have r0:=dU (o:=0) Tryz.underlying38 rfl g0;obtain⟨y1,q1⟩:=ex 1 aG;have g1:DataW.trod enc Tryz.prog w base spare held k 39 ((cs.drop 1).take (Tryz.prog.cellsOf 39))=some y1:=(hf 1 _ rfl).trans q1;rw[Bf]at g1;have r1:=dU (o:=1) Tryz.underlying39 rfl g1;obtain⟨y2,q2⟩:=ex 2 aG;have g2:DataW.trod enc Tryz.prog w base spare held k 40 ((cs.drop 2).take (Tryz.prog.cellsOf 40))=some y2:=(hf 2 _ rfl).trans q2;rw[Bd]at g2;have r2:=dU (o:=2) Tryz.underlying40 rfl g2;obtain⟨y3,q3⟩:=ex 3 aG;have g3:DataW.trod enc Tryz.prog w base spare held k 43 ((cs.drop 3).take (Tryz.prog.cellsOf 43))=some y3:=(hf 3 _ rfl).trans q3;rw[jL]at g3;have r3:=iE (o:=3) rfl rfl g3;obtain⟨y4,q4⟩:=ex 4 aG;have g4:DataW.trod enc Tryz.prog w base spare held k 43 ((cs.drop 5).take (Tryz.prog.cellsOf 43))=some y4:=(hf 4 _ rfl).trans q4;rw[jL]at g4;have r4:=iE (o:=5) rfl rfl g4;obtain⟨y5,q5⟩:=ex 5 aG;have g5:DataW.trod enc Tryz.prog w base spare held k 43 ((cs.drop 7).take (Tryz.prog.cellsOf 43))=some y5:=(hf 5 _ rfl).trans q5;rw[jL]at g5;have r5:=iE (o:=7) rfl rfl g5;obtain⟨y6,q6⟩:=ex 6 aG;have g6:DataW.trod enc Tryz.prog w base spare held k 43 ((cs.drop 9).take (Tryz.prog.cellsOf 43))=some y6:=(hf 6 _ rfl).trans q6;rw[jL]at g6;have r6:=iE (o:=9) rfl rfl g6;obtain⟨y7,q7⟩:=ex 7 aG;have g7:DataW.trod enc Tryz.prog w base spare held k 43 ((cs.drop 11).take (Tryz.prog.cellsOf 43))=some y7:=(hf 7 _ rfl).trans q7;rw[jL]at g7;have r7:=iE (o:=11) rfl rfl g7;obtain⟨y8,q8⟩:=ex 8 aG;have g8:DataW.trod enc Tryz.prog w base spare held k 43 ((cs.drop 13).take (Tryz.prog.cellsOf 43))=some y8:=(hf 8 _ rfl).trans q8;rw[jL]at g8;have r8:=iE (o:=13) rfl rfl g8;obtain⟨y9,q9⟩:=ex 9 aG;have g9:DataW.trod enc Tryz.prog w base spare held k 44 ((cs.drop 15).take (Tryz.prog.cellsOf 44))=some y9:=(hf 9 _ rfl).trans q9;rw[Ab]at g9;have r9:=wN (o:=15) aG g9;obtain⟨y10,q10⟩:=ex 10 aG;have g10:DataW.trod enc Tryz.prog w base spare held k 44 ((cs.drop 23).take (Tryz.prog.cellsOf 44))=some y10:=(hf 10 _ rfl).trans q10;rw[Ab]at g10;have r10:=wN (o:=23) aG g10;obtain⟨y11,q11⟩:=ex 11 aG;have g11:DataW.trod enc Tryz.prog w base spare held k 36 ((cs.drop 31).take (Tryz.prog.cellsOf 36))=some y11:=(hf 11 _ rfl).trans q11;rw[Pj]at g11;have r11:=qO (o:=31) (m:=4) (sz:=1) Tryz.underlying36 aG g11;obtain⟨y12,q12⟩:=ex 12 aG;have g12:DataW.trod enc Tryz.prog w base spare held k 36 ((cs.drop 35).take (Tryz.prog.cellsOf 36))=some y12:=(hf 12 _ rfl).trans q12;rw[Pj]at g12;have r12:=qO (o:=35) (m:=4) (sz:=1) Tryz.underlying36 aG g12;obtain⟨y13,q13⟩:=ex 13 aG;have g13:DataW.trod enc Tryz.prog w base spare held k 3 ((cs.drop 39).take (Tryz.prog.cellsOf 3))=some y13:=(hf 13 _ rfl).trans q13;rw[xk]at g13;have r13:=dU (o:=39) Tryz.underlying3 rfl g13;obtain⟨y14,q14⟩:=ex 14 aG;have g14:DataW.trod enc Tryz.prog w base spare held k 3 ((cs.drop 40).take (Tryz.prog.cellsOf 3))=some y14:=(hf 14 _ rfl).trans q14;rw[xk]at g14;have r14:=dU (o:=40) Tryz.underlying3 rfl g14;obtain⟨y15,q15⟩:=ex 15 aG;have g15:DataW.trod enc Tryz.prog w base spare held k 43 ((cs.drop 41).take (Tryz.prog.cellsOf 43))=some y15:=(hf 15 _ rfl).trans q15;rw[jL]at g15;have r15:=iE (o:=41) rfl rfl g15;obtain⟨y16,q16⟩:=ex 16 aG;have g16:DataW.trod enc Tryz.prog w base spare held k 45 ((cs.drop 43).take (Tryz.prog.cellsOf 45))=some y16:=(hf 16 _ rfl).trans q16;rw[CZ]at g16;have r16:=dU (o:=43) Tryz.underlying45 rfl g16;obtain⟨y17,q17⟩:=ex 17 aG;have g17:DataW.trod enc Tryz.prog w base spare held k 46 ((cs.drop 44).take (Tryz.prog.cellsOf 46))=some y17:=(hf 17 _ rfl).trans q17;rw[H7]at g17;have r17:=dU (o:=44) Tryz.underlying46 rfl g17;obtain⟨y18,q18⟩:=ex 18 aG;have g18:DataW.trod enc Tryz.prog w base spare held k 4 ((cs.drop 45).take (Tryz.prog.cellsOf 4))=some y18:=(hf 18 _ rfl).trans q18;rw[BO]at g18;have r18:=pE (o:=45) rfl g18;obtain⟨y19,q19⟩:=ex 19 aG;have g19:DataW.trod enc Tryz.prog w base spare held k 3 ((cs.drop 46).take (Tryz.prog.cellsOf 3))=some y19:=(hf 19 _ rfl).trans q19;rw[xk]at g19;have r19:=dU (o:=46) Tryz.underlying3 rfl g19;obtain⟨y20,q20⟩:=ex 20 aG;have g20:DataW.trod enc Tryz.prog w base spare held k 4 ((cs.drop 47).take (Tryz.prog.cellsOf 4))=some y20:=(hf 20 _ rfl).trans q20;rw[BO]at g20;have r20:=pE (o:=47) rfl g20;obtain⟨y21,q21⟩:=ex 21 aG;have g21:DataW.trod enc Tryz.prog w base spare held k 3 ((cs.drop 48).take (Tryz.prog.cellsOf 3))=some y21:=(hf 21 _ rfl).trans q21;rw[xk]at g21;have r21:=dU (o:=48) Tryz.underlying3 rfl g21;obtain⟨y22,q22⟩:=ex 22 aG;have g22:DataW.trod enc Tryz.prog w base spare held k 47 ((cs.drop 49).take (Tryz.prog.cellsOf 47))=some y22:=(hf 22 _ rfl).trans q22;rw[Bg]at g22;have r22:=dU (o:=49) Tryz.underlying47 rfl g22;obtain⟨y23,q23⟩:=ex 23 aG;have g23:DataW.trod enc Tryz.prog w base spare held k 48 ((cs.drop 50).take (Tryz.prog.cellsOf 48))=some y23:=(hf 23 _ rfl).trans q23;rw[zC]at g23;have r23:=dU (o:=50) Tryz.underlying48 rfl g23;obtain⟨y24,q24⟩:=ex 24 aG;have g24:DataW.trod enc Tryz.prog w base spare held k 4 ((cs.drop 51).take (Tryz.prog.cellsOf 4))=some y24:=(hf 24 _ rfl).trans q24;rw[BO]at g24;have r24:=pE (o:=51) rfl g24;obtain⟨y25,q25⟩:=ex 25 aG;have g25:DataW.trod enc Tryz.prog w base spare held k 4 ((cs.drop 52).take (Tryz.prog.cellsOf 4))=some y25:=(hf 25 _ rfl).trans q25;rw[BO]at g25;have r25:=pE (o:=52) rfl g25;obtain⟨y26,q26⟩:=ex 26 aG;have g26:DataW.trod enc Tryz.prog w base spare held k 49 ((cs.drop 53).take (Tryz.prog.cellsOf 49))=some y26:=(hf 26 _ rfl).trans q26;rw[Yr]at g26;have r26:=qO (o:=53) (m:=2) (sz:=1) Tryz.underlying49 aG g26;intro i hi
 match i,hi with
 | 0,_=>exact r0
 | 1,_=>exact r1
 | 2,_=>exact r2
 | 3,_=>exact r3.1
 | 4,_=>exact r3.2
 | 5,_=>exact r4.1
 | 6,_=>exact r4.2
 | 7,_=>exact r5.1
 | 8,_=>exact r5.2
 | 9,_=>exact r6.1
 | 10,_=>exact r6.2
 | 11,_=>exact r7.1
 | 12,_=>exact r7.2
 | 13,_=>exact r8.1
 | 14,_=>exact r8.2
 | 15,_=>exact r9 0 aG
 | 16,_=>exact r9 1 aG
 | 17,_=>exact r9 2 aG
 | 18,_=>exact r9 3 aG
 | 19,_=>exact r9 4 aG
 | 20,_=>exact r9 5 aG
 | 21,_=>exact r9 6 aG
 | 22,_=>exact r9 7 aG
 | 23,_=>exact r10 0 aG
 | 24,_=>exact r10 1 aG
 | 25,_=>exact r10 2 aG
 | 26,_=>exact r10 3 aG
 | 27,_=>exact r10 4 aG
 | 28,_=>exact r10 5 aG
 | 29,_=>exact r10 6 aG
 | 30,_=>exact r10 7 aG
 | 31,_=>exact r11 0 aG
 | 32,_=>exact r11 1 aG
 | 33,_=>exact r11 2 aG
 | 34,_=>exact r11 3 aG
 | 35,_=>exact r12 0 aG
 | 36,_=>exact r12 1 aG
 | 37,_=>exact r12 2 aG
 | 38,_=>exact r12 3 aG
 | 39,_=>exact r13
 | 40,_=>exact r14
 | 41,_=>exact r15.1
 | 42,_=>exact r15.2
 | 43,_=>exact r16
 | 44,_=>exact r17
 | 45,_=>exact r18
 | 46,_=>exact r19
 | 47,_=>exact r20
 | 48,_=>exact r21
 | 49,_=>exact r22
 | 50,_=>exact r23
 | 51,_=>exact r24
 | 52,_=>exact r25
 | 53,_=>exact r26 0 aG
 | 54,_=>exact r26 1 aG
 | n+55,h=>exact absurd h ak
theorem Cn{cs:Array Value}{d:DataW H}{p:List MemPlace}(h:DataW.Trod enc Tryz.prog w base spare held 51 (.agg cs) d p):∃s:Re.St,Value.agg cs=.agg (cells s)/\Fits s:=by
 obtain⟨fuel,hf⟩:=h;obtain⟨hl,hc⟩:=MU hf;simp only[Value.cells]at hl hc;refine⟨⟨λi=>match cs[i]? with|some (.int _ n)=>n | _=>0,λi=>match cs[i]? with|some (.bool b)=>b | _=>false⟩,?_,?_⟩
 . congr 1
   apply Array.ext_getElem?;intro i;by_cases hi:i<55
   . obtain⟨v,hv,ok⟩:=hc i hi
     rw[Array.getElem?_toList]at hv;rw[iB _ hi,hv];unfold xg at ok;unfold cell;by_cases hb:Re.sJ i=true
     . rw[if_pos hb]at ok ⊢
       obtain⟨b,rfl⟩:=ok;simp[hv]
     . rw[if_neg hb]at ok ⊢
       obtain⟨b,rfl,_⟩:=ok;simp[hv]
   . rw[Array.getElem?_eq_none (by rw[<-Array.length_toList,hl];omega),Array.getElem?_eq_none Z5a]
 . intro i hi hb
   obtain⟨v,hv,ok⟩:=hc i hi;rw[Array.getElem?_toList]at hv;unfold xg at ok;rw[if_neg (by simp[hb])]at ok;obtain⟨n,rfl,hw⟩:=ok;simp only[hv];exact hw
end
end Go.Proofs.YtcbcfdihofclkaaGreat.Fix
namespace Go.Proofs.YtcbcfdihofclkaaGreat.Fix
open Go.ChangeShapes Go.WideShapes Go.ChangeAt Go.RowKit
theorem wpList_append_run{P:Program}{w w':World}{ops:Array Oper}{rest:List Oper}{o:Oper}{a:Act}{Q:Exit->Act->World->Prop}(hw:Region.wanted o (yielded ops a.tmps)=true)(s x:Operand)(t:TypeId)
  (ho:o.op=.call { callee:=.builtin .append,args:=#[s,x],argTypes:=#[t,t] }) {v u v':Value} (hs:a.eval s=v) (hx:a.eval x=u)
  (hrun:(Builtin.append_ #[t,t] o.type #[v,u]).run P w=.ok v' w') (h:wpList P ops Q rest (a.put o.dst v') w'):wpList P ops Q (o::rest) a w:=by
 unfold wpList;rw[if_pos hw];refine .inl ?_;unfold Oper.wp execOp;simp only[ho,resolve,invoke,builtin,Sem.run_bind,Sem.run_pure,Result.andThen_ok,List.map_toArray,List.map_cons,List.map_nil,hs,hx,hrun];exact h
def Ints(w:World)(A:Option Addr)(zs:List Int):Prop :=
 zs.length<=maxLen/\(0<zs.length->∃b off,A=some ⟨b,off,none⟩/\∀k,k<zs.length->w.cell? ⟨b,off+k,none⟩=some (.int .i64 (zs.getD k 0)))
theorem eH(zs:List Int)(k:Nat)(h:k<zs.length):zs.take (k+1)=zs.take k++[zs.getD k 0]:=by
 rw[List.take_succ_eq_append_getElem h];simp[List.getElem?_eq_getElem h]
theorem JR(w:World)(l:List Int)(T:TypeId)(hl:l.length<=1000):Ints (w.alloc (.cells (l.map (Value.int .i64)).toArray T)) (some ⟨w.heap.size,0,none⟩) l:=by
 refine⟨by unfold maxLen;omega,λ_=>⟨w.heap.size,0,rfl,λk hk => ?_⟩⟩;rw[cell_of_row _ w.heap.size (0+k) _ T (0,0) (heap_alloc_new w _)];simp[hk]
theorem Ints.keep{w w':World}{B:Nat}{A:Option Addr}{zs:List Int}(h:Ints w A zs)(hb:Below B w w')(hA:0<zs.length->∀a,A=some a->a.block<B):Ints w' A zs:=by
 refine⟨h.1,λh0 => ?_⟩;obtain⟨b,off,rfl,hc⟩:=h.2 h0;exact⟨b,off,rfl,λk hk=>(hb.cell (p:=⟨b,off+k,none⟩) (show b<B from hA h0 ⟨b,off,none⟩ rfl)).trans (hc k hk)⟩
theorem uV{w:World}{base:Nat}{e:TypeId}{v:Value}{n:Nat}{l:List Int}(h:w.ownsRow base e 1 v n (l.map (Value.int .i64)))(hm:n<=maxLen) :
  ∃A c,v=.slice A l.length c/\Ints w A l:=by
 have hl:l.length=n:=by simpa using h.1
 subst hl;rcases h.2 with⟨rfl,h0⟩|⟨g,cap,cur,rfl,_,_⟩
 . exact⟨none,0,by rw[h0],hm,λh=>absurd h ak⟩
 . refine⟨_,_,rfl,hm,λh0=>⟨g,0,rfl,λk hk => ?_⟩⟩
   have:=h.cells (g:=g) rfl k (.int .i64 (l.getD k 0)) (by simp[List.getElem?_eq_getElem hk]);have e:(⟨g,0,none⟩:Addr).add k=⟨g,0+k,none⟩:=by
    unfold Addr.add;split
    . subst k;rfl
    . rfl
   rw[e]at this;exact this
theorem yt(A:Option Addr)(zs:List Int)(n c:Nat)(w:World)(h:Ints w A zs)(hn:zs.length=n) :
  Calls Tryz.prog 268 #[.slice A n c] w λe w'=>e=.returned (.int .i64 (Fx.coll zs))/\w=w':=by
 obtain⟨hm,h⟩:=h;unfold maxLen at hm;rw[hn]at hm h;have HN:=Lib.hid hn;clear hn;have HA:=Lib.hid h;clear h;go_enter Tryz.func268,Tryz.ntmps268
 go_wp2
 go_loop [3,4,9] (λg s i=>∃k:Nat,k<=n/\i=.int .i64 k/\g=.int .i64 (Fx.top (zs.take k))/\s=.int .i64 (Fx.bot (zs.take k))) (λ_ _ i=>n-(intOf i).toNat)
 case atStart=>exact⟨0,by omega,rfl,rfl,rfl⟩
 case round =>
  obtain⟨k,hk,rfl,rfl,rfl⟩:=hrel;by_cases hlt:k<n
  . obtain⟨b,off,rfl,hc⟩:=HA.out ak
    have hcell:=hc k hlt;clear hc;have hs:Hid (max (Fx.top (zs.take k)) (zs.getD k 0)=Fx.top (zs.take (k+1))):=Lib.hid (by rw[eH zs k SC,Fx.TF]);have ht:Hid (min (Fx.bot (zs.take k)) (zs.getD k 0)=Fx.bot (zs.take (k+1))):=Lib.hid (by rw[eH zs k SC,Fx.TG]);clear HA;generalize zs.getD k 0=z at *;go_wp2
    go_round
    case rel=>exact⟨k+1,by omega,by go_num,by rw[hs.out],by rw[ht.out]⟩
    case measure=>simp[intOf];omega
  . go_wp2_with (first|(go_at_call 109;with_reducible refine wL (pz _ _ _) ?_))
    go_ret
    exact⟨bI (by rw[List.take_of_length_le (by rw[HN.out];omega)];rfl),rfl⟩
theorem JU(A:Option Addr)(zs:List Int)(n c:Nat)(w:World)(h:Ints w A zs)(hn:zs.length=n) :
  Calls Tryz.prog 222 #[.slice A n c] w λe w'=>e=.returned (.int .i64 (Fx.coll zs))/\w=w':=by
 have S1:=yt A zs n c w h hn;go_enter Tryz.func222,Tryz.ntmps222
 go_wp2_with fail
 refine S1.mono ?_;rintro e w' ⟨rfl,rfl⟩;go_wp2;exact Eu
theorem Uf(w:World)(a b:Int)(T:TypeId):Ints (w.alloc (.cells #[.int .i64 a,.int .i64 b] T)) (some ⟨w.heap.size,0,none⟩) [a,b]:=JR w [a,b] T eY
theorem Ug(a b:Int)(w:World):Calls Tryz.prog 269 #[.int .i64 a,.int .i64 b] w λe w'=>e=.returned (.int .i64 (Fx.coll [a,b]))/\Below w.heap.size w w':=by
 go_enter Tryz.func269,Tryz.ntmps269
 go_wp2_with (go_at_call 268;refine(yt _ [a,b] 2 2 _ (Uf _ _ _ _) rfl).mono ?_;rintro e w' ⟨rfl,rfl⟩)
 go_ret
 exact⟨rfl,Below.alloc' (Below.refl _ _) _⟩
theorem QE(n:Int)(a b:Bool)(w:World)(h1 : -1099511627776<=n)(h2:n<=1099511627776):Calls Tryz.prog 267 #[.int .i64 n,.bool a,.bool b] w λe w'=>e=.returned (.tuple #[.int .i64 (Fx.shA n a b),.int .i64 (Fx.shB n a b)])/\w=w':=by
 by_cases h:n<=0
 . go_enter Tryz.func267,Tryz.ntmps267
   go_wp2_with (first|(go_at_call 93;with_reducible refine wL (vV _ _ _) ?_))
   go_ret2
   exact⟨Hw (by unfold Fx.shA;rw[if_pos ak]) (by unfold Fx.shB;rw[if_pos ak]),rfl⟩
 . cases a<;>cases b
   all_goals
    go_enter Tryz.func267,Tryz.ntmps267
    go_wp2_with (first|(go_at_call 93;with_reducible refine wL (vV _ _ _) ?_))
    go_ret2
    exact⟨Hw (by unfold Fx.shA;rw[if_neg ak];rfl) (by unfold Fx.shB;rw[if_neg ak];rfl),rfl⟩
theorem Uh(room size bk bn ek en base:Int)(w:World):Calls Tryz.prog 221 #[.int .i64 room,.int .i64 size,.agg #[.int .i64 bk,.int .i64 bn],.agg #[.int .i64 ek,.int .i64 en],.int .i64 base] w λe w'=>e=.returned (.tuple #[.int .i64 (Fx.TH room size (Fx.len bk bn base 0) (Fx.len ek en base 0) (Fx.mX bk base) (Fx.mX ek base)),.int .i64 (Fx.adt room size (Fx.len bk bn base 0) (Fx.len ek en base 0) (Fx.mX bk base) (Fx.mX ek base))])/\Below w.heap.size w w':=by
 go_enter Tryz.func221,Tryz.ntmps221
 go_upto_region 1 with(fail)
 (generalize hW:World.alloc (World.alloc w _) _=W0;have A0:At W0 (w.heap.size) (.cells #[.int .i64 bk,.int .i64 bn] 43):=Z5c;have A1:At W0 (w.heap.size+1) (.cells #[.int .i64 ek,.int .i64 en] 43):=(by((rw[<-hW])<;>exact At.new' _ Ev));have hB:Below w.heap.size w W0:=(by((rw[<-hW])<;>exact Below.alloc' (Below.alloc' (Below.refl _ _) _) _));clear hW;obtain⟨l0,aA,aB⟩:=At.two A0;obtain⟨l1,aL,aM⟩:=At.two A1)
 refine xP ?_
 (repeat (first|refine nN ?_ | refine nO ?_ (hc:=by intro w2 hS;first|with_reducible exact nI hS (ng _ _ _ _ _))|refine nP ?_))
 refine aj.bZ ?_;intro w2 hS
 (clear l0 aA aB l1 aL aM);(replace hB:=Below.ay yT (ah _) hS);replace A0:=At.keep BJ hS;replace A1:=At.keep zn hS;clear hS;obtain⟨l0,aA,aB⟩:=At.two A0;obtain⟨l1,aL,aM⟩:=At.two A1
 go_upto_region 3 with(first|(go_at_call 93;with_reducible refine wL (vV _ _ _) ?_)|(go_at_call 109;with_reducible refine wL (pz _ _ _) ?_))
 refine xP ?_
 (repeat (first|refine nN ?_ | refine nO ?_ (hc:=by intro w2 hS;first|with_reducible exact nI hS (rA _ _ _ _)|with_reducible exact JM hS (QE _ _ _ _ (Fx.abp _ _) (Fx.sub_le _ _)))|refine nP ?_))
 refine aj.bZ ?_;intro w2 hS
 (clear l0 aA aB l1 aL aM);(replace hB:=Below.ay yT (ah _) hS);replace A0:=At.keep BJ hS;replace A1:=At.keep zn hS;clear hS;obtain⟨l0,aA,aB⟩:=At.two A0;obtain⟨l1,aL,aM⟩:=At.two A1
 go_wp2_with (first|(go_at_call 109;with_reducible refine wL (pz _ _ _) ?_))
 go_ret2
 exact⟨rfl,hB⟩
end Go.Proofs.YtcbcfdihofclkaaGreat.Fix
