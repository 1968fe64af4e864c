/- Boxes laid by the program: what its functions do, part 10. -/
import Derived.Shelf.Abstract
import Derived.Maps.OwnIn
import Derived.Deep.RegionWith
import Derived.Deep.Cut
import Derived.Test.YteggipnplbkijaaGreatWK
import Derived.Test.YteggipnplbkijaaGreatW03
import Derived.Test.YteggipnplbkijaaGreatW04
import Derived.Test.YteggipnplbkijaaGreatW05
import Derived.Test.YteggipnplbkijaaGreatW06
import Derived.Test.YteggipnplbkijaaGreatW09
set_option linter.unusedVariables false
set_option linter.unusedSimpArgs false
set_option linter.unusedSectionVars false
set_option maxRecDepth 100000
namespace Go.Proofs.YteggipnplbkijaaGreat.Fix
open Go.ChangeShapes Go.WideShapes Go.ChangeAt Go.RowKit
def Went (S S':Nat→Prop) (W W':World):Prop:=Out S W W'∧∀ b,S' b→S b∨(W.heap.size≤b∧b<W'.heap.size)
theorem Went.refl (S:Nat→Prop) (W:World):Went S S W W:=⟨Out.refl _ _,fun _ h => .inl h⟩
theorem Went.trans {S S' S'':Nat→Prop} {W W' W'':World} (h:Went S S' W W') (k:Went S' S'' W' W''):Went S S'' W W'':=by
 have h1:=h.1.size
 have h2:=k.1.size
 refine ⟨⟨h.1.1.trans k.1.1,fun b hb hm=>(k.1.2 b (Nat.lt_of_lt_of_le hb h1) fun q => ?_).trans (h.1.2 b hb hm)⟩,fun b hb => ?_⟩
 · rcases h.2 b q with q | q
   · exact hm q
   · omega
 · rcases k.2 b hb with q | q
   · rcases h.2 b q with q | q
     · exact .inl q
     · exact .inr ⟨q.1,by omega⟩
   · exact .inr ⟨by omega,q.2⟩
theorem Went.of_below {S:Nat→Prop} {W W':World} (h:Below W.heap.size W W'):Went S S W W':=⟨Out.of_below h,fun _ h => .inl h⟩
theorem Out.putObj (W:World) (r:Nat) (o:Obj):Out (fun b=>b=r) W (W.putObj r o):=Out.grown (grownBy_putObj' W r o) fun b e=>by injection e with e;exact e.symm
def marks (Ds:List Nat):List Deferred:=Ds.map fun D=>{ target:= .collected D,args:=#[] }
end Go.Proofs.YteggipnplbkijaaGreat.Fix
namespace Go.Proofs.YteggipnplbkijaaGreat.Fix
open Go.ChangeShapes Go.WideShapes Go.ChangeAt Go.RowKit Go.Shelf
attribute [local go_sem] Oper.semAt_some
theorem reads_lookup {ops:Array Oper} {S:World→Prop} {o:Oper} {a:Act} {ty:TypeId} {x y:Operand} {m z v:Value} (hw:Region.wanted o (yielded ops a.tmps)=true) (ho:o.op = .lookup ty x y false) (hx:a.eval x=m) (hy:a.eval y=z)
  (hrun:∀ W,S W→(Instr.lookup ty m z false).run Tryz.prog W = .ok v W):Drawn.Reads Tryz.prog ops S o v a :=
 .inl ⟨hw,fun W hS=>by unfold execOp;simp only [ho,hx,hy,Sem.run_bind,Sem.run_pure,hrun W hS,Result.andThen_ok]⟩
def told (T:Tr.T) (f:Nat) (l:List Int) (k:Nat):Nat:=((l.take k).flatMap (Tr.sub T f)).length
theorem Went.sub {S S' S2:Nat→Prop} {W W':World} (h:Went S S' W W') (k:∀ b,S2 b→S' b):Went S S2 W W':=⟨h.1,fun b hb=>h.2 b (k b hb)⟩
theorem KS.ints_of {W:World} {A:Option Addr} {n c:Nat} {l:List Int} (h:KS W (.slice A n c) l):Ints W A l∧l.length=n:=by
 obtain ⟨A',c',e,hI,_⟩:=h.ints
 injection e with e1 e2 e3
 subst e1
 exact ⟨hI,e2.symm⟩
end Go.Proofs.YteggipnplbkijaaGreat.Fix
namespace Go.Proofs.YteggipnplbkijaaGreat.Fix
open Go.ChangeShapes Go.WideShapes Go.ChangeAt Go.RowKit Go.Shelf
attribute [local go_sem] Oper.semAt_some
theorem ownsRow_out {M:Nat→Prop} {W W':World} {base:Nat} {e:TypeId} {size:Nat} {v:Value} {n:Nat} {xs:List Value} (h:W.ownsRow base e size v n xs) (hm:∀ g,v.ownBlock=some g→¬ M g) (k:Out M W W'):W'.ownsRow base e size v n xs:=by
 refine ⟨h.1,?_⟩
 rcases h.2 with q | ⟨g,cap,cur,rfl,hb,hg,r⟩
 · exact .inl q
 · exact .inr ⟨g,cap,cur,rfl,hb,(show At W g _ from hg).out (hm g rfl) k,r⟩
theorem rowBase {W:World} {base base':Nat} {e:TypeId} {size:Nat} {v:Value} {k:Nat} {xs:List Value} (h:W.ownsRow base e size v k xs) (hb:base'≤base):W.ownsRow base' e size v k xs:=by
 refine ⟨h.1,?_⟩
 rcases h.2 with q | ⟨g,cap,cur,q1,q2,r⟩
 · exact .inl q
 · exact .inr ⟨g,cap,cur,q1,Nat.le_trans hb q2,r⟩
end Go.Proofs.YteggipnplbkijaaGreat.Fix
namespace Go.Proofs.YteggipnplbkijaaGreat.Fix
open Go.ChangeShapes Go.WideShapes Go.ChangeAt Go.RowKit
structure Here (F:FuncId) (caps:Array Value) (I:List Int→World→Prop) (bw b:Nat) (T:TypeId) (cs:Array Value) (wr:Bool) (xs:List Int) (W:World):Prop where
 i:I xs W
 a:At W b (.cells cs T)
 w:At W bw (.cells #[.func (.func F) #[] caps,.bool wr] 194)
structure Apart3 (mine:Nat→Prop) (b bw:Nat):Prop where
 nb:¬ mine b
 nw:¬ mine bw
 ne:b≠bw
theorem hold_any {bw:Nat} {v:Value} {wr ok:Bool} {w:World} (aw:At w bw (.cells #[v,.bool wr] 194)) :
  Calls Tryz.prog 196 #[.pointer (some ⟨bw,0,none⟩),.bool ok] w fun e w'=>e = .returned (.tuple #[])∧w'=w.setCell ⟨bw,1,none⟩ (.bool (wr || !ok)):=by
 obtain ⟨lw,c0,c1⟩:=At.two aw
 have z1:=aw.thaw 1
 cases wr
 · go_enter Tryz.func196,Tryz.ntmps196
   go_wp2
   refine bodyPost_end (results_none rfl _ _ _) rfl ⟨rfl,rfl⟩
 · go_enter Tryz.func196,Tryz.ntmps196
   go_wp2
   refine bodyPost_end (results_none rfl _ _ _) rfl ⟨rfl,rfl⟩
theorem Here.held {F:FuncId} {caps:Array Value} {f:Nat→Int→Int} {mine:Nat→Prop} {I:List Int→World→Prop} (hA:Asks F caps f mine I) {bw b:Nat} {T:TypeId} {cs:Array Value} {wr:Bool} {xs:List Int} {W:World}
 (h:Here F caps I bw b T cs wr xs W) (hp:Apart3 mine b bw) (v:Bool):Here F caps I bw b T cs v xs (W.setCell ⟨bw,1,none⟩ (.bool v)):=⟨hA.set _ _ _ _ _ h.i hp.nw,h.a.off hp.ne _ _,h.w.set 1 _⟩
theorem Here.keep {F:FuncId} {caps:Array Value} {f:Nat→Int→Int} {mine:Nat→Prop} {I:List Int→World→Prop} (hA:Asks F caps f mine I) {bw b:Nat} {T:TypeId} {cs:Array Value} {wr:Bool} {xs:List Int} {W W':World}
 (h:Here F caps I bw b T cs wr xs W) (hb:Below W.heap.size W W'):Here F caps I bw b T cs wr xs W':=⟨hA.keep _ _ _ h.i hb,h.a.keep hb,h.w.keep hb⟩
theorem toldD_any {F:FuncId} {caps:Array Value} {f:Nat→Int→Int} {mine:Nat→Prop} {I:List Int→World→Prop} (hA:Asks F caps f mine I) {b o bw:Nat} {cs:Array Value} {T:TypeId} {wr:Bool} {x y:Int} {xs:List Int} {w:World}
  (h:Here F caps I bw b T cs wr xs w) (hp:Apart3 mine b bw) (hx:xs.length<55) (ho:cs[o]? = some (.int .i64 x)) (hy:y=f xs.length x) :
  Calls Tryz.prog 195 #[.pointer (some ⟨bw,0,none⟩),.pointer (some ⟨b,o,none⟩)] w fun e w'=>e = .returned (.tuple #[])∧Here F caps I bw b T (cs.setIfInBounds o (.int .i64 y)) wr (xs ++ [x]) w'∧Out (fun c=>mine c∨c=b) w w':=by
 subst hy
 obtain ⟨hI,a,aw⟩:=h
 obtain ⟨n1,n2,n3⟩:=hp
 have cx:w.cell? ⟨b,o,none⟩=some (.int .i64 x):=(a.cell o).trans ho
 have lb:=a.lt
 obtain ⟨lw,c0,c1⟩:=At.two aw
 have hcf:=hA.enters
 go_enter Tryz.func195,Tryz.ntmps195
 exact Zb
theorem toldP_any {F:FuncId} {caps:Array Value} {f:Nat→Int→Int} {mine:Nat→Prop} {I:List Int→World→Prop} (hA:Asks F caps f mine I) {b o bw:Nat} {cs:Array Value} {T:TypeId} {wr:Bool} {x y:Int} {xs:List Int} {w:World}
  (h:Here F caps I bw b T cs wr xs w) (hp:Apart3 mine b bw) (hx:xs.length<55) (ho:cs[o]? = some (.int .i64 x)) (hy:y=f xs.length x) :
  Calls Tryz.prog 197 #[.pointer (some ⟨bw,0,none⟩),.pointer (some ⟨b,o,none⟩)] w fun e w'=>e = .returned (.tuple #[])∧Here F caps I bw b T (cs.setIfInBounds o (.int .i64 y)) wr (xs ++ [x]) w'∧Out (fun c=>mine c∨c=b) w w':=by
 subst hy
 obtain ⟨hI,a,aw⟩:=h
 obtain ⟨n1,n2,n3⟩:=hp
 have cx:w.cell? ⟨b,o,none⟩=some (.int .i64 x):=(a.cell o).trans ho
 have lb:=a.lt
 obtain ⟨lw,c0,c1⟩:=At.two aw
 have hcf:=hA.enters
 go_enter Tryz.func197,Tryz.ntmps197
 exact Zb
theorem toldO_any {F:FuncId} {caps:Array Value} {f:Nat→Int→Int} {mine:Nat→Prop} {I:List Int→World→Prop} (hA:Asks F caps f mine I) {b o bw:Nat} {cs:Array Value} {T:TypeId} {wr:Bool} {x y:Int} {xs:List Int} {w:World}
  (h:Here F caps I bw b T cs wr xs w) (hp:Apart3 mine b bw) (hx:xs.length<55) (ho:cs[o]? = some (.int .i64 x)) (hy:y=f xs.length x) :
  Calls Tryz.prog 198 #[.pointer (some ⟨bw,0,none⟩),.pointer (some ⟨b,o,none⟩)] w fun e w'=>e = .returned (.tuple #[])∧Here F caps I bw b T (cs.setIfInBounds o (.int .i64 y)) wr (xs ++ [x]) w'∧Out (fun c=>mine c∨c=b) w w':=by
 subst hy
 obtain ⟨hI,a,aw⟩:=h
 obtain ⟨n1,n2,n3⟩:=hp
 have cx:w.cell? ⟨b,o,none⟩=some (.int .i64 x):=(a.cell o).trans ho
 have lb:=a.lt
 obtain ⟨lw,c0,c1⟩:=At.two aw
 have hcf:=hA.enters
 go_enter Tryz.func198,Tryz.ntmps198
 exact Zb
theorem toldL_any {F:FuncId} {caps:Array Value} {f:Nat→Int→Int} {mine:Nat→Prop} {I:List Int→World→Prop} (hA:Asks F caps f mine I) {b o bw:Nat} {cs:Array Value} {T:TypeId} {wr:Bool} {x y:Int} {xs:List Int} {w:World}
  (h:Here F caps I bw b T cs wr xs w) (hp:Apart3 mine b bw) (hx:xs.length<55) (ho:cs[o]? = some (.int .i64 x)) (hy:y=f xs.length x) :
  Calls Tryz.prog 199 #[.pointer (some ⟨bw,0,none⟩),.pointer (some ⟨b,o,none⟩)] w fun e w'=>e = .returned (.tuple #[])∧Here F caps I bw b T (cs.setIfInBounds o (.int .i64 y)) wr (xs ++ [x]) w'∧Out (fun c=>mine c∨c=b) w w':=by
 subst hy
 obtain ⟨hI,a,aw⟩:=h
 obtain ⟨n1,n2,n3⟩:=hp
 have cx:w.cell? ⟨b,o,none⟩=some (.int .i64 x):=(a.cell o).trans ho
 have lb:=a.lt
 obtain ⟨lw,c0,c1⟩:=At.two aw
 have hcf:=hA.enters
 go_enter Tryz.func199,Tryz.ntmps199
 exact Zb
theorem toldi_any {F:FuncId} {caps:Array Value} {f:Nat→Int→Int} {mine:Nat→Prop} {I:List Int→World→Prop} (hA:Asks F caps f mine I) {b o bw:Nat} {cs:Array Value} {T:TypeId} {wr:Bool} {x y:Int} {xs:List Int} {w:World}
  (h:Here F caps I bw b T cs wr xs w) (hp:Apart3 mine b bw) (hx:xs.length<55) (ho:cs[o]? = some (.int .i64 x)) (hy:y=f xs.length x) :
  Calls Tryz.prog 200 #[.pointer (some ⟨bw,0,none⟩),.pointer (some ⟨b,o,none⟩)] w fun e w'=>e = .returned (.tuple #[])∧Here F caps I bw b T (cs.setIfInBounds o (.int .i64 y)) wr (xs ++ [x]) w'∧Out (fun c=>mine c∨c=b) w w':=by
 subst hy
 obtain ⟨hI,a,aw⟩:=h
 obtain ⟨n1,n2,n3⟩:=hp
 have cx:w.cell? ⟨b,o,none⟩=some (.int .i64 x):=(a.cell o).trans ho
 have lb:=a.lt
 obtain ⟨lw,c0,c1⟩:=At.two aw
 have hcf:=hA.enters
 go_enter Tryz.func200,Tryz.ntmps200
 exact Zb
theorem toldJ_any {F:FuncId} {caps:Array Value} {f:Nat→Int→Int} {mine:Nat→Prop} {I:List Int→World→Prop} (hA:Asks F caps f mine I) {b o bw:Nat} {cs:Array Value} {T:TypeId} {wr:Bool} {x y:Int} {xs:List Int} {w:World}
  (h:Here F caps I bw b T cs wr xs w) (hp:Apart3 mine b bw) (hx:xs.length<55) (ho:cs[o]? = some (.int .i64 x)) (hy:y=f xs.length x) :
  Calls Tryz.prog 202 #[.pointer (some ⟨bw,0,none⟩),.pointer (some ⟨b,o,none⟩)] w fun e w'=>e = .returned (.tuple #[])∧Here F caps I bw b T (cs.setIfInBounds o (.int .i64 y)) wr (xs ++ [x]) w'∧Out (fun c=>mine c∨c=b) w w':=by
 subst hy
 obtain ⟨hI,a,aw⟩:=h
 obtain ⟨n1,n2,n3⟩:=hp
 have cx:w.cell? ⟨b,o,none⟩=some (.int .i64 x):=(a.cell o).trans ho
 have lb:=a.lt
 obtain ⟨lw,c0,c1⟩:=At.two aw
 have hcf:=hA.enters
 go_enter Tryz.func202,Tryz.ntmps202
 exact Zb
theorem toldA_any {F:FuncId} {caps:Array Value} {f:Nat→Int→Int} {mine:Nat→Prop} {I:List Int→World→Prop} (hA:Asks F caps f mine I) {b o bw:Nat} {cs:Array Value} {T:TypeId} {wr:Bool} {x y:Int} {xs:List Int} {w:World}
  (h:Here F caps I bw b T cs wr xs w) (hp:Apart3 mine b bw) (hx:xs.length<55) (ho:cs[o]? = some (.int .i64 x)) (hy:y=f xs.length x) :
  Calls Tryz.prog 203 #[.pointer (some ⟨bw,0,none⟩),.pointer (some ⟨b,o,none⟩)] w fun e w'=>e = .returned (.tuple #[])∧Here F caps I bw b T (cs.setIfInBounds o (.int .i64 y)) wr (xs ++ [x]) w'∧Out (fun c=>mine c∨c=b) w w':=by
 subst hy
 obtain ⟨hI,a,aw⟩:=h
 obtain ⟨n1,n2,n3⟩:=hp
 have cx:w.cell? ⟨b,o,none⟩=some (.int .i64 x):=(a.cell o).trans ho
 have lb:=a.lt
 obtain ⟨lw,c0,c1⟩:=At.two aw
 have hcf:=hA.enters
 go_enter Tryz.func203,Tryz.ntmps203
 exact Zb
theorem toldK_any {F:FuncId} {caps:Array Value} {f:Nat→Int→Int} {mine:Nat→Prop} {I:List Int→World→Prop} (hA:Asks F caps f mine I) {b o bw:Nat} {cs:Array Value} {T:TypeId} {wr:Bool} {x y:Int} {xs:List Int} {w:World}
  (h:Here F caps I bw b T cs wr xs w) (hp:Apart3 mine b bw) (hx:xs.length<55) (ho:cs[o]? = some (.int .i64 x)) (hy:y=f xs.length x) :
  Calls Tryz.prog 204 #[.pointer (some ⟨bw,0,none⟩),.pointer (some ⟨b,o,none⟩)] w fun e w'=>e = .returned (.tuple #[])∧Here F caps I bw b T (cs.setIfInBounds o (.int .i64 y)) wr (xs ++ [x]) w'∧Out (fun c=>mine c∨c=b) w w':=by
 subst hy
 obtain ⟨hI,a,aw⟩:=h
 obtain ⟨n1,n2,n3⟩:=hp
 have cx:w.cell? ⟨b,o,none⟩=some (.int .i64 x):=(a.cell o).trans ho
 have lb:=a.lt
 obtain ⟨lw,c0,c1⟩:=At.two aw
 have hcf:=hA.enters
 go_enter Tryz.func204,Tryz.ntmps204
 exact Zb
theorem toldE_any {F:FuncId} {caps:Array Value} {f:Nat→Int→Int} {mine:Nat→Prop} {I:List Int→World→Prop} (hA:Asks F caps f mine I) {b o bw:Nat} {cs:Array Value} {T:TypeId} {wr:Bool} {x y:Int} {xs:List Int} {w:World}
  (h:Here F caps I bw b T cs wr xs w) (hp:Apart3 mine b bw) (hx:xs.length<55) (ho:cs[o]? = some (.int .i64 x)) (hy:y=f xs.length x) :
  Calls Tryz.prog 205 #[.pointer (some ⟨bw,0,none⟩),.pointer (some ⟨b,o,none⟩)] w fun e w'=>e = .returned (.tuple #[])∧Here F caps I bw b T (cs.setIfInBounds o (.int .i64 y)) wr (xs ++ [x]) w'∧Out (fun c=>mine c∨c=b) w w':=by
 subst hy
 obtain ⟨hI,a,aw⟩:=h
 obtain ⟨n1,n2,n3⟩:=hp
 have cx:w.cell? ⟨b,o,none⟩=some (.int .i64 x):=(a.cell o).trans ho
 have lb:=a.lt
 obtain ⟨lw,c0,c1⟩:=At.two aw
 have hcf:=hA.enters
 go_enter Tryz.func205,Tryz.ntmps205
 exact Zb
theorem withinD_any {F:FuncId} {caps:Array Value} {f:Nat→Int→Int} {mine:Nat→Prop} {I:List Int→World→Prop} (hA:Asks F caps f mine I) {b o bw:Nat} {cs:Array Value} {T:TypeId} {wr:Bool} {x y lo hi:Int} {xs:List Int} {w:World}
  (h:Here F caps I bw b T cs wr xs w) (hp:Apart3 mine b bw) (hx:xs.length<55) (ho:cs[o]? = some (.int .i64 x)) (hy:y=f xs.length x) :
  Calls Tryz.prog 164 #[.pointer (some ⟨bw,0,none⟩),.pointer (some ⟨b,o,none⟩),.int .i64 lo,.int .i64 hi] w fun e w'=>e = .returned (.tuple #[])∧Here F caps I bw b T (cs.setIfInBounds o (.int .i64 y)) (wr || !Re.inn y lo hi) (xs ++ [x]) w'∧Out (fun c=>mine c∨c=b∨c=bw) w w':=by
 have HY:=Lib.hid hy
 clear hy
 have hlt:o<cs.size:=(Array.getElem?_eq_some_iff.1 ho).1
 have hgo:(cs.setIfInBounds o (.int .i64 y))[o]? = some (.int .i64 y):=by simp [hlt]
 have HGO:=Lib.hid hgo
 have HO:=Lib.hid ho
 clear hgo ho hlt
 by_cases h1:lo≤y
 · have e1:decide (lo≤y)=true:=decide_eq_true h1
   by_cases h2:y≤hi
   · have e2:decide (y≤hi)=true:=decide_eq_true h2
     have HIN:=Lib.hid (show Re.inn y lo hi=true by unfold Re.inn;rw [e1,e2];rfl)
     go_enter Tryz.func164,Tryz.ntmps164
     go_wp2_with (first | (go_at_call 195;refine (toldD_any hA h hp hx HO.out HY.out).mono ?_;rintro e w1 ⟨rfl,h1',hO⟩;have cx1:=(h1'.a.cell o).trans HGO.out) | (go_at_call 196;refine (hold_any h1'.w).mono ?_;rintro e w2 ⟨rfl,rfl⟩))
     exact Zt
   · have e2:decide (y≤hi)=false:=decide_eq_false h2
     have HIN:=Lib.hid (show Re.inn y lo hi=false by unfold Re.inn;rw [e1,e2];rfl)
     exact Z2b
 · have e1:decide (lo≤y)=false:=decide_eq_false h1
   have HIN:=Lib.hid (show Re.inn y lo hi=false by unfold Re.inn;rw [e1];rfl)
   exact Z2b
theorem withinP_any {F:FuncId} {caps:Array Value} {f:Nat→Int→Int} {mine:Nat→Prop} {I:List Int→World→Prop} (hA:Asks F caps f mine I) {b o bw:Nat} {cs:Array Value} {T:TypeId} {wr:Bool} {x y lo hi:Int} {xs:List Int} {w:World}
  (h:Here F caps I bw b T cs wr xs w) (hp:Apart3 mine b bw) (hx:xs.length<55) (ho:cs[o]? = some (.int .i64 x)) (hy:y=f xs.length x) :
  Calls Tryz.prog 165 #[.pointer (some ⟨bw,0,none⟩),.pointer (some ⟨b,o,none⟩),.int .i64 lo,.int .i64 hi] w fun e w'=>e = .returned (.tuple #[])∧Here F caps I bw b T (cs.setIfInBounds o (.int .i64 y)) (wr || !Re.inn y lo hi) (xs ++ [x]) w'∧Out (fun c=>mine c∨c=b∨c=bw) w w':=by
 have HY:=Lib.hid hy
 clear hy
 have hlt:o<cs.size:=(Array.getElem?_eq_some_iff.1 ho).1
 have hgo:(cs.setIfInBounds o (.int .i64 y))[o]? = some (.int .i64 y):=by simp [hlt]
 have HGO:=Lib.hid hgo
 have HO:=Lib.hid ho
 clear hgo ho hlt
 by_cases h1:lo≤y
 · have e1:decide (lo≤y)=true:=decide_eq_true h1
   by_cases h2:y≤hi
   · have e2:decide (y≤hi)=true:=decide_eq_true h2
     have HIN:=Lib.hid (show Re.inn y lo hi=true by unfold Re.inn;rw [e1,e2];rfl)
     go_enter Tryz.func165,Tryz.ntmps165
     go_wp2_with (first | (go_at_call 197;refine (toldP_any hA h hp hx HO.out HY.out).mono ?_;rintro e w1 ⟨rfl,h1',hO⟩;have cx1:=(h1'.a.cell o).trans HGO.out) | (go_at_call 196;refine (hold_any h1'.w).mono ?_;rintro e w2 ⟨rfl,rfl⟩))
     exact Zt
   · have e2:decide (y≤hi)=false:=decide_eq_false h2
     have HIN:=Lib.hid (show Re.inn y lo hi=false by unfold Re.inn;rw [e1,e2];rfl)
     exact Z2a
 · have e1:decide (lo≤y)=false:=decide_eq_false h1
   have HIN:=Lib.hid (show Re.inn y lo hi=false by unfold Re.inn;rw [e1];rfl)
   exact Z2a
theorem withinO_any {F:FuncId} {caps:Array Value} {f:Nat→Int→Int} {mine:Nat→Prop} {I:List Int→World→Prop} (hA:Asks F caps f mine I) {b o bw:Nat} {cs:Array Value} {T:TypeId} {wr:Bool} {x y lo hi:Int} {xs:List Int} {w:World}
  (h:Here F caps I bw b T cs wr xs w) (hp:Apart3 mine b bw) (hx:xs.length<55) (ho:cs[o]? = some (.int .i64 x)) (hy:y=f xs.length x) :
  Calls Tryz.prog 166 #[.pointer (some ⟨bw,0,none⟩),.pointer (some ⟨b,o,none⟩),.int .i64 lo,.int .i64 hi] w fun e w'=>e = .returned (.tuple #[])∧Here F caps I bw b T (cs.setIfInBounds o (.int .i64 y)) (wr || !Re.inn y lo hi) (xs ++ [x]) w'∧Out (fun c=>mine c∨c=b∨c=bw) w w':=by
 have HY:=Lib.hid hy
 clear hy
 have hlt:o<cs.size:=(Array.getElem?_eq_some_iff.1 ho).1
 have hgo:(cs.setIfInBounds o (.int .i64 y))[o]? = some (.int .i64 y):=by simp [hlt]
 have HGO:=Lib.hid hgo
 have HO:=Lib.hid ho
 clear hgo ho hlt
 by_cases h1:lo≤y
 · have e1:decide (lo≤y)=true:=decide_eq_true h1
   by_cases h2:y≤hi
   · have e2:decide (y≤hi)=true:=decide_eq_true h2
     have HIN:=Lib.hid (show Re.inn y lo hi=true by unfold Re.inn;rw [e1,e2];rfl)
     go_enter Tryz.func166,Tryz.ntmps166
     go_wp2_with (first | (go_at_call 198;refine (toldO_any hA h hp hx HO.out HY.out).mono ?_;rintro e w1 ⟨rfl,h1',hO⟩;have cx1:=(h1'.a.cell o).trans HGO.out) | (go_at_call 196;refine (hold_any h1'.w).mono ?_;rintro e w2 ⟨rfl,rfl⟩))
     exact Zt
   · have e2:decide (y≤hi)=false:=decide_eq_false h2
     have HIN:=Lib.hid (show Re.inn y lo hi=false by unfold Re.inn;rw [e1,e2];rfl)
     exact Z29
 · have e1:decide (lo≤y)=false:=decide_eq_false h1
   have HIN:=Lib.hid (show Re.inn y lo hi=false by unfold Re.inn;rw [e1];rfl)
   exact Z29
theorem withini_any {F:FuncId} {caps:Array Value} {f:Nat→Int→Int} {mine:Nat→Prop} {I:List Int→World→Prop} (hA:Asks F caps f mine I) {b o bw:Nat} {cs:Array Value} {T:TypeId} {wr:Bool} {x y lo hi:Int} {xs:List Int} {w:World}
  (h:Here F caps I bw b T cs wr xs w) (hp:Apart3 mine b bw) (hx:xs.length<55) (ho:cs[o]? = some (.int .i64 x)) (hy:y=f xs.length x) :
  Calls Tryz.prog 170 #[.pointer (some ⟨bw,0,none⟩),.pointer (some ⟨b,o,none⟩),.int .i64 lo,.int .i64 hi] w fun e w'=>e = .returned (.tuple #[])∧Here F caps I bw b T (cs.setIfInBounds o (.int .i64 y)) (wr || !Re.inn y lo hi) (xs ++ [x]) w'∧Out (fun c=>mine c∨c=b∨c=bw) w w':=by
 have HY:=Lib.hid hy
 clear hy
 have hlt:o<cs.size:=(Array.getElem?_eq_some_iff.1 ho).1
 have hgo:(cs.setIfInBounds o (.int .i64 y))[o]? = some (.int .i64 y):=by simp [hlt]
 have HGO:=Lib.hid hgo
 have HO:=Lib.hid ho
 clear hgo ho hlt
 by_cases h1:lo≤y
 · have e1:decide (lo≤y)=true:=decide_eq_true h1
   by_cases h2:y≤hi
   · have e2:decide (y≤hi)=true:=decide_eq_true h2
     have HIN:=Lib.hid (show Re.inn y lo hi=true by unfold Re.inn;rw [e1,e2];rfl)
     go_enter Tryz.func170,Tryz.ntmps170
     go_wp2_with (first | (go_at_call 200;refine (toldi_any hA h hp hx HO.out HY.out).mono ?_;rintro e w1 ⟨rfl,h1',hO⟩;have cx1:=(h1'.a.cell o).trans HGO.out) | (go_at_call 196;refine (hold_any h1'.w).mono ?_;rintro e w2 ⟨rfl,rfl⟩))
     exact Zt
   · have e2:decide (y≤hi)=false:=decide_eq_false h2
     have HIN:=Lib.hid (show Re.inn y lo hi=false by unfold Re.inn;rw [e1,e2];rfl)
     exact Z28
 · have e1:decide (lo≤y)=false:=decide_eq_false h1
   have HIN:=Lib.hid (show Re.inn y lo hi=false by unfold Re.inn;rw [e1];rfl)
   exact Z28
theorem withinJ_any {F:FuncId} {caps:Array Value} {f:Nat→Int→Int} {mine:Nat→Prop} {I:List Int→World→Prop} (hA:Asks F caps f mine I) {b o bw:Nat} {cs:Array Value} {T:TypeId} {wr:Bool} {x y lo hi:Int} {xs:List Int} {w:World}
  (h:Here F caps I bw b T cs wr xs w) (hp:Apart3 mine b bw) (hx:xs.length<55) (ho:cs[o]? = some (.int .i64 x)) (hy:y=f xs.length x) :
  Calls Tryz.prog 171 #[.pointer (some ⟨bw,0,none⟩),.pointer (some ⟨b,o,none⟩),.int .i64 lo,.int .i64 hi] w fun e w'=>e = .returned (.tuple #[])∧Here F caps I bw b T (cs.setIfInBounds o (.int .i64 y)) (wr || !Re.inn y lo hi) (xs ++ [x]) w'∧Out (fun c=>mine c∨c=b∨c=bw) w w':=by
 have HY:=Lib.hid hy
 clear hy
 have hlt:o<cs.size:=(Array.getElem?_eq_some_iff.1 ho).1
 have hgo:(cs.setIfInBounds o (.int .i64 y))[o]? = some (.int .i64 y):=by simp [hlt]
 have HGO:=Lib.hid hgo
 have HO:=Lib.hid ho
 clear hgo ho hlt
 by_cases h1:lo≤y
 · have e1:decide (lo≤y)=true:=decide_eq_true h1
   by_cases h2:y≤hi
   · have e2:decide (y≤hi)=true:=decide_eq_true h2
     have HIN:=Lib.hid (show Re.inn y lo hi=true by unfold Re.inn;rw [e1,e2];rfl)
     go_enter Tryz.func171,Tryz.ntmps171
     go_wp2_with (first | (go_at_call 202;refine (toldJ_any hA h hp hx HO.out HY.out).mono ?_;rintro e w1 ⟨rfl,h1',hO⟩;have cx1:=(h1'.a.cell o).trans HGO.out) | (go_at_call 196;refine (hold_any h1'.w).mono ?_;rintro e w2 ⟨rfl,rfl⟩))
     exact Zt
   · have e2:decide (y≤hi)=false:=decide_eq_false h2
     have HIN:=Lib.hid (show Re.inn y lo hi=false by unfold Re.inn;rw [e1,e2];rfl)
     exact Z27
 · have e1:decide (lo≤y)=false:=decide_eq_false h1
   have HIN:=Lib.hid (show Re.inn y lo hi=false by unfold Re.inn;rw [e1];rfl)
   exact Z27
theorem withinA_any {F:FuncId} {caps:Array Value} {f:Nat→Int→Int} {mine:Nat→Prop} {I:List Int→World→Prop} (hA:Asks F caps f mine I) {b o bw:Nat} {cs:Array Value} {T:TypeId} {wr:Bool} {x y lo hi:Int} {xs:List Int} {w:World}
  (h:Here F caps I bw b T cs wr xs w) (hp:Apart3 mine b bw) (hx:xs.length<55) (ho:cs[o]? = some (.int .i64 x)) (hy:y=f xs.length x) :
  Calls Tryz.prog 172 #[.pointer (some ⟨bw,0,none⟩),.pointer (some ⟨b,o,none⟩),.int .i64 lo,.int .i64 hi] w fun e w'=>e = .returned (.tuple #[])∧Here F caps I bw b T (cs.setIfInBounds o (.int .i64 y)) (wr || !Re.inn y lo hi) (xs ++ [x]) w'∧Out (fun c=>mine c∨c=b∨c=bw) w w':=by
 have HY:=Lib.hid hy
 clear hy
 have hlt:o<cs.size:=(Array.getElem?_eq_some_iff.1 ho).1
 have hgo:(cs.setIfInBounds o (.int .i64 y))[o]? = some (.int .i64 y):=by simp [hlt]
 have HGO:=Lib.hid hgo
 have HO:=Lib.hid ho
 clear hgo ho hlt
 by_cases h1:lo≤y
 · have e1:decide (lo≤y)=true:=decide_eq_true h1
   by_cases h2:y≤hi
   · have e2:decide (y≤hi)=true:=decide_eq_true h2
     have HIN:=Lib.hid (show Re.inn y lo hi=true by unfold Re.inn;rw [e1,e2];rfl)
     go_enter Tryz.func172,Tryz.ntmps172
     go_wp2_with (first | (go_at_call 203;refine (toldA_any hA h hp hx HO.out HY.out).mono ?_;rintro e w1 ⟨rfl,h1',hO⟩;have cx1:=(h1'.a.cell o).trans HGO.out) | (go_at_call 196;refine (hold_any h1'.w).mono ?_;rintro e w2 ⟨rfl,rfl⟩))
     exact Zt
   · have e2:decide (y≤hi)=false:=decide_eq_false h2
     have HIN:=Lib.hid (show Re.inn y lo hi=false by unfold Re.inn;rw [e1,e2];rfl)
     exact Z26
 · have e1:decide (lo≤y)=false:=decide_eq_false h1
   have HIN:=Lib.hid (show Re.inn y lo hi=false by unfold Re.inn;rw [e1];rfl)
   exact Z26
theorem withinK_any {F:FuncId} {caps:Array Value} {f:Nat→Int→Int} {mine:Nat→Prop} {I:List Int→World→Prop} (hA:Asks F caps f mine I) {b o bw:Nat} {cs:Array Value} {T:TypeId} {wr:Bool} {x y lo hi:Int} {xs:List Int} {w:World}
  (h:Here F caps I bw b T cs wr xs w) (hp:Apart3 mine b bw) (hx:xs.length<55) (ho:cs[o]? = some (.int .i64 x)) (hy:y=f xs.length x) :
  Calls Tryz.prog 174 #[.pointer (some ⟨bw,0,none⟩),.pointer (some ⟨b,o,none⟩),.int .i64 lo,.int .i64 hi] w fun e w'=>e = .returned (.tuple #[])∧Here F caps I bw b T (cs.setIfInBounds o (.int .i64 y)) (wr || !Re.inn y lo hi) (xs ++ [x]) w'∧Out (fun c=>mine c∨c=b∨c=bw) w w':=by
 have HY:=Lib.hid hy
 clear hy
 have hlt:o<cs.size:=(Array.getElem?_eq_some_iff.1 ho).1
 have hgo:(cs.setIfInBounds o (.int .i64 y))[o]? = some (.int .i64 y):=by simp [hlt]
 have HGO:=Lib.hid hgo
 have HO:=Lib.hid ho
 clear hgo ho hlt
 by_cases h1:lo≤y
 · have e1:decide (lo≤y)=true:=decide_eq_true h1
   by_cases h2:y≤hi
   · have e2:decide (y≤hi)=true:=decide_eq_true h2
     have HIN:=Lib.hid (show Re.inn y lo hi=true by unfold Re.inn;rw [e1,e2];rfl)
     go_enter Tryz.func174,Tryz.ntmps174
     go_wp2_with (first | (go_at_call 204;refine (toldK_any hA h hp hx HO.out HY.out).mono ?_;rintro e w1 ⟨rfl,h1',hO⟩;have cx1:=(h1'.a.cell o).trans HGO.out) | (go_at_call 196;refine (hold_any h1'.w).mono ?_;rintro e w2 ⟨rfl,rfl⟩))
     exact Zt
   · have e2:decide (y≤hi)=false:=decide_eq_false h2
     have HIN:=Lib.hid (show Re.inn y lo hi=false by unfold Re.inn;rw [e1,e2];rfl)
     exact Z25
 · have e1:decide (lo≤y)=false:=decide_eq_false h1
   have HIN:=Lib.hid (show Re.inn y lo hi=false by unfold Re.inn;rw [e1];rfl)
   exact Z25
theorem withinE_any {F:FuncId} {caps:Array Value} {f:Nat→Int→Int} {mine:Nat→Prop} {I:List Int→World→Prop} (hA:Asks F caps f mine I) {b o bw:Nat} {cs:Array Value} {T:TypeId} {wr:Bool} {x y lo hi:Int} {xs:List Int} {w:World}
  (h:Here F caps I bw b T cs wr xs w) (hp:Apart3 mine b bw) (hx:xs.length<55) (ho:cs[o]? = some (.int .i64 x)) (hy:y=f xs.length x) :
  Calls Tryz.prog 175 #[.pointer (some ⟨bw,0,none⟩),.pointer (some ⟨b,o,none⟩),.int .i64 lo,.int .i64 hi] w fun e w'=>e = .returned (.tuple #[])∧Here F caps I bw b T (cs.setIfInBounds o (.int .i64 y)) (wr || !Re.inn y lo hi) (xs ++ [x]) w'∧Out (fun c=>mine c∨c=b∨c=bw) w w':=by
 have HY:=Lib.hid hy
 clear hy
 have hlt:o<cs.size:=(Array.getElem?_eq_some_iff.1 ho).1
 have hgo:(cs.setIfInBounds o (.int .i64 y))[o]? = some (.int .i64 y):=by simp [hlt]
 have HGO:=Lib.hid hgo
 have HO:=Lib.hid ho
 clear hgo ho hlt
 by_cases h1:lo≤y
 · have e1:decide (lo≤y)=true:=decide_eq_true h1
   by_cases h2:y≤hi
   · have e2:decide (y≤hi)=true:=decide_eq_true h2
     have HIN:=Lib.hid (show Re.inn y lo hi=true by unfold Re.inn;rw [e1,e2];rfl)
     go_enter Tryz.func175,Tryz.ntmps175
     go_wp2_with (first | (go_at_call 205;refine (toldE_any hA h hp hx HO.out HY.out).mono ?_;rintro e w1 ⟨rfl,h1',hO⟩;have cx1:=(h1'.a.cell o).trans HGO.out) | (go_at_call 196;refine (hold_any h1'.w).mono ?_;rintro e w2 ⟨rfl,rfl⟩))
     exact Zt
   · have e2:decide (y≤hi)=false:=decide_eq_false h2
     have HIN:=Lib.hid (show Re.inn y lo hi=false by unfold Re.inn;rw [e1,e2];rfl)
     exact Z24
 · have e1:decide (lo≤y)=false:=decide_eq_false h1
   have HIN:=Lib.hid (show Re.inn y lo hi=false by unfold Re.inn;rw [e1];rfl)
   exact Z24
theorem walklen_any {F:FuncId} {caps:Array Value} {f:Nat→Int→Int} {mine:Nat→Prop} {I:List Int→World→Prop} (hA:Asks F caps f mine I) {b o bw:Nat} {cs:Array Value} {T:TypeId} {wr:Bool} {x x2 y y2:Int} {xs:List Int} {w:World}
  (h:Here F caps I bw b T cs wr xs w) (hp:Apart3 mine b bw) (hx:xs.length + 1<55) (ho:cs[o]? = some (.int .i64 x)) (ho2:cs[o + 1]? = some (.int .i64 x2)) (hy:y=f xs.length x) (hy2:y2=f (xs.length + 1) x2) :
  Calls Tryz.prog 167 #[.pointer (some ⟨bw,0,none⟩),.pointer (some ⟨b,o,none⟩)] w fun e w'=>e = .returned (.tuple #[])∧Here F caps I bw b T ((cs.setIfInBounds o (.int .i64 y)).setIfInBounds (o + 1) (.int .i64 y2)) (wr || !Fx.valid y y2) (xs ++ [x] ++ [x2]) w'∧Out (fun c=>mine c∨c=b∨c=bw) w w':=by
 have HY:=Lib.hid hy
 have HY2:=Lib.hid hy2
 clear hy hy2
 have hlt:o<cs.size:=(Array.getElem?_eq_some_iff.1 ho).1
 have hlt2:o + 1<cs.size:=(Array.getElem?_eq_some_iff.1 ho2).1
 have HO:=Lib.hid ho
 have HO2:=Lib.hid (show (cs.setIfInBounds o (.int .i64 y))[o + 1]? = some (.int .i64 x2) by rw [Array.getElem?_setIfInBounds,if_neg Z3f];exact ho2)
 have G1:=Lib.hid (show ((cs.setIfInBounds o (.int .i64 y)).setIfInBounds (o + 1) (.int .i64 y2))[o]? = some (.int .i64 y) by rw [Array.getElem?_setIfInBounds,if_neg Z3f,Array.getElem?_setIfInBounds,if_pos rfl,if_pos hlt])
 have G2:=Lib.hid (show ((cs.setIfInBounds o (.int .i64 y)).setIfInBounds (o + 1) (.int .i64 y2))[o + 1]? = some (.int .i64 y2) by rw [Array.getElem?_setIfInBounds,if_pos rfl,Array.size_setIfInBounds,if_pos hlt2])
 have HX:=Lib.hid hx
 have hx0:xs.length<55:=by omega
 clear ho ho2 hx
 go_enter Tryz.func167,Tryz.ntmps167
 go_wp2_with (first | (go_at_call 199;refine (toldL_any hA h hp hx0 HO.out HY.out).mono ?_;rintro e w1 ⟨rfl,h1,hO1⟩) | (go_at_call 200;refine (toldi_any hA h1 hp (by simp;exact HX.out) HO2.out (by simpa using HY2.out)).mono ?_;rintro e w2 ⟨rfl,h2,hO2⟩;have d1:=(h2.a.cell o).trans G1.out;have d2:=(h2.a.cell (o + 1)).trans G2.out) | (go_at_call 201;refine (valid_any _ _ _).mono ?_;rintro e w3 ⟨rfl,hb3⟩;have h3:=Here.keep hA h2 hb3) | (go_at_call 196;refine (hold_any h3.w).mono ?_;rintro e w2 ⟨rfl,rfl⟩))
 refine bodyPost_end (results_none rfl _ _ _) rfl ⟨rfl,?_,Out.set (((hO1.trans hO2).trans (Out.of_below hb3)).mono fun _ _ q=>q.elim .inl fun q => .inr (.inl q)) (.inr (.inr rfl)) _ _⟩
 exact Here.held hA h3 hp _
def On (F:FuncId) (caps:Array Value) (f:Nat→Int→Int) (I:List Int→World→Prop) (bw bs:Nat) (t:Re.St) (k:Nat) (wr:Bool) (W:World):Prop:=Here F caps I bw bs 37 (cells (mix f t k)) wr (ins t k) W
theorem onD_any {F:FuncId} {caps:Array Value} {f:Nat→Int→Int} {mine:Nat→Prop} {I:List Int→World→Prop} (hA:Asks F caps f mine I) {bs bw k:Nat} {t:Re.St} {wr:Bool} {lo hi:Int} {w:World} (h:On F caps f I bw bs t k wr w) (hp:Apart3 mine bs bw) (hk:k<55) (hb:Re.isB k=false) :
  Calls Tryz.prog 164 #[.pointer (some ⟨bw,0,none⟩),.pointer (some ⟨bs,k,none⟩),.int .i64 lo,.int .i64 hi] w fun e w'=>e = .returned (.tuple #[])∧On F caps f I bw bs t (k + 1) (wr || !Re.inn (f k (Re.num t k)) lo hi) w'∧Out (fun c=>mine c∨c=bs∨c=bw) w w':=by
 refine (withinD_any hA h hp Z43 (x:=t.c k) Z3w rfl).mono ?_
 exact Z1c
theorem onP_any {F:FuncId} {caps:Array Value} {f:Nat→Int→Int} {mine:Nat→Prop} {I:List Int→World→Prop} (hA:Asks F caps f mine I) {bs bw k:Nat} {t:Re.St} {wr:Bool} {lo hi:Int} {w:World} (h:On F caps f I bw bs t k wr w) (hp:Apart3 mine bs bw) (hk:k<55) (hb:Re.isB k=false) :
  Calls Tryz.prog 165 #[.pointer (some ⟨bw,0,none⟩),.pointer (some ⟨bs,k,none⟩),.int .i64 lo,.int .i64 hi] w fun e w'=>e = .returned (.tuple #[])∧On F caps f I bw bs t (k + 1) (wr || !Re.inn (f k (Re.num t k)) lo hi) w'∧Out (fun c=>mine c∨c=bs∨c=bw) w w':=by
 refine (withinP_any hA h hp Z43 (x:=t.c k) Z3w rfl).mono ?_
 exact Z1c
theorem onO_any {F:FuncId} {caps:Array Value} {f:Nat→Int→Int} {mine:Nat→Prop} {I:List Int→World→Prop} (hA:Asks F caps f mine I) {bs bw k:Nat} {t:Re.St} {wr:Bool} {lo hi:Int} {w:World} (h:On F caps f I bw bs t k wr w) (hp:Apart3 mine bs bw) (hk:k<55) (hb:Re.isB k=false) :
  Calls Tryz.prog 166 #[.pointer (some ⟨bw,0,none⟩),.pointer (some ⟨bs,k,none⟩),.int .i64 lo,.int .i64 hi] w fun e w'=>e = .returned (.tuple #[])∧On F caps f I bw bs t (k + 1) (wr || !Re.inn (f k (Re.num t k)) lo hi) w'∧Out (fun c=>mine c∨c=bs∨c=bw) w w':=by
 refine (withinO_any hA h hp Z43 (x:=t.c k) Z3w rfl).mono ?_
 exact Z1c
theorem oni_any {F:FuncId} {caps:Array Value} {f:Nat→Int→Int} {mine:Nat→Prop} {I:List Int→World→Prop} (hA:Asks F caps f mine I) {bs bw k:Nat} {t:Re.St} {wr:Bool} {lo hi:Int} {w:World} (h:On F caps f I bw bs t k wr w) (hp:Apart3 mine bs bw) (hk:k<55) (hb:Re.isB k=false) :
  Calls Tryz.prog 170 #[.pointer (some ⟨bw,0,none⟩),.pointer (some ⟨bs,k,none⟩),.int .i64 lo,.int .i64 hi] w fun e w'=>e = .returned (.tuple #[])∧On F caps f I bw bs t (k + 1) (wr || !Re.inn (f k (Re.num t k)) lo hi) w'∧Out (fun c=>mine c∨c=bs∨c=bw) w w':=by
 refine (withini_any hA h hp Z43 (x:=t.c k) Z3w rfl).mono ?_
 exact Z1c
theorem onJ_any {F:FuncId} {caps:Array Value} {f:Nat→Int→Int} {mine:Nat→Prop} {I:List Int→World→Prop} (hA:Asks F caps f mine I) {bs bw k:Nat} {t:Re.St} {wr:Bool} {lo hi:Int} {w:World} (h:On F caps f I bw bs t k wr w) (hp:Apart3 mine bs bw) (hk:k<55) (hb:Re.isB k=false) :
  Calls Tryz.prog 171 #[.pointer (some ⟨bw,0,none⟩),.pointer (some ⟨bs,k,none⟩),.int .i64 lo,.int .i64 hi] w fun e w'=>e = .returned (.tuple #[])∧On F caps f I bw bs t (k + 1) (wr || !Re.inn (f k (Re.num t k)) lo hi) w'∧Out (fun c=>mine c∨c=bs∨c=bw) w w':=by
 refine (withinJ_any hA h hp Z43 (x:=t.c k) Z3w rfl).mono ?_
 exact Z1c
theorem onA_any {F:FuncId} {caps:Array Value} {f:Nat→Int→Int} {mine:Nat→Prop} {I:List Int→World→Prop} (hA:Asks F caps f mine I) {bs bw k:Nat} {t:Re.St} {wr:Bool} {lo hi:Int} {w:World} (h:On F caps f I bw bs t k wr w) (hp:Apart3 mine bs bw) (hk:k<55) (hb:Re.isB k=false) :
  Calls Tryz.prog 172 #[.pointer (some ⟨bw,0,none⟩),.pointer (some ⟨bs,k,none⟩),.int .i64 lo,.int .i64 hi] w fun e w'=>e = .returned (.tuple #[])∧On F caps f I bw bs t (k + 1) (wr || !Re.inn (f k (Re.num t k)) lo hi) w'∧Out (fun c=>mine c∨c=bs∨c=bw) w w':=by
 refine (withinA_any hA h hp Z43 (x:=t.c k) Z3w rfl).mono ?_
 exact Z1c
theorem onK_any {F:FuncId} {caps:Array Value} {f:Nat→Int→Int} {mine:Nat→Prop} {I:List Int→World→Prop} (hA:Asks F caps f mine I) {bs bw k:Nat} {t:Re.St} {wr:Bool} {lo hi:Int} {w:World} (h:On F caps f I bw bs t k wr w) (hp:Apart3 mine bs bw) (hk:k<55) (hb:Re.isB k=false) :
  Calls Tryz.prog 174 #[.pointer (some ⟨bw,0,none⟩),.pointer (some ⟨bs,k,none⟩),.int .i64 lo,.int .i64 hi] w fun e w'=>e = .returned (.tuple #[])∧On F caps f I bw bs t (k + 1) (wr || !Re.inn (f k (Re.num t k)) lo hi) w'∧Out (fun c=>mine c∨c=bs∨c=bw) w w':=by
 refine (withinK_any hA h hp Z43 (x:=t.c k) Z3w rfl).mono ?_
 exact Z1c
theorem onE_any {F:FuncId} {caps:Array Value} {f:Nat→Int→Int} {mine:Nat→Prop} {I:List Int→World→Prop} (hA:Asks F caps f mine I) {bs bw k:Nat} {t:Re.St} {wr:Bool} {lo hi:Int} {w:World} (h:On F caps f I bw bs t k wr w) (hp:Apart3 mine bs bw) (hk:k<55) (hb:Re.isB k=false) :
  Calls Tryz.prog 175 #[.pointer (some ⟨bw,0,none⟩),.pointer (some ⟨bs,k,none⟩),.int .i64 lo,.int .i64 hi] w fun e w'=>e = .returned (.tuple #[])∧On F caps f I bw bs t (k + 1) (wr || !Re.inn (f k (Re.num t k)) lo hi) w'∧Out (fun c=>mine c∨c=bs∨c=bw) w w':=by
 refine (withinE_any hA h hp Z43 (x:=t.c k) Z3w rfl).mono ?_
 exact Z1c
theorem onlen_any {F:FuncId} {caps:Array Value} {f:Nat→Int→Int} {mine:Nat→Prop} {I:List Int→World→Prop} (hA:Asks F caps f mine I) {bs bw k:Nat} {t:Re.St} {wr:Bool} {w:World} (h:On F caps f I bw bs t k wr w) (hp:Apart3 mine bs bw) (hk:k + 1<55) (hb:Re.isB k=false) (hb2:Re.isB (k + 1)=false) :
  Calls Tryz.prog 167 #[.pointer (some ⟨bw,0,none⟩),.pointer (some ⟨bs,k,none⟩)] w fun e w'=>e = .returned (.tuple #[])∧On F caps f I bw bs t (k + 1 + 1) (wr || !Fx.valid (f k (Re.num t k)) (f (k + 1) (Re.num t (k + 1)))) w'∧Out (fun c=>mine c∨c=bs∨c=bw) w w':=by
 refine (walklen_any hA h hp Z43 (x:=t.c k) (x2:=t.c (k + 1)) (by rw [cells_int _ Z3f hb,mix_ge f t (Nat.le_refl k)]) (by rw [cells_int _ hk hb2,mix_ge f t Z3f]) rfl rfl).mono ?_
 rintro e w' ⟨rfl,h1,hO⟩
 rw [ins_len,mix_set_int f t hb,mix_set_int f t hb2, ← Re.num_c hb, ← Re.num_c hb2, ← ins_succ, ← ins_succ] at h1
 exact ⟨rfl,h1,hO⟩
def Of3 (mine:Nat→Prop) (bs bw:Nat):Nat→Prop:=fun c=>mine c∨c=bs∨c=bw
theorem Out.trans' {M M':Nat→Prop} {X Y Z:World} (h:Out M X Y) (k:Out M' Y Z) (hm:∀ b,b<X.heap.size→M' b→M b):Out M X Z:=⟨h.1.trans k.1,fun b hb hn=>(k.2 b (Nat.lt_of_lt_of_le hb h.size) (fun q=>hn (hm b hb q))).trans (h.2 b hb hn)⟩
theorem walktruth_any {F:FuncId} {caps:Array Value} {f:Nat→Int→Int} {mine:Nat→Prop} {I:List Int→World→Prop} (hA:Asks F caps f mine I) {bs bw k:Nat} {t:Re.St} {wr:Bool} {w:World} (h:On F caps f I bw bs t k wr w) (hp:Apart3 mine bs bw) (hm:∀ b,w.heap.size≤b→¬ mine b) (hk:k<55) (hb:Re.isB k=true) :
  Calls Tryz.prog 173 #[.pointer (some ⟨bw,0,none⟩),.pointer (some ⟨bs,k,none⟩)] w fun e w'=>e = .returned (.tuple #[])∧On F caps f I bw bs t (k + 1) (wr || !Re.inn (f k (Re.num t k)) 0 1) w'∧Out (Of3 mine bs bw) w w':=by
 obtain ⟨hI,a,aw⟩:=h
 have ck:w.cell? ⟨bs,k,none⟩=some (.bool (t.b k)):=(a.cell k).trans (by rw [cells_bool _ hk hb,mix_bge f t (Nat.le_refl k)])
 have lb:=a.lt
 have lw:=aw.lt
 have hn:Re.num t k=if t.b k=true then 1 else 0:=by unfold Re.num;rw [if_pos hb]
 have HN:=Lib.hid hn
 obtain ⟨y,hy⟩:∃ y,y=f k (Re.num t k):=⟨_,rfl⟩
 have HY:=Lib.hid hy
 obtain ⟨q,hq⟩:∃ q,q=t.b k:=⟨_,rfl⟩
 rw [← hq] at ck hn
 have HQ:=Lib.hid hq
 clear hy hn hq
 have HK:=Lib.hid hk
 have HB:=Lib.hid hb
 clear hk hb
 have hp2:Apart3 mine w.heap.size bw:=⟨hm _ (Nat.le_refl _),hp.nw,by omega⟩
 have hne:bs≠w.heap.size:=by omega
 cases q
 · have hx:Re.num t k=0:=by rw [HN.out, ← HQ.out];rfl
   have HX:=Lib.hid hx
   clear hx
   go_enter Tryz.func173,Tryz.ntmps173
   go_wp2_with (go_at_call 170;(with_reducible refine (withini_any (y:=y) hA (⟨hA.keep _ _ _ hI (Below.alloc' (Below.refl _ _) _),At.new _ _,aw.alloc _⟩:Here F caps I bw w.heap.size 3 #[.int .i64 0] wr (ins t k) _) hp2 (by rw [ins_len];exact HK.out) rfl (by rw [ins_len, ← HX.out];exact HY.out)).mono ?_);rintro e w2 ⟨rfl,h2,hO2⟩;have a2:=At.out (a.alloc _) (fun q=>q.elim hp.nb fun q=>q.elim hne hp.ne) hO2;have c2:w2.cell? ⟨w.heap.size,0,none⟩=some (.int .i64 y):=(h2.a.cell 0).trans rfl;have ck2:w2.cell? ⟨bs,k,none⟩=some (.bool false):=(a2.cell k).trans (by rw [cells_bool _ HK.out HB.out,mix_bge f t (Nat.le_refl k), ← HQ.out]);have z2:=a2.thaw k)
   exact Z1n
 · have hx:Re.num t k=1:=by rw [HN.out, ← HQ.out];rfl
   have HX:=Lib.hid hx
   clear hx
   go_enter Tryz.func173,Tryz.ntmps173
   go_wp2_with (go_at_call 170;(with_reducible refine (withini_any (y:=y) hA (⟨hA.keep _ _ _ hI (Below.alloc' (Below.refl _ _) _),At.new _ _,aw.alloc _⟩:Here F caps I bw w.heap.size 3 #[.int .i64 1] wr (ins t k) _) hp2 (by rw [ins_len];exact HK.out) rfl (by rw [ins_len, ← HX.out];exact HY.out)).mono ?_);rintro e w2 ⟨rfl,h2,hO2⟩;have a2:=At.out (a.alloc _) (fun q=>q.elim hp.nb fun q=>q.elim hne hp.ne) hO2;have c2:w2.cell? ⟨w.heap.size,0,none⟩=some (.int .i64 y):=(h2.a.cell 0).trans rfl;have ck2:w2.cell? ⟨bs,k,none⟩=some (.bool true):=(a2.cell k).trans (by rw [cells_bool _ HK.out HB.out,mix_bge f t (Nat.le_refl k), ← HQ.out]);have z2:=a2.thaw k)
   exact Z1n
theorem walklens15_any {F:FuncId} {caps:Array Value} {f:Nat→Int→Int} {mine:Nat→Prop} {I:List Int→World→Prop} (hA:Asks F caps f mine I) {bs bw:Nat} {t:Re.St} {wr:Bool} {w:World} (h:On F caps f I bw bs t 15 wr w) (hp:Apart3 mine bs bw) :
  Calls Tryz.prog 168 #[.pointer (some ⟨bw,0,none⟩),.pointer (some ⟨bs,15,none⟩)] w fun e w'=>e = .returned (.tuple #[])∧On F caps f I bw bs t (15 + 8) ((((wr || !Fx.valid (f 15 (Re.num t 15)) (f (15 + 1) (Re.num t (15 + 1)))) || !Fx.valid (f (15 + 2) (Re.num t (15 + 2))) (f (15 + 3) (Re.num t (15 + 3)))) || !Fx.valid (f (15 + 4) (Re.num t (15 + 4))) (f (15 + 5) (Re.num t (15 + 5)))) || !Fx.valid (f (15 + 6) (Re.num t (15 + 6))) (f (15 + 7) (Re.num t (15 + 7)))) w'∧Out (Of3 mine bs bw) w w':=by
 exact Z14
theorem walklens23_any {F:FuncId} {caps:Array Value} {f:Nat→Int→Int} {mine:Nat→Prop} {I:List Int→World→Prop} (hA:Asks F caps f mine I) {bs bw:Nat} {t:Re.St} {wr:Bool} {w:World} (h:On F caps f I bw bs t 23 wr w) (hp:Apart3 mine bs bw) :
  Calls Tryz.prog 168 #[.pointer (some ⟨bw,0,none⟩),.pointer (some ⟨bs,23,none⟩)] w fun e w'=>e = .returned (.tuple #[])∧On F caps f I bw bs t (23 + 8) ((((wr || !Fx.valid (f 23 (Re.num t 23)) (f (23 + 1) (Re.num t (23 + 1)))) || !Fx.valid (f (23 + 2) (Re.num t (23 + 2))) (f (23 + 3) (Re.num t (23 + 3)))) || !Fx.valid (f (23 + 4) (Re.num t (23 + 4))) (f (23 + 5) (Re.num t (23 + 5)))) || !Fx.valid (f (23 + 6) (Re.num t (23 + 6))) (f (23 + 7) (Re.num t (23 + 7)))) w'∧Out (Of3 mine bs bw) w w':=by
 exact Z14
theorem walkedges31_any {F:FuncId} {caps:Array Value} {f:Nat→Int→Int} {mine:Nat→Prop} {I:List Int→World→Prop} (hA:Asks F caps f mine I) {bs bw:Nat} {t:Re.St} {wr:Bool} {w:World} (h:On F caps f I bw bs t 31 wr w) (hp:Apart3 mine bs bw) :
  Calls Tryz.prog 169 #[.pointer (some ⟨bw,0,none⟩),.pointer (some ⟨bs,31,none⟩)] w fun e w'=>e = .returned (.tuple #[])∧On F caps f I bw bs t (31 + 4) ((((wr || !Re.inn (f 31 (Re.num t 31)) 0 1048576) || !Re.inn (f (31 + 1) (Re.num t (31 + 1))) 0 1048576) || !Re.inn (f (31 + 2) (Re.num t (31 + 2))) 0 1048576) || !Re.inn (f (31 + 3) (Re.num t (31 + 3))) 0 1048576) w'∧Out (Of3 mine bs bw) w w':=by
 exact Z16
theorem walkedges35_any {F:FuncId} {caps:Array Value} {f:Nat→Int→Int} {mine:Nat→Prop} {I:List Int→World→Prop} (hA:Asks F caps f mine I) {bs bw:Nat} {t:Re.St} {wr:Bool} {w:World} (h:On F caps f I bw bs t 35 wr w) (hp:Apart3 mine bs bw) :
  Calls Tryz.prog 169 #[.pointer (some ⟨bw,0,none⟩),.pointer (some ⟨bs,35,none⟩)] w fun e w'=>e = .returned (.tuple #[])∧On F caps f I bw bs t (35 + 4) ((((wr || !Re.inn (f 35 (Re.num t 35)) 0 1048576) || !Re.inn (f (35 + 1) (Re.num t (35 + 1))) 0 1048576) || !Re.inn (f (35 + 2) (Re.num t (35 + 2))) 0 1048576) || !Re.inn (f (35 + 3) (Re.num t (35 + 3))) 0 1048576) w'∧Out (Of3 mine bs bw) w w':=by
 exact Z16
end Go.Proofs.YteggipnplbkijaaGreat.Fix
