/- Boxes laid by the program: what its functions do, part 12. -/
import Derived.Test.YteggipnplbkijaaGreatWK
import Derived.Test.YteggipnplbkijaaGreatW01
import Derived.Test.YteggipnplbkijaaGreatW05
import Derived.Test.YteggipnplbkijaaGreatW11
set_option linter.unusedVariables false
set_option linter.unusedSimpArgs false
set_option linter.unusedSectionVars false
set_option maxRecDepth 100000
namespace Go.Proofs.YteggipnplbkijaaGreat.Fix
open Go.ChangeShapes Go.WideShapes Go.ChangeAt Go.RowKit
def RowW (W:World) (R I n:Nat) (room:Int) (gr:Bool) (S:Nat→Fe.St):Prop:=At W R (rowObj I n room (Fe.sg gr))∧Blk W I n S
theorem RowW.keep {W W':World} {R I n:Nat} {room:Int} {gr:Bool} {S:Nat→Fe.St} (h:RowW W R I n room gr S) (hb:Below W.heap.size W W'):RowW W' R I n room gr S:=⟨h.1.keep hb,h.2.keep hb⟩
theorem RowW.drew {W:World} {R I n:Nat} {room:Int} {gr:Bool} {S:Nat→Fe.St} (h:RowW W R I n room gr S):RowW W.drew R I n room gr S:=h.keep (Below.refl _ _).drew
theorem RowW.cells {W:World} {R I n:Nat} {room:Int} {gr:Bool} {S:Nat→Fe.St} (h:RowW W R I n room gr S) :
 R<W.heap.size∧W.cell? ⟨R,0,none⟩=some (.slice (some ⟨I,0,none⟩) n n)∧W.cell? ⟨R,1,none⟩=some (.int .i64 room)∧W.cell? ⟨R,2,none⟩=some (.int .i64 (Fe.sg gr)):=⟨h.1.lt,h.1.cell 0,h.1.cell 1,h.1.cell 2⟩
theorem Blk.fields {W:World} {I n:Nat} {S:Nat→Fe.St} (h:Blk W I n S) {i:Nat} (hi:i<n) :
  I<W.heap.size∧W.cell? ⟨I,i * 8,none⟩=some (.int .i64 (S i).x.b)∧W.cell? ⟨I,i * 8 + 1,none⟩=some (.int .i64 (S i).x.lo)∧W.cell? ⟨I,i * 8 + 2,none⟩=some (.int .i64 (S i).x.hi)∧W.cell? ⟨I,i * 8 + 3,none⟩=some (.int .i64 (S i).x.g)∧W.cell? ⟨I,i * 8 + 4,none⟩=some (.int .i64 (S i).x.s) ∧
   W.cell? ⟨I,i * 8 + 5,none⟩=some (.int .i64 (S i).z)∧W.cell? ⟨I,i * 8 + 6,none⟩=some (.int .i64 (S i).m)∧W.cell? ⟨I,i * 8 + 7,none⟩=some (.bool (S i).f) :=
 ⟨h.lt,h.cell hi 0 Z3f,h.cell hi 1 Z3f,h.cell hi 2 Z3f,h.cell hi 3 Z3f,h.cell hi 4 Z3f,h.cell hi 5 Z3f,h.cell hi 6 Z3f,h.cell hi 7 Z3f⟩
theorem factor_any (R I n i:Nat) (room:Int) (gr:Bool) (S:Nat→Fe.St) (w:World) (h:RowW w R I n room gr S) (hi:i<n) :
  Calls Tryz.prog 225 #[.pointer (some ⟨R,0,none⟩),.pointer (some ⟨I,i * 8,none⟩)] w fun e w'=>e = .returned (.int .i64 (Fe.fac gr (S i).x))∧w=w':=by
 obtain ⟨l0,c0,c1,c2⟩:=h.cells
 obtain ⟨l1,d0,d1,d2,d3,d4,d5,d6,d7⟩:=h.2.fields hi
 clear h c0 c1 d0 d1 d2 d5 d6 d7
 cases gr
 · simp only [Fe.fac,Fe.sg,Bool.false_eq_true,if_false] at *
   go_enter Tryz.func225,Tryz.ntmps225
   go_wp2
   exact Z21
 · simp only [Fe.fac,Fe.sg,if_true] at *
   go_enter Tryz.func225,Tryz.ntmps225
   go_wp2
   exact Z21
theorem weight_any (R I n i:Nat) (room:Int) (gr:Bool) (S:Nat→Fe.St) (w:World) (h:RowW w R I n room gr S) (hi:i<n) (hb:(0≤(S i).x.b∧(S i).x.b≤1048576)∧0≤(S i).x.s∧(S i).x.s≤1000) :
  Calls Tryz.prog 222 #[.pointer (some ⟨R,0,none⟩),.pointer (some ⟨I,i * 8,none⟩)] w fun e w'=>e = .returned (.int .i64 (Fe.wt gr (S i).x))∧Below w.heap.size w w':=by
 obtain ⟨l0,c0,c1,c2⟩:=h.cells
 obtain ⟨l1,d0,d1,d2,d3,d4,d5,d6,d7⟩:=h.2.fields hi
 clear h c0 c1 d1 d2 d5 d6 d7
 cases gr
 · simp only [Fe.wt,Fe.sg,Bool.false_eq_true,if_false] at *
   obtain ⟨⟨b1,b2⟩,b3,b4⟩:=hb
   have hp:=Fe.prod_bd b3 b4 b1 b2
   have hw:IntKind.i64.wrap ((S i).x.s * (S i).x.b)=(S i).x.s * (S i).x.b:=IntWalk.i64_in _ Z3f
   have hw2:wrap64 ((S i).x.s * (S i).x.b)=(S i).x.s * (S i).x.b:=IntWalk.wrap64_in _ Z3f
   generalize (S i).x.s=s at *
   generalize (S i).x.b=b at *
   have HW:=Lib.hid hw2
   clear hw2
   go_enter Tryz.func222,Tryz.ntmps222
   go_upto_region 3 with (fail)
   refine sqt ?_
   (repeat (first | refine sqk ?_ | refine sqc ?_ (hc:=by intro w2 hS;first | with_reducible exact qaE hS (cut_any _ _)) | refine sqv ?_))
   refine Drawn.seq_end ?_;intro w2 hS
   go_wp2
   go_ret
   exact ⟨ret_int (by first | rfl | exact HW.out),by (repeat (first | exact Below.refl _ _ | assumption | refine Below.drew ?_ | refine Below.drewN ?_ _ | refine Below.alloc' ?_ _ | refine Below.setCell ?_ Z44 _ | refine Below.after2 ?_ (Nat.le_refl _) Z3v))⟩
 · simp only [Fe.wt,Fe.sg,if_true] at *
   clear hb
   go_enter Tryz.func222,Tryz.ntmps222
   go_wp2
   go_ret
   exact ⟨rfl,Below.refl _ _⟩
set_option maxHeartbeats 4000000 in
theorem stays_any (R I n i:Nat) (room:Int) (gr:Bool) (S:Nat→Fe.St) (w:World) (h:RowW w R I n room gr S) (hi:i<n) (hb:(0≤(S i).x.b∧(S i).x.b≤1048576)∧0≤(S i).z∧(S i).z≤1048576) :
  Calls Tryz.prog 221 #[.pointer (some ⟨R,0,none⟩),.pointer (some ⟨I,i * 8,none⟩)] w fun e w'=>e = .returned (.bool (Fe.stay gr (S i).x (S i).z))∧Below w.heap.size w w':=by
 obtain ⟨l0,c0,c1,c2⟩:=h.cells
 obtain ⟨l1,d0,d1,d2,d3,d4,d5,d6,d7⟩:=h.2.fields hi
 have HR:=Lib.hid h
 have Hi:=Lib.hid hi
 clear h c0 c1 d1 d2 d3 d4 d6 d7 hi
 unfold Fe.stay
 obtain ⟨⟨b1,b2⟩,b3,b4⟩:=hb
 generalize hfc:Fe.fac gr (S i).x=fc
 have HFC:=Lib.hid hfc
 clear hfc
 generalize (S i).x.b=b at *
 generalize (S i).z=z at *
 have W1:Hid (IntKind.i64.wrap (Fe.sg gr * b)=Fe.sg gr * b):=Lib.hid (IntWalk.i64_in _ (by cases gr <;> simp only [Fe.sg,Bool.false_eq_true,if_false,if_true] <;> omega))
 have W2:Hid (IntKind.i64.wrap (Fe.sg gr * z)=Fe.sg gr * z):=Lib.hid (IntWalk.i64_in _ (by cases gr <;> simp only [Fe.sg,Bool.false_eq_true,if_false,if_true] <;> omega))
 generalize Fe.sg gr=way at *
 by_cases h0:fc=0
 · have k0:(Fe.fac gr (S i).x == 0)=true:=by rw [HFC.out];simpa using h0
   subst h0
   clear HFC
   go_enter Tryz.func221,Tryz.ntmps221
   go_wp2
   refine Drawn.wp_region_fast (Below.refl _ _) Z3q Z3q Z3q ?_
   (repeat (first | refine sqk ?_ | refine sqc ?_ (hc:=by intro w2 hS;first | with_reducible exact qaE hS (factor_any _ _ _ _ _ _ _ _ (HR.out.keep hS) Hi.out)) | refine sqv ?_))
   try simp only [k0]
   (repeat (first | refine sqk ?_ | refine sqc ?_ (hc:=by intro w2 hS;first | with_reducible exact qaE hS (factor_any _ _ _ _ _ _ _ _ (HR.out.keep hS) Hi.out)) | refine sqv ?_))
   refine Drawn.seq_end ?_;intro w2 hS
   go_wp2
   go_ret
   exact ⟨rfl,by (repeat (first | exact Below.refl _ _ | assumption | refine Below.drew ?_ | refine Below.drewN ?_ _ | refine Below.alloc' ?_ _ | refine Below.setCell ?_ Z44 _ | refine Below.after2 ?_ (Nat.le_refl _) Z3v))⟩
 · have k0:(Fe.fac gr (S i).x == 0)=false:=by rw [HFC.out];simpa using h0
   go_enter Tryz.func221,Tryz.ntmps221
   go_wp2
   refine Drawn.wp_region_fast (Below.refl _ _) Z3q Z3q Z3q ?_
   (repeat (first | refine sqk ?_ | refine sqc ?_ (hc:=by intro w2 hS;first | with_reducible exact qaE hS (factor_any _ _ _ _ _ _ _ _ (HR.out.keep hS) Hi.out)) | refine sqv ?_))
   try simp only [k0]
   (repeat (first | refine sqk ?_ | refine sqc ?_ (hc:=by intro w2 hS;first | with_reducible exact qaE hS (factor_any _ _ _ _ _ _ _ _ (HR.out.keep hS) Hi.out)) | refine sqv ?_))
   refine Drawn.seq_end ?_;intro w2 hS
   go_wp2
   go_ret
   exact ⟨ret_bool (by rw [W1.out,W2.out];simp [h0]),by (repeat (first | exact Below.refl _ _ | assumption | refine Below.drew ?_ | refine Below.drewN ?_ _ | refine Below.alloc' ?_ _ | refine Below.setCell ?_ Z44 _ | refine Below.after2 ?_ (Nat.le_refl _) Z3v))⟩
def Sound (S:Nat→Fe.St) (n:Nat):Prop:=∀ i,i<n→((0≤(S i).x.b∧(S i).x.b≤1048576)∧0≤(S i).x.s∧(S i).x.s≤1000)∧0≤(S i).z∧(S i).z≤1048576
theorem left_bd {room:Int} {S:Nat→Fe.St} {n:Nat} (h:Sound S n) (k:Nat) (hk:k≤n):room - 1048576 * k≤Fe.left room S k∧Fe.left room S k≤room:=by
 induction k with
 | zero=>simp [Fe.left]
 | succ k ih =>
   obtain ⟨h1,h2⟩:=ih Z3f
   obtain ⟨⟨⟨b1,b2⟩,_⟩,z1,z2⟩:=h k Z3f
   simp only [Fe.left]
   split <;> constructor <;> omega
set_option maxHeartbeats 4000000 in
theorem free_any (R I n:Nat) (room:Int) (gr:Bool) (S:Nat→Fe.St) (w:World) (h:RowW w R I n room gr S) (hs:Sound S n) (hn:n≤64) (hr:0≤room∧room≤67108864) :
  Calls Tryz.prog 224 #[.pointer (some ⟨R,0,none⟩)] w fun e w'=>e = .returned (.int .i64 (Fe.free gr room S n))∧Below w.heap.size w w':=by
 have HR:=Lib.hid h
 have HS:=Lib.hid hs
 obtain ⟨l0,c0,c1,c2⟩:=h.cells
 clear h hs c2
 go_enter Tryz.func224,Tryz.ntmps224
 go_wp2
 clear c0 c1
 go_loopw [3,15] (fun l i wr=>∃ k:Nat,k≤n∧i = .int .i64 k∧l = .int .i64 (Fe.left room S k)∧Below w.heap.size w wr) (fun _ i _=>n - (intOf i).toNat)
 case atStart=>exact ⟨0,by omega,rfl,rfl,Below.refl _ _⟩
 case round =>
  obtain ⟨k,hk,rfl,rfl,hB⟩:=hrel
  obtain ⟨l0,c0,c1,c2⟩:=(HR.out.keep hB).cells
  by_cases hlt:k<n
  · obtain ⟨l1,d0,d1,d2,d3,d4,d5,d6,d7⟩:=(HR.out.keep hB).2.fields hlt
    obtain ⟨g1,g2⟩:=left_bd (room:=room) HS.out k Z3f
    obtain ⟨⟨⟨b1,b2⟩,_⟩,z1,z2⟩:=HS.out k hlt
    cases hf:(S k).f with
    | true =>
      have HL:Hid (Fe.left room S (k + 1)=Fe.left room S k - (S k).z):=Lib.hid (by simp [Fe.left,hf])
      exact Z1g
    | false =>
      have HL:Hid (Fe.left room S (k + 1)=Fe.left room S k - (S k).x.b):=Lib.hid (by simp [Fe.left,hf])
      exact Z1g
  · obtain rfl:k=n:=by omega
    obtain ⟨g1,g2⟩:=left_bd (room:=room) HS.out k Z3f
    obtain ⟨q,hq,HQ⟩:∃ q,q=(if Fe.sg gr * Fe.left room S k<0 then 0 else Fe.sg gr * Fe.left room S k)∧Fe.free gr room S k=q:=⟨_,rfl,rfl⟩
    replace HQ:=Lib.hid HQ
    generalize Fe.left room S k=u at *
    cases gr
    · simp only [Fe.sg,Bool.false_eq_true,if_false] at *
      go_wp2
      all_goals
       go_ret
       exact ⟨ret_int (by rw [HQ.out,hq];(repeat' split) <;> omega),hB⟩
    · simp only [Fe.sg,if_true] at *
      go_wp2
      all_goals
       go_ret
       exact ⟨ret_int (by rw [HQ.out,hq];(repeat' split) <;> omega),hB⟩
end Go.Proofs.YteggipnplbkijaaGreat.Fix
namespace Go.Proofs.YteggipnplbkijaaGreat.Fix
open Go.ChangeShapes Go.WideShapes Go.ChangeAt Go.RowKit Go.Shelf
attribute [local go_sem] Oper.semAt_some
theorem Below.turn {N:Nat} {w W:World} {r:Nat} {o':Obj} (h:Below N w W) (hr:N≤r) (hW:W.heap[r]? = some o') (o:Obj):Below N w (W.putObj r o) :=
 h.trans ((Below.refl N W).grown (grownBy_putObj' W r o) (by have:=(Array.getElem?_eq_some_iff.1 hW).1;omega) (fun k e=>by cases e;exact hr))
theorem RowW.turn {W:World} {R I n r:Nat} {room:Int} {gr:Bool} {S:Nat→Fe.St} (h:RowW W R I n room gr S) (h1:R<r) (h2:I<r) (o:Obj):RowW (W.putObj r o) R I n room gr S:=⟨h.1.turn Z3f o,h.2.turn Z3f o⟩
theorem RowW.alloc {W:World} {R I n:Nat} {room:Int} {gr:Bool} {S:Nat→Fe.St} (h:RowW W R I n room gr S) (o:Obj):RowW (W.alloc o) R I n room gr S:=⟨h.1.alloc o,h.2.alloc o⟩
theorem RowW.off {W:World} {R I n b k:Nat} {room:Int} {gr:Bool} {S:Nat→Fe.St} (h:RowW W R I n room gr S) (h1:R≠b) (h2:I≠b) (v:Value):RowW (W.setCell ⟨b,k,none⟩ v) R I n room gr S:=⟨h.1.off h1 k v,h.2.off h2 v⟩
theorem RowW.sees {W:World} {R I n:Nat} {room:Int} {gr:Bool} {S:Nat→Fe.St} (h:RowW W R I n room gr S) (i:Nat):Sees R I n room (Fe.sg gr) S i W :=
 ⟨h.1,h.2.lt,fun k _ hk=>h.2.cell hk 7 Z3f⟩
theorem KeepsFrom.of_below {B:Nat} {W W':World} (h:Below W.heap.size W W'):KeepsFrom B W W' :=
 ⟨h.size,fun k o _ hk _=>(h.block k (Array.getElem?_eq_some_iff.1 hk).1).trans hk⟩
set_option maxRecDepth 100000 in
set_option maxHeartbeats 4000000 in
theorem any_any (R I n:Nat) (room:Int) (gr:Bool) (S:Nat→Fe.St) (w:World) (h:RowW w R I n room gr S) (hn:n≤64) :
  Calls Tryz.prog 214 #[.pointer (some ⟨R,0,none⟩)] w fun e w'=>e = .returned (.bool (decide (0<Fe.pl S n)))∧Below w.heap.size w w':=by
 have hmf:∀ (fn:Fn) (first cap:Array Value) (w:World),(Instr.makeFunc fn first cap).run Tryz.prog w = .ok (.func fn first cap) w:=fun _ _ _ _=>rfl
 have hR:=h.1.lt
 have hI:=h.2.lt
 have HR:=Lib.hid h
 clear h
 refine (callsIn_wide (n:=5)).1 ?_
 refine callsIn_of_wp_marks Tryz.func214 rfl trivial ?_ rfl
 simp only [Tryz.ntmps214,List.size_toArray,List.length_cons,List.length_nil,Nat.reduceAdd,Nat.reduceSub,Array.replicate_succ,Array.replicate_zero,List.push_toArray,List.append_toArray,List.nil_append,List.cons_append]
 gi_wp2
 have hA:At (w.alloc (.cells #[.bool false] 4)) w.heap.size (.cells #[.bool false] 4):=At.new _ _
 have hB:Below w.heap.size w (w.alloc (.cells #[.bool false] 4)):=Below.alloc' (Below.refl _ _) _
 have hRW:=HR.out.alloc (.cells #[.bool false] 4)
 have hsz:(w.alloc (.cells #[.bool false] 4)).heap.size=w.heap.size + 1:=by simp
 generalize w.alloc (.cells #[.bool false] 4)=W0 at *
 refine range_places (n:=5) (gf:=220) (first:=#[.pointer (some ⟨R,0,none⟩)]) (lb:=#[]) rfl (enters_of Tryz.func220 Z3q rfl) n (fun i=>(S i).f) (fun i=>#[.int .i64 (Fe.pl S i:Nat),.pointer (some ⟨I,i * 8,none⟩)]) (fun _=>rfl)
  (fun i W=>RowW W R I n room gr S∧At W w.heap.size (.cells #[.bool false] 4)∧Below w.heap.size w W∧Fe.pl S i=0)
  (fun W=>At W w.heap.size (.cells #[.bool true] 4)∧Below w.heap.size w W∧0<Fe.pl S n)
  (fun i W r o o' h hr hW _=>⟨h.1.turn Z3f Z3f o,h.2.1.turn Z3f o,Below.turn h.2.2.1 Z3f hW o,h.2.2.2⟩)
  (fun W r o o' h hr hW _=>⟨h.1.turn Z3f o,Below.turn h.2.1 Z3f hW o,h.2.2⟩)
  (fun o1 o2=>⟨(hRW.alloc o1).alloc o2,(hA.alloc o1).alloc o2,Below.alloc' (Below.alloc' hB o1) o2,rfl⟩)
  (fun lp J Jx W hV hs hY hJ=>loose_in 4 R I n room (Fe.sg gr) S hn lp J Jx W (fun i W h=>(hV i W h).1.sees i) hs hY hJ)
  (fun i W hi hf h=>⟨h.1,h.2.1,h.2.2.1,by simp [Fe.pl,hf,h.2.2.2]⟩)
  (fun i t=>(t.setIfInBounds 5 (.int .i64 (Fe.pl S i:Nat))).setIfInBounds 6 (.pointer (some ⟨I,i * 8,none⟩))) ?assign ?body ?done ?stop
 case assign =>
  intro l i W G hi hG
  simp only [List.setIfInBounds_toArray,List.set_cons_zero,List.set_cons_succ] at hG
  gi_wp2
  first | exact hG | simpa using hG
 case body =>
  rintro l i W hi hf ⟨hR1,hA1,hB1,hp⟩
  have hc:=hA1.cell 0
  have hz:=hA1.thaw 0
  simp only [List.setIfInBounds_toArray,List.set_cons_zero,List.set_cons_succ]
  gi_wp2
  exact ⟨(KeepsOthers.setCell _ _ _).from _,hA1.set 0 _,Below.setCell hB1 (Nat.le_refl _) _,by have:=Fe.pl_lt S hi hf;omega⟩
 case done =>
  rintro D W hD ⟨hR1,hA1,hB1,hp⟩ hK
  have hc:=hA1.cell 0
  have hz:=hA1.thaw 0
  gi_wp2
  refine ⟨by simp,.inl ⟨_,_,rfl,run_takeDeferred ((KeepsOthers.setCell _ _ _).same D _ hK rfl),?_⟩⟩
  have hA2:=(hA1.set 0 (.bool false)).turn (r:=D) Z3f (.deferred none)
  have hB2:=Below.turn (Below.setCell hB1 (Nat.le_refl _) (.bool false) (p:=⟨w.heap.size,0,none⟩)) Z3f ((KeepsOthers.setCell _ _ _).same D _ hK rfl) (.deferred none)
  have hc2:=hA2.cell 0
  generalize World.putObj _ _ _=W2 at *
  refine ⟨.bool false,?_,by rw [hp];rfl,hB2⟩
  simp [results,Tryz.results214,go_sem,hc2]
 case stop =>
  rintro D W hD ⟨hA1,hB1,hp⟩ hK
  have hc:=hA1.cell 0
  gi_wp2
  refine ⟨by simp,.inl ⟨_,_,rfl,run_takeDeferred hK,?_⟩⟩
  have hA2:=hA1.turn (r:=D) Z3f (.deferred none)
  have hB2:=Below.turn hB1 Z3f hK (.deferred none)
  have hc2:=hA2.cell 0
  generalize World.putObj _ _ _=W2 at *
  refine ⟨.bool true,?_,by rw [decide_eq_true hp],hB2⟩
  simp [results,Tryz.results214,go_sem,hc2]
end Go.Proofs.YteggipnplbkijaaGreat.Fix
namespace Go.Proofs.YteggipnplbkijaaGreat.Fix
open Go.ChangeShapes Go.WideShapes Go.ChangeAt Go.RowKit Go.Shelf
attribute [local go_sem] Oper.semAt_some
def fmix (S T:Nat→Fe.St) (i:Nat):Nat→Fe.St:=fun k=>if k<i then T k else S k
theorem fmix_zero (S T:Nat→Fe.St):fmix S T 0=S:=by funext k;simp [fmix]
theorem fmix_ge {S T:Nat→Fe.St} {i k:Nat} (h:i≤k):fmix S T i k=S k:=by simp [fmix,show ¬ k<i by omega]
theorem fmix_same {S T:Nat→Fe.St} {i:Nat} (h:T i=S i):fmix S T (i + 1)=fmix S T i:=by
 funext k
 unfold fmix
 rcases Nat.lt_trichotomy k i with h' | h' | h'
 · simp [h',show k<i + 1 by omega]
 · subst h';simp [h]
 · simp [show ¬ k<i by omega,show ¬ k<i + 1 by omega]
theorem fmix_at (S T:Nat→Fe.St) (i:Nat):fmix S T (i + 1) i=T i:=by simp [fmix]
theorem fmix_off (S T:Nat→Fe.St) {i k:Nat} (h:k≠i):fmix S T (i + 1) k=fmix S T i k:=by
 unfold fmix
 rcases Nat.lt_or_ge k i with h' | h'
 · simp [h',show k<i + 1 by omega]
 · simp [show ¬ k<i by omega,show ¬ k<i + 1 by omega]
theorem fmix_all (S T:Nat→Fe.St) (n:Nat):∀ i,i<n→fmix S T n i=T i:=fun i hi=>by simp [fmix,hi]
theorem RowW.mixed {W:World} {R I n i:Nat} {room:Int} {gr:Bool} {S T:Nat→Fe.St} (h:RowW W R I n room gr (fmix S T i)):Sees R I n room (Fe.sg gr) S i W :=
 ⟨h.1,h.2.lt,fun k hk hn=>by have:=h.2.cell hn 7 Z3f;rw [fmix_ge hk] at this;exact this⟩
theorem RowW.ne {W:World} {R I n:Nat} {room:Int} {gr:Bool} {S:Nat→Fe.St} (h:RowW W R I n room gr S):R≠I:=by
 rintro rfl
 obtain ⟨h1,vs,h2,_⟩:=h
 unfold At rowObj at h1
 unfold At at h2
 rw [h1] at h2
 injection h2 with h2
 injection h2 with _ h2
 exact absurd h2 Z3i
theorem made_bd {S:Nat→Fe.St} {n:Nat} (h:∀ i,i<n → -134217728≤(S i).m∧(S i).m≤134217728) (k:Nat) (hk:k≤n) : -134217728 * k≤Fe.made S k∧Fe.made S k≤134217728 * k:=by
 induction k with
 | zero=>simp [Fe.made]
 | succ k ih =>
   have:=ih Z3f
   have:=h k Z3f
   simp only [Fe.made]
   split <;> constructor <;> omega
set_option maxRecDepth 100000 in
set_option maxHeartbeats 4000000 in
theorem freeze_any (N R I n:Nat) (room:Int) (gr:Bool) (S:Nat→Fe.St) (w:World) (h:RowW w R I n room gr S) (hn:n≤64) (hN:N≤I∧N≤w.heap.size) (hm:∀ i,i<n → -134217728≤(S i).m∧(S i).m≤134217728) :
  Calls Tryz.prog 216 #[.pointer (some ⟨R,0,none⟩)] w fun e w'=>(∃ v,e = .returned v)∧RowW w' R I n room gr (Fe.froze n S)∧Below N w w':=by
 have hmf:∀ (fn:Fn) (first cap:Array Value) (w:World),(Instr.makeFunc fn first cap).run Tryz.prog w = .ok (.func fn first cap) w:=fun _ _ _ _=>rfl
 have hR:=h.1.lt
 have hI:=h.2.lt
 have HR:=Lib.hid h
 have HM:=Lib.hid hm
 clear h hm
 refine (callsIn_wide (n:=5)).1 ?_
 refine callsIn_of_wp_marks Tryz.func216 rfl trivial ?_ rfl
 simp only [Tryz.ntmps216,List.size_toArray,List.length_cons,List.length_nil,Nat.reduceAdd,Nat.reduceSub,Array.replicate_succ,Array.replicate_zero,List.push_toArray,List.append_toArray,List.nil_append,List.cons_append]
 gi_wp2
 obtain ⟨W0,hA,hB,hRW,hsz,hW⟩:∃ W0,At W0 w.heap.size (.cells #[.int .i64 0] 3)∧Below N w W0∧RowW W0 R I n room gr S∧W0.heap.size=w.heap.size + 1∧w.alloc (.cells #[.int .i64 0] 3)=W0 :=
  ⟨_,At.new w (.cells #[.int .i64 0] 3),(Below.refl _ _).alloc hN.2 _,HR.out.alloc _,by simp,rfl⟩
 rw [hW]
 clear hW
 refine range_places (n:=5) (gf:=220) (first:=#[.pointer (some ⟨R,0,none⟩)]) (lb:=#[]) rfl (enters_of Tryz.func220 Z3q rfl) n (fun i=>(S i).f) (fun i=>#[.int .i64 (Fe.pl S i:Nat),.pointer (some ⟨I,i * 8,none⟩)]) (fun _=>rfl)
  (fun i W=>RowW W R I n room gr S∧At W w.heap.size (.cells #[.int .i64 (Fe.made S i)] 3)∧Below N w W)
  (fun W=>False)
  (fun i W r o o' h hr hW _=>⟨h.1.turn Z3f Z3f o,h.2.1.turn Z3f o,Below.turn h.2.2 Z3f hW o⟩)
  (fun W r o o' h hr hW _=>h)
  (fun o1 o2=>⟨(hRW.alloc o1).alloc o2,(hA.alloc o1).alloc o2,(hB.alloc Z3f o1).alloc Z3p o2⟩)
  (fun lp J Jx W hV hs hY hJ=>loose_in 4 R I n room (Fe.sg gr) S hn lp J Jx W (fun i W h=>(hV i W h).1.sees i) hs hY hJ)
  (fun i W hi hf h=>⟨h.1,by simp only [Fe.made,hf,if_true];exact h.2.1,h.2.2⟩)
  (fun i t=>((t.setIfInBounds 9 (.int .i64 (Fe.pl S i:Nat))).setIfInBounds 10 (.pointer (some ⟨I,i * 8,none⟩))).setIfInBounds 4 (.pointer (some ⟨I,i * 8,none⟩))) ?assign ?body ?done ?stop
 case assign =>
  exact Z1l
 case body =>
  rintro l i W hi hf ⟨hR1,hA1,hB1⟩
  have hc:=hA1.cell 0
  have hz:=hA1.thaw 0
  have l1:=hA1.lt
  obtain ⟨l2,d0,d1,d2,d3,d4,d5,d6,d7⟩:=hR1.2.fields hi
  have g1:=made_bd HM.out i Z3f
  have g2:=HM.out i hi
  have HL:Hid (Fe.made S (i + 1)=Fe.made S i + (S i).m):=Lib.hid (by simp [Fe.made,hf])
  have w1:IntKind.i64.wrap (Fe.made S i + (S i).m)=Fe.made S (i + 1):=by rw [HL.out];exact IntWalk.i64_in _ Z3f
  generalize hT:Fe.made S (i + 1)=T at *
  have HT:=Lib.hid hT;clear hT
  generalize Fe.made S i=u at *
  generalize (S i).m=v at *
  clear d0 d1 d2 d3 d4 d5 d7
  (simp only [List.setIfInBounds_toArray,List.set_cons_zero,List.set_cons_succ])
  gi_upto_region 3 with (fail)
  refine Drawn.round_tail 6 1 (Below.refl _ _) Z3q Z3q rfl Z3q Z3q Z3q (by rintro ⟨_,_,hh⟩;exact hh) ?_
  (repeat (first | refine sqk ?_ | refine sqc ?_ (hc:=by intro w2 hS;first | with_reducible exact qaE hS (cut_any _ _)) | refine sqv ?_))
  refine Drawn.seq_tail ?_;intro w2 hS
  have A2:=hA1.keep hS
  have z2:=A2.thaw 0
  have e2:=A2.cell 0
  refine tkT ?_;intro K hK;go_simp;refine hK _ _ (Drawn.text_nil ?_);clear hK K
  gi_wp2
  refine ⟨(KeepsFrom.of_below hS).trans ((KeepsOthers.setCell _ _ _).from _),(hR1.keep hS).off Z3f Z3f _,?_,Below.setCell (Below.trans hB1 (hS.mono Z3f)) hN.2 _⟩
  exact A2.set 0 _
 case stop=>exact fun D W hD h _=>h.elim
 case done =>
  rintro D W hD ⟨hR1,hA1,hB1⟩ hK
  have hlD:=(Array.getElem?_eq_some_iff.1 hK).1
  generalize hT:Fe.made S n=T at *
  have HT:=Lib.hid hT;clear hT
  have hF:∀ i,Fe.froze n S i=if (S i).f then S i else ⟨(S i).x,(S i).z,(S i).m,Fe.frz T (S i).m⟩:=fun i=>by unfold Fe.froze;rw [HT.out]
  have HF:=Lib.hid hF
  clear hF hA hB hRW HR
  gi_wp2
  refine range_places (n:=5) (gf:=220) (first:=#[.pointer (some ⟨R,0,none⟩)]) (lb:=#[]) rfl (enters_of Tryz.func220 Z3q rfl) n (fun i=>(S i).f) (fun i=>#[.int .i64 (Fe.pl S i:Nat),.pointer (some ⟨I,i * 8,none⟩)]) (fun _=>rfl)
   (fun i W=>RowW W R I n room gr (fmix S (Fe.froze n S) i)∧At W w.heap.size (.cells #[.int .i64 T] 3)∧Below N w W∧W.heap[D]? = some (.deferred (some [])))
   (fun W=>False)
   (fun i W r o o' h hr hW _=>⟨h.1.turn Z3f Z3f o,h.2.1.turn Z3f o,Below.turn h.2.2.1 Z3f hW o,(World.putObj_heap_other Z3f).trans h.2.2.2⟩)
   (fun W r o o' h hr hW _=>h)
   (fun o1 o2=>⟨by rw [fmix_zero];exact (hR1.alloc o1).alloc o2,(hA1.alloc o1).alloc o2,(hB1.alloc Z3f o1).alloc Z3p o2,(At.alloc (show At W D _ from hK) o1).alloc o2⟩)
   (fun lp J Jx W hV hs hY hJ=>loose_in 4 R I n room (Fe.sg gr) S hn lp J Jx W (fun i W h=>(hV i W h).1.mixed) hs hY hJ)
   (fun i W hi hf h=>⟨by rw [fmix_same (by rw [HF.out,hf];rfl)];exact h.1,h.2⟩)
   (fun i t=>((t.setIfInBounds 19 (.int .i64 (Fe.pl S i:Nat))).setIfInBounds 20 (.pointer (some ⟨I,i * 8,none⟩))).setIfInBounds 6 (.pointer (some ⟨I,i * 8,none⟩))) ?assign ?body ?done ?stop
  case assign =>
   exact Z1l
  case body =>
   rintro l i W2 hi hf ⟨hR2,hA2,hB2,hD2⟩
   have hc:=hA2.cell 0
   have hz:=hA2.thaw 0
   have l1:=hA2.lt
   obtain ⟨l2,d0,d1,d2,d3,d4,d5,d6,d7⟩:=hR2.2.fields hi
   rw [fmix_ge (Nat.le_refl _)] at d6
   have z7:=hR2.2.thaw (i * 8 + 7)
   have HN:Hid (Fe.froze n S i=⟨(S i).x,(S i).z,(S i).m,Fe.frz T (S i).m⟩):=Lib.hid (by rw [HF.out,hf];rfl)
   have hne:=hR2.ne
   have fin:∀ b,Fe.frz T (S i).m=b→roundEnd W.heap.size (fun W=>RowW W R I n room gr (fmix S (Fe.froze n S) (i + 1))∧At W w.heap.size (.cells #[.int .i64 T] 3)∧Below N w W∧W.heap[D]? = some (.deferred (some []))) (fun _=>False) W2 .normal { tmps:=#[],defers:=[] } (W2.setCell ⟨I,i * 8 + 7,none⟩ (.bool b)):=by
    intro b hb
    refine ⟨(KeepsOthers.setCell _ _ _).from _,⟨hR2.1.off Z3f _ _,?_⟩,hA2.off Z3f _ _,Below.setCell hB2 hN.1 _,(KeepsOthers.setCell _ _ _).same _ _ hD2 rfl⟩
    refine hR2.2.put hi Z3f ?_ ?_ ?_
    · rw [fmix_at,HN.out];simp [fld,hb]
    · intro q hq hqn
      rw [fmix_at,HN.out,fmix_ge (Nat.le_refl _)]
      unfold fld
      (repeat' split) <;> first | rfl | omega
    · intro k hk hkn;rw [fmix_off _ _ hkn]
   have FIN:=Lib.hid fin
   clear fin d0 d1 d2 d3 d4 d5 HN
   generalize (S i).m=v at *
   (simp only [List.setIfInBounds_toArray,List.set_cons_zero,List.set_cons_succ])
   rcases Int.lt_trichotomy T 0 with hT | hT | hT
   · have q1:decide (T=0)=false:=by simp;omega
     have q2:decide (0<T)=false:=by simp;omega
     have q3:decide (T<0)=true:=by simp;omega
     by_cases hv:v<0
     · gi_wp2
       refine FIN.out _ ?_
       unfold Fe.frz;rw [q1,q2,q3];first | (simp;done) | (simp;omega)
     · gi_wp2
       refine FIN.out _ ?_
       rw [show (T == 0)=false by simp;omega];unfold Fe.frz;rw [q1,q2,q3];simp;omega
   · subst hT
     gi_wp2
     refine FIN.out _ ?_
     simp [Fe.frz]
   · have q1:decide (T=0)=false:=by simp;omega
     have q2:decide (0<T)=true:=by simp;omega
     have q3:decide (T<0)=false:=by simp;omega
     by_cases hv:0<v
     · gi_wp2
       refine FIN.out _ ?_
       unfold Fe.frz;rw [q1,q2,q3];first | (simp;done) | (simp;omega)
     · gi_wp2
       refine FIN.out _ ?_
       rw [show (T == 0)=false by simp;omega];unfold Fe.frz;rw [q1,q2,q3];simp;omega
  case stop=>exact fun D W hD h _=>h.elim
  case done =>
   rintro D2 W2 hD2 ⟨hR2,hA2,hB2,hK1⟩ hK2
   gi_wp2
   have hl2:=(Array.getElem?_eq_some_iff.1 hK2).1
   refine ⟨by simp,.inl ⟨_,_,rfl,run_takeDeferred hK2,?_⟩⟩
   have hK3:(W2.putObj D2 (.deferred none)).heap[D]? = some (.deferred (some [])):=(World.putObj_heap_other Z3f).trans hK1
   refine ⟨by simp,.inl ⟨_,_,rfl,run_takeDeferred hK3,?_⟩⟩
   exact ⟨_,results_none rfl _ _ _,⟨_,rfl⟩,⟨((hR2.turn Z3f Z3f _).turn Z3f Z3f _).1,(((hR2.turn Z3f Z3f _).turn Z3f Z3f _).2.same (fmix_all _ _ _))⟩,Below.turn (Below.turn hB2 Z3f hK2 _) Z3f hK3 _⟩
end Go.Proofs.YteggipnplbkijaaGreat.Fix
namespace Go.Proofs.YteggipnplbkijaaGreat.Fix
open Go.ChangeShapes Go.WideShapes Go.ChangeAt Go.RowKit
def enc (x:Fe.It):Value:= .agg #[.int .i64 x.b,.int .i64 x.lo,.int .i64 x.hi,.int .i64 x.g,.int .i64 x.s]
theorem cwe_any (n:Int) (w:World):Calls Tryz.prog 226 #[.int .i64 n] w fun e w'=>e = .returned (.int .i64 (Fe.cw n))∧w=w':=by
 go_enter Tryz.func226,Tryz.ntmps226
 go_wp2_with (first | (go_at_call 62;with_reducible refine qmE (clamp_any _ _ _ _) ?_))
 go_ret
 exact ⟨ret_int (Fe.fix_to Z3f Z3f),rfl⟩
theorem fto_any (n m:Int) (w:World) (h:0≤m∧m≤1073741824):Calls Tryz.prog 62 #[.int .i64 n,.int .i64 0,.int .i64 m] w fun e w'=>e = .returned (.int .i64 (Fe.to n m))∧w=w':=by
 rw [← Fe.fix_to h.1 h.2]
 exact clamp_any n 0 m w
theorem ret_five {a b c d f a' b' c' d' f':Int} (h1:a=a') (h2:b=b') (h3:c=c') (h4:d=d') (h5:f=f'):Ending.returned (.agg #[.int .i64 a,.int .i64 b,.int .i64 c,.int .i64 d,.int .i64 f]) = .returned (.agg #[.int .i64 a',.int .i64 b',.int .i64 c',.int .i64 d',.int .i64 f']):=by rw [h1,h2,h3,h4,h5]
set_option maxHeartbeats 4000000 in
theorem counted_any (x:Fe.It) (w:World):Calls Tryz.prog 208 #[enc x] w fun e w'=>e = .returned (enc (Fe.cnt x))∧Below w.heap.size w w':=by
 obtain ⟨b,lo,hi,g,s⟩:=x
 simp only [enc,Fe.cnt]
 go_enter Tryz.func208,Tryz.ntmps208
 go_wp2
 refine sqtt 16 1 ?_ (h0:=by first | assumption | exact Below.refl _ _)
 (repeat (first | refine sqk ?_ | refine sqc ?_ (hc:=by intro w2 hS;first | with_reducible exact qaE hS (fto_any _ _ _ Z3f)) | refine sqv ?_))
 refine Drawn.seq_tail ?_;intro w2 hS;obtain ⟨hc,hf⟩:=bcell hS;refine tkT ?_;intro K hK;go_simp;refine hK _ _ (Drawn.text_nil ?_);clear hK K
 go_wp2
 refine bodyPost_ret (v:= .agg #[.int .i64 _,.int .i64 _,.int .i64 _,.int .i64 _,.int .i64 _]) (by simp [results,Tryz.results208,go_sem, *];first | done | exact ⟨rfl,rfl⟩ | exact ⟨rfl,rfl,rfl,rfl⟩ | exact ⟨rfl,rfl,rfl,rfl,rfl⟩ | rfl) rfl ⟨ret_five rfl rfl rfl rfl rfl,?_⟩
 exact Z6
theorem ints_of_made {w:World} {b:Nat} {T:TypeId} (f:Nat→Int) (n:Nat) (hn:n≤maxLen) (h:At w b (.cells (stRow f n n) T)):Ints w (some ⟨b,0,none⟩) ((List.range n).map f):=by
 refine ⟨by simpa using hn,fun h0=>⟨b,0,rfl,fun k hk => ?_⟩⟩
 simp only [List.length_map,List.length_range] at hk
 rw [h.cell,Nat.zero_add,stRow_get _ hk]
 simp [hk]
theorem stRow_zero (f:Nat→Int) (n:Nat) (h:∀ k,k<n→f k=0):stRow f n 0=stRow f n n:=by
 unfold stRow
 congr 1
 apply List.map_congr_left
 intro j hj
 have hj:j<n:=by simpa using hj
 simp [hj,h j hj]
set_option maxHeartbeats 4000000 in
theorem fshare_any (A:Option Addr) (l:List Int) (n c:Nat) (x:Int) (w:World) (hI:Ints w A l) (hl:l.length=n) (hn:n≤64) :
  Calls Tryz.prog 223 #[.int .i64 x,.slice A n c] w fun e w'=>(∃ b,e = .returned (.slice (some ⟨b,0,none⟩) n n)∧w.heap.size≤b∧Ints w' (some ⟨b,0,none⟩) (Fe.share x l))∧Below w.heap.size w w':=by
 obtain ⟨i0,hi0,hz0,hz1,hz2⟩:=info_parts intZero
 have HI:=Lib.hid hI;clear hI
 have HL:=Lib.hid hl;clear hl
 go_enter Tryz.func223,Tryz.ntmps223
 go_upto_region 5 with (first | first | (go_at_call 62;with_reducible refine qmE (fto_any _ _ _ Z3f) ?_) | (at_make;refine wpList_make_row _ rfl _ _ 52 rfl 3 i0 (.int .i64 0) Tryz.underlying52 hi0 hz0 hz1 rfl .i64 .i64 n rfl rfl Z42 Z3f ?_))
 have hA0:At (w.alloc (.cells (madeCells #[.int .i64 0] n) 3)) w.heap.size (.cells (stRow (Fe.part x l) n 0) 3):=by rw [← stRow_made];exact At.new _ _
 have hB0:Below w.heap.size w (w.alloc (.cells (madeCells #[.int .i64 0] n) 3)):=Below.alloc' (Below.refl _ _) _
 generalize (w.alloc (.cells (madeCells #[.int .i64 0] n) 3))=W1 at *
 have HI1:Hid (Ints W1 A l):=Lib.hid (HI.out.after hB0)
 obtain ⟨N,hN⟩:∃ N,N=Fe.to x 67108864:=⟨_,rfl⟩
 have N1:0≤N:=by rw [hN];exact Fe.to_ge Z3f
 have N2:N≤67108864:=by rw [hN];exact Fe.to_le Z3f
 rw [← hN]
 have HN:=Lib.hid hN;clear hN
 have HA0:=Lib.hid hA0;clear hA0
 have HB0:=Lib.hid hB0;clear hB0
 go_wp2
 go_loop [6,24] (fun s i=>∃ k:Nat,k≤n∧i = .int .i64 k∧s = .int .i64 (Fe.up l k)) (fun _ i=>n - (intOf i).toNat)
 case atStart=>exact ⟨0,by omega,rfl,rfl⟩
 case round =>
  obtain ⟨k,hk,rfl,rfl⟩:=hrel
  by_cases hlt:k<n
  · obtain ⟨b1,o1,hA1,l1,c1⟩:=HI1.out.at_ (k:=k) (by rw [HL.out];exact hlt)
    have hs:Hid (Fe.up l k + Fe.cw (l.getD k 0)=Fe.up l (k + 1)):=Lib.hid rfl
    have g1:=Fe.up_ge l k
    have g2:Fe.up l k≤68719476736:=by have:=Fe.up_le l k;omega
    have g3:=Fe.cw_ge (l.getD k 0)
    have g4:=Fe.cw_le (l.getD k 0)
    generalize l.getD k 0=z at *
    generalize Fe.up l k=u at *
    subst hA1
    go_wp2_with (first | (go_at_call 226;with_reducible refine qmE (cwe_any _ _) ?_))
    go_round
    case rel=>exact ⟨k + 1,by omega,by go_num,by rw [hs.out]⟩
    case measure=>simp [intOf];omega
  · obtain rfl:k=n:=by omega
    have ha:Hid (Fe.up l k=Fe.all l):=Lib.hid (by unfold Fe.all;rw [HL.out])
    have g1:=Fe.up_ge l k
    have g2:Fe.up l k≤68719476736:=by have:=Fe.up_le l k;omega
    generalize ha':Fe.up l k=a at *
    by_cases h0:a=0
    · subst h0
      go_wp2
      refine bodyPost_ret (v:= .slice (some ⟨w.heap.size,0,none⟩) k k) (by simp [results,Tryz.results223,go_sem, *];first | done | exact ⟨rfl,rfl⟩ | rfl) rfl ⟨⟨w.heap.size,rfl,Nat.le_refl _,?_⟩,HB0.out⟩
      unfold Fe.share
      rw [HL.out]
      refine ints_of_made (T:=3) _ k Z3y ?_
      have h9:=HA0.out
      rw [stRow_zero _ _ (fun j _=>Fe.part_none (ha.out.symm) j)] at h9
      exact h9
    · have ha1:1≤a:=by omega
      have HAA:Hid (Fe.up l k=a):=Lib.hid ha'
      clear ha'
      go_wp2
      go_loopw [9,10,38] (fun h t i wr=>∃ j:Nat,j≤k∧i = .int .i64 j∧h = .int .i64 (Fe.up l j)∧t = .int .i64 (Fe.so x l j)∧At wr w.heap.size (.cells (stRow (Fe.part x l) k j) 3)∧Below w.heap.size w wr) (fun _ _ i _=>k - (intOf i).toNat)
      case atStart=>exact ⟨0,by omega,rfl,rfl,by rw [Fe.so_zero],HA0.out,HB0.out⟩
      case round =>
       obtain ⟨j,hj,rfl,rfl,rfl,hA,hB⟩:=hrel
       by_cases hjt:j<k
       · obtain ⟨b1,o1,hA1,l1,c1⟩:=(HI.out.after hB).at_ (k:=j) (by rw [HL.out];exact hjt)
         have hs:Hid (Fe.up l j + Fe.cw (l.getD j 0)=Fe.up l (j + 1)):=Lib.hid rfl
         have g3:=Fe.cw_ge (l.getD j 0)
         have g4:=Fe.cw_le (l.getD j 0)
         have g5:=Fe.up_ge l j
         have g6:Fe.up l j≤68719476736:=by have:=Fe.up_le l j;omega
         have hq:Hid (N * Fe.up l (j + 1) / a=Fe.so x l (j + 1)):=Lib.hid (by unfold Fe.so;rw [HN.out,ha.out])
         have hp:Hid (Fe.so x l (j + 1) - Fe.so x l j=Fe.part x l j):=Lib.hid rfl
         have q1:=Fe.so_ge x l j
         have q2:=Fe.so_mono x l (show j≤j + 1 by omega)
         have q3:Fe.so x l (j + 1)≤67108864:=Int.le_trans (Fe.so_le x l (k:=j + 1) Z48) (Fe.to_le Z3f)
         have p1:=Fe.so_bd x l (k:=j + 1) Z3f
         rw [← HN.out] at p1
         have e1:(N * Fe.up l (j + 1)).tdiv a=Fe.so x l (j + 1):=by
          rw [← hq.out]
          exact Int.tdiv_eq_ediv_of_nonneg p1.1
         have W2:Hid (wrap64 ((wrap64 (N * Fe.up l (j + 1))).tdiv a)=Fe.so x l (j + 1)):=Lib.hid (by rw [IntWalk.wrap64_in (N * Fe.up l (j + 1)) Z3f,e1];exact IntWalk.wrap64_in _ Z3f)
         have W3:Hid (wrap64 (Fe.so x l (j + 1) - Fe.so x l j)=Fe.part x l j):=Lib.hid (by rw [IntWalk.wrap64_in _ Z3f];exact hp.out)
         have w3:IntKind.i64.wrap (Fe.up l j + Fe.cw (l.getD j 0))=Fe.up l (j + 1):=by rw [hs.out];exact IntWalk.i64_in _ (by have:=Fe.up_le l (j + 1);have:=Fe.up_ge l (j + 1);omega)
         have hz:=hA.thaw j
         have hc0:=hA.cell j
         rw [stRow_get _ hjt] at hc0
         have hlb:=hA.lt
         clear e1 p1 q1 q2 q3
         generalize l.getD j 0=z at *
         generalize hu':Fe.up l (j + 1)=u' at *
         have hs2:=Lib.hid hu';clear hu'
         generalize Fe.up l j=u at *
         generalize hs':Fe.so x l (j + 1)=s' at *
         have hs1:=Lib.hid hs';clear hs'
         generalize Fe.so x l j=s at *
         generalize hpp:Fe.part x l j=p at *
         have HPP:=Lib.hid hpp;clear hpp
         subst hA1
         go_wp2_with (first | (go_at_call 226;with_reducible refine qmE (cwe_any _ _) ?_))
         go_roundw
         case rel =>
          refine ⟨j + 1,by omega,by go_num,by rw [hs2.out],by rw [W2.out,hs1.out],?_,Below.setCell hB (Nat.le_refl _) _⟩
          rw [W2.out,W3.out, ← stRow_set _ hjt,HPP.out]
          exact hA.set j _
         case measure=>simp [intOf];omega
       · obtain rfl:j=k:=by omega
         go_wp2
         refine bodyPost_ret (v:= .slice (some ⟨w.heap.size,0,none⟩) j j) (by simp [results,Tryz.results223,go_sem, *];first | done | exact ⟨rfl,rfl⟩ | rfl) rfl ⟨⟨w.heap.size,rfl,Nat.le_refl _,?_⟩,hB⟩
         unfold Fe.share
         rw [HL.out]
         exact ints_of_made _ j Z3y hA
theorem At.five {W:World} {b:Nat} {x y z u v:Value} {T:TypeId} (h:At W b (.cells #[x,y,z,u,v] T)):b<W.heap.size∧W.cell? ⟨b,0,none⟩=some x∧W.cell? ⟨b,1,none⟩=some y∧W.cell? ⟨b,2,none⟩=some z∧W.cell? ⟨b,3,none⟩=some u∧W.cell? ⟨b,4,none⟩=some v:=⟨h.lt,h.cell 0,h.cell 1,h.cell 2,h.cell 3,h.cell 4⟩
theorem finn_any (n lo hi:Int) (w:World) (h:(0≤lo∧lo≤1048576)∧0≤hi∧hi≤1048576):Calls Tryz.prog 62 #[.int .i64 n,.int .i64 lo,.int .i64 hi] w fun e w'=>e = .returned (.int .i64 (Fe.inn lo hi n))∧w=w':=by
 rw [← Fe.fix_inn h.1.1 h.1.2 h.2.1 h.2.2]
 exact clamp_any n lo hi w
theorem counted5 (b lo hi g s:Int) (w:World):Calls Tryz.prog 208 #[.agg #[.int .i64 b,.int .i64 lo,.int .i64 hi,.int .i64 g,.int .i64 s]] w fun e w'=>e = .returned (enc (Fe.cnt ⟨b,lo,hi,g,s⟩))∧Below w.heap.size w w':=counted_any ⟨b,lo,hi,g,s⟩ w
set_option maxHeartbeats 4000000 in
theorem xclamp_any (x:Fe.It) (n:Int) (w:World):Calls Tryz.prog 183 #[enc x,.int .i64 n] w fun e w'=>e = .returned (.int .i64 (Fe.clamp x n))∧Below w.heap.size w w':=by
 obtain ⟨b,lo,hi,g,s⟩:=x
 obtain ⟨d1,d2,d3,d4,d5,d6,d7,d8,d9,d10⟩:=Fe.cnt_bd ⟨b,lo,hi,g,s⟩
 unfold Fe.clamp
 have HC:Hid (Fe.cnt ⟨b,lo,hi,g,s⟩=Fe.cnt ⟨b,lo,hi,g,s⟩):=Lib.hid rfl
 generalize hc:Fe.cnt ⟨b,lo,hi,g,s⟩=c at *
 obtain ⟨b',lo',hi',g',s'⟩:=c
 simp only at d1 d2 d3 d4 d5 d6
 have HE:=Lib.hid hc
 clear hc HC d7 d8 d9 d10
 simp only [enc]
 go_enter Tryz.func183,Tryz.ntmps183
 go_upto_region 1 with (fail)
 generalize hW:World.alloc _ _=W0
 have A0:At W0 w.heap.size (.cells #[.int .i64 b,.int .i64 lo,.int .i64 hi,.int .i64 g,.int .i64 s] 201):=hW ▸ At.new _ _
 have hB:Below w.heap.size w W0:=hW ▸ Below.alloc' (Below.refl _ _) _
 clear hW
 obtain ⟨l0,c0,c1,c2,c3,c4⟩:=A0.five
 go_upto_region 2 with (go_at_call 208;(with_reducible refine (counted5 _ _ _ _ _ _).mono ?_);rintro e w' ⟨rfl,hb⟩;rw [HE.out];simp only [enc];clear l0 c0 c1 c2 c3 c4;replace A0:=A0.keep hb;replace hB:=Below.after2 hB (Nat.le_refl _) hb;clear hb;obtain ⟨l0,c0,c1,c2,c3,c4⟩:=A0.five;have z0:=A0.thaw 0;have z1:=A0.thaw 1;have z2:=A0.thaw 2;have z3:=A0.thaw 3;have z4:=A0.thaw 4)
 go_wp2_with (first | (go_at_call 62;with_reducible refine qmE (finn_any _ _ _ _ ⟨by omega,by omega⟩) ?_))
 go_ret
 exact ⟨ret_int (by unfold Fe.inn;(repeat' split) <;> omega),by (repeat (first | exact Below.refl _ _ | assumption | refine Below.drew ?_ | refine Below.drewN ?_ _ | refine Below.alloc' ?_ _ | refine Below.setCell ?_ Z44 _ | refine Below.after2 ?_ (Nat.le_refl _) Z3v))⟩
end Go.Proofs.YteggipnplbkijaaGreat.Fix
