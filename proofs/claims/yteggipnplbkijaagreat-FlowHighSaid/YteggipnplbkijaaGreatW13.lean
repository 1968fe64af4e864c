/- Boxes laid by the program: what its functions do, part 13. -/
import Derived.Test.YteggipnplbkijaaGreatWK
import Derived.Test.YteggipnplbkijaaGreatW06
import Derived.Test.YteggipnplbkijaaGreatW12
set_option linter.unusedVariables false
set_option linter.unusedSimpArgs false
set_option linter.unusedSectionVars false
set_option maxRecDepth 100000
namespace Go.Proofs.YteggipnplbkijaaGreat.Fix
open Go.ChangeShapes Go.WideShapes Go.ChangeAt Go.RowKit Go.Shelf
attribute [local go_sem] Oper.semAt_some
theorem ownsRow_below {W w:World} {base:Nat} {e:TypeId} {sz:Nat} {v:Value} {k:Nat} {xs:List Value} (h:W.ownsRow base e sz v k xs) (hb:Below W.heap.size W w):w.ownsRow base e sz v k xs:=by
 refine h.kept (row:=none) ⟨hb.os,hb.tape,hb.output,hb.size,fun k hk _=>hb.block k hk⟩ ?_
 rcases h.2 with ⟨rfl,_⟩ | ⟨g,cap,cur,rfl,_⟩
 · exact .inl rfl
 · exact .inr (by simp [Value.ownBlock])
theorem At.row {W w:World} {b base k:Nat} {vs:Array Value} {T:TypeId} {v:Value} {xs:List Value} (h:At W b (.cells vs T)) (hT:T≠3) (ho:W.ownsRow base 3 1 v k xs) (hg:W.grownBy w v.ownBlock):At w b (.cells vs T):=by
 refine (hg.block b h.lt fun e => ?_).trans h
 rcases ho.2 with ⟨rfl,_⟩ | ⟨g,cap,cur,rfl,_,hgb,_⟩
 · simp [Value.ownBlock] at e
 · have e':b=g:=by simpa [Value.ownBlock] using e
   subst e'
   unfold At at h
   rw [h] at hgb
   injection hgb with hgb
   injection hgb with _ hgb
   exact hT hgb
theorem Blk.row {W w:World} {I n base k:Nat} {S:Nat→Fe.St} {v:Value} {xs:List Value} (h:Blk W I n S) (ho:W.ownsRow base 3 1 v k xs) (hg:W.grownBy w v.ownBlock):Blk w I n S:=by
 obtain ⟨vs,h,r⟩:=h
 exact ⟨vs,h.row Z3i ho hg,r⟩
theorem append_kept {W:World} {base k:Nat} {v:Value} {xs:List Int} (x:Int) (hown:W.ownsRow base 3 1 v k (xs.map (Value.int .i64))) (hbase:base≤W.heap.size) (hk:k≤10000) :
  ∃ g c w',(Builtin.append_ #[52,52] 52 #[v,.slice (some ⟨W.heap.size,0,none⟩) 1 1]).run Tryz.prog (W.alloc (.cells #[.int .i64 x] 3)) = .ok (.slice (some ⟨g,0,none⟩) (k + 1) c) w' ∧
   w'.ownsRow base 3 1 (.slice (some ⟨g,0,none⟩) (k + 1) c) (k + 1) ((xs ++ [x]).map (Value.int .i64))∧(W.alloc (.cells #[.int .i64 x] 3)).grownBy w' v.ownBlock:=by
 obtain ⟨i0,hi0,hz0,hz1,hz2⟩:=info_parts intZero
 obtain ⟨v',w',hr,ho,hg,_,_⟩:=run_append_own_at (P:=Tryz.prog) (w:=W.alloc (.cells #[.int .i64 x] 3)) base 52 52 3 i0 (.int .i64 0) 1 8 Tryz.underlying52 hi0 hz0 hz1 hz2 rfl Z3i v k _ (hown.alloc _) ⟨W.heap.size,0,none⟩ 1 1 [.int .i64 x] rfl
  (by intro j u hj
      match j,hj with
      | 0,hj=>simp at hj;subst hj;simp [Addr.add])
  Z45 Z40 Z3f Z3p
 obtain ⟨g,c,rfl⟩:=ownsRow_succ ho
 exact ⟨g,c,w',hr,by rw [List.map_append];exact ho,hg⟩
theorem Below.row {N:Nat} {w0 W w:World} {base k:Nat} {v:Value} {xs:List Value} (h:Below N w0 W) (ho:W.ownsRow base 3 1 v k xs) (hg:W.grownBy w v.ownBlock) (hN:N≤base) (hW:N≤W.heap.size):Below N w0 w:=by
 refine h.grown hg hW (fun j e => ?_)
 rcases ho.2 with ⟨rfl,_⟩ | ⟨g,cap,cur,rfl,hb,_⟩
 · simp [Value.ownBlock] at e
 · have e':j=g:=by simpa [Value.ownBlock,eq_comm] using e
   omega
theorem KeepsOthers.row {W w:World} {base k:Nat} {v:Value} {xs:List Value} (ho:W.ownsRow base 3 1 v k xs) (hg:W.grownBy w v.ownBlock):KeepsOthers W w :=
 KeepsOthers.of_grownBy hg fun j o ej hj=>by
  rcases ho.2 with ⟨rfl,_⟩ | ⟨g,cap,cur,rfl,_,hgb,_⟩
  · simp [Value.ownBlock] at ej
  · obtain rfl:g=j:=by simpa [Value.ownBlock] using ej
    rw [hgb] at hj;cases hj;rfl
theorem ints_of_row_own {w:World} {base:Nat} {v:Value} {n:Nat} {l:List Int} (h:w.ownsRow base 3 1 v n (l.map (Value.int .i64))) (hm:n≤maxLen):∃ A c,v = .slice A n c∧Ints w A l∧l.length=n:=by
 have hl:l.length=n:=by simpa using h.1
 obtain ⟨A,c,rfl,hI⟩:=ints_of_own h hm
 exact ⟨A,c,by rw [hl],hI,hl⟩
theorem Ints.turn {W:World} {A:Option Addr} {l:List Int} {r:Nat} {o':Obj} (h:Ints W A l) (hW:W.heap[r]? = some o') (hc:o'.isCells=false) (o:Obj):Ints (W.putObj r o) A l:=by
 refine ⟨h.1,fun h0 => ?_⟩
 obtain ⟨b,off,rfl,hcell⟩:=h.2 h0
 exact ⟨b,off,rfl,fun k hk=>cell_kept (hcell k hk) (grownBy_putObj' W r o) (fun r' e=>by cases e;exact ⟨o',hW,hc⟩)⟩
theorem Ints.off {W:World} {b off g k:Nat} {l:List Int} (h:Ints W (some ⟨b,off,none⟩) l) (hne:b≠g) (v:Value):Ints (W.setCell ⟨g,k,none⟩ v) (some ⟨b,off,none⟩) l:=by
 refine ⟨h.1,fun h0 => ?_⟩
 obtain ⟨b',off',e,hcell⟩:=h.2 h0
 injection e with e
 injection e with e1 e2
 subst e1;subst e2
 exact ⟨b,off,rfl,fun k' hk=>(World.cell?_of_block (Below.heap_setCell W ⟨g,k,none⟩ v b hne)).trans (hcell k' hk)⟩
theorem frun_append_op {P:Program} {w w':World} {o:Oper} {a:Act} (s x:Operand) (t:TypeId) (ho:o.op = .call { callee:= .builtin .append,args:=#[s,x],argTypes:=#[t,t] }) {v u v':Value} (hs:a.eval s=v) (hx:a.eval x=u)
  (hrun:(Builtin.append_ #[t,t] o.type #[v,u]).run P w = .ok v' w'):(execOp a.eval o).run P w = .ok (.value v') w':=by
 exact Z1r
theorem xclamp5 (b lo hi g s n:Int) (w:World):Calls Tryz.prog 183 #[.agg #[.int .i64 b,.int .i64 lo,.int .i64 hi,.int .i64 g,.int .i64 s],.int .i64 n] w fun e w'=>e = .returned (.int .i64 (Fe.clamp ⟨b,lo,hi,g,s⟩ n))∧Below w.heap.size w w':=xclamp_any ⟨b,lo,hi,g,s⟩ n w
set_option maxRecDepth 100000 in
set_option maxHeartbeats 4000000 in
theorem mshare_any (N R I n:Nat) (room:Int) (gr:Bool) (S:Nat→Fe.St) (w:World) (h:RowW w R I n room gr S) (hn:n≤64) (hN:N≤I∧N≤w.heap.size) (hs:Sound S n) (hr:0≤room∧room≤67108864) :
  Calls Tryz.prog 215 #[.pointer (some ⟨R,0,none⟩)] w fun e w'=>(∃ v,e = .returned v)∧RowW w' R I n room gr (Fe.shared gr room n S)∧Below N w w':=by
 have hmf:∀ (fn:Fn) (first cap:Array Value) (w:World),(Instr.makeFunc fn first cap).run Tryz.prog w = .ok (.func fn first cap) w:=fun _ _ _ _=>rfl
 have hR:=h.1.lt
 have hI:=h.2.lt
 have HR:=Lib.hid h
 have HS:=Lib.hid hs
 clear h hs
 refine (callsIn_wide (n:=5)).1 ?_
 refine callsIn_of_wp_marks Tryz.func215 rfl trivial ?_ rfl
 simp only [Tryz.ntmps215,List.size_toArray,List.length_cons,List.length_nil,Nat.reduceAdd,Nat.reduceSub,Array.replicate_succ,Array.replicate_zero,List.push_toArray,List.append_toArray,List.nil_append,List.cons_append]
 gi_wp2
 obtain ⟨W0,hA1,hA2,hrow,hB,hRW,hsz,hW⟩:∃ W0,At W0 w.heap.size (.cells #[.pointer (some ⟨R,0,none⟩)] 270)∧At W0 (w.heap.size + 1 + 1) (.cells #[.slice (some ⟨w.heap.size + 1,0,none⟩) 0 0] 52) ∧
   W0.ownsRow w.heap.size 3 1 (.slice (some ⟨w.heap.size + 1,0,none⟩) 0 0) 0 []∧Below N w W0∧RowW W0 R I n room gr S∧W0.heap.size=w.heap.size + 3 ∧
   (((w.alloc (.cells #[.pointer (some ⟨R,0,none⟩)] 270)).alloc (.cells #[] 3)).alloc (.cells #[.slice (some ⟨w.heap.size + 1,0,none⟩) 0 0] 52))=W0:=by
  refine ⟨_,((At.new w _).alloc _).alloc _,At.new' _ Z3t,?_,(((Below.refl _ _).alloc hN.2 _).alloc Z3p _).alloc Z3p _,((HR.out.alloc _).alloc _).alloc _,by simp,rfl⟩
  have bR:At ((w.alloc (.cells #[.pointer (some ⟨R,0,none⟩)] 270)).alloc (.cells #[] 3)) (w.heap.size + 1) (.cells #[] 3):=At.new' _ Z3t
  exact ⟨by simp,.inr ⟨w.heap.size + 1,0,#[],rfl,by omega,bR.alloc _,Nat.le_refl _,by simp [maxLen],by simp,by simp⟩⟩
 rw [hW]
 clear hW
 refine range_places (n:=5) (gf:=220) (first:=#[.pointer (some ⟨R,0,none⟩)]) (lb:=#[]) rfl (enters_of Tryz.func220 Z3q rfl) n (fun i=>(S i).f) (fun i=>#[.int .i64 (Fe.pl S i:Nat),.pointer (some ⟨I,i * 8,none⟩)]) (fun _=>rfl)
  (fun i W=>RowW W R I n room gr S∧At W w.heap.size (.cells #[.pointer (some ⟨R,0,none⟩)] 270)∧(∃ v,At W (w.heap.size + 1 + 1) (.cells #[v] 52)∧W.ownsRow w.heap.size 3 1 v (Fe.pl S i) ((Fe.ws gr S i).map (Value.int .i64)))∧Below N w W)
  (fun W=>False)
  (fun i W r o o' h hr hW hc=>⟨h.1.turn Z3f Z3f o,h.2.1.turn Z3f o,by obtain ⟨v,h1,h2⟩:=h.2.2.1;exact ⟨v,h1.turn Z3f o,ownsRow_putObj h2 o hW hc⟩,Below.turn h.2.2.2 Z3f hW o⟩)
  (fun W r o o' h hr hW _=>h)
  (fun o1 o2=>⟨(hRW.alloc o1).alloc o2,(hA1.alloc o1).alloc o2,⟨_,(hA2.alloc o1).alloc o2,(hrow.alloc o1).alloc o2⟩,(hB.alloc Z3f o1).alloc Z3p o2⟩)
  (fun lp J Jx W hV hs hY hJ=>loose_in 4 R I n room (Fe.sg gr) S hn lp J Jx W (fun i W h=>(hV i W h).1.sees i) hs hY hJ)
  (fun i W hi hf h=>⟨h.1,h.2.1,by simp only [Fe.pl,Fe.ws,hf,if_true];exact h.2.2.1,h.2.2.2⟩)
  (fun i t=>((t.setIfInBounds 12 (.int .i64 (Fe.pl S i:Nat))).setIfInBounds 13 (.pointer (some ⟨I,i * 8,none⟩))).setIfInBounds 4 (.pointer (some ⟨I,i * 8,none⟩))) ?assign ?body ?done ?stop
 case assign =>
  exact Z1l
 case body =>
  rintro l i W hi hf ⟨hR1,hB1,⟨v,hV,hown⟩,hBl⟩
  have hb1:=hB1.lt
  have hb2:=hV.lt
  have hpl:=Fe.pl_le S i
  obtain ⟨hs1,_⟩:=HS.out i hi
  have hP:Fe.pl S (i + 1)=Fe.pl S i + 1:=by simp [Fe.pl,hf]
  have hWs:Fe.ws gr S (i + 1)=Fe.ws gr S i ++ [Fe.wt gr (S i).x]:=by simp [Fe.ws,hf]
  have HP:=Lib.hid hP
  have HWs:=Lib.hid hWs
  clear hP hWs
  (simp only [List.setIfInBounds_toArray,List.set_cons_zero,List.set_cons_succ])
  gi_upto_region 4 with (fail)
  refine Drawn.round_gen (S:=(fun W'=>W'.cell? ⟨w.heap.size + 1 + 1,0,none⟩=some v∧W'.cell? ⟨w.heap.size,0,none⟩=some (.pointer (some ⟨R,0,none⟩)))) 6 Z3q Z3q (by rintro ⟨_,_,hh⟩;exact hh) ?_ ?_
  · exact ⟨hV.cell 0,hB1.cell 0⟩
  intro hS0
  refine tkC 0 ?_
  refine tkC 1 ?_
  refine tkC 2 ?_
  refine tk1 3 ?_
  refine Drawn.Step.call tkL (weight_any R I n i room gr S _ hR1.drew hi hs1) ?_
  rintro e w3 ⟨rfl,hb⟩
  replace hb:Below W.heap.size W w3:=Below.after2 (Below.refl _ _).drew (Nat.le_refl _) hb
  have hV3:=hV.keep hb
  have hB3:=hB1.keep hb
  have hown3:=ownsRow_below hown hb
  have hR3:=hR1.keep hb
  have hBl3:=Below.trans hBl (hb.mono Z3f)
  have hz3:=hb.size
  refine ⟨_,rfl,fun _=>⟨hV3.cell 0,hB3.cell 0⟩,?_⟩
  (try simp only [tkp,tka,tkz,tks])
  obtain ⟨g,c,w4,hrun,hown4,hg4⟩:=append_kept (Fe.wt gr (S i).x) hown3 Z3f Z3f
  refine tk1 4 ?_
  refine tkV ?_ (hS:=by first | (intro hlt;exact absurd hlt Z3i) | (intro _;exact ⟨(hV3.alloc _).cell 0,(hB3.alloc _).cell 0⟩))
  have hV4:=(hV3.alloc (.cells #[.int .i64 (Fe.wt gr (S i).x)] 3)).row Z3i (hown3.alloc _) hg4
  have hB4:=(hB3.alloc (.cells #[.int .i64 (Fe.wt gr (S i).x)] 3)).row Z3i (hown3.alloc _) hg4
  have hz4:=hV4.thaw 0
  have hc4:w4.cell? ⟨w.heap.size + 1 + 1,0,none⟩=some v:=hV4.cell 0
  have hl4:=hV4.lt
  refine tk1 5 ?_
  refine Drawn.Step.value (frun_append_op (.tmp 14) (.tmp 18) 52 rfl rfl rfl hrun) ⟨fun _=>⟨hV4.cell 0,hB4.cell 0⟩,?_⟩
  (try simp only [tkp,tka,tkz,tks])
  refine tk1 6 ?_
  refine Drawn.Step.skip Z4a ?_;refine ⟨by first | (intro hlt;exact absurd hlt Z3i) | (intro _;omega),?_⟩;(try simp only [Act.put])
  refine tkE ?_
  gi_wp2
  refine ⟨(KeepsFrom.of_below hb).trans ((((KeepsOthers.alloc _ _).trans (KeepsOthers.row (hown3.alloc _) hg4)).trans (KeepsOthers.setCell _ _ _)).from _),?_,?_,⟨_,hV4.set 0 _,?_⟩,?_⟩
  · exact RowW.off ⟨At.row (hR3.1.alloc _) Z3i (hown3.alloc _) hg4,(hR3.2.alloc _).row (hown3.alloc _) hg4⟩ Z3f Z3f _
  · exact hB4.off Z3f _ _
  · rw [HP.out,HWs.out]
    exact hown4.kept (grownBy_setCell' w4 _ _) (.inr (Boxed.not_row (show Boxed w4 _ _ _ from hV4) Z3i hown4).symm)
  · exact Below.setCell (Below.row (hBl3.alloc Z3f _) (hown3.alloc _) hg4 hN.2 Z3p) Z3p _
 case stop=>exact fun D W hD h _=>h.elim
 case done =>
  rintro D W hD ⟨hR1,hB1,⟨v,hV,hown⟩,hBl⟩ hK
  have hlD:=(Array.getElem?_eq_some_iff.1 hK).1
  have hpl:=Fe.pl_le S n
  obtain ⟨A,c,rfl,hIw,hL⟩:=ints_of_row_own hown Z3y
  have hb1:=hB1.lt
  have hb2:=hV.lt
  clear hown hA1 hA2 hrow hB hRW HR
  gi_upto_region 5 with (fail)
  refine wpIn_wide.2 (Drawn.wp_behind (fun a0 a W5=>∃ b B5,a={ a0 with tmps:=((((a0.tmps.setIfInBounds 20 (.pointer (some ⟨R,0,none⟩))).setIfInBounds 21 (.int .i64 (Fe.free gr room S n))).setIfInBounds 22 (.slice A (Fe.pl S n) c)).setIfInBounds 23 (.slice (some ⟨b,0,none⟩) (Fe.pl S n) (Fe.pl S n))).setIfInBounds 5 (.pointer (some ⟨B5,0,none⟩)) } ∧
   W.heap.size≤b∧W.heap.size≤B5∧At W5 B5 (.cells #[.slice (some ⟨b,0,none⟩) (Fe.pl S n) (Fe.pl S n)] 52)∧Ints W5 (some ⟨b,0,none⟩) (Fe.parts gr room S n)∧Below W.heap.size W W5) ?_ ?_)
  · refine tkX (S:=(fun W'=>W'.cell? ⟨w.heap.size + 1 + 1,0,none⟩=some (.slice A (Fe.pl S n) c)∧W'.cell? ⟨w.heap.size,0,none⟩=some (.pointer (some ⟨R,0,none⟩)))) 5 ?_ ?_
    · exact ⟨hV.cell 0,hB1.cell 0⟩
    intro hS0
    have hx:Below W.heap.size W W.drew:=(Below.refl _ _).drew
    refine tkC 0 ?_
    refine tkC 2 ?_
    refine tk2 1 4 ?_ ?_
    · refine Drawn.Step.call tkL (free_any R I n room gr S _ (hR1.keep hx) HS.out hn hr) ?_
      rintro e w3 ⟨rfl,hb⟩
      replace hx:=Below.after2 hx (Nat.le_refl _) hb
      clear hb
      refine ⟨_,rfl,fun _=>⟨(hV.keep hx).cell 0,(hB1.keep hx).cell 0⟩,?_⟩
      (try simp only [tkp,tka,tkz,tks])
      refine tk2 3 4 ?_ ?_
      · refine Drawn.Step.call tkL (fshare_any A (Fe.ws gr S n) _ c (Fe.free gr room S n) _ (hIw.after hx) hL Z3f) ?_
        rintro e w4 ⟨⟨b,rfl,hbb,hIb⟩,hb⟩
        have hx3:=hx.size
        replace hx:=Below.after2 hx (Nat.le_refl _) hb
        clear hb
        refine ⟨_,rfl,fun _=>⟨(hV.keep hx).cell 0,(hB1.keep hx).cell 0⟩,?_⟩
        (try simp only [tkp,tka,tkz,tks])
        refine tk1 4 ?_
        refine tkV ?_ (hS:=by first | (intro hlt;exact absurd hlt Z3i) | (intro _;exact ⟨((hV.keep hx).alloc _).cell 0,((hB1.keep hx).alloc _).cell 0⟩))
        have hx4:=hx.size
        refine tk1 5 ?_
        refine Drawn.Step.skip Z4a ?_;refine ⟨by first | (intro hlt;exact absurd hlt Z3i) | (intro _;omega),?_⟩;(try simp only [Act.put])
        refine tkE ?_
        exact ⟨rfl,b,w4.heap.size,rfl,by omega,by omega,At.new _ _,hIb.after (Below.alloc' (Below.refl _ _) _),Below.alloc' hx _⟩
      · refine Drawn.Step.value (u:= .pointer (some ⟨w3.heap.size,0,none⟩)) (w':=w3.alloc (.cells #[.slice none 0 0] 52)) tkL ?_
        obtain ⟨w9,hw9,hA9,hb9,hz0,hs9⟩:∃ w9,w9=w3.alloc (.cells #[.slice none 0 0] 52)∧At w9 w3.heap.size (.cells #[.slice none 0 0] 52)∧Below w3.heap.size w3 w9∧w9.heap.size=w3.heap.size + 1∧W.heap.size≤w3.heap.size:=⟨_,rfl,At.new _ _,Below.alloc' (Below.refl _ _) _,by simp,hx.size⟩
        rw [← hw9]
        clear hw9
        generalize w3.heap.size=B5 at *
        replace hx:=Below.trans hx (hb9.mono Z3f)
        clear hb9
        refine ⟨fun _=>⟨(hV.keep hx).cell 0,(hB1.keep hx).cell 0⟩,?_⟩
        exact Z15
    · refine Drawn.Step.value (u:= .pointer (some ⟨W.drew.heap.size,0,none⟩)) (w':=W.drew.alloc (.cells #[.slice none 0 0] 52)) tkL ?_
      obtain ⟨w9,hw9,hA9,hb9,hz0,hs9⟩:∃ w9,w9=W.drew.alloc (.cells #[.slice none 0 0] 52)∧At w9 W.drew.heap.size (.cells #[.slice none 0 0] 52)∧Below W.drew.heap.size W.drew w9∧w9.heap.size=W.drew.heap.size + 1∧W.heap.size≤W.drew.heap.size:=⟨_,rfl,At.new _ _,Below.alloc' (Below.refl _ _) _,by simp,hx.size⟩
      rw [← hw9]
      clear hw9
      generalize W.drew.heap.size=B5 at *
      replace hx:=Below.trans hx (hb9.mono Z3f)
      clear hb9
      refine ⟨fun _=>⟨(hV.keep hx).cell 0,(hB1.keep hx).cell 0⟩,?_⟩
      (try simp only [tkp,tka,tkz,tks])
      refine tk1 1 ?_
      refine Drawn.Step.call tkL (free_any R I n room gr S _ (hR1.keep hx) HS.out hn hr) ?_
      rintro e w3 ⟨rfl,hb⟩
      replace hx:=Below.after2 hx (Nat.le_refl _) hb
      replace hA9:=hA9.keep hb
      have hl9:=hA9.lt
      clear hb
      refine ⟨_,rfl,fun _=>⟨(hV.keep hx).cell 0,(hB1.keep hx).cell 0⟩,?_⟩
      exact Z15
  · rintro a W5 ⟨b,B5,rfl,hbb,hB5,hA5,hI5,hx⟩
    simp only [List.setIfInBounds_toArray,List.set_cons_zero,List.set_cons_succ]
    have hcB:W5.cell? ⟨w.heap.size,0,none⟩=some (.pointer (some ⟨R,0,none⟩)):=(hB1.keep hx).cell 0
    have hlB:=(hB1.keep hx).lt
    gi_wp2
    have hx5:=hx.size
    have hlW:=hBl.size
    refine range_places (n:=5) (gf:=220) (first:=#[.pointer (some ⟨R,0,none⟩)]) (lb:=#[]) rfl (enters_of Tryz.func220 Z3q rfl) n (fun i=>(S i).f) (fun i=>#[.int .i64 (Fe.pl S i:Nat),.pointer (some ⟨I,i * 8,none⟩)]) (fun _=>rfl)
     (fun i W=>RowW W R I n room gr (fmix S (Fe.sharedBy gr (Fe.parts gr room S n) S) i)∧At W w.heap.size (.cells #[.pointer (some ⟨R,0,none⟩)] 270)∧At W B5 (.cells #[.slice (some ⟨b,0,none⟩) (Fe.pl S n) (Fe.pl S n)] 52)∧Ints W (some ⟨b,0,none⟩) (Fe.parts gr room S n)∧Below N w W∧W.heap[D]? = some (.deferred (some [])))
     (fun W=>False)
     (fun i W r o o' h hr hW hc=>⟨h.1.turn Z3f Z3f o,h.2.1.turn Z3f o,h.2.2.1.turn (by have:=hA5.lt;omega) o,h.2.2.2.1.turn hW hc o,Below.turn h.2.2.2.2.1 Z3f hW o,(World.putObj_heap_other Z3f).trans h.2.2.2.2.2⟩)
     (fun W r o o' h hr hW _=>h)
     (fun o1 o2=>⟨by rw [fmix_zero];exact ((hR1.keep hx).alloc o1).alloc o2,((hB1.keep hx).alloc o1).alloc o2,(hA5.alloc o1).alloc o2,(hI5.after (Below.alloc' (Below.refl _ _) o1)).after (Below.alloc' (Below.refl _ _) o2),((Below.trans hBl (hx.mono Z3f)).alloc Z3f o1).alloc Z3p o2,(At.alloc (At.keep (show At W D _ from hK) hx) o1).alloc o2⟩)
     (fun lp J Jx W hV hs hY hJ=>loose_in 4 R I n room (Fe.sg gr) S hn lp J Jx W (fun i W h=>(hV i W h).1.mixed) hs hY hJ)
     (fun i W hi hf h=>⟨by rw [fmix_same (by simp [Fe.sharedBy,hf])];exact h.1,h.2⟩)
     (fun i t=>(((t.setIfInBounds 26 (.int .i64 (Fe.pl S i:Nat))).setIfInBounds 27 (.pointer (some ⟨I,i * 8,none⟩))).setIfInBounds 6 (.int .i64 (Fe.pl S i:Nat))).setIfInBounds 7 (.pointer (some ⟨I,i * 8,none⟩))) ?assign ?body ?done ?stop
    case assign =>
     exact Z1l
    case stop=>exact fun D W hD h _=>h.elim
    case done =>
     rintro D2 W2 hD2 ⟨hR2,hB2,hA2,hI2,hBl2,hK1⟩ hK2
     gi_wp2
     have hl2:=(Array.getElem?_eq_some_iff.1 hK2).1
     refine ⟨by simp,.inl ⟨_,_,rfl,run_takeDeferred hK2,?_⟩⟩
     have hK3:(W2.putObj D2 (.deferred none)).heap[D]? = some (.deferred (some [])):=(World.putObj_heap_other Z3f).trans hK1
     refine ⟨by simp,.inl ⟨_,_,rfl,run_takeDeferred hK3,?_⟩⟩
     exact ⟨_,results_none rfl _ _ _,⟨_,rfl⟩,⟨((hR2.turn Z3f Z3f _).turn Z3f Z3f _).1,(((hR2.turn Z3f Z3f _).turn Z3f Z3f _).2.same (fmix_all _ _ _))⟩,Below.turn (Below.turn hBl2 Z3f hK2 _) Z3f hK3 _⟩
    case body =>
     rintro l i W6 hi hf ⟨hR2,hB2,hA2,hI2,hBl2,hD2⟩
     have hne:=hR2.ne
     have hp:=Fe.pl_lt S hi hf
     obtain ⟨⟨⟨hb1,hb2⟩,_⟩,_⟩:=HS.out i hi
     have hpn:(Fe.parts gr room S n).length=Fe.pl S n:=by unfold Fe.parts;rw [Fe.share_length,Fe.ws_length]
     have hpv:0≤(Fe.parts gr room S n).getD (Fe.pl S i) 0∧(Fe.parts gr room S n).getD (Fe.pl S i) 0≤67108864:=by
      unfold Fe.parts
      rw [Fe.share_get _ _ (by rw [Fe.ws_length];exact hp)]
      exact Fe.part_bd _ _ (by rw [Fe.ws_length];exact hp)
     obtain ⟨b',o',eA,hbl,hpc⟩:=hI2.at_ (k:=Fe.pl S i) (by rw [hpn];exact hp)
     injection eA with eA
     injection eA with e1 e2
     subst e1;subst e2
     rw [Nat.zero_add] at hpc
     obtain ⟨l2,d0,d1,d2,d3,d4,d5,d6,d7⟩:=hR2.2.fields hi
     obtain ⟨l3,r0,r1,r2⟩:=hR2.cells
     have hcB:W6.cell? ⟨w.heap.size,0,none⟩=some (.pointer (some ⟨R,0,none⟩)):=hB2.cell 0
     have hlB:=hB2.lt
     have hcA:W6.cell? ⟨B5,0,none⟩=some (.slice (some ⟨b,0,none⟩) (Fe.pl S n) (Fe.pl S n)):=hA2.cell 0
     have hlA:=hA2.lt
     rw [fmix_ge (Nat.le_refl _)] at d0 d1 d2 d3 d4 d5 d6 d7
     have HT:Hid (Fe.sharedBy gr (Fe.parts gr room S n) S i=⟨(S i).x,Fe.clamp (S i).x (Fe.want gr (Fe.parts gr room S n) S i),Fe.clamp (S i).x (Fe.want gr (Fe.parts gr room S n) S i) - Fe.want gr (Fe.parts gr room S n) S i,false⟩):=Lib.hid (by simp [Fe.sharedBy,hf])
     have HWt:Hid (IntKind.i64.wrap ((S i).x.b + IntKind.i64.wrap (Fe.sg gr * (Fe.parts gr room S n).getD (Fe.pl S i) 0))=Fe.want gr (Fe.parts gr room S n) S i ∧ -67108864≤Fe.want gr (Fe.parts gr room S n) S i∧Fe.want gr (Fe.parts gr room S n) S i≤68157440):=Lib.hid (by
      unfold Fe.want
      have hq : -67108864≤Fe.sg gr * (Fe.parts gr room S n).getD (Fe.pl S i) 0∧Fe.sg gr * (Fe.parts gr room S n).getD (Fe.pl S i) 0≤67108864:=by cases gr <;> simp only [Fe.sg,Bool.false_eq_true,if_false,if_true] <;> omega
      rw [IntWalk.i64_in (Fe.sg gr * _) Z3f,IntWalk.i64_in _ Z3f]
      exact ⟨rfl,by omega,by omega⟩)
     have FIN:∀ (W8:World) (cl wt:Int),cl=Fe.clamp (S i).x (Fe.want gr (Fe.parts gr room S n) S i)→wt=Fe.want gr (Fe.parts gr room S n) S i→Below W6.heap.size W6 W8 →
       roundEnd W5.heap.size (fun W=>RowW W R I n room gr (fmix S (Fe.sharedBy gr (Fe.parts gr room S n) S) (i + 1))∧At W w.heap.size (.cells #[.pointer (some ⟨R,0,none⟩)] 270)∧At W B5 (.cells #[.slice (some ⟨b,0,none⟩) (Fe.pl S n) (Fe.pl S n)] 52)∧Ints W (some ⟨b,0,none⟩) (Fe.parts gr room S n)∧Below N w W∧W.heap[D]? = some (.deferred (some []))) (fun _=>False) W6 .normal { tmps:=#[],defers:=[] }
        ((W8.setCell ⟨I,i * 8 + 5,none⟩ (.int .i64 cl)).setCell ⟨I,i * 8 + 6,none⟩ (.int .i64 (cl - wt))):=by
      intro W8 cl wt hcl hwt hb8
      have hR8:=hR2.keep hb8
      have b1:Blk (W8.setCell ⟨I,i * 8 + 5,none⟩ (.int .i64 cl)) I n (fun k=>if k=i then ⟨(S i).x,cl,(S i).m,false⟩ else fmix S (Fe.sharedBy gr (Fe.parts gr room S n) S) i k):=by
       refine hR8.2.put hi Z3f (by simp [fld]) ?_ (fun k hk hkn=>by simp [hkn])
       intro q hq hqn
       simp only [if_true]
       rw [fmix_ge (Nat.le_refl _)]
       unfold fld
       rw [hf]
       (repeat' split) <;> first | rfl | omega
      have b2:Blk ((W8.setCell ⟨I,i * 8 + 5,none⟩ (.int .i64 cl)).setCell ⟨I,i * 8 + 6,none⟩ (.int .i64 (cl - wt))) I n (fmix S (Fe.sharedBy gr (Fe.parts gr room S n) S) (i + 1)):=by
       refine b1.put hi Z3f ?_ ?_ ?_
       · rw [fmix_at,HT.out,hcl,hwt];simp [fld]
       · intro q hq hqn
         rw [fmix_at,HT.out, ← hcl, ← hwt]
         simp only [if_true]
         unfold fld
         (repeat' split) <;> first | rfl | omega
       · intro k hk hkn
         rw [fmix_off _ _ hkn]
         simp [hkn]
      have hz8:=hb8.size
      refine ⟨((KeepsFrom.of_below hb8).trans (((KeepsOthers.setCell _ _ _).trans (KeepsOthers.setCell _ _ _)).from _)),⟨(hR8.1.off Z3f _ _).off Z3f _ _,b2⟩,((hB2.keep hb8).off Z3f _ _).off Z3f _ _,((hA2.keep hb8).off Z3f _ _).off Z3f _ _,((hI2.after hb8).off Z3f _).off Z3f _,Below.setCell (Below.setCell (Below.trans hBl2 (hb8.mono (by have:=hBl2.size;omega))) hN.1 _) hN.1 _,?_⟩
      exact (KeepsOthers.setCell _ _ _).same _ _ ((KeepsOthers.setCell _ _ _).same _ _ ((hb8.block D (Array.getElem?_eq_some_iff.1 hD2).1).trans hD2) rfl) rfl
     replace FIN:=Lib.hid FIN
     clear d5 d6 d7 hI2 hA2 HT hpv hpn hb1 hb2
     have HR2:=Lib.hid hR2
     clear hR2
     generalize hx9:(S i).x=x at *
     have HX:=Lib.hid hx9
     clear hx9
     obtain ⟨x0,x1,x2,x3,x4⟩:=x
     dsimp only at d0 d1 d2 d3 d4 HWt
     generalize hwt:Fe.want gr (Fe.parts gr room S n) S i=wt at *
     replace hwt:=Lib.hid hwt
     generalize (Fe.parts gr room S n).getD (Fe.pl S i) 0=pv at *
     generalize Fe.sg gr=way at *
     have hpl2:(Fe.pl S i:Int)<(Fe.pl S n:Int):=by omega
     simp only [List.setIfInBounds_toArray,List.set_cons_zero,List.set_cons_succ]
     gi_upto_region 9 with (fail)
     refine Drawn.round_fast (Below.refl _ _) Z3q Z3q Z3q Z3q (by rintro ⟨_,_,hh⟩;exact hh) ?_
     (repeat (first | refine sqk ?_ | refine sqc ?_ (hc:=by intro w2 hS;first | with_reducible exact qaE hS (cut_any _ _)) | refine sqv ?_))
     refine Drawn.seq_end ?_;intro w2 hS
     rw [HWt.out.1]
     obtain ⟨l4,e0,e1,e2,e3,e4,e5,e6,e7⟩:=(HR2.out.keep hS).2.fields hi
     rw [fmix_ge (Nat.le_refl _)] at e0 e1 e2 e3 e4
     rw [HX.out] at e0 e1 e2 e3 e4
     dsimp only at e0 e1 e2 e3 e4
     obtain ⟨t1,t2⟩:=HWt.out.2
     have k1:=(Fe.clamp_bd ⟨x0,x1,x2,x3,x4⟩ wt).1
     have k2:=(Fe.clamp_bd ⟨x0,x1,x2,x3,x4⟩ wt).2
     obtain ⟨cl,hcl⟩:∃ cl,cl=Fe.clamp ⟨x0,x1,x2,x3,x4⟩ wt:=⟨_,rfl⟩
     rw [← hcl] at k1 k2
     have hw9:IntKind.i64.wrap (cl - wt)=cl - wt:=IntWalk.i64_in _ Z3f
     have HCL:=Lib.hid hcl
     clear hcl e5 e6 e7 d0 d1 d2 d3 d4 r0 r1 r2 hcB hcA hpc
     gi_upto_region 11 with (refine ⟨trivial,?_⟩;gi_at_call 183;refine (CallsIn.inRound l (callsIn_wide.2 (xclamp5 x0 x1 x2 x3 x4 wt _))).mono ?_;rintro e w7 ⟨rfl,hb7⟩;rw [← HCL.out];have hx7:=Below.after2 hS (Nat.le_refl _) hb7;clear hb7 hS e0 e1 e2 e3 e4 l4;obtain ⟨l5, -, -, -, -, -, e5,e6, -⟩:=(HR2.out.keep hx7).2.fields hi;have z5:=(HR2.out.keep hx7).2.thaw (i * 8 + 5);have z6:=(HR2.out.keep hx7).2.thaw (i * 8 + 6))
     gi_wp2
     exact FIN.out w7 cl wt HCL.out rfl hx7
end Go.Proofs.YteggipnplbkijaaGreat.Fix
namespace Go.Proofs.YteggipnplbkijaaGreat.Fix
open Go.ChangeShapes Go.WideShapes Go.ChangeAt Go.RowKit Go.Shelf
attribute [local go_sem] Oper.semAt_some
def Items (w:World) (A:Option Addr) (l:Nat→Fe.It) (n:Nat):Prop :=
 0<n→∃ b off,A=some ⟨b,off,none⟩∧b<w.heap.size∧∀ k,k<n→w.cell? ⟨b,off + k * 5,none⟩=some (.int .i64 (l k).b)∧w.cell? ⟨b,off + k * 5 + 1,none⟩=some (.int .i64 (l k).lo)∧w.cell? ⟨b,off + k * 5 + 2,none⟩=some (.int .i64 (l k).hi)∧w.cell? ⟨b,off + k * 5 + 3,none⟩=some (.int .i64 (l k).g)∧w.cell? ⟨b,off + k * 5 + 4,none⟩=some (.int .i64 (l k).s)
theorem Items.after {W w:World} {A:Option Addr} {l:Nat→Fe.It} {n:Nat} (h:Items W A l n) (hb:Below W.heap.size W w):Items w A l n:=fun h0=>by
 obtain ⟨b,off,rfl,hl,hc⟩:=h h0
 refine ⟨b,off,rfl,Nat.lt_of_lt_of_le hl hb.size,fun k hk => ?_⟩
 obtain ⟨c0,c1,c2,c3,c4⟩:=hc k hk
 exact ⟨(hb.cell (p:=⟨b,off + k * 5,none⟩) hl).trans c0,(hb.cell (p:=⟨b,off + k * 5 + 1,none⟩) hl).trans c1,(hb.cell (p:=⟨b,off + k * 5 + 2,none⟩) hl).trans c2,(hb.cell (p:=⟨b,off + k * 5 + 3,none⟩) hl).trans c3,(hb.cell (p:=⟨b,off + k * 5 + 4,none⟩) hl).trans c4⟩
theorem Blk.step {W:World} {I n k j:Nat} {S:Nat→Fe.St} {s:Fe.St} {v:Value} (t:Fe.St) (h:Blk W I n (fun i=>if i=k then s else S i)) (hk:k<n) (hj:j<8) (hv:fld t j=v) (ho:∀ q,q<8→q≠j→fld t q=fld s q) :
  Blk (W.setCell ⟨I,k * 8 + j,none⟩ v) I n (fun i=>if i=k then t else S i) :=
 h.put hk hj (by simpa using hv) (fun q hq hqn=>by simpa using ho q hq hqn) (fun i _ hi=>by simp [hi])
theorem Blk.put8 {W:World} {I n k:Nat} {S:Nat→Fe.St} (h:Blk W I n S) (hk:k<n) (b lo hi g s z:Int) :
  Blk ((((((((W.setCell ⟨I,k * 8,none⟩ (.int .i64 b)).setCell ⟨I,k * 8 + 1,none⟩ (.int .i64 lo)).setCell ⟨I,k * 8 + 2,none⟩ (.int .i64 hi)).setCell ⟨I,k * 8 + 3,none⟩ (.int .i64 g)).setCell ⟨I,k * 8 + 4,none⟩ (.int .i64 s)).setCell ⟨I,k * 8 + 5,none⟩ (.int .i64 z)).setCell ⟨I,k * 8 + 6,none⟩ (.int .i64 0)).setCell ⟨I,k * 8 + 7,none⟩ (.bool false)) I n
   (fun i=>if i=k then ⟨⟨b,lo,hi,g,s⟩,z,0,false⟩ else S i):=by
 have h0:Blk W I n (fun i=>if i=k then S k else S i):=h.same fun i _=>by by_cases e:i=k <;> simp [e]
 generalize S k=s0 at h0
 obtain ⟨⟨b0,lo0,hi0,g0,s00⟩,z0,m0,f0⟩:=s0
 have h1:=h0.step (j:=0) (v:= .int .i64 b) ⟨⟨b,lo0,hi0,g0,s00⟩,z0,m0,f0⟩ hk Z3f rfl Z3u
 have h2:=h1.step (j:=1) (v:= .int .i64 lo) ⟨⟨b,lo,hi0,g0,s00⟩,z0,m0,f0⟩ hk Z3f rfl Z3u
 have h3:=h2.step (j:=2) (v:= .int .i64 hi) ⟨⟨b,lo,hi,g0,s00⟩,z0,m0,f0⟩ hk Z3f rfl Z3u
 have h4:=h3.step (j:=3) (v:= .int .i64 g) ⟨⟨b,lo,hi,g,s00⟩,z0,m0,f0⟩ hk Z3f rfl Z3u
 have h5:=h4.step (j:=4) (v:= .int .i64 s) ⟨⟨b,lo,hi,g,s⟩,z0,m0,f0⟩ hk Z3f rfl Z3u
 have h6:=h5.step (j:=5) (v:= .int .i64 z) ⟨⟨b,lo,hi,g,s⟩,z,m0,f0⟩ hk Z3f rfl Z3u
 have h7:=h6.step (j:=6) (v:= .int .i64 0) ⟨⟨b,lo,hi,g,s⟩,z,0,f0⟩ hk Z3f rfl Z3u
 exact h7.step (j:=7) (v:= .bool false) ⟨⟨b,lo,hi,g,s⟩,z,0,false⟩ hk Z3f rfl Z3u
theorem At.off8 {W:World} {I k c:Nat} {o:Obj} (h:At W c o) (hne:c≠I) (b lo hi g s z:Int):At ((((((((W.setCell ⟨I,k * 8,none⟩ (.int .i64 b)).setCell ⟨I,k * 8 + 1,none⟩ (.int .i64 lo)).setCell ⟨I,k * 8 + 2,none⟩ (.int .i64 hi)).setCell ⟨I,k * 8 + 3,none⟩ (.int .i64 g)).setCell ⟨I,k * 8 + 4,none⟩ (.int .i64 s)).setCell ⟨I,k * 8 + 5,none⟩ (.int .i64 z)).setCell ⟨I,k * 8 + 6,none⟩ (.int .i64 0)).setCell ⟨I,k * 8 + 7,none⟩ (.bool false)) c o :=
 (((((((h.off hne _ _).off hne _ _).off hne _ _).off hne _ _).off hne _ _).off hne _ _).off hne _ _).off hne _ _
theorem RowW.put8 {W:World} {R I n k:Nat} {room:Int} {gr:Bool} {S T:Nat→Fe.St} (h:RowW W R I n room gr (fmix S T k)) (hk:k<n) (b lo hi g s z:Int) (hT:T k=⟨⟨b,lo,hi,g,s⟩,z,0,false⟩) :
  RowW ((((((((W.setCell ⟨I,k * 8,none⟩ (.int .i64 b)).setCell ⟨I,k * 8 + 1,none⟩ (.int .i64 lo)).setCell ⟨I,k * 8 + 2,none⟩ (.int .i64 hi)).setCell ⟨I,k * 8 + 3,none⟩ (.int .i64 g)).setCell ⟨I,k * 8 + 4,none⟩ (.int .i64 s)).setCell ⟨I,k * 8 + 5,none⟩ (.int .i64 z)).setCell ⟨I,k * 8 + 6,none⟩ (.int .i64 0)).setCell ⟨I,k * 8 + 7,none⟩ (.bool false)) R I n room gr (fmix S T (k + 1)) :=
 ⟨At.off8 h.1 h.ne b lo hi g s z,(h.2.put8 hk b lo hi g s z).same fun i _=>by
  by_cases e:i=k
  · subst e;rw [fmix_at,hT];simp
  · rw [fmix_off _ _ e];simp [e]⟩
theorem Below.put8 {N:Nat} {w W:World} {I k:Nat} (h:Below N w W) (hN:N≤I) (b lo hi g s z:Int):Below N w ((((((((W.setCell ⟨I,k * 8,none⟩ (.int .i64 b)).setCell ⟨I,k * 8 + 1,none⟩ (.int .i64 lo)).setCell ⟨I,k * 8 + 2,none⟩ (.int .i64 hi)).setCell ⟨I,k * 8 + 3,none⟩ (.int .i64 g)).setCell ⟨I,k * 8 + 4,none⟩ (.int .i64 s)).setCell ⟨I,k * 8 + 5,none⟩ (.int .i64 z)).setCell ⟨I,k * 8 + 6,none⟩ (.int .i64 0)).setCell ⟨I,k * 8 + 7,none⟩ (.bool false)) :=
 Below.setCell (Below.setCell (Below.setCell (Below.setCell (Below.setCell (Below.setCell (Below.setCell (Below.setCell h hN _) hN _) hN _) hN _) hN _) hN _) hN _) hN _
theorem At.put5 {W:World} {b:Nat} {x y z u v:Value} {T:TypeId} (h:At W b (.cells #[x,y,z,u,v] T)) (x' y' z' u' v':Value) :
 At (((((W.setCell ⟨b,0,none⟩ x').setCell ⟨b,1,none⟩ y').setCell ⟨b,2,none⟩ z').setCell ⟨b,3,none⟩ u').setCell ⟨b,4,none⟩ v') b (.cells #[x',y',z',u',v'] T):=((((h.set 0 x').set 1 y').set 2 z').set 3 u').set 4 v'
theorem Below.put5 {N:Nat} {w W:World} {b:Nat} (h:Below N w W) (hN:N≤b) (x' y' z' u' v':Value):Below N w (((((W.setCell ⟨b,0,none⟩ x').setCell ⟨b,1,none⟩ y').setCell ⟨b,2,none⟩ z').setCell ⟨b,3,none⟩ u').setCell ⟨b,4,none⟩ v') :=
 Below.setCell (Below.setCell (Below.setCell (Below.setCell (Below.setCell h hN _) hN _) hN _) hN _) hN _
theorem sizedInfo:(Tryz.prog.info? 280).map (fun i=>(i.zero,i.size,i.bytes))=some (some (.agg #[.int .i64 0,.int .i64 0,.int .i64 0,.int .i64 0,.int .i64 0,.int .i64 0,.int .i64 0,.bool false]),8,64):=by kernel_rfl
def zeroSt:Fe.St:=⟨⟨0,0,0,0,0⟩,0,0,false⟩
theorem blk_made (w:World) (n:Nat):Blk (w.alloc (.cells (madeCells #[.int .i64 0,.int .i64 0,.int .i64 0,.int .i64 0,.int .i64 0,.int .i64 0,.int .i64 0,.bool false] (n * 8)) 280)) w.heap.size n (fun _=>zeroSt):=by
 refine ⟨_,At.new _ _,size_madeCells _ _,fun i j hi hj => ?_⟩
 have e:(i * 8 + j) % 8=j:=by omega
 have hlt:i * 8 + j<n * 8:=by omega
 simp only [madeCells,Array.getElem?_map,Array.getElem?_range,hlt,if_true,Option.map_some,List.size_toArray,List.length_cons,List.length_nil,Nat.reduceAdd,Nat.zero_add,e]
 rcases (show j=0∨j=1∨j=2∨j=3∨j=4∨j=5∨j=6∨j=7 by omega) with rfl | rfl | rfl | rfl | rfl | rfl | rfl | rfl <;> rfl
theorem sumz_bd (l:Nat→Fe.It) (k:Nat):0≤Fe.sumz l k∧Fe.sumz l k≤1048576 * k:=by
 induction k with
 | zero=>simp [Fe.sumz]
 | succ k ih =>
   have:=Fe.clamp_bd (l k) (Fe.cnt (l k)).b
   simp only [Fe.sumz]
   constructor <;> omega
theorem wpListIn_make_struct {F:Fence} {m:Nat} {P:Program} (w:World) {ops:Array Oper} {rest:List Oper} {o:Oper} {a:Act} {Q:Exit→Act→World→Prop} (hro:F.round=none) (hw:Region.wanted o (yielded ops a.tmps)=true)
  (l c:Operand) (t:TypeId) (hop:o.op=Op.makeSlice t l c) {v:Value} {w':World} (hrun:(Instr.makeSlice t (a.eval l) (a.eval c)).run P w = .ok v w') (hK:wpListIn F m P ops Q rest (a.put o.dst v) w'):wpListIn F m P ops Q (o :: rest) a w:=by
 unfold wpListIn
 rw [if_pos hw]
 unfold Oper.wpIn
 refine ⟨fun f hf => ?_,?_⟩
 · unfold Oper.about at hf
   simp [hop] at hf
 · rw [hro,Oper.semAt_none]
   unfold execOp
   simp only [hop,Sem.run_bind,hrun,Result.andThen_ok,Sem.run_pure]
   exact hK
end Go.Proofs.YteggipnplbkijaaGreat.Fix
namespace Go.Proofs.YteggipnplbkijaaGreat.Fix
open Go.ChangeShapes Go.WideShapes Go.ChangeAt Go.RowKit Go.Shelf
attribute [local go_sem] Oper.semAt_some
set_option maxRecDepth 100000 in
set_option maxHeartbeats 4000000 in
theorem rowOf_any (A:Option Addr) (l:Nat→Fe.It) (n c:Nat) (room:Int) (w:World) (hI:Items w A l n) (hn:n≤64) (hr:0≤room∧room≤67108864) :
  Calls Tryz.prog 213 #[.slice A n c,.int .i64 room] w fun e w'=>(∃ R I,e = .returned (.pointer (some ⟨R,0,none⟩))∧w.heap.size≤I∧RowW w' R I n room (Fe.gro l n room) (Fe.begun (Fe.gro l n room) l))∧Below w.heap.size w w':=by
 have hmf:∀ (fn:Fn) (first cap:Array Value) (w:World),(Instr.makeFunc fn first cap).run Tryz.prog w = .ok (.func fn first cap) w:=fun _ _ _ _=>rfl
 obtain ⟨i0,hi0,hz0,hz1,hz2⟩:=info_parts sizedInfo
 have HI:=Lib.hid hI
 clear hI
 have hrun:=run_make (P:=Tryz.prog) w 276 280 i0 _ Tryz.underlying276 hi0 hz0 .i64 .i64 n n Z3f (Int.le_refl _) Z42 Z3f
 rw [hz1,Int.toNat_natCast] at hrun
 simp only [Value.cells] at hrun
 have HRUN:=Lib.hid hrun
 clear hrun
 refine (callsIn_wide (n:=5)).1 ?_
 refine callsIn_of_wp_marks Tryz.func213 rfl trivial ?_ rfl
 simp only [Tryz.ntmps213,List.size_toArray,List.length_cons,List.length_nil,Nat.reduceAdd,Nat.reduceSub,Array.replicate_succ,Array.replicate_zero,List.push_toArray,List.append_toArray,List.nil_append,List.cons_append]
 gi_upto_region 2 with (refine wpListIn_make_struct _ rfl Z3n _ _ 276 rfl HRUN.out ?_)
 obtain ⟨W0,hA1,hRW,hB,hsz,hW⟩:∃ W0,At W0 (w.heap.size + 1 + 1) (.cells #[.pointer (some ⟨w.heap.size + 1,0,none⟩)] 270)∧RowW W0 (w.heap.size + 1) w.heap.size n room false (fun _=>zeroSt)∧Below w.heap.size w W0∧W0.heap.size=w.heap.size + 3 ∧
   (((w.alloc (.cells (madeCells #[.int .i64 0,.int .i64 0,.int .i64 0,.int .i64 0,.int .i64 0,.int .i64 0,.int .i64 0,.bool false] (n * 8)) 280)).alloc (.cells #[.slice (some ⟨w.heap.size,0,none⟩) n n,.int .i64 room,.int .i64 (-1)] 278)).alloc (.cells #[.pointer (some ⟨w.heap.size + 1,0,none⟩)] 270))=W0 :=
  ⟨_,At.new' _ Z3t,⟨(At.new' (.cells #[.slice (some ⟨w.heap.size,0,none⟩) n n,.int .i64 room,.int .i64 (-1)] 278) Z3t).alloc _,((blk_made w n).alloc _).alloc _⟩,Below.alloc' (Below.alloc' (Below.alloc' (Below.refl _ _) _) _) _,by simp,rfl⟩
 rw [hW]
 clear hW HRUN hi0 hz0 hz1 hz2 i0
 gi_wp2
 gi_loopw [6,20] (fun s i wr=>∃ k:Nat,k≤n∧i = .int .i64 k∧s = .int .i64 (Fe.sumz l k)∧RowW wr (w.heap.size + 1) w.heap.size n room false (fmix (fun _=>zeroSt) (Fe.fresh l) k)∧At wr (w.heap.size + 1 + 1) (.cells #[.pointer (some ⟨w.heap.size + 1,0,none⟩)] 270)∧Below w.heap.size w wr) (fun _ i _=>n - (intOf i).toNat)
 case atStart=>exact ⟨0,by omega,rfl,rfl,by rw [fmix_zero];exact hRW,hA1,hB⟩
 case round =>
  obtain ⟨k,hk,rfl,rfl,hR,hA,hB⟩:=hrel
  have hwr:=hB.size
  have hR1:=hR.1.lt
  have hA1:=hA.lt
  by_cases hlt:k<n
  · have hltz:(k:Int)<(n:Int):=by omega
    obtain ⟨b,off,rfl,hbl,hc⟩:=(HI.out.after hB) Z3f
    obtain ⟨c0,c1,c2,c3,c4⟩:=hc k hlt
    clear hc
    obtain ⟨s1,s2⟩:=sumz_bd l k
    obtain ⟨k1,k2⟩:=Fe.clamp_bd (l k) (Fe.cnt (l k)).b
    have HZ:Hid (Fe.sumz l (k + 1)=Fe.sumz l k + Fe.clamp (l k) (Fe.cnt (l k)).b):=Lib.hid rfl
    have HF:Hid (Fe.fresh l k=⟨Fe.cnt (l k),Fe.clamp (l k) (Fe.cnt (l k)).b,0,false⟩):=Lib.hid rfl
    have HCC:=Lib.hid (Fe.clamp_cnt (l k) (Fe.cnt (l k)).b)
    generalize hl9:l k=x at *
    have HX:=Lib.hid hl9
    clear hl9
    generalize hcx:Fe.cnt x=y at *
    have HY:=Lib.hid hcx
    clear hcx
    generalize hz:Fe.clamp x y.b=z at *
    clear hz
    obtain ⟨x0,x1,x2,x3,x4⟩:=x
    obtain ⟨y0,y1,y2,y3,y4⟩:=y
    dsimp only at c0 c1 c2 c3 c4 HCC
    generalize Fe.sumz l k=u at *
    gi_upto_region 6 with (fail)
    obtain ⟨W1,hA9,hb,hs1,hW⟩:∃ W1,At W1 wr.heap.size (.cells #[.int .i64 x0,.int .i64 x1,.int .i64 x2,.int .i64 x3,.int .i64 x4] 201)∧Below wr.heap.size wr W1∧wr.heap.size<W1.heap.size ∧
     wr.alloc (.cells #[.int .i64 x0,.int .i64 x1,.int .i64 x2,.int .i64 x3,.int .i64 x4] 201)=W1:=⟨_,At.new _ _,Below.alloc' (Below.refl _ _) _,by simp,rfl⟩
    rw [hW]
    clear hW c0 c1 c2 c3 c4
    generalize hX9:wr.heap.size=X at *
    obtain ⟨l9,a0,a1,a2,a3,a4⟩:=hA9.five
    gi_upto_region 7 with (refine ⟨trivial,?_⟩;gi_at_call 208;refine (callsIn_wide.2 (counted5 x0 x1 x2 x3 x4 _)).mono ?_;rintro e w2 ⟨rfl,hb2⟩;rw [HY.out];simp only [enc];clear l9 a0 a1 a2 a3 a4;replace hb:=Below.trans hb (hb2.mono Z3f);replace hA9:=hA9.keep hb2;clear hb2;obtain ⟨l9,a0,a1,a2,a3,a4⟩:=hA9.five;have z0:=hA9.thaw 0;have z1:=hA9.thaw 1;have z2:=hA9.thaw 2;have z3:=hA9.thaw 3;have z4:=hA9.thaw 4)
    replace hA9:=hA9.put5 (.int .i64 y0) (.int .i64 y1) (.int .i64 y2) (.int .i64 y3) (.int .i64 y4)
    replace hb:=Below.put5 hb (Nat.le_refl X) (.int .i64 y0) (.int .i64 y1) (.int .i64 y2) (.int .i64 y3) (.int .i64 y4)
    clear l9 a0 a1 a2 a3 a4 z0 z1 z2 z3 z4
    generalize World.setCell _ _ _=W2 at *
    obtain ⟨l9,a0,a1,a2,a3,a4⟩:=hA9.five
    gi_upto_region 8 with (refine ⟨trivial,?_⟩;gi_at_call 183;refine (callsIn_wide.2 (xclamp5 y0 y1 y2 y3 y4 y0 _)).mono ?_;rintro e w3 ⟨rfl,hb3⟩;rw [HCC.out];replace hb:=Below.trans hb (hb3.mono Z3f);clear l9 a0 a1 a2 a3 a4;replace hA9:=hA9.keep hb3;clear hb3;obtain ⟨l9,a0,a1,a2,a3,a4⟩:=hA9.five)
    have hRw:=hR.keep (hX9 ▸ hb)
    have hAw:=hA.keep (hX9 ▸ hb)
    have hBw:=Below.trans hB (hb.mono Z3f)
    obtain ⟨g0,r0, -, -⟩:=hRw.cells
    have cB:_=some (Value.pointer (some ⟨w.heap.size + 1,0,none⟩)):=hAw.cell 0
    have gB:=hAw.lt
    have gI:=hRw.2.lt
    refine wpIn_wide.2 ?_
    refine sqtt 9 1 ?_
    (repeat (first | refine sqk ?_ | refine sqc ?_ (hc:=by intro w2 hS;first | with_reducible exact qaE hS (cut_any _ _)) | refine sqv ?_))
    refine Drawn.seq_tail ?_;intro w2 hS
    have hR5:=hRw.keep hS
    have hA5:=hAw.keep hS
    have hB5:=Below.after2 hBw (Nat.le_refl _) hS
    have h95:=hA9.keep hS
    obtain ⟨gI5,e0,e1,e2,e3,e4,e5,e6,e7⟩:=hR5.2.fields hlt
    have t0:=hR5.2.thaw (k * 8)
    have t1:=hR5.2.thaw (k * 8 + 1)
    have t2:=hR5.2.thaw (k * 8 + 2)
    have t3:=hR5.2.thaw (k * 8 + 3)
    have t4:=hR5.2.thaw (k * 8 + 4)
    have t5:=hR5.2.thaw (k * 8 + 5)
    have t6:=hR5.2.thaw (k * 8 + 6)
    have t7:=hR5.2.thaw (k * 8 + 7)
    refine tkT ?_;intro K hK;go_simp;refine hK _ _ (Drawn.text_nil ?_);clear hK K
    have hR6:=hR5.put8 hlt y0 y1 y2 y3 y4 z HF.out
    have hA6:=hA5.off8 (I:=w.heap.size) (k:=k) Z3f y0 y1 y2 y3 y4 z
    have hB6:=Below.put8 (I:=w.heap.size) (k:=k) hB5 (Nat.le_refl _) y0 y1 y2 y3 y4 z
    clear hR hA hB hRw hAw hBw hR5 hA5 hB5 h95 hA9 hb hS r0 cB e0 e1 e2 e3 e4 e5 e6 e7 t0 t1 t2 t3 t4 t5 t6 t7 l9 a0 a1 a2 a3 a4
    first | generalize World.setCell _ _ _=W6 at * | (trace_state;fail)
    gi_wp2
    go_roundw
    case rel=>exact ⟨k + 1,by omega,by go_num,by rw [HZ.out],hR6,hA6,hB6⟩
    case measure=>simp [intOf];omega
  · have hltz:¬ (k:Int)<(n:Int):=by omega
    obtain rfl:k=n:=by omega
    have hR2:RowW wr (w.heap.size + 1) w.heap.size k room false (Fe.fresh l):=⟨hR.1,hR.2.same (fmix_all _ _ _)⟩
    have hne:=hR.ne
    obtain ⟨g0, -, -, c2⟩:=hR2.cells
    have z2:=hR2.1.thaw 2
    clear hR
    refine (Decidable.em (Fe.sumz l k<room)).elim (fun hg => ?_) (fun hg => ?_)
    all_goals
     first
      | have HG:Hid (Fe.gro l k room=true):=Lib.hid (decide_eq_true hg)
      | have HG:Hid (Fe.gro l k room=false):=Lib.hid (decide_eq_false hg)
     have cB:wr.cell? ⟨w.heap.size + 1 + 1,0,none⟩=some (.pointer (some ⟨w.heap.size + 1,0,none⟩)):=hA.cell 0
     gi_wp2
     first
      | (obtain ⟨W7,hR7,hA7,hB7,hW⟩:∃ W7,RowW W7 (w.heap.size + 1) w.heap.size k room (Fe.gro l k room) (Fe.fresh l)∧At W7 (w.heap.size + 1 + 1) (.cells #[.pointer (some ⟨w.heap.size + 1,0,none⟩)] 270)∧Below w.heap.size w W7∧wr.setCell ⟨w.heap.size + 1,2,none⟩ (.int .i64 1)=W7 :=
        ⟨_,by rw [HG.out];exact ⟨hR2.1.set 2 _,hR2.2.off Z3f _⟩,hA.off Z3f _ _,Below.setCell hB Z3t _,rfl⟩
         rw [hW]
         clear hW)
      | (obtain ⟨W7,hR7,hA7,hB7,hW⟩:∃ W7,RowW W7 (w.heap.size + 1) w.heap.size k room (Fe.gro l k room) (Fe.fresh l)∧At W7 (w.heap.size + 1 + 1) (.cells #[.pointer (some ⟨w.heap.size + 1,0,none⟩)] 270)∧Below w.heap.size w W7∧wr=W7 :=
        ⟨_,by rw [HG.out];exact hR2,hA,hB,rfl⟩
         subst hW)
     clear hA1 hR2 z2 c2 hRW HI HG cB hA hB hg hR1 g0 hwr
     have hs7:=hB7.size
     have hI7:=hR7.2.lt
     have hQ7:=hA7.lt
     have hne7:=hR7.ne
     refine range_places (n:=5) (gf:=220) (first:=#[.pointer (some ⟨w.heap.size + 1,0,none⟩)]) (lb:=#[]) rfl (enters_of Tryz.func220 Z3q rfl) k (fun i=>(Fe.fresh l i).f) (fun i=>#[.int .i64 (Fe.pl (Fe.fresh l) i:Nat),.pointer (some ⟨w.heap.size,i * 8,none⟩)]) (fun _=>rfl)
      (fun i W=>RowW W (w.heap.size + 1) w.heap.size k room (Fe.gro l k room) (fmix (Fe.fresh l) (Fe.begun (Fe.gro l k room) l) i)∧At W (w.heap.size + 1 + 1) (.cells #[.pointer (some ⟨w.heap.size + 1,0,none⟩)] 270)∧Below w.heap.size w W)
      (fun W=>False)
      (fun i W r o o' h hr hW hc=>⟨h.1.turn Z3f Z3f o,h.2.1.turn Z3f o,Below.turn h.2.2 Z3f hW o⟩)
      (fun W r o o' h hr hW _=>h)
      (fun o1 o2=>⟨by rw [fmix_zero];exact (hR7.alloc o1).alloc o2,(hA7.alloc o1).alloc o2,Below.alloc' (Below.alloc' hB7 o1) o2⟩)
      (fun lp J Jx W hV hs hY hJ=>loose_in 4 (w.heap.size + 1) w.heap.size k room (Fe.sg (Fe.gro l k room)) (Fe.fresh l) hn lp J Jx W (fun i W h=>(hV i W h).1.mixed) hs hY hJ)
      (fun i W hi hf h=>by cases hf)
      (fun i t=>((t.setIfInBounds 52 (.int .i64 (Fe.pl (Fe.fresh l) i:Nat))).setIfInBounds 53 (.pointer (some ⟨w.heap.size,i * 8,none⟩))).setIfInBounds 11 (.pointer (some ⟨w.heap.size,i * 8,none⟩))) ?assign ?body ?done ?stop
     case assign =>
      exact Z1l
     case stop=>exact fun D W hD h _=>h.elim
     case body =>
      rintro lp i W hi hf ⟨hR8,hA8,hB8⟩
      have cB:W.cell? ⟨w.heap.size + 1 + 1,0,none⟩=some (.pointer (some ⟨w.heap.size + 1,0,none⟩)):=hA8.cell 0
      have lB:=hA8.lt
      have hbd:((0≤(fmix (Fe.fresh l) (Fe.begun (Fe.gro l k room) l) i i).x.b∧(fmix (Fe.fresh l) (Fe.begun (Fe.gro l k room) l) i i).x.b≤1048576)∧0≤(fmix (Fe.fresh l) (Fe.begun (Fe.gro l k room) l) i i).z∧(fmix (Fe.fresh l) (Fe.begun (Fe.gro l k room) l) i i).z≤1048576):=by
       rw [fmix_ge (Nat.le_refl _)]
       obtain ⟨q1,q2,_⟩:=Fe.cnt_bd (l i)
       exact ⟨⟨q1,q2⟩,Fe.clamp_bd (l i) _⟩
      have HST:Hid (Fe.stay (Fe.gro l k room) (fmix (Fe.fresh l) (Fe.begun (Fe.gro l k room) l) i i).x (fmix (Fe.fresh l) (Fe.begun (Fe.gro l k room) l) i i).z=(Fe.begun (Fe.gro l k room) l i).f):=Lib.hid (by rw [fmix_ge (Nat.le_refl _)];rfl)
      (simp only [List.setIfInBounds_toArray,List.set_cons_zero,List.set_cons_succ])
      gi_wp2_with (refine ⟨trivial,?_⟩;gi_at_call 221;refine (CallsIn.inRound lp (callsIn_wide.2 (stays_any _ _ k i room _ _ _ hR8 hi hbd))).mono ?_;rintro e w9 ⟨rfl,hb9⟩;rw [HST.out];have l9:=(hR8.keep hb9).2.lt;obtain ⟨-, -, -, -, -, -, -, -, e7⟩:=(hR8.keep hb9).2.fields hi;have z7:=(hR8.keep hb9).2.thaw (i * 8 + 7))
      have hz9:=hb9.size
      refine ⟨(KeepsFrom.of_below hb9).trans ((KeepsOthers.setCell _ _ _).from _),⟨(hR8.1.keep hb9).off Z3f _ _,?_⟩,(hA8.keep hb9).off Z3f _ _,Below.setCell (Below.after2 hB8 Z3f hb9) (Nat.le_refl _) _⟩
      refine (hR8.2.keep hb9).put hi Z3f ?_ ?_ ?_
      · rw [fmix_at];simp [fld]
      · intro q hq hqn
        rw [fmix_at,fmix_ge (Nat.le_refl _)]
        unfold fld
        (repeat' split) <;> first | rfl | omega
      · intro j hj hjn;rw [fmix_off _ _ hjn]
     case done =>
      rintro D W hD ⟨hR8,hA8,hB8⟩ hK
      have cB:W.cell? ⟨w.heap.size + 1 + 1,0,none⟩=some (.pointer (some ⟨w.heap.size + 1,0,none⟩)):=hA8.cell 0
      have lB:=hA8.lt
      gi_wp2
      refine ⟨by simp,.inl ⟨_,_,rfl,run_takeDeferred hK,?_⟩⟩
      exact ⟨_,results_tmp rfl _ _ _,⟨w.heap.size + 1,w.heap.size,rfl,Nat.le_refl _,⟨(hR8.turn Z3f Z3f _).1,(hR8.turn Z3f Z3f _).2.same (fmix_all _ _ _)⟩⟩,Below.turn hB8 Z3f hK _⟩
end Go.Proofs.YteggipnplbkijaaGreat.Fix
