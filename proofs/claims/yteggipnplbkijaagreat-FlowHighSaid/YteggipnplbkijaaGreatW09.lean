/- Boxes laid by the program: what its functions do, part 9. -/
import Derived.Lib.SliceRun
import Derived.Laws.IdiomCopy
import Derived.Laws.CopyOwn
import Derived.Lib.Overlaps
import Derived.Lib.AppendZerosOnto
import Derived.Laws.Externs
import Derived.Deep.Cut
import Derived.Maps.OwnSet
import Derived.Maps.RangeWalk
import Derived.Lib.MinMax
import Derived.Test.YteggipnplbkijaaGreatWK
import Derived.Test.YteggipnplbkijaaGreatW02
import Derived.Test.YteggipnplbkijaaGreatW04
import Derived.Test.YteggipnplbkijaaGreatW06
set_option linter.unusedVariables false
set_option linter.unusedSimpArgs false
set_option linter.unusedSectionVars false
set_option maxRecDepth 100000
namespace Go.Proofs.YteggipnplbkijaaGreat.Fix
open Go.ChangeShapes Go.WideShapes Go.ChangeAt Go.RowKit
def KS (W:World) (v:Value) (l:List Int):Prop:=W.ownsRow 0 3 1 v l.length (l.map (Value.int .i64))
def Rw (W:World) (g c:Nat) (l:List Int):Prop:=∃ cur:Array Value,At W g (.cells cur 3)∧cur.size=c∧l.length≤c∧c≤maxLen∧cur.toList.take l.length=l.map (Value.int .i64)
theorem KS.nil (W:World):KS W (.slice none 0 0) []:=World.ownsRow_nil _ _ _ _
theorem KS.cases {W:World} {v:Value} {l:List Int} (h:KS W v l):(v = .slice none 0 0∧l=[])∨∃ g c,v = .slice (some ⟨g,0,none⟩) l.length c∧Rw W g c l:=by
 rcases h.2 with ⟨rfl,h0⟩ | ⟨g,cap,cur,rfl,_,hg,h1,h2,h3,h4⟩
 · exact .inl ⟨rfl,List.eq_nil_of_length_eq_zero h0⟩
 · exact .inr ⟨g,cap,rfl,cur,hg,by simpa using h3,h1,h2,by simpa using h4⟩
theorem Rw.ks {W:World} {g c:Nat} {l:List Int} (h:Rw W g c l):KS W (.slice (some ⟨g,0,none⟩) l.length c) l:=by
 obtain ⟨cur,h1,h2,h3,h4,h5⟩:=h
 exact ⟨by simp,.inr ⟨g,c,cur,rfl,Nat.zero_le _,h1,h3,h4,by simpa using h2,by simpa using h5⟩⟩
theorem Rw.lt {W:World} {g c:Nat} {l:List Int} (h:Rw W g c l):g<W.heap.size:=by obtain ⟨cur,h1,_⟩:=h;exact h1.lt
theorem Rw.out {M:Nat→Prop} {W W':World} {g c:Nat} {l:List Int} (h:Rw W g c l) (hm:¬ M g) (k:Out M W W'):Rw W' g c l:=by
 obtain ⟨cur,h1,r⟩:=h
 exact ⟨cur,h1.out hm k,r⟩
theorem KS.lt {W:World} {v:Value} {l:List Int} (h:KS W v l) {g:Nat} (hg:v.ownBlock=some g):g<W.heap.size:=(World.ownsRow.lt h g hg).2
theorem KS.out {M:Nat→Prop} {W W':World} {v:Value} {l:List Int} (h:KS W v l) (hm:∀ g,v.ownBlock=some g→¬ M g) (k:Out M W W'):KS W' v l:=by
 rcases h.cases with ⟨rfl,rfl⟩ | ⟨g,c,rfl,hr⟩
 · exact KS.nil _
 · exact (hr.out (hm g rfl) k).ks
theorem KS.after {W W':World} {v:Value} {l:List Int} (h:KS W v l) (hb:Below W.heap.size W W'):KS W' v l:=h.out (M:=fun _=>False) (fun _ _ q=>q) (Out.of_below hb)
theorem Rw.ints {W:World} {g c:Nat} {l:List Int} (h:Rw W g c l):Ints W (some ⟨g,0,none⟩) l:=by
 obtain ⟨cur,h1,h2,h3,h4,h5⟩:=h
 refine ⟨by omega,fun h0=>⟨g,0,rfl,fun k hk => ?_⟩⟩
 rw [h1.cell,Nat.zero_add]
 have:(cur.toList.take l.length)[k]? = (l.map (Value.int .i64))[k]? := by rw [h5]
 rw [List.getElem?_take,if_pos hk] at this
 simpa [List.getElem?_eq_getElem hk] using this
theorem KS.ints {W:World} {v:Value} {l:List Int} (h:KS W v l):∃ A c,v = .slice A l.length c∧Ints W A l∧l.length≤c∧c≤maxLen∧(A=none→c=0):=by
 rcases h.cases with ⟨rfl,rfl⟩ | ⟨g,c,rfl,hr⟩
 · exact ⟨none,0,rfl,⟨by simp,fun h=>absurd h Z3t⟩,by simp,by simp [maxLen],fun _=>rfl⟩
 · have hr':=hr
   obtain ⟨cur,h1,h2,h3,h4,h5⟩:=hr
   exact ⟨_,c,rfl,hr'.ints,h3,h4,fun h=>by cases h⟩
theorem drew_setRow (W:World) (g:Nat) (cs:Array Value):(W.setRow g cs).drew=W.drew.setRow g cs:=rfl
theorem exec_append {P:Program} {w w':World} {o:Oper} {a:Act} (s x:Operand) (t tn:TypeId) (ho:o.op = .call { callee:= .builtin .append,args:=#[s,x],argTypes:=#[t,tn] }) {v u v':Value} (hs:a.eval s=v) (hx:a.eval x=u)
  (hrun:(Builtin.append_ #[t,tn] o.type #[v,u]).run P w = .ok v' w'):(execOp a.eval o).run P w = .ok (.value v') w':=by
 exact Z1r
theorem exec_copy {P:Program} {w w':World} {o:Oper} {a:Act} (s x:Operand) (t tn:TypeId) (ho:o.op = .call { callee:= .builtin .copy,args:=#[s,x],argTypes:=#[t,tn] }) {v u v':Value} (hs:a.eval s=v) (hx:a.eval x=u)
  (hrun:(Builtin.copy_ #[t,tn] o.type #[v,u]).run P w = .ok v' w'):(execOp a.eval o).run P w = .ok (.value v') w':=by
 exact Z1r
theorem wpList_run {P:Program} {w w':World} {ops:Array Oper} {rest:List Oper} {o:Oper} {a:Act} {Q:Exit→Act→World→Prop} (hw:Region.wanted o (yielded ops a.tmps)=true) {v':Value}
  (hrun:(execOp a.eval o).run P w = .ok (.value v') w') (h:wpList P ops Q rest (a.put o.dst v') w'):wpList P ops Q (o :: rest) a w:=by
 exact Z2w
theorem clone_any {v:Value} {l:List Int} {w:World} (h:KS w v l) (hl:l.length≤10000):Calls Tryz.prog 128 #[v] w fun e w'=>(∃ v',e = .returned v'∧w'.ownsRow w.heap.size 3 1 v' l.length (l.map (Value.int .i64)))∧Below w.heap.size w w':=by
 have q22:∀ (w:World) (a:Option Addr) (n c n' c':Nat),(binOp .eql 52 (.slice a n c) (.slice none n' c')).run Tryz.prog w = .ok (.bool a.isNone) w:=fun w a n c n' c'=>Lib.run_eql_slice_nil w _ _ a n c n' c' Tryz.underlying52
 rcases h.cases with ⟨rfl,rfl⟩ | ⟨g,c,rfl,hr⟩
 · go_enter Tryz.func128,Tryz.ntmps128
   go_wp2
   go_ret
   exact ⟨⟨_,rfl,World.ownsRow_nil _ _ _ _⟩,Below.refl _ _⟩
 · have hown:(w.alloc (.cells #[] 3)).ownsRow w.heap.size 3 1 (.slice (some ⟨w.heap.size,0,none⟩) 0 0) 0 (([]:List Int).map (Value.int .i64)):=World.ownsRow_made w #[] 0 (Nat.le_refl _) (by simp [maxLen]) rfl
   obtain ⟨v',w',hrun,hown',hB,_⟩:=append_ints (m:=l.length) (c:=c) hown (Below.alloc' (Below.refl w.heap.size w) _) Z3t (hr.ints.after (Below.alloc' (Below.refl _ _) _)) rfl (fun h=>by cases h) Z3f
   have HRUN:=Lib.hid hrun
   clear hrun hown
   go_enter Tryz.func128,Tryz.ntmps128
   go_wp2_with (at_builtin;refine wpList_append_run Z3n _ _ 52 rfl rfl rfl HRUN.out ?_)
   go_ret
   exact ⟨⟨_,rfl,by simpa using hown'⟩,hB⟩
def cutAt (g c j:Nat):Addr:=if c=j then ⟨g,0,none⟩ else ⟨g,j,none⟩
theorem slice_row_from (g n c j:Nat) (hj:j≤n) (W:World):(Instr.sliceAt 52 (.slice (some ⟨g,0,none⟩) n c) (some (.int .i64 (j:Int))) none none).run Tryz.prog W = .ok (.slice (some (cutAt g c j)) (n - j) (c - j)) W:=by
 rw [slice_from _ n c j hj W]
 unfold cutAt
 by_cases h:c=j
 · rw [if_pos h,if_pos h]
 · rw [if_neg h,if_neg h];simp [addr_add]
theorem reads_slice {ops:Array Oper} {S:World→Prop} {o:Oper} {a:Act} {t:TypeId} {x:Operand} {lo hi mx:Option Operand} {v:Value} (hw:Region.wanted o (yielded ops a.tmps)=true) (ho:o.op = .slice t x lo hi mx)
  (hrun:∀ W,(Instr.sliceAt t (a.eval x) (lo.map a.eval) (hi.map a.eval) (mx.map a.eval)).run Tryz.prog W = .ok v W):Drawn.Reads Tryz.prog ops S o v a :=
 .inl ⟨hw,fun W _=>by unfold execOp;simp only [ho,Sem.run_bind,Sem.run_pure,hrun,Result.andThen_ok]⟩
theorem At.drew {W:World} {b:Nat} {o:Obj} (h:At W b o):At W.drew b o:=h
theorem Out.drew {M:Nat→Prop} {X Y:World} (h:Out M X Y):Out M X Y.drew:=⟨h.1.drew,h.2⟩
theorem ints_one (l:List Int):∀ v ∈ l.map (Value.int .i64),v.oneCell'=true:=fun v hv=>by obtain ⟨z,_,rfl⟩:=List.mem_map.1 hv;rfl
theorem Out.grown {M:Nat→Prop} {X Y:World} {row:Option Nat} (h:X.grownBy Y row) (hr:∀ b,row=some b→M b):Out M X Y :=
 ⟨⟨h.os,h.tape,h.output,h.size,fun _ hb=>absurd hb (Nat.not_lt_zero _)⟩,fun b hb hm=>h.block b hb (fun e=>hm (hr b e.symm))⟩
theorem At.shape {W:World} {b:Nat} {cs:Array Value} {T:TypeId} (h:At W b (.cells cs T)):W.shape? b=some (T,cs.size):=by
 unfold At at h
 simp [World.shape?, h]
theorem intSize:(Tryz.prog.info? 3).map (·.size)=some 1:=by kernel_rfl
theorem insert_end {v:Value} {l:List Int} {w:World} {vb:Nat} {x:Int} (h:KS w v l) (hl:l.length≤10000) (hv:At w vb (.cells #[.int .i64 x] 3)):Calls Tryz.prog 91 #[v,.int .i64 (l.length:Int),.slice (some ⟨vb,0,none⟩) 1 1] w fun e w'=>∃ v',e = .returned v'∧KS w' v' (l ++ [x])∧Out (fun b=>v.ownBlock=some b) w w'∧(v'.ownBlock=v.ownBlock∨v'.ownBlock=some w.heap.size):=by
 obtain ⟨i0,hi0,hz0,hz1,hz2⟩:=info_parts intZero
 obtain ⟨v',w',hr,ho,hg,_,hloc⟩:=run_append_own_at (P:=Tryz.prog) w 0 52 52 3 i0 (.int .i64 0) 1 8 Tryz.underlying52 hi0 hz0 hz1 hz2 rfl Z3i v _ _ h ⟨vb,0,none⟩ 1 1 [.int .i64 x] rfl
  (fun j u hu=>by
   have hj:j=0:=by have:=(List.getElem?_eq_some_iff.1 hu).1;simpa using this
   subst hj
   rw [addr_add,hv.cell];simpa using hu)
  Z45 Z40 Z3f (Nat.zero_le _)
 have hQ:Hid (KS w' v' (l ++ [x])):=Lib.hid (by
  have e1:(l ++ [x]).length=l.length + 1:=by simp
  unfold KS
  rw [e1,List.map_append];exact ho)
 have hO:Hid (Out (fun b=>v.ownBlock=some b) w w'):=Lib.hid (Out.grown hg fun b e=>e)
 have HL:=Lib.hid hloc
 obtain ⟨A,c,rfl,hI,hc,hm,hnil⟩:=h.ints
 have hcs:∀ W:World,(Instr.sliceAt 52 (.slice A l.length c) (some (.int .i64 (l.length:Int))) none none).run Tryz.prog W = .ok (.slice (if c=l.length then A else A.map (·.add (l.length * 1))) (l.length - l.length) (c - l.length)) W:=fun W=>slice_from A l.length c l.length (Nat.le_refl _) W
 unfold maxLen at hm
 clear h hI hloc hg ho hnil
 generalize hn:l.length=n at *
 have HN:=Lib.hid hn
 have HRUN:=Lib.hid hr
 clear hr hn
 by_cases hcn:c=n
 · exact Z36
 · exact Z36
theorem insert_room {g c i vb:Nat} {l:List Int} {w:World} {x:Int} (h:Rw w g c l) (hi:i<l.length) (hr:l.length<c) (hv:At w vb (.cells #[.int .i64 x] 3)) (hne:vb≠g):Calls Tryz.prog 91 #[.slice (some ⟨g,0,none⟩) l.length c,.int .i64 (i:Int),.slice (some ⟨vb,0,none⟩) 1 1] w fun e w'=>e = .returned (.slice (some ⟨g,0,none⟩) (l.length + 1) c)∧Rw w' g c (Tr.wi l i x)∧Out (fun b=>b=g) w w':=by
 obtain ⟨cur,hA,hs,hc,hm,ht⟩:=h
 unfold maxLen at hm
 have hov:∀ lb cb,(callFunc 129 #[.slice (some ⟨vb,0,none⟩) 1 1,.slice (some ⟨g,i + 1,none⟩) lb cb]).run Tryz.prog w = .ok (.value (.bool false)) w:=fun lb cb=>by
  rw [run_callFunc_extern Tryz.func129 Z3q Z3q Z3q (e:=Extern.SlicesOverlaps.overlaps #[52,52] #[4]) Z3q,
   Lib.run_overlaps_apart w 52 4 3 Tryz.underlying52 1 (fun _=>by kernel_rfl) ⟨vb,0,none⟩ ⟨g,i + 1,none⟩ 1 1 lb cb hne _ _ _ _ hv.shape hA.shape Z3f (hv.thaw _) (hv.thaw _)]
  rfl
 have hti:∀ k,k≤l.length→cur.toList.take k=(l.take k).map (Value.int .i64):=fun k hk=>by
  rw [List.map_take, ← ht,List.take_take,Nat.min_eq_left hk]
 obtain ⟨news,hnews⟩:∃ news,news=(l.drop i).map (Value.int .i64):=⟨_,rfl⟩
 have hnl:news.length=l.length - i:=by rw [hnews];simp
 have hcp1:=run_copy_row (P:=Tryz.prog) w.drew 52 52 3 3 g (i + 1) (l.length + 1 - (i + 1)) (c - (i + 1)) ⟨g,i,none⟩ (l.length + 1 - i) (c - i) cur 3 news Tryz.underlying52 intSize hA.drew (by rw [hnl];simp only [Nat.min_def];split <;> omega)
  (fun k u hu=>by
   have hk:k<l.length - i:=by rw [← hnl];exact (List.getElem?_eq_some_iff.1 hu).1
   rw [addr_add,hA.drew.cell]
   have e:(cur.toList.take l.length)[i + k]? = (l.map (Value.int .i64))[i + k]? := by rw [ht]
   rw [List.getElem?_take,if_pos Z3f] at e
   rw [hnews,List.getElem?_map,List.getElem?_drop] at hu
   rw [← hu, ← List.getElem?_map, ← e]
   simp) Z3f (by rw [hnews];exact ints_one _)
 obtain ⟨X,hX⟩:∃ X:Array Value,X=(cur.toList.take (i + 1) ++ news ++ cur.toList.drop (i + 1 + news.length)).toArray:=⟨_,rfl⟩
 rw [← hX] at hcp1
 have hXs:X.size=c:=by rw [hX];simp;omega
 have hAX:At (w.drew.setRow g X) g (.cells X 3):=hA.drew.setRow X
 have hvX:At (w.drew.setRow g X) vb (.cells #[.int .i64 x] 3):=hv.drew.offRow hne X
 have hcp2:=run_copy_row (P:=Tryz.prog) (w.drew.setRow g X) 52 52 3 3 g i (l.length + 1 - i) (c - i) ⟨vb,0,none⟩ 1 1 X 3 [.int .i64 x] Tryz.underlying52 intSize hAX (by simp only [Nat.min_def,List.length_singleton];split <;> omega)
  (fun k u hu=>by
   have hk:k=0:=by have:=(List.getElem?_eq_some_iff.1 hu).1;simpa using this
   subst hk
   rw [addr_add,hvX.cell];simpa using hu) Z3p Z45
 rw [setRow_setRow] at hcp2
 obtain ⟨Y,hY⟩:∃ Y:Array Value,Y=(X.toList.take i ++ [Value.int .i64 x] ++ X.toList.drop (i + [Value.int .i64 x].length)).toArray:=⟨_,rfl⟩
 rw [← hY] at hcp2
 have hYs:Hid (Y.size=c):=Lib.hid (by rw [hY];simp;omega)
 have hYt:Hid (Y.toList.take (Tr.wi l i x).length=(Tr.wi l i x).map (Value.int .i64)):=Lib.hid (by
  rw [Tr.length_wi,hY,hX]
  simp only [Tr.wi,List.map_append,List.map_cons,List.length_singleton]
  have e0:(cur.toList.take (i + 1)).length=i + 1:=by simp;omega
  have e1:(cur.toList.take i).length=i:=by simp;omega
  have e2:List.take i (cur.toList.take (i + 1) ++ news ++ cur.toList.drop (i + 1 + news.length))=cur.toList.take i:=by
   rw [List.append_assoc,List.take_append_of_le_length Z3f,List.take_take,Nat.min_eq_left Z3f]
  have e3:List.drop (i + 1) (cur.toList.take (i + 1) ++ news ++ cur.toList.drop (i + 1 + news.length))=news ++ cur.toList.drop (i + 1 + news.length):=by
   rw [List.append_assoc,List.drop_append_of_le_length Z3f,List.drop_of_length_le Z3f,List.nil_append]
  rw [e2,e3, ← hti i Z3f, ← hnews]
  have e4:(cur.toList.take i ++ [Value.int .i64 x] ++ news).length=l.length + 1:=by simp [hnl];omega
  rw [← List.append_assoc,List.take_append_of_le_length Z3f,List.take_of_length_le Z3f]
  simp)
 have hQ:Hid (At (w.drew.setRow g Y) g (.cells Y 3)):=Lib.hid (hA.drew.setRow Y)
 have hO:Hid (Out (fun b=>b=g) w (w.drew.setRow g Y)):=Lib.hid (Out.setRow (M:=fun b=>b=g) (Out.drew (Out.refl _ _)) rfl Y)
 have hwl:Hid ((Tr.wi l i x).length=l.length + 1):=Lib.hid (Tr.length_wi _ _ _)
 generalize hn:l.length=n at *
 have HN:=Lib.hid hn
 have hw1:IntKind.i64.wrap ((i:Int) + 1)=(i:Int) + 1:=by rw [IntWalk.i64_in _ Z3f]
 have hz2:¬ ((i:Int)=(n:Int)):=by omega
 have hz3:((i:Int) == (n:Int))=false:=by simpa using hz2
 have hb1:(0:Int)≤(i:Int) + 1:=by omega
 have hb2:¬ (c=i + 1):=by omega
 have hb3:(i:Int)≤(n:Int) + 1:=by omega
 have hb4:¬ (c=i):=by omega
 have htn:((i:Int) + 1).toNat=i + 1:=by omega
 have HC1:=Lib.hid hcp1
 have HC2:=Lib.hid hcp2
 have HS1:Hid (∀ W,(Instr.sliceAt 52 (.slice (some ⟨g,0,none⟩) (n + 1) c) (some (.int .i64 ((i:Int) + 1))) none none).run Tryz.prog W = .ok (.slice (some ⟨g,i + 1,none⟩) (n + 1 - (i + 1)) (c - (i + 1))) W):=Lib.hid fun W=>by
  have:=slice_row_from g (n + 1) c (i + 1) Z3f W
  rw [cutAt,if_neg hb2] at this
  rw [show (i:Int) + 1=((i + 1:Nat):Int) by omega]
  exact this
 have HS2:Hid (∀ W,(Instr.sliceAt 52 (.slice (some ⟨g,0,none⟩) (n + 1) c) (some (.int .i64 (i:Int))) none none).run Tryz.prog W = .ok (.slice (some ⟨g,i,none⟩) (n + 1 - i) (c - i)) W):=Lib.hid fun W=>by
  have:=slice_row_from g (n + 1) c i Z3f W
  rw [cutAt,if_neg hb4] at this
  exact this
 clear hcp1 hcp2 hX hY hXs hAX hvX hnl hnews hti ht hA hs hn hv
 go_enter Tryz.func91,Tryz.ntmps91
 go_upto_region 15 with (simp only [hov])
 refine tkX (S:=(fun _=>True)) 9 ?_ ?_
 · trivial
 intro hS0
 refine tkC 0 ?_
 refine tkC 1 ?_
 refine tkC 2 ?_
 refine tkC 3 ?_
 refine tkR 4 rfl (reads_slice Z3n rfl (fun W=>HS1.out W)) ?_
 refine tkC 5 ?_
 refine tkC 6 ?_
 refine tkR 7 rfl (reads_slice Z3n rfl (fun W=>HS2.out W)) ?_
 refine tk1 8 ?_
 refine Drawn.Step.value (exec_copy (.tmp 73) (.tmp 76) 52 52 rfl rfl rfl HC1.out) ?_
 refine ⟨fun _=>trivial,?_⟩
 (try simp only [tkp,tka,tkz,tks])
 refine tkE ?_
 have hcp2:=HC2.out
 go_wp2
 go_ret
 exact ⟨rfl,⟨Y,hQ.out,hYs.out,by rw [hwl.out];omega,by unfold maxLen;omega,hYt.out⟩,hO.out⟩
theorem insert_grow {g i vb:Nat} {l:List Int} {w:World} {x:Int} (h:Rw w g l.length l) (hi:i<l.length) (hl:l.length≤10000) (hv:At w vb (.cells #[.int .i64 x] 3)):Calls Tryz.prog 91 #[.slice (some ⟨g,0,none⟩) l.length l.length,.int .i64 (i:Int),.slice (some ⟨vb,0,none⟩) 1 1] w fun e w'=>(∃ c,e = .returned (.slice (some ⟨w.heap.size,0,none⟩) (l.length + 1) c)∧Rw w' w.heap.size c (Tr.wi l i x))∧Below w.heap.size w w':=by
 obtain ⟨i0,hi0,hz0,hz1,hz2⟩:=info_parts intZero
 have hgl:=h.lt
 have hI:=h.ints
 obtain ⟨cur,hA,hs,hc,hm,ht⟩:=h
 clear hm
 have hti:∀ k,k≤l.length→cur.toList.take k=(l.take k).map (Value.int .i64):=fun k hk=>by
  rw [List.map_take, ← ht,List.take_take,Nat.min_eq_left hk]
 have hcell:∀ k u,(l.map (Value.int .i64))[k]? = some u→cur[k]? = some u:=fun k u hu=>by
  have hk:k<l.length:=by have:=(List.getElem?_eq_some_iff.1 hu).1;simpa using this
  have e:(cur.toList.take l.length)[k]? = (l.map (Value.int .i64))[k]? := by rw [ht]
  rw [List.getElem?_take,if_pos hk,hu] at e
  simpa using e
 have hold:(Builtin.firstCells i0.size i (.slice (some ⟨g,0,none⟩) i l.length)).run Tryz.prog w.drew = .ok (cur.toList.take i).toArray w.drew:=by
  rw [hz1]
  exact run_firstCells_some w.drew 1 i ⟨g,0,none⟩ i l.length (cur.toList.take i) (by rw [List.length_take];simp;omega) (fun k u hu=>by
   rw [addr_add,hA.drew.cell]
   rw [List.getElem?_take] at hu
   split at hu
   · simpa using hu
   · cases hu)
 have happ:=Lib.run_append_grow_zeros (P:=Tryz.prog) w 52 3 52 3 i0 (.int .i64 0) .i64 .i64 Tryz.underlying52 Tryz.underlying3 hi0 hz0 (some ⟨g,0,none⟩) i l.length _ hold (l.length + 1 - i) Z3f Z3f Z3f Z3f Z42 (by rw [hz2];exact growslice_fits Z3f Z3f)
 obtain ⟨G,hG⟩:∃ G,G=grownCap w (i + (l.length + 1 - i)) l.length 3:=⟨_,rfl⟩
 have hGn:l.length + 1≤G:=by have:=grownCap_ge w (i + (l.length + 1 - i)) l.length 3;omega
 have hGm:G≤maxLen:=by rw [hG];exact grownCap_le_maxLen _ _ _ _ Z40
 rw [← hG,show i + (l.length + 1 - i)=l.length + 1 by omega] at happ
 obtain ⟨R,hR⟩:∃ R:Array Value,R=(cur.toList.take i).toArray ++ Builtin.zeroCells (Value.int .i64 0).cells (l.length + 1 - i) ++ Builtin.zeroCells (Value.int .i64 0).cells (G - (l.length + 1)):=⟨_,rfl⟩
 rw [← hR] at happ
 have hRs:R.size=G:=by rw [hR];simp [size_zeroCells,Value.cells];omega
 have hRt:R.toList.take i=cur.toList.take i:=by
  rw [hR]
  simp only [Array.toList_append,List.append_assoc]
  rw [List.take_append_of_le_length Z3p,List.take_of_length_le Z3p]
 clear hR
 obtain ⟨b,hb⟩:∃ b,b=w.heap.size:=⟨_,rfl⟩
 obtain ⟨W1,hW1⟩:∃ W1,W1=w.drew.alloc (.cells R 3):=⟨_,rfl⟩
 have hA1:At W1 b (.cells R 3):=by rw [hW1,hb];exact At.new _ _
 have hg1:At W1 g (.cells cur 3):=by rw [hW1];exact hA.drew.alloc _
 have hv1:At W1 vb (.cells #[.int .i64 x] 3):=by rw [hW1];exact hv.drew.alloc _
 have hB1:Below b w W1:=by rw [hW1,hb];exact (Below.refl _ _).drew.alloc Z3t _
 have hvb:vb≠b:=by rw [hb];exact Nat.ne_of_lt hv.lt
 have hgb:g≠b:=by rw [hb];exact Nat.ne_of_lt hgl
 rw [← hW1, ← hb] at happ
 have hcp1:=run_copy_row (P:=Tryz.prog) W1 52 52 3 3 b i (l.length + 1 - i) (G - i) ⟨vb,0,none⟩ 1 1 R 3 [.int .i64 x] Tryz.underlying52 intSize hA1 (by simp only [Nat.min_def,List.length_singleton];split <;> omega)
  (fun k u hu=>by
   have hk:k=0:=by have:=(List.getElem?_eq_some_iff.1 hu).1;simpa using this
   subst hk
   rw [addr_add,hv1.cell];simpa using hu) Z3p Z45
 obtain ⟨X,hX⟩:∃ X:Array Value,X=(R.toList.take i ++ [Value.int .i64 x] ++ R.toList.drop (i + [Value.int .i64 x].length)).toArray:=⟨_,rfl⟩
 rw [← hX] at hcp1
 have hXs:X.size=G:=by rw [hX];simp;omega
 have hAX:At (W1.setRow b X).drew b (.cells X 3):=(hA1.setRow X).drew
 have hgX:At (W1.setRow b X).drew g (.cells cur 3):=(hg1.offRow hgb X).drew
 obtain ⟨news,hnews⟩:∃ news,news=(l.drop i).map (Value.int .i64):=⟨_,rfl⟩
 have hnl:news.length=l.length - i:=by rw [hnews];simp
 have hcp2:=run_copy_row (P:=Tryz.prog) (W1.setRow b X).drew 52 52 3 3 b (i + 1) (l.length + 1 - (i + 1)) (G - (i + 1)) ⟨g,i,none⟩ (l.length - i) (l.length - i) X 3 news Tryz.underlying52 intSize hAX (by rw [hnl];simp only [Nat.min_def];split <;> omega)
  (fun k u hu=>by
   rw [addr_add,hgX.cell]
   rw [hnews,List.getElem?_map,List.getElem?_drop, ← List.getElem?_map] at hu
   exact hcell _ _ hu) Z3f (by rw [hnews];exact ints_one _)
 obtain ⟨Y,hY⟩:∃ Y:Array Value,Y=(X.toList.take (i + 1) ++ news ++ X.toList.drop (i + 1 + news.length)).toArray:=⟨_,rfl⟩
 rw [← hY,show ((W1.setRow b X).drew).setRow b Y=(W1.setRow b Y).drew by rw [← drew_setRow,setRow_setRow]] at hcp2
 have hYs:Hid (Y.size=G):=Lib.hid (by rw [hY];simp;omega)
 have hYt:Hid (Y.toList.take (Tr.wi l i x).length=(Tr.wi l i x).map (Value.int .i64)):=Lib.hid (by
  rw [Tr.length_wi,hY,hX]
  simp only [Tr.wi,List.map_append,List.map_cons,List.length_singleton]
  have e1:(R.toList.take i).length=i:=by simp;omega
  have e2:List.take (i + 1) (R.toList.take i ++ [Value.int .i64 x] ++ R.toList.drop (i + 1))=R.toList.take i ++ [Value.int .i64 x]:=by
   rw [List.take_append_of_le_length Z3p,List.take_of_length_le Z3p]
  rw [e2,hRt, ← hti i Z3f, ← hnews]
  have e4:(cur.toList.take i ++ [Value.int .i64 x] ++ news).length=l.length + 1:=by simp [hnl];omega
  rw [List.take_append_of_le_length Z3f,List.take_of_length_le Z3f]
  simp)
 have hQ:Hid (At (W1.setRow b Y).drew b (.cells Y 3)):=Lib.hid (hA1.setRow Y).drew
 have hO:Hid (Below b w (W1.setRow b Y).drew):=Lib.hid (below_setRow hB1 (Nat.le_refl _) Y).drew
 have hwl:Hid ((Tr.wi l i x).length=l.length + 1):=Lib.hid (Tr.length_wi _ _ _)
 unfold maxLen at hGm
 rw [← hb]
 clear hG
 generalize hn:l.length=n at *
 have HN:=Lib.hid hn
 have hw1:IntKind.i64.wrap ((i:Int) + 1)=(i:Int) + 1:=by rw [IntWalk.i64_in _ Z3f]
 have hw2:IntKind.i64.wrap ((n:Int) + 1 - (i:Int))=(n:Int) + 1 - (i:Int):=by rw [IntWalk.i64_in _ Z3f]
 have hz2:¬ ((i:Int)=(n:Int)):=by omega
 have hz3:((i:Int) == (n:Int))=false:=by simpa using hz2
 have hb1:(0:Int)≤(i:Int) + 1:=by omega
 have hb2:¬ (G=i + 1):=by omega
 have hb5:¬ (G=i):=by omega
 have hb4:¬ (n=i):=by omega
 have HC1:=Lib.hid hcp1
 have HC2:=Lib.hid hcp2
 have HAPP:Hid ((Builtin.append_ #[52,3] 52 #[.slice (some ⟨g,0,none⟩) i n,.int .i64 ((n:Int) + 1 - (i:Int))]).run Tryz.prog w = .ok (.slice (some ⟨b,0,none⟩) (n + 1) G) W1):=Lib.hid (by
  rw [show (n:Int) + 1 - (i:Int)=((n + 1 - i:Nat):Int) by omega];exact happ)
 have HS1:Hid (∀ W,(Instr.sliceAt 52 (.slice (some ⟨b,0,none⟩) (n + 1) G) (some (.int .i64 ((i:Int) + 1))) none none).run Tryz.prog W = .ok (.slice (some ⟨b,i + 1,none⟩) (n + 1 - (i + 1)) (G - (i + 1))) W):=Lib.hid fun W=>by
  have:=slice_row_from b (n + 1) G (i + 1) Z3f W
  rw [cutAt,if_neg hb2] at this
  rw [show (i:Int) + 1=((i + 1:Nat):Int) by omega]
  exact this
 have HS2:Hid (∀ W,(Instr.sliceAt 52 (.slice (some ⟨g,0,none⟩) n n) (some (.int .i64 (i:Int))) none none).run Tryz.prog W = .ok (.slice (some ⟨g,i,none⟩) (n - i) (n - i)) W):=Lib.hid fun W=>by
  have:=slice_row_from g n n i Z3f W
  rw [cutAt,if_neg hb4] at this
  exact this
 have HB:=Lib.hid hb
 clear hcp1 hcp2 hX hY hXs hAX hgX hnl hnews hti ht hA hs hn hv happ hold hI hcell hA1 hg1 hv1 hB1 hvb hgb hRs hRt hW1 hb hc
 go_enter Tryz.func91,Tryz.ntmps91
 go_upto_region 10 with (at_builtin;refine wpList_run Z3n (exec_append (.tmp 34) (.tmp 39) 52 3 rfl rfl rfl HAPP.out) ?_)
 have hcp1:=HC1.out
 go_upto_region 11 with (fail)
 refine tkX (S:=(fun _=>True)) 9 ?_ ?_
 · trivial
 intro hS0
 refine tkC 0 ?_
 refine tkC 1 ?_
 refine tkC 2 ?_
 refine tkC 3 ?_
 refine tkR 4 rfl (reads_slice Z3n rfl (fun W=>HS1.out W)) ?_
 refine tkC 5 ?_
 refine tkC 6 ?_
 refine tkR 7 rfl (reads_slice Z3n rfl (fun W=>HS2.out W)) ?_
 refine tk1 8 ?_
 refine Drawn.Step.value (exec_copy (.tmp 50) (.tmp 53) 52 52 rfl rfl rfl HC2.out) ?_
 refine ⟨fun _=>trivial,?_⟩
 (try simp only [tkp,tka,tkz,tks])
 refine tkE ?_
 go_wp2
 go_ret
 exact ⟨⟨G,rfl,⟨Y,hQ.out,hYs.out,by rw [hwl.out];omega,by unfold maxLen;omega,hYt.out⟩⟩,hO.out⟩
theorem insert_any {v:Value} {l:List Int} {w:World} {i vb:Nat} {x:Int} (h:KS w v l) (hi:i≤l.length) (hl:l.length≤10000) (hv:At w vb (.cells #[.int .i64 x] 3)) (hne:v.ownBlock≠some vb):Calls Tryz.prog 91 #[v,.int .i64 (i:Int),.slice (some ⟨vb,0,none⟩) 1 1] w fun e w'=>∃ v',e = .returned v'∧KS w' v' (Tr.wi l i x)∧Out (fun b=>v.ownBlock=some b) w w'∧(v'.ownBlock=v.ownBlock∨v'.ownBlock=some w.heap.size):=by
 by_cases hin:i=l.length
 · subst hin
   refine (insert_end h hl hv).mono ?_
   rintro e w' ⟨v',rfl,h1,h2,h3⟩
   exact ⟨v',rfl,by rw [Tr.wi,List.take_length,List.drop_length];exact h1,h2,h3⟩
 · rcases h.cases with ⟨rfl,rfl⟩ | ⟨g,c,rfl,hr⟩
   · simp at hi;simp [hi] at hin
   · have hvg:vb≠g:=fun e=>hne (by rw [e];rfl)
     by_cases hc:l.length<c
     · refine (insert_room hr Z3f hc hv hvg).mono ?_
       rintro e w' ⟨rfl,h1,h2⟩
       exact ⟨_,rfl,by have:=h1.ks;rw [Tr.length_wi] at this;exact this,h2.mono fun b _ e=>by subst e;rfl,.inl rfl⟩
     · have hcl:c=l.length:=by obtain ⟨_,_,_,h3,_⟩:=hr;omega
       subst hcl
       refine (insert_grow hr Z3f hl hv).mono ?_
       rintro e w' ⟨⟨c,rfl,h1⟩,h2⟩
       exact ⟨_,rfl,by have:=h1.ks;rw [Tr.length_wi] at this;exact this,Out.of_below h2,.inr rfl⟩
def ptr:Option Nat→Value
 | none => .pointer none
 | some b => .pointer (some ⟨b,0,none⟩)
def ptD:Option Nat→DataW Nat
 | none => .nil
 | some b => .held b
def ptR:Value→Option (DataW Nat × List MemPlace)
 | .pointer none=>some (.nil,[])
 | .pointer (some a)=>if a=⟨a.block,0,none⟩ then some (.held a.block,[]) else none
 | _=>none
theorem ptR_ptr (o:Option Nat):ptR (ptr o)=some (ptD o,[]):=by cases o <;> simp [ptr,ptR,ptD]
theorem ptR_inv {v:Value} {o:Option Nat} {ps:List MemPlace} (h:ptR v=some (ptD o,ps)):v=ptr o:=by
 cases v with
 | pointer p =>
   cases p with
   | none=>cases o <;> simp [ptR,ptD] at h;rfl
   | some a =>
     simp only [ptR] at h
     split at h
     · rename_i ha
       cases o <;> simp [ptD] at h
       rw [ha,h.1];rfl
     · cases h
 | _=>simp [ptR] at h
theorem keyLaw:Maps.Keyed Tryz.prog 3:=Maps.int_keyed Tryz.underlying3
def Wf (z:Int):Prop:=(Lit.int .i64 z).wf=true
theorem wf_iff (z:Int):Wf z ↔ -9223372036854775808≤z∧z≤9223372036854775807:=by
 unfold Wf
 constructor
 · intro h;exact bounds_i64 h
 · intro h;exact WalkArith.wf_i64 h
theorem key_int {z:Int} (h:Wf z):keyOf Tryz.prog 3 (.int .i64 z)=some (.int .i64 z):=Maps.keyOf_int_mk Tryz.underlying3 h
theorem keyLit (z:Int):WideAt.IsKeyLit (.int .i64 z):=trivial
theorem key_ne {y z:Int} (h:y≠z):Lit.int .i64 y≠Lit.int .i64 z:=fun e=>by injection e with _ e;exact h e
def PM (W:World) (b n:Nat) (f:Int→Option Nat):Prop :=
 ∃ D:DataW Nat,W.ownsMap Tryz.prog 3 ptR b n D∧Maps.size D=n∧∀ z,Wf z→D.atKey (.int .i64 z) .nil=ptD (f z)∧Maps.has D (.int .i64 z)=(f z).isSome
theorem ownsMap_tight {P:Program} {k:TypeId} {R:Value→Option (DataW Nat × List MemPlace)} {W:World} {b n:Nat} {D:DataW Nat} (h:W.ownsMap P k R b n D):W.ownsMap P k R b (Maps.size D) D:=by
 obtain ⟨es,clock,hb,F,hs,rfl⟩:=h
 exact ⟨es,clock,hb,F,by simp [Maps.size,length_sorted],rfl⟩
theorem PM.lt {W:World} {b n:Nat} {f:Int→Option Nat} (h:PM W b n f):b<W.heap.size:=by obtain ⟨D,h,_⟩:=h;exact h.lt
theorem PM.out {M:Nat→Prop} {W W':World} {b n:Nat} {f:Int→Option Nat} (h:PM W b n f) (hm:¬ M b) (k:Out M W W'):PM W' b n f:=by
 have hl:=h.lt
 obtain ⟨D,⟨es,clock,hb,r⟩,r2⟩:=h
 exact ⟨D,⟨es,clock,(k.2 b hl hm).trans hb,r⟩,r2⟩
theorem PM.congr {W:World} {b n:Nat} {f g:Int→Option Nat} (h:PM W b n f) (e:∀ z,Wf z→f z=g z):PM W b n g:=by
 obtain ⟨D,h1,h2,h3⟩:=h
 exact ⟨D,h1,h2,fun z hz=>by rw [← e z hz];exact h3 z hz⟩
theorem PM.look {W:World} {b n:Nat} {f:Int→Option Nat} (h:PM W b n f) {z:Int} (hz:Wf z):(Instr.lookup 116 (.map (some b)) (.int .i64 z) false).run Tryz.prog W = .ok (ptr (f z)) W:=by
 obtain ⟨D,h1,_,h3⟩:=h
 obtain ⟨v,ps,hr,hv⟩:=h1.lookup (z:=ptr none) (zd:= .nil) (zp:=[]) keyLaw Tryz.underlying116 Z3q (ptR_ptr none) (key_int hz)
 rw [(h3 z hz).1] at hv
 rw [hr,ptR_inv hv]
theorem PM.len {W:World} {b n:Nat} {f:Int→Option Nat} (h:PM W b n f) (ty:TypeId):(Builtin.len_ #[116] ty #[.map (some b)]).run Tryz.prog W = .ok (.int .i64 (n:Int)) W:=by
 obtain ⟨D,h1,h2,h3⟩:=h
 rw [h1.len Tryz.underlying116 ty,h2]
def fset (f:Int→Option Nat) (z:Int) (b:Nat):Int→Option Nat:=fun y=>if y=z then some b else f y
def fdel (f:Int→Option Nat) (z:Int):Int→Option Nat:=fun y=>if y=z then none else f y
theorem Out.turned {W W':World} {b:Nat} (h:W.mapTurned W' b):Out (fun x=>x=b) W W':=by
 have hg:=h.grown
 exact ⟨⟨hg.os,hg.tape,hg.output,hg.size,fun _ hb=>absurd hb (Nat.not_lt_zero _)⟩,fun x hx hm=>hg.block x hx (fun e=>hm (by injection e))⟩
theorem PM.store {W:World} {b n:Nat} {f:Int→Option Nat} (h:PM W b n f) (hn:n<maxLen) {z:Int} (hz:Wf z) (hf:f z=none) (c:Nat) :
  ∃ W',(Instr.mapUpdate 116 (.map (some b)) (.int .i64 z) (.pointer (some ⟨c,0,none⟩))).run Tryz.prog W = .ok () W'∧PM W' b (n + 1) (fset f z c)∧Out (fun x=>x=b) W W':=by
 obtain ⟨D,h1,h2,h3⟩:=h
 obtain ⟨W',hr,ho,ht⟩:=h1.store keyLaw Tryz.underlying116 hn (key_int hz) (ptR_ptr (some c))
 have hsz:Maps.size (D.put (.int .i64 z) (ptD (some c)))=n + 1:=by
  rw [Maps.size_put (h1.tidy keyLaw),(h3 z hz).2,hf,h2];rfl
 refine ⟨W',hr,⟨_,hsz ▸ ownsMap_tight ho,hsz,fun y hy => ?_⟩,Out.turned ht⟩
 unfold fset
 by_cases e:y=z
 · subst e
   rw [if_pos rfl,Maps.atKey_put_same h1.isMap (keyLit y),Maps.has_put_same h1.isMap (keyLit y)]
   exact ⟨rfl,rfl⟩
 · rw [if_neg e,Maps.atKey_put_other (key_ne e),Maps.has_put_other (key_ne e)]
   exact h3 y hy
theorem PM.drop {W:World} {b n:Nat} {f:Int→Option Nat} (h:PM W b n f) {z:Int} (hz:Wf z) (hf:(f z).isSome=true) (ty:TypeId) :
  ∃ W',(Builtin.delete_ #[116,3] ty #[.map (some b),.int .i64 z]).run Tryz.prog W = .ok (.tuple #[]) W'∧PM W' b (n - 1) (fdel f z)∧Out (fun x=>x=b) W W'∧1≤n:=by
 obtain ⟨D,h1,h2,h3⟩:=h
 obtain ⟨W',hr,ho,ht⟩:=h1.drop keyLaw Tryz.underlying116 (key_int hz) ty
 have hs:=Maps.size_del (k:= .int .i64 z) (h1.tidy keyLaw)
 rw [(h3 z hz).2,hf,h2] at hs
 have hsz:Maps.size (D.del (.int .i64 z))=n - 1:=by simp at hs;omega
 refine ⟨W',hr,⟨_,hsz ▸ ownsMap_tight ho,hsz,fun y hy => ?_⟩,Out.turned ht,by simp at hs;omega⟩
 unfold fdel
 by_cases e:y=z
 · subst e
   rw [if_pos rfl,Maps.atKey_del_same,Maps.has_del_same]
   exact ⟨rfl,rfl⟩
 · rw [if_neg e,Maps.atKey_del_other (key_ne e),Maps.has_del_other (key_ne e)]
   exact h3 y hy
theorem PM.made (W:World):PM (W.alloc (.map #[] 0)) W.heap.size 0 (fun _=>none) :=
 ⟨.map [],World.ownsMap_made _ _ _ _,rfl,fun z hz=>⟨rfl,rfl⟩⟩
def StyAt (W:World) (b o:Nat) (s:Re.St):Prop:=∀ j,j<55→W.cell? ⟨b,o + j,none⟩=some (cell s j)
theorem loadVar_sty {W:World} {b o:Nat} {s:Re.St} (h:StyAt W b o s):(loadVar 37 ⟨b,o,none⟩).run Tryz.prog W = .ok (.agg (cells s)) W:=by
 have hl:=run_loadCells_list (P:=Tryz.prog) W ⟨b,o,none⟩ (cells s).toList (fun j v hj=>by
  have hj':j<55:=by have:=(List.getElem?_eq_some_iff.1 hj).1;simpa [cells_size] using this
  rw [addr_add,h j hj']
  rw [Array.getElem?_toList,cells_get s hj'] at hj
  exact hj)
 rw [Array.length_toList,cells_size] at hl
 have hi:(isAgg 37).run Tryz.prog W = .ok true W:=by kernel_rfl
 have hz:(sizeOf 37).run Tryz.prog W = .ok 55 W:=by kernel_rfl
 simp only [loadVar,Sem.run_bind,hi,hz,hl,Result.andThen_ok,if_true,Sem.run_pure]
theorem load_sty {W:World} {b o:Nat} {s:Re.St} (h:StyAt W b o s):(Instr.loadAt 37 (.pointer (some ⟨b,o,none⟩))).run Tryz.prog W = .ok (.agg (cells s)) W:=by
 simp only [Instr.loadAt,Instr.sureAddr,Sem.run_bind,Sem.run_pure,Result.andThen_ok,loadVar_sty h]
theorem wpList_load_sty {ops:Array Oper} {rest:List Oper} {o:Oper} {a:Act} {w:World} {Q:Exit→Act→World→Prop} (hw:Region.wanted o (yielded ops a.tmps)=true) (x:Operand) (ho:o.op = .load 37 x) {b k:Nat} (hx:a.eval x = .pointer (some ⟨b,k,none⟩)) {s:Re.St} (hs:StyAt w b k s)
  (h:wpList Tryz.prog ops Q rest (a.put o.dst (.agg (cells s))) w):wpList Tryz.prog ops Q (o :: rest) a w :=
 wpList_value hw (by unfold execOp;simp only [ho,hx,Sem.run_bind,load_sty hs,Result.andThen_ok,Sem.run_pure]) h
def bcells (u:Int) (v:Value) (s:Re.St):Array Value:=#[.int .i64 u,v] ++ cells s
theorem bcells_size (u:Int) (v:Value) (s:Re.St):(bcells u v s).size=57:=by simp [bcells,cells_size]
theorem bcells_sty (u:Int) (v:Value) (s:Re.St) {j:Nat} (h:j<55):(bcells u v s)[2 + j]? = some (cell s j):=by
 unfold bcells
 rw [Array.getElem?_append_right Z3t,show 2 + j - (#[Value.int .i64 u,v]:Array Value).size=j by simp,cells_get s h]
theorem bcells_up (u:Int) (v:Value) (s:Re.St):(bcells u v s)[0]? = some (.int .i64 u):=by
 unfold bcells
 rw [Array.getElem?_append_left Z3t];rfl
theorem bcells_kids (u:Int) (v:Value) (s:Re.St):(bcells u v s)[1]? = some v:=by
 unfold bcells
 rw [Array.getElem?_append_left Z3t];rfl
theorem bcells_set_up (u u':Int) (v:Value) (s:Re.St):(bcells u v s).setIfInBounds 0 (.int .i64 u')=bcells u' v s:=by
 unfold bcells
 rw [Array.setIfInBounds_append_left Z3t];rfl
theorem bcells_set_kids (u:Int) (v v':Value) (s:Re.St):(bcells u v s).setIfInBounds 1 v'=bcells u v' s:=by
 unfold bcells
 rw [Array.setIfInBounds_append_left Z3t];rfl
theorem build_box_up (u:Int) (W:World):(Instr.build 114 #[(0,.int .i64 u)]).run Tryz.prog W = .ok (.agg (bcells u (.slice none 0 0) Re.zero)) W:=by kernel_rfl
theorem build_box_zero (W:World):(Instr.build 114 #[]).run Tryz.prog W = .ok (.agg (bcells 0 (.slice none 0 0) Re.zero)) W:=by kernel_rfl
theorem build_tree (b:Nat) (W:World):(Instr.build 118 #[(0,.map (some b))]).run Tryz.prog W = .ok (.agg #[.map (some b)]) W:=by kernel_rfl
theorem At.uniq {W:World} {b:Nat} {o o':Obj} (h:At W b o) (k:At W b o'):o=o':=Option.some.inj (h.symm.trans k)
theorem KS.rowAt {W:World} {v:Value} {l:List Int} (h:KS W v l) {g:Nat} (hg:v.ownBlock=some g):∃ cur:Array Value,At W g (.cells cur 3):=by
 rcases h.cases with ⟨rfl,_⟩ | ⟨g',c,rfl,cur,h1,_⟩
 · simp [Value.ownBlock] at hg
 · simp [Value.ownBlock] at hg;subst hg;exact ⟨cur,h1⟩
theorem PM.obj {W:World} {b n:Nat} {f:Int→Option Nat} (h:PM W b n f):∃ es clock,At W b (.map es clock):=by obtain ⟨D,⟨es,clock,hb,_⟩,_⟩:=h;exact ⟨es,clock,hb⟩
structure Lay where
 mb:Nat
 bl:Int→Nat
 sl:Int→Value
structure Rep (W:World) (t:Nat) (L:Lay) (T:Tr.T) (n:Nat):Prop where
 at_:At W t (.cells #[.map (some L.mb)] 118)
 map:PM W L.mb n (fun z=>(T z).map fun _=>L.bl z)
 box:∀ z nd,T z=some nd→At W (L.bl z) (.cells (bcells nd.up (L.sl z) nd.sty) 114)
 row:∀ z nd,T z=some nd→KS W (L.sl z) nd.kids
 inj:∀ y z,T y≠none→T z≠none→L.bl y=L.bl z→y=z
 apart:∀ y z g,T y≠none→T z≠none→(L.sl y).ownBlock=some g→(L.sl z).ownBlock=some g→y=z
 small:∀ z nd,T z=some nd→0≤z∧z<4096 ∧ -1≤nd.up∧nd.up<4096∧nd.kids.length≤4096
def owned (t:Nat) (L:Lay) (T:Tr.T) (b:Nat):Prop:=b=t∨b=L.mb∨∃ z nd,T z=some nd∧(b=L.bl z∨(L.sl z).ownBlock=some b)
section
variable {W W':World} {t n:Nat} {L:Lay} {T:Tr.T}
theorem Rep.out {M:Nat→Prop} (h:Rep W t L T n) (hm:∀ b,owned t L T b→¬ M b) (k:Out M W W'):Rep W' t L T n where
 at_:=h.at_.out (hm _ (.inl rfl)) k
 map:=h.map.out (hm _ (.inr (.inl rfl))) k
 box:=fun z nd hz=>(h.box z nd hz).out (hm _ (.inr (.inr ⟨z,nd,hz,.inl rfl⟩))) k
 row:=fun z nd hz=>(h.row z nd hz).out (fun g hg=>hm _ (.inr (.inr ⟨z,nd,hz,.inr hg⟩))) k
 inj:=h.inj
 apart:=h.apart
 small:=h.small
theorem Rep.after (h:Rep W t L T n) (hb:Below W.heap.size W W'):Rep W' t L T n:=h.out (M:=fun _=>False) (fun _ _ q=>q) (Out.of_below hb)
theorem Rep.alloc (h:Rep W t L T n) (o:Obj):Rep (W.alloc o) t L T n:=h.after (Below.alloc' (Below.refl _ _) o)
theorem Rep.lt (h:Rep W t L T n) {b:Nat} (hb:owned t L T b):b<W.heap.size:=by
 rcases hb with rfl | rfl | ⟨z,nd,hz,rfl | hg⟩
 · exact h.at_.lt
 · exact h.map.lt
 · exact (h.box z nd hz).lt
 · exact (h.row z nd hz).lt hg
theorem Rep.t_mb (h:Rep W t L T n):t≠L.mb:=fun e=>by
 obtain ⟨es,clock,h1⟩:=h.map.obj
 have:=h.at_.uniq (e ▸ h1);cases this
theorem Rep.bl_t (h:Rep W t L T n) {z:Int} {nd:Tr.Nd} (hz:T z=some nd):L.bl z≠t:=fun e=>by
 have:=(h.box z nd hz).uniq (e ▸ h.at_);injection this with _ e2;exact absurd e2 Z3i
theorem Rep.bl_mb (h:Rep W t L T n) {z:Int} {nd:Tr.Nd} (hz:T z=some nd):L.bl z≠L.mb:=fun e=>by
 obtain ⟨es,clock,h1⟩:=h.map.obj
 have:=(h.box z nd hz).uniq (e ▸ h1);cases this
theorem Rep.sl_t (h:Rep W t L T n) {z:Int} {nd:Tr.Nd} (hz:T z=some nd):(L.sl z).ownBlock≠some t:=fun e=>by
 obtain ⟨cur,h1⟩:=(h.row z nd hz).rowAt e
 have:=h1.uniq h.at_;injection this with _ e2;exact absurd e2 Z3i
theorem Rep.sl_mb (h:Rep W t L T n) {z:Int} {nd:Tr.Nd} (hz:T z=some nd):(L.sl z).ownBlock≠some L.mb:=fun e=>by
 obtain ⟨cur,h1⟩:=(h.row z nd hz).rowAt e
 obtain ⟨es,clock,h2⟩:=h.map.obj
 have:=h1.uniq h2;cases this
theorem Rep.sl_bl (h:Rep W t L T n) {z y:Int} {nd yd:Tr.Nd} (hz:T z=some nd) (hy:T y=some yd):(L.sl z).ownBlock≠some (L.bl y):=fun e=>by
 obtain ⟨cur,h1⟩:=(h.row z nd hz).rowAt e
 have:=h1.uniq (h.box y yd hy);injection this with _ e2;exact absurd e2 Z3i
theorem Rep.sl_nbl (h:Rep W t L T n) {z y:Int} {nd yd:Tr.Nd} (hz:T z=some nd) (hy:T y=some yd):∀ g,(L.sl z).ownBlock=some g→¬ (fun b=>b=L.bl y) g:=fun g hg (q:g=L.bl y)=>h.sl_bl hz hy (by rw [hg,q])
theorem Rep.sl_nmb (h:Rep W t L T n) {z:Int} {nd:Tr.Nd} (hz:T z=some nd):∀ g,(L.sl z).ownBlock=some g→¬ (fun b=>b=L.mb) g:=fun g hg (q:g=L.mb)=>h.sl_mb hz (by rw [hg,q])
theorem Rep.wf (h:Rep W t L T n) {z:Int} {nd:Tr.Nd} (hz:T z=some nd):Wf z:=by have:=h.small z nd hz;rw [wf_iff];omega
theorem Rep.look (h:Rep W t L T n) {z:Int} (hz:Wf z):(Instr.lookup 116 (.map (some L.mb)) (.int .i64 z) false).run Tryz.prog W = .ok (ptr ((T z).map fun _=>L.bl z)) W:=h.map.look hz
theorem Rep.look_none (h:Rep W t L T n) {z:Int} (hz:Wf z) (hn:T z=none):(Instr.lookup 116 (.map (some L.mb)) (.int .i64 z) false).run Tryz.prog W = .ok (.pointer none) W:=by
 have:=h.look hz;rw [hn] at this;exact this
theorem Rep.look_some (h:Rep W t L T n) {z:Int} {nd:Tr.Nd} (hn:T z=some nd):(Instr.lookup 116 (.map (some L.mb)) (.int .i64 z) false).run Tryz.prog W = .ok (.pointer (some ⟨L.bl z,0,none⟩)) W:=by
 have:=h.look (h.wf hn);rw [hn] at this;exact this
theorem Rep.cUp (h:Rep W t L T n) {z:Int} {nd:Tr.Nd} (hz:T z=some nd):W.cell? ⟨L.bl z,0,none⟩=some (.int .i64 nd.up):=by rw [(h.box z nd hz).cell,bcells_up]
theorem Rep.cKids (h:Rep W t L T n) {z:Int} {nd:Tr.Nd} (hz:T z=some nd):W.cell? ⟨L.bl z,1,none⟩=some (L.sl z):=by rw [(h.box z nd hz).cell,bcells_kids]
theorem Rep.sty (h:Rep W t L T n) {z:Int} {nd:Tr.Nd} (hz:T z=some nd):StyAt W (L.bl z) 2 nd.sty:=fun j hj=>by rw [(h.box z nd hz).cell,bcells_sty _ _ _ hj]
theorem Rep.cT (h:Rep W t L T n):W.cell? ⟨t,0,none⟩=some (.map (some L.mb)):=by rw [h.at_.cell];rfl
def Grow (t:Nat) (L L':Lay) (T T':Tr.T) (W W':World):Prop:=Out (owned t L T) W W'∧∀ b,owned t L' T' b→owned t L T b∨W.heap.size≤b
theorem Grow.refl (t:Nat) (L:Lay) (T:Tr.T) (W:World):Grow t L L T T W W:=⟨Out.refl _ _,fun _ h => .inl h⟩
theorem Grow.of_below (h:Below W.heap.size W W'):Grow t L L T T W W':=⟨Out.of_below h,fun _ h => .inl h⟩
theorem Grow.trans {W'':World} {L' L'':Lay} {T' T'':Tr.T} (h:Grow t L L' T T' W W') (k:Grow t L' L'' T' T'' W' W''):Grow t L L'' T T'' W W'':=by
 refine ⟨⟨h.1.1.trans k.1.1,fun b hb hm=>(k.1.2 b (Nat.lt_of_lt_of_le hb h.1.size) fun q => ?_).trans (h.1.2 b hb hm)⟩,fun b hb => ?_⟩
 · rcases h.2 b q with q | q
   · exact hm q
   · omega
 · rcases k.2 b hb with q | q
   · exact h.2 b q
   · exact .inr (Nat.le_trans h.1.size q)
theorem Rep.setUp (h:Rep W t L T n) {z u:Int} {nd:Tr.Nd} (hz:T z=some nd) (hu : -1≤u∧u<4096):Rep (W.setCell ⟨L.bl z,0,none⟩ (.int .i64 u)) t L (Tr.set T z { nd with up:=u }) n∧Grow t L L T (Tr.set T z { nd with up:=u }) W (W.setCell ⟨L.bl z,0,none⟩ (.int .i64 u)):=by
 have hO:Out (fun b=>b=L.bl z) W (W.setCell ⟨L.bl z,0,none⟩ (.int .i64 u)):=(Out.refl _ _).set (M:=fun b=>b=L.bl z) rfl 0 _
 have hnn:∀ y,(Tr.set T z { nd with up:=u } y≠none↔T y≠none):=fun y=>by
  exact Z3a
 refine ⟨⟨h.at_.out (fun e=>h.bl_t hz e.symm) hO,(h.map.out (fun e=>h.bl_mb hz e.symm) hO).congr fun y _ => ?_,fun y yd hy => ?_,fun y yd hy => ?_,fun x y hx hy=>h.inj x y ((hnn x).1 hx) ((hnn y).1 hy),fun x y g hx hy=>h.apart x y g ((hnn x).1 hx) ((hnn y).1 hy),fun y yd hy => ?_⟩,hO.mono fun b _ e => .inr (.inr ⟨z,nd,hz,.inl e⟩),fun b hb => .inl ?_⟩
 · exact Z39
 · by_cases e:y=z
   · subst e;rw [Tr.set_same] at hy;cases hy
     have:=(h.box y nd hz).set 0 (.int .i64 u)
     rw [bcells_set_up] at this
     exact this
   · rw [Tr.set_other _ _ e] at hy
     exact (h.box y yd hy).off (fun q=>e (h.inj y z (by simp [hy]) (by simp [hz]) q)) _ _
 · exact Z31
 · by_cases e:y=z
   · subst e;rw [Tr.set_same] at hy;cases hy
     have:=h.small y nd hz
     exact ⟨this.1,this.2.1,hu.1,hu.2,this.2.2.2.2⟩
   · exact Z3d
 · exact Z2m
theorem Rep.setSty (h:Rep W t L T n) {z:Int} {s:Re.St} {nd:Tr.Nd} (hz:T z=some nd):Rep (W.setRow (L.bl z) (bcells nd.up (L.sl z) s)) t L (Tr.set T z { nd with sty:=s }) n∧Grow t L L T (Tr.set T z { nd with sty:=s }) W (W.setRow (L.bl z) (bcells nd.up (L.sl z) s)):=by
 have hO:Out (fun b=>b=L.bl z) W (W.setRow (L.bl z) (bcells nd.up (L.sl z) s)):=(Out.refl _ _).setRow (M:=fun b=>b=L.bl z) rfl _
 have hnn:∀ y,(Tr.set T z { nd with sty:=s } y≠none↔T y≠none):=fun y=>by
  exact Z3a
 refine ⟨⟨h.at_.out (fun e=>h.bl_t hz e.symm) hO,(h.map.out (fun e=>h.bl_mb hz e.symm) hO).congr fun y _ => ?_,fun y yd hy => ?_,fun y yd hy => ?_,fun x y hx hy=>h.inj x y ((hnn x).1 hx) ((hnn y).1 hy),fun x y g hx hy=>h.apart x y g ((hnn x).1 hx) ((hnn y).1 hy),fun y yd hy => ?_⟩,hO.mono fun b _ e => .inr (.inr ⟨z,nd,hz,.inl e⟩),fun b hb => .inl ?_⟩
 · exact Z39
 · by_cases e:y=z
   · subst e;rw [Tr.set_same] at hy;cases hy
     exact (h.box y nd hz).setRow _
   · rw [Tr.set_other _ _ e] at hy
     exact (h.box y yd hy).offRow (fun q=>e (h.inj y z (by simp [hy]) (by simp [hz]) q)) _
 · exact Z31
 · by_cases e:y=z
   · subst e;rw [Tr.set_same] at hy;cases hy
     exact h.small y nd hz
   · exact Z3d
 · exact Z2m
theorem Rep.setKids (h:Rep W t L T n) {z:Int} {nd:Tr.Nd} {l:List Int} {v:Value} (hz:T z=some nd) (hO1:Out (fun b=>(L.sl z).ownBlock=some b) W W') (hv:KS W' v l) (hloc:v.ownBlock=(L.sl z).ownBlock∨v.ownBlock=none∨∃ b,v.ownBlock=some b∧W.heap.size≤b) (hl:l.length≤4096) :
  Rep (W'.setCell ⟨L.bl z,1,none⟩ v) t { L with sl:=fun y=>if y=z then v else L.sl y } (Tr.set T z { nd with kids:=l }) n∧Grow t L { L with sl:=fun y=>if y=z then v else L.sl y } T (Tr.set T z { nd with kids:=l }) W (W'.setCell ⟨L.bl z,1,none⟩ v):=by
 have hO2:Out (fun b=>b=L.bl z) W' (W'.setCell ⟨L.bl z,1,none⟩ v):=(Out.refl _ _).set (M:=fun b=>b=L.bl z) rfl 1 _
 have hnn:∀ y,(Tr.set T z { nd with kids:=l } y≠none↔T y≠none):=fun y=>by
  exact Z3a
 have hrow:∀ y yd,y≠z→T y=some yd→∀ g,(L.sl y).ownBlock=some g→¬ (L.sl z).ownBlock=some g:=fun y yd e hy g hg q=>e (h.apart y z g (by simp [hy]) (by simp [hz]) hg q)
 have hvz:v.ownBlock≠some (L.bl z):=by
  rcases hloc with e | e | ⟨b,e,hb⟩
  · rw [e];exact h.sl_bl hz hz
  · rw [e];simp
  · rw [e];intro q;injection q with q;have:=(h.box z nd hz).lt;omega
 have hO3:Out (owned t L T) W (W'.setCell ⟨L.bl z,1,none⟩ v):=by
  refine Out.trans (hO1.mono fun b _ e => .inr (.inr ⟨z,nd,hz,.inr e⟩)) ?_
  exact hO2.mono fun b _ e => .inr (.inr ⟨z,nd,hz,.inl e⟩)
 refine ⟨⟨(h.at_.out (fun e=>h.sl_t hz e) hO1).out (fun e=>h.bl_t hz e.symm) hO2,((h.map.out (fun e=>h.sl_mb hz e) hO1).out (fun e=>h.bl_mb hz e.symm) hO2).congr fun y _ => ?_,fun y yd hy => ?_,fun y yd hy => ?_,fun x y hx hy=>h.inj x y ((hnn x).1 hx) ((hnn y).1 hy),fun x y g hx hy => ?_,fun y yd hy => ?_⟩,hO3,fun b hb => ?_⟩
 · exact Z39
 · by_cases e:y=z
   · subst e;rw [Tr.set_same] at hy;cases hy
     have:=((h.box y nd hz).out (fun e=>h.sl_bl hz hz e) hO1).set 1 v
     rw [bcells_set_kids] at this
     simp only [if_true]
     exact this
   · rw [Tr.set_other _ _ e] at hy
     simp only [if_neg e]
     exact ((h.box y yd hy).out (fun e=>h.sl_bl hz hy e) hO1).off (fun q=>e (h.inj y z (by simp [hy]) (by simp [hz]) q)) _ _
 · by_cases e:y=z
   · subst e;rw [Tr.set_same] at hy;cases hy
     simp only [if_true]
     exact hv.out (M:=fun b=>b=L.bl y) (fun g hg (q:g=L.bl y)=>hvz (by rw [hg,q])) hO2
   · rw [Tr.set_other _ _ e] at hy
     simp only [if_neg e]
     exact ((h.row y yd hy).out (hrow y yd e hy) hO1).out (h.sl_nbl hy hz) hO2
 · have new:∀ y,T y≠none→y≠z→(L.sl y).ownBlock=some g→v.ownBlock=some g→False:=fun y hy e h1 h2=>by
    obtain ⟨yd,hyd⟩:=Option.ne_none_iff_exists'.1 hy
    rcases hloc with q | q | ⟨b,q,hb⟩
    · exact hrow y yd e hyd g h1 (q ▸ h2)
    · rw [q] at h2;cases h2
    · rw [q] at h2;injection h2 with h2;have:=(h.row y yd hyd).lt h1;omega
   by_cases e1:x=z
   · by_cases e2:y=z
     · intro _ _;rw [e1,e2]
     · intro h1 h2
       simp only [if_pos e1] at h1
       simp only [if_neg e2] at h2
       exact (new y ((hnn y).1 hy) e2 h2 h1).elim
   · by_cases e2:y=z
     · intro h1 h2
       simp only [if_neg e1] at h1
       simp only [if_pos e2] at h2
       exact (new x ((hnn x).1 hx) e1 h1 h2).elim
     · intro h1 h2
       simp only [if_neg e1] at h1
       simp only [if_neg e2] at h2
       exact h.apart x y g ((hnn x).1 hx) ((hnn y).1 hy) h1 h2
 · by_cases e:y=z
   · subst e;rw [Tr.set_same] at hy;cases hy
     have:=h.small y nd hz
     exact ⟨this.1,this.2.1,this.2.2.1,this.2.2.2.1,hl⟩
   · exact Z3d
 · rcases hb with e | e | ⟨y,yd,hy,e⟩
   · exact .inl (.inl e)
   · exact .inl (.inr (.inl e))
   · by_cases e2:y=z
     · subst e2
       rcases e with e | e
       · exact .inl (.inr (.inr ⟨y,nd,hz,.inl e⟩))
       · simp only [if_true] at e
         rcases hloc with q | q | ⟨c,q,hc⟩
         · exact .inl (.inr (.inr ⟨y,nd,hz,.inr (q ▸ e)⟩))
         · rw [q] at e;cases e
         · rw [q] at e;injection e with e;subst e;exact .inr hc
     · rw [Tr.set_other _ _ e2] at hy
       simp only [if_neg e2] at e
       exact .inl (.inr (.inr ⟨y,yd,hy,e⟩))
theorem Rep.add (h:Rep W t L T n) {z:Int} {b:Nat} {u:Int} {s:Re.St} (hz:T z=none) (hr:0≤z∧z<4096) (hu : -1≤u∧u<4096) (hb:At W b (.cells (bcells u (.slice none 0 0) s) 114)) (hnew:¬ owned t L T b) {W':World} (hO:Out (fun x=>x=L.mb) W W') (hm:PM W' L.mb (n + 1) (fset (fun z=>(T z).map fun _=>L.bl z) z b)) :
  Rep W' t { L with bl:=fun y=>if y=z then b else L.bl y,sl:=fun y=>if y=z then .slice none 0 0 else L.sl y } (Tr.set T z ⟨u,[],s⟩) (n + 1)∧Out (owned t L T) W W'∧∀ x,owned t { L with bl:=fun y=>if y=z then b else L.bl y,sl:=fun y=>if y=z then .slice none 0 0 else L.sl y } (Tr.set T z ⟨u,[],s⟩) x→owned t L T x∨x=b:=by
 have hne:∀ y yd,T y=some yd→y≠z:=fun y yd hy e=>by rw [e,hz] at hy;cases hy
 have hbm:b≠L.mb:=fun e=>hnew (.inr (.inl e))
 have old:∀ y,y≠z→(Tr.set T z ⟨u,[],s⟩ y≠none→T y≠none):=fun y e=>by rw [Tr.set_other _ _ e];exact id
 refine ⟨⟨h.at_.out (fun e=>h.t_mb e) hO,hm.congr fun y _ => ?_,fun y yd hy => ?_,fun y yd hy => ?_,fun x y hx hy => ?_,fun x y g hx hy => ?_,fun y yd hy => ?_⟩,hO.mono fun x _ e => .inr (.inl e),fun x hx => ?_⟩
 · unfold fset
   by_cases e:y=z
   · subst e;simp [Tr.set_same]
   · simp [e,Tr.set_other _ _ e]
 · exact Z2t
 · by_cases e:y=z
   · subst e;rw [Tr.set_same] at hy;cases hy
     simp only [if_true]
     exact KS.nil _
   · rw [Tr.set_other _ _ e] at hy
     simp only [if_neg e]
     exact (h.row y yd hy).out (h.sl_nmb hy) hO
 · have new:∀ y,T y≠none→L.bl y≠b:=fun y hy q=>by
    obtain ⟨yd,hyd⟩:=Option.ne_none_iff_exists'.1 hy
    exact hnew (.inr (.inr ⟨y,yd,hyd,.inl q.symm⟩))
   by_cases e1:x=z
   · by_cases e2:y=z
     · intro _;rw [e1,e2]
     · intro q;simp only [if_pos e1,if_neg e2] at q;exact (new y (old y e2 hy) q.symm).elim
   · by_cases e2:y=z
     · intro q;simp only [if_neg e1,if_pos e2] at q;exact (new x (old x e1 hx) q).elim
     · intro q;simp only [if_neg e1,if_neg e2] at q;exact h.inj x y (old x e1 hx) (old y e2 hy) q
 · by_cases e1:x=z
   · intro q;simp only [if_pos e1] at q;cases q
   · by_cases e2:y=z
     · intro _ q;simp only [if_pos e2] at q;cases q
     · intro q r;simp only [if_neg e1] at q;simp only [if_neg e2] at r
       exact h.apart x y g (old x e1 hx) (old y e2 hy) q r
 · by_cases e:y=z
   · subst e;rw [Tr.set_same] at hy;cases hy
     exact ⟨hr.1,hr.2,hu.1,hu.2,by simp⟩
   · exact Z3d
 · rcases hx with e | e | ⟨y,yd,hy,e⟩
   · exact .inl (.inl e)
   · exact .inl (.inr (.inl e))
   · by_cases e2:y=z
     · simp only [if_pos e2] at e
       rcases e with e | e
       · exact .inr e
       · cases e
     · rw [Tr.set_other _ _ e2] at hy
       simp only [if_neg e2] at e
       exact .inl (.inr (.inr ⟨y,yd,hy,e⟩))
theorem Rep.drop (h:Rep W t L T n) {z:Int} {W':World} (hO:Out (fun x=>x=L.mb) W W') (hm:PM W' L.mb (n - 1) (fdel (fun z=>(T z).map fun _=>L.bl z) z)) :
  Rep W' t L (Tr.del T [z]) (n - 1)∧Grow t L L T (Tr.del T [z]) W W':=by
 have sub:∀ y yd,Tr.del T [z] y=some yd→T y=some yd∧y≠z:=fun y yd hy=>by
  unfold Tr.del at hy
  by_cases e:y=z
  · simp [e] at hy
  · simp [e] at hy;exact ⟨hy,e⟩
 have nn:∀ y,Tr.del T [z] y≠none→T y≠none:=fun y hy=>by
  obtain ⟨yd,hyd⟩:=Option.ne_none_iff_exists'.1 hy
  rw [(sub y yd hyd).1];simp
 refine ⟨⟨h.at_.out (fun e=>h.t_mb e) hO,hm.congr fun y _ => ?_,fun y yd hy=>(h.box y yd (sub y yd hy).1).out (fun q=>h.bl_mb (sub y yd hy).1 q) hO,fun y yd hy=>(h.row y yd (sub y yd hy).1).out (h.sl_nmb (sub y yd hy).1) hO,fun x y hx hy=>h.inj x y (nn x hx) (nn y hy),fun x y g hx hy=>h.apart x y g (nn x hx) (nn y hy),fun y yd hy=>h.small y yd (sub y yd hy).1⟩,hO.mono fun x _ e => .inr (.inl e),fun x hx => .inl ?_⟩
 · unfold fdel Tr.del
   by_cases e:y=z
   · simp [e]
   · simp [e]
 · rcases hx with e | e | ⟨y,yd,hy,e⟩
   · exact .inl e
   · exact .inr (.inl e)
   · exact .inr (.inr ⟨y,yd,(sub y yd hy).1,e⟩)
end
section
variable {w:World} {t n:Nat} {L:Lay} {T:Tr.T}
theorem tall_any {w:World} {t n:Nat} {L:Lay} {T:Tr.T} (h:Rep w t L T n):Calls Tryz.prog 63 #[.pointer (some ⟨t,0,none⟩)] w fun e w'=>e = .returned (.map (some L.mb))∧w=w':=by
 have c0:=h.cT
 clear h
 generalize L.mb=mb at *
 go_enter Tryz.func63,Tryz.ntmps63
 go_wp2
 exact Z21
theorem thas_any (h:Rep w t L T n) {z:Int} (hz:Wf z):Calls Tryz.prog 33 #[.pointer (some ⟨t,0,none⟩),.int .i64 z] w fun e w'=>e = .returned (.bool (T z).isSome)∧w=w':=by
 have HR:=Lib.hid h
 cases hT:T z with
 | none =>
   have hl:=h.look_none hz hT
   clear h
   go_enter Tryz.func33,Tryz.ntmps33
   exact Z2p
 | some nd =>
   have hl:=h.look_some hT
   clear h
   go_enter Tryz.func33,Tryz.ntmps33
   exact Z2p
def upOf (T:Tr.T) (z:Int):Int:=match T z with
 | none => -1
 | some nd=>nd.up
theorem tup_any (h:Rep w t L T n) {z:Int} (hz:Wf z):Calls Tryz.prog 52 #[.pointer (some ⟨t,0,none⟩),.int .i64 z] w fun e w'=>e = .returned (.int .i64 (upOf T z))∧w=w':=by
 have key:=thas_any h hz
 unfold upOf
 cases hT:T z with
 | none =>
   rw [hT] at key
   clear h
   go_enter Tryz.func52,Tryz.ntmps52
   exact Z2z
 | some nd =>
   rw [hT] at key
   have hl:=h.look_some hT
   have c0:=h.cT
   have c1:=h.cUp hT
   clear h
   go_enter Tryz.func52,Tryz.ntmps52
   exact Z2z
theorem tlen_any (h:Rep w t L T n):Calls Tryz.prog 55 #[.pointer (some ⟨t,0,none⟩)] w fun e w'=>e = .returned (.int .i64 (n:Int))∧w=w':=by
 have HR:=Lib.hid h
 have hl:=fun ty=>h.map.len ty
 clear h
 go_enter Tryz.func55,Tryz.ntmps55
 exact Z2p
theorem tkids_any (h:Rep w t L T n) {z:Int} (hz:Wf z):Calls Tryz.prog 88 #[.pointer (some ⟨t,0,none⟩),.int .i64 z] w fun e w'=>(∃ v,e = .returned v∧w'.ownsRow w.heap.size 3 1 v ((T z).elim [] (·.kids)).length (((T z).elim [] (·.kids)).map (Value.int .i64)))∧Below w.heap.size w w':=by
 have key:=thas_any h hz
 cases hT:T z with
 | none =>
   rw [hT] at key
   clear h
   go_enter Tryz.func88,Tryz.ntmps88
   go_wp2_with (go_at_call 33;(with_reducible refine key.mono ?_);rintro e w' ⟨rfl,rfl⟩)
   go_ret
   exact ⟨⟨_,rfl,World.ownsRow_nil _ _ _ _⟩,Below.refl _ _⟩
 | some nd =>
   rw [hT] at key
   have hl:=h.look_some hT
   have c0:=h.cT
   have c1:=h.cKids hT
   have key2:=clone_any (h.row z nd hT) (by have:=(h.small z nd hT).2.2.2.2;omega)
   obtain ⟨A,c,hs,_⟩:=(h.row z nd hT).ints
   rw [hs] at key2 c1
   show Calls _ _ _ _ fun e w'=>(∃ v,e = .returned v∧w'.ownsRow w.heap.size 3 1 v nd.kids.length (nd.kids.map (Value.int .i64)))∧Below w.heap.size w w'
   clear h
   generalize nd.kids=l at *
   generalize l.length=m at *
   clear hs
   go_enter Tryz.func88,Tryz.ntmps88
   go_wp2_with (first | (go_at_call 33;(with_reducible refine key.mono ?_);rintro e w' ⟨rfl,rfl⟩) | (go_at_call 128;(with_reducible refine key2.mono ?_);rintro e w' ⟨⟨v,rfl,ho⟩,hb⟩))
   go_ret
   exact ⟨⟨_,rfl,ho⟩,hb⟩
theorem results_sty1 {fn:Func} {p:Tmp} (h:fn.results=#[.cell p 37]) (tmps:Array Value) {W:World} {b:Nat} {s:Re.St} (hp:tmps.getD p undef = .pointer (some ⟨b,0,none⟩)) (ha:At W b (.cells (cells s) 37)) :
  (results fn tmps).run Tryz.prog W = .ok (.agg (cells s)) W:=by
 have hp':tmps[p]?.getD undef = .pointer (some ⟨b,0,none⟩):=by simpa using hp
 simp [results,h,hp',asAddr,loadVar_style ha]
theorem tstyle_any (h:Rep w t L T n) {z:Int} (hz:Wf z):Calls Tryz.prog 25 #[.pointer (some ⟨t,0,none⟩),.int .i64 z] w fun e w'=>e = .returned (.agg (cells ((T z).elim Re.zero (·.sty))))∧Below w.heap.size w w':=by
 have h1:=h.alloc (.cells (cells Re.zero) 37)
 have key:=thas_any h1 hz
 have hA:At (w.alloc (.cells (cells Re.zero) 37)) w.heap.size (.cells (cells Re.zero) 37):=At.new _ _
 have hB:Below w.heap.size w (w.alloc (.cells (cells Re.zero) 37)):=Below.alloc' (Below.refl _ _) _
 cases hT:T z with
 | none =>
   rw [hT] at key
   clear h h1
   generalize hW:w.alloc (.cells (cells Re.zero) 37)=w1 at *
   go_enter Tryz.func25,Tryz.ntmps25
   go_wp2_with (first | (refine wpList_alloc_style Z3n rfl ?_;rw [hW];clear hW) | (refine wpList_alloc_style Z3n rfl ?_) | (refine wpList_build_zero Z3n rfl ?_) | (refine wpList_load_style Z3n _ rfl rfl Z3l ?_) | (refine wpList_store_same Z3n _ _ rfl rfl rfl Z3l ?_) | (refine wpList_store_style Z3n _ _ rfl rfl rfl Z3l ?_) | (go_at_call 33;(with_reducible refine key.mono ?_);rintro e w' ⟨rfl,rfl⟩))
   refine bodyPost_ret (results_sty1 rfl _ Z3n hA) rfl ⟨rfl,hB⟩
 | some nd =>
   rw [hT] at key
   have hl:=h1.look_some hT
   have c0:=h1.cT
   have hS:=Lib.hid (h1.sty hT)
   show Calls _ _ _ _ fun e w'=>e = .returned (.agg (cells nd.sty))∧_
   clear h h1
   generalize nd.sty=s at *
   generalize hW:w.alloc (.cells (cells Re.zero) 37)=w1 at *
   generalize hb:w.heap.size=b at *
   go_enter Tryz.func25,Tryz.ntmps25
   go_wp2_with (first | (refine wpList_alloc_style Z3n rfl ?_;rw [hW,hb];clear hW) | (refine wpList_load_sty Z3n _ rfl rfl hS.out ?_) | (refine wpList_store_style Z3n _ _ rfl rfl rfl hA ?_) | (go_at_call 33;(with_reducible refine key.mono ?_);rintro e w' ⟨rfl,rfl⟩))
   refine bodyPost_ret (results_sty1 rfl _ Z3n (hA.setRow _)) rfl ⟨rfl,below_setRow hB (Nat.le_refl _) _⟩
end
section
variable {w:World} {t n:Nat} {L:Lay} {T:Tr.T}
def IsFree (T:Tr.T) (z:Int):Prop:=0≤z∧T z=none∧∀ y,0≤y→y<z→T y≠none
theorem tfree_any (h:Rep w t L T n):Calls Tryz.prog 56 #[.pointer (some ⟨t,0,none⟩)] w fun e w'=>(∃ z,e = .returned (.int .i64 z)∧IsFree T z)∧w'=w:=by
 have hs:∀ z,T z≠none→z<4096:=fun z hz=>by obtain ⟨nd,hn⟩:=Option.ne_none_iff_exists'.1 hz;exact (h.small z nd hn).2.1
 have HR:=Lib.hid h
 clear h
 go_enter Tryz.func56,Tryz.ntmps56
 go_wp2
 go_loop [3] (fun p=>∃ k:Nat,k≤4096∧p = .int .i64 k∧∀ y:Int,0≤y→y<k→T y≠none) (fun p=>4096 - (intOf p).toNat)
 case atStart=>exact ⟨0,by omega,rfl,fun y h0 h1=>by omega⟩
 case round =>
  obtain ⟨k,hk,rfl,hb⟩:=hrel
  have key:=thas_any HR.out (z:=(k:Int)) Z47
  have HB:=Lib.hid hb
  clear hb
  cases hT:T (k:Int) with
  | none =>
    rw [hT] at key
    go_wp2_with (go_at_call 33;(with_reducible refine key.mono ?_);rintro e w' ⟨rfl,rfl⟩)
    go_ret
    exact ⟨⟨_,rfl,by omega,hT,HB.out⟩,rfl⟩
  | some nd =>
    rw [hT] at key
    have hk4:=hs k (by simp [hT])
    go_wp2_with (go_at_call 33;(with_reducible refine key.mono ?_);rintro e w' ⟨rfl,rfl⟩)
    go_round
    case rel=>exact ⟨k + 1,by omega,by go_num,fun y h0 h1=>by
     by_cases e:y=k
     · subst e;simp [hT]
     · exact HB.out y h0 Z3f⟩
    case measure=>simp [intOf];omega
end
section
variable {w:World} {t n:Nat} {L:Lay} {T:Tr.T}
theorem tdepth_some (h:Rep w t L T n) (hr:∀ nd,T 0=some nd→nd.up = -1) {z:Int} {d:Nat} (hd:Tr.Dp T z d) (hd63:d≤1000):Calls Tryz.prog 34 #[.pointer (some ⟨t,0,none⟩),.int .i64 z] w fun e w'=>e = .returned (.int .i64 (d:Int))∧w'=w:=by
 have hm:T (-1)=none:=by
  cases e:T (-1) with
  | none=>rfl
  | some nd=>have:=(h.small _ nd e).1;omega
 have HR:=Lib.hid h
 have HROOT:=Lib.hid hr
 have HD:=Lib.hid hd
 clear h hr hd
 go_enter Tryz.func34,Tryz.ntmps34
 go_wp2
 go_loop [1,5] (fun i p=>(∃ (y:Int) (m:Nat) (k:Int),i = .int .i64 y∧p = .int .i64 k∧m≤d∧k=(d:Int) - m - 1∧Tr.Dp T y m)∨(i = .int .i64 (-1)∧p = .int .i64 (d:Int))) (fun _ p=>(d - intOf p).toNat)
 case atStart=>exact .inl ⟨z,d, -1,rfl,rfl,Nat.le_refl _,by omega,HD.out⟩
 case round =>
  rcases hrel with ⟨y,m,k,rfl,rfl,hmd,hk,hD⟩ | ⟨rfl,rfl⟩
  · obtain ⟨nd,hT⟩:=hD.live
    have key:=thas_any HR.out (HR.out.wf hT)
    have key2:=tup_any HR.out (HR.out.wf hT)
    rw [hT] at key
    have hu:Hid (upOf T y=nd.up):=Lib.hid (by unfold upOf;rw [hT])
    generalize upOf T y=u at *
    have hw:IntKind.i64.wrap (k + 1)=k + 1:=by rw [IntWalk.i64_in _ Z3f]
    have HK:=Lib.hid hk
    have HDD:=Lib.hid hD
    clear hk hD
    go_wp2_with (first | (go_at_call 33;(with_reducible refine key.mono ?_);rintro e w' ⟨rfl,rfl⟩) | (go_at_call 52;(with_reducible refine key2.mono ?_);rintro e w' ⟨rfl,rfl⟩))
    go_round
    case rel =>
     have hk:=HK.out
     rw [hu.out]
     cases HDD.out with
     | root h0=>rw [HROOT.out nd hT];exact .inr ⟨rfl,by rw [hk];congr 1;omega⟩
     | step h1 h0 h2 =>
       rw [hT] at h1;cases h1
       exact .inl ⟨nd.up,_,k + 1,rfl,rfl,by omega,by omega,h2⟩
    case measure=>have hk:=HK.out;simp [intOf];omega
  · have key:=thas_any HR.out (z := -1) Z47
    rw [hm] at key
    exact Z2z
end
end Go.Proofs.YteggipnplbkijaaGreat.Fix
