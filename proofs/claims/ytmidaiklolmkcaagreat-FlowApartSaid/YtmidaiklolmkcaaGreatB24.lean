/- What functions of the program do, in plain numbers; no conditions. -/
import Derived.Test.YtmidaiklolmkcaaGreatM23
set_option linter.unusedVariables false
set_option linter.unusedSimpArgs false
set_option linter.unusedSectionVars false
set_option maxRecDepth 100000
set_option maxHeartbeats 16000000
namespace Go.Proofs.YtmidaiklolmkcaaGreat.Fix
open Go.ChangeShapes Go.WideShapes Go.ChangeAt Go.RowKit
section
variable {w:World} {t n:Nat} {L:Lay} {T:Tr.T}
theorem MI(h:fV w t L T n)(hr:∀nd,T 0=some nd->nd.up = -1){z:Int}{d:Nat}(hd:Tr.Dp T z d){nd:Tr.Nd}(hT:T z=some nd)(ks:List Int)(hks:nd.kids=ks)(hk:∀x∈ks,∃xd,T x=some xd)(hl:ks.length<=5000):Calls Tryz.prog 10 #[.pointer (some ⟨t,0,none⟩),.int .i64 z] w λe w'=>(∃v,e=.returned v/\w'.ownsRow w.heap.size 3 1 v (if uH T (d+1) z=true then nC T ks else []).length ((if uH T (d+1) z=true then nC T ks else []).map (Value.int .i64)))/\Below w.heap.size w w':=by
 have key:=vQ h hr hd;have key2:=λX (hb:Below w.heap.size w X)=>GQ (h.after hb) hT ks hks hk hl;clear h hr hd hT hks hk hl;cases hs:uH T (d+1) z
 . rw[hs]at key
   clear hs key2;show Calls _ _ _ _ λe w'=>(∃v,e=.returned v/\w'.ownsRow w.heap.size 3 1 v 0 [])/\_;go_enter Tryz.func10,Tryz.ntmps10
   go_wp2_with (go_at_call 11;(with_reducible refine key.mono ?_);rintro e w1 ⟨rfl,hb1⟩)
   go_ret
   exact⟨⟨_,rfl,World.ownsRow_nil _ _ _ _⟩,hb1⟩
 . rw[hs]at key
   clear hs;show Calls _ _ _ _ λe w'=>(∃v,e=.returned v/\w'.ownsRow w.heap.size 3 1 v (nC T ks).length ((nC T ks).map (Value.int .i64)))/\_;go_enter Tryz.func10,Tryz.ntmps10
   go_wp2_with (first|(go_at_call 11;(with_reducible refine key.mono ?_);rintro e w1 ⟨rfl,hb1⟩)|(go_at_call 29;(with_reducible refine(key2 _ hb1).mono ?_);rintro e w2 ⟨⟨v,u,rfl,hv,hu,-⟩,hb2⟩))
   go_ret
   exact⟨⟨_,rfl,fH hv hb1.size⟩,Below.ay hb1 aD hb2⟩
end
theorem Pq(n:Nat)(a b c d a' b' c' d':Int)(w:World):(Op.equalIn (n+1+1) 39 (.agg #[.int .i64 a,.int .i64 b,.int .i64 c,.int .i64 d]) (.agg #[.int .i64 a',.int .i64 b',.int .i64 c',.int .i64 d'])).run Tryz.prog w=.ok (decide (a=a')&&decide (b=b')&&decide (c=c')&&decide (d=d')) w:=by
 have hi:=run_equalIn_int (P:=Tryz.prog) w n 3 .i64 .i64;have hr:List.range' 0 4=[0,1,2,3]:=rfl;have hs:Tryz.t3.size=1:=by kernel_rfl
 have hu:Tryz.prog.underlying 3=some (.int .i64):=Tryz.underlying3;unfold Op.equalIn;by_cases h1:a=a'<;>by_cases h2:b=b'<;>by_cases h3:c=c'<;>by_cases h4:d=d'<;>simp[run_underlying Tryz.underlying39,sizeOf,hr,hs,part,hi _ _ hu,h1,h2,h3,h4]
theorem Jw(a b c d a' b' c' d':Int)(w:World):(binOp .eql 39 (.agg #[.int .i64 a,.int .i64 b,.int .i64 c,.int .i64 d]) (.agg #[.int .i64 a',.int .i64 b',.int .i64 c',.int .i64 d'])).run Tryz.prog w=.ok (.bool (decide (a=a')&&decide (b=b')&&decide (c=c')&&decide (d=d'))) w:=by
 rw[run_eql_struct,show(10000:Nat)=9998+1+1 from rfl,Pq];rfl
theorem FR(a b c d a' b' c' d':Int)(w:World):(binOp .eql 51 (.agg #[.int .i64 a,.int .i64 b,.int .i64 c,.int .i64 d]) (.agg #[.int .i64 a',.int .i64 b',.int .i64 c',.int .i64 d'])).run Tryz.prog w=.ok (.bool (decide (a=a')&&decide (b=b')&&decide (c=c')&&decide (d=d'))) w:=by
 rw[run_eql_struct];by_cases h1:a=a'<;>by_cases h2:b=b'<;>by_cases h3:c=c'<;>by_cases h4:d=d'<;>go_simp<;>simp[h1,h2,h3,h4]
theorem MJ(w:World):Calls Tryz.prog 5 #[] w λe w'=>e=.returned (.bool true)/\Below w.heap.size w w':=by
 have hbs:∀X,(Instr.build 46 #[(26,.agg #[.int .i64 30,.int .i64 20]),(11,.agg #[.int .i64 1,.int .i64 2,.int .i64 3,.int .i64 4])]).run Tryz.prog X=.ok (.agg (cells MU)) X:=λX=>by kernel_rfl
 have hb2:∀X,(Instr.build 44 #[(0,.int .i64 30),(1,.int .i64 20)]).run Tryz.prog X=.ok (.agg #[.int .i64 30,.int .i64 20]) X:=λX=>by kernel_rfl
 have hb4:∀X,(Instr.build 39 #[(0,.int .i64 1),(1,.int .i64 2),(2,.int .i64 3),(3,.int .i64 4)]).run Tryz.prog X=.ok (.agg #[.int .i64 1,.int .i64 2,.int .i64 3,.int .i64 4]) X:=λX=>by kernel_rfl
 have hbr:∀X,(Instr.build 51 #[(2,.int .i64 100),(3,.int .i64 24)]).run Tryz.prog X=.ok (.agg #[.int .i64 0,.int .i64 0,.int .i64 100,.int .i64 24]) X:=λX=>by kernel_rfl
 go_enter Tryz.func5,Tryz.ntmps5
 go_upto_region 4 with(go_at_call 14;(with_reducible refine(Mr w).mono ?_);rintro e w1 ⟨⟨t,rfl,L0,g0⟩,hb0⟩)
 have hs0:=hb0.size;have kA:=adN g0 aj hs0;clear g0
 go_upto_region 5 with(go_at_call 15;(with_reducible refine kA.mono ?_);rintro e w2 ⟨rfl,L1,n1,g1,hn1,hbA⟩)
 clear kA;have hs1:w.heap.size<=w2.heap.size:=aJ hs0 hbA.size;have kS:=vR g1 hs1 (x:=1) ((iX _).2 aj) adT;rw[Xn,aa5]at kS
 go_upto_region 6 with(go_at_call 13;refine Calls.mono (show _ from kS) ?_;rintro e w3 ⟨rfl,g2,-, hbS⟩)
 clear kS;have hs2:w.heap.size<=w3.heap.size:=aJ hs1 hbS.size;have em1:max (100:Int) 0=100:=by decide
 have em2:max (50:Int) 0=50:=by decide
 have kL:=Xh g2.inv.rep g2.inv.wf (λz nd h=>(Qx z nd h).1) (λz nd h=>(Qx z nd h).2) 100 50 (by have:=adS;unfold maxLen;omega) (by rw[em1,em2];have:=agr;unfold maxLen;omega) (by have:=adU;unfold maxLen;omega);rw[em1,em2]at kL;clear em1 em2
 go_upto_region 7 with(go_at_call 7;(with_reducible refine kL.mono ?_);rintro e w4 ⟨⟨b,nr,rfl,gb,hG,hnr⟩,hbL⟩)
 clear kL;obtain⟨x0,x1,hl,i0,i1,v0,v1⟩:=adR;have hnd:([x0,x1].map (·.id)).Nodup:=by simp[i0,i1]
 have hG2:pF Ey 100 50=jA (λ_=>none) [x0,x1]:=by unfold pF;rw[hl]
 rw[hG2]at hG;have hq0:jA (λ_=>none) [x0,x1] (.int .i64 0)=some (rcv x0):=by
  have h:=sM [x0,x1] (λ_=>none) x0 hnd eZ
  rwa [i0]at h
 have hq1:jA (λ_=>none) [x0,x1] (.int .i64 1)=some (rcv x1):=by
  have h:=sM [x0,x1] (λ_=>none) x1 hnd eZ
  rwa [i1]at h
 have w0:Wf 0:=by rw[iX];omega
 have w1':Wf 1:=by rw[iX];omega
 have hn2:nr=2:=by
  have h1:=hG.ge (l:=[0,1]) aH (λz hz=>by
   simp only[List.mem_cons,List.not_mem_nil,or_false]at hz;rcases hz with rfl|rfl
   . exact⟨w0,by rw[hq0];rfl⟩
   . exact⟨w1',by rw[hq1];rfl⟩)
  rw[hl]at hnr;simp at h1 hnr;omega
 subst hn2;have hk0:=hG.look mU Tryz.underlying28 (z:=.agg #[.int .i64 0,.int .i64 0,.int .i64 0,.int .i64 0]) jD (mJ w0);have hk1:=hG.look mU Tryz.underlying28 (z:=.agg #[.int .i64 0,.int .i64 0,.int .i64 0,.int .i64 0]) jD (mJ w1');rw[hq0,Option.getD_some,v0]at hk0;rw[hq1,Option.getD_some,v1]at hk1;have hln:=λty=>hG.len Tryz.underlying28 ty;have g4:=g2.after hbL;have hs3:w.heap.size<=w4.heap.size:=aJ hs2 hbL.size;have hT0:Ey 0=some ⟨-1,[1],Re.zero⟩:=rfl;have hd0:Tr.Dp Ey 0 0:=.root hT0;have hd1:Tr.Dp Ey 1 1:=.step (nd:=⟨0,[],MU⟩) rfl aH hd0
 have kF:=MI g4.inv.rep (λnd h=>by rw[hT0]at h;injection h with h;rw[<-h]) hd0 hT0 [1] rfl (λx hx=>by
  simp only[List.mem_cons,List.not_mem_nil,or_false]at hx;subst hx
  exact⟨⟨0,[],MU⟩,rfl⟩) aH
 rw[aa6,if_pos rfl,Xo]at kF
 have kF:Calls Tryz.prog 10 _ w4 λe w'=>(∃g c,e=.returned (.slice (some ⟨g,0,none⟩) 1 c))/\Below w4.heap.size w4 w':=kF.mono λe w' h=>by
  obtain⟨⟨v,rfl,hown⟩,hb⟩:=h;have ho:w'.ownsRow w4.heap.size 3 1 v (0+1) ([1].map (.int .i64)):=hown;obtain⟨g,c,rfl⟩:=ownsRow_succ ho;exact⟨⟨g,c,rfl⟩,hb⟩
 have kSh:=λX (h:Below w4.heap.size w4 X)=>vQ (g4.after h).inv.rep (λnd h=>by rw[hT0]at h;injection h with h;rw[<-h]) hd1;simp only[show uH Ey (1+1) 1=true from aa7]at kSh;have kSt:=λX (h:Below w4.heap.size w4 X)=>oC (g4.after h).inv.rep (z:=1) w1';simp only[show(Ey 1).elim Re.zero (·.sty)=MU from rfl]at kSt;have hed:=λX=>Dx MU X;have e0:Fw.ed MU 0=1:=by decide
 have e1:Fw.ed MU 1=2:=by decide
 have e2:Fw.ed MU 2=3:=by decide
 have e3:Fw.ed MU 3=4:=by decide
 simp only[e0,e1,e2,e3]at hed;have agL:Below w.heap.size w w4:=((hb0.trans hbA).trans hbS).trans (hbL.mono hs2);have er:=FR 0 0 100 24 0 0 100 24;have ef:=Jw 1 2 3 4 1 2 3 4;clear e0 e1 e2 e3 hG hq0 hq1 hG2 hl hnd g2 g1 hbA hbS hb0 gb hnr v0 v1 i0 i1 hT0 hd0 hd1
 go_wp2_with (first|(go_at_call 10;(with_reducible refine kF.mono ?_);rintro e w5 ⟨⟨gv,cv,rfl⟩,hb5⟩)|(go_at_call 11;(with_reducible refine(kSh _ hb5).mono ?_);rintro e w6 ⟨rfl,hb6⟩)|(go_at_call 9;(with_reducible refine(kSt _ (hb5.trans (hb6.mono hb5.size))).mono ?_);rintro e w7 ⟨rfl,wX⟩)|(go_at_call 16;(with_reducible refine(hed _).mono ?_);rintro e w8 ⟨rfl,wW⟩))
 go_ret
 refine⟨rfl,?_⟩;have h1:=hb5.size;have h2:=hb6.size;have h3:=wX.size;exact agL.trans (((hb5.mono hs3).trans (hb6.mono aj)).trans ((wX.mono aj).trans (wW.mono aj)))
end Go.Proofs.YtmidaiklolmkcaaGreat.Fix

namespace Go.Proofs.YtmidaiklolmkcaaGreat.Fix
theorem coll_ge0 {l : List Int} (h : ∀ x ∈ l, 0 ≤ x) : 0 ≤ Fx.coll l := by
  have a := Fx.H6 l
  have b := Fx.Pz l
  have b2 : 0 ≤ Fx.bot l := (Fx.yx l 0 0).2 ⟨by omega, h⟩
  unfold Fx.coll Fx.add Fx.cut
  (repeat' split) <;> omega
end Go.Proofs.YtmidaiklolmkcaaGreat.Fix
namespace Go.Proofs.YtmidaiklolmkcaaGreat.Fix
open Go.ChangeShapes Go.WideShapes Go.ChangeAt Go.RowKit
set_option linter.unusedVariables false
set_option linter.unusedSimpArgs false
set_option linter.unusedSectionVars false
set_option maxRecDepth 100000
section
variable {B : Int → Fw.Bx} (hT : ∀ z, TV (B z).sty) (hN : ∀ f, f ≤ 64 → ∀ z, Aj B f z ≤ 32) (hn : ∀ z, (B z).fl.length ≤ 32) {ww wh : Int} (hw : 0 ≤ ww ∧ ww ≤ 1048576) (hh : 0 ≤ wh ∧ wh ≤ 1048576)
include hT hN hn hw hh
theorem tl_kids {T : Tr.T} (hBT : B = kg T) : ∀ (f : Nat), f ≤ 64 → ∀ x : Fw.Ld, TB (RB f) x → Big B x → Tr.Fit T f x.id → ∀ y ∈ tl B ww wh f x, ∃ g, g + 1 ≤ 64 ∧ TB (RB (g + 1)) y ∧ ∀ k ∈ (Fw.cont B (g + 1) y.id y.i0 y.i1).1, Qt (B y.id).sty k ∈ tl B ww wh f x := by
  intro f
  induction f with
  | zero => intro _ x _ _ h; exact h.elim
  | succ f ih =>
    intro hf x h hb hfit y hy
    obtain ⟨nd, hTx, hk⟩ := hfit
    have ekid : ∀ k, k ∈ (B x.id).fl ∨ k ∈ (B x.id).ap → k ∈ nd.kids := fun k hk => by
      rw [hBT] at hk
      exact nO (T := T) hTx hk
    rw [tl] at hy ⊢
    rcases List.mem_cons.1 hy with rfl | hy
    · refine ⟨f, hf, h, fun k hk => ?_⟩
      refine List.mem_cons_of_mem _ (List.mem_append_left _ (List.mem_flatMap.2 ⟨k, hk, ?_⟩))
      cases f with
      | zero => exact List.mem_singleton.2 rfl
      | succ f => rw [tl]; exact List.mem_cons_self
    rcases List.mem_append.1 hy with hy | hy
    · obtain ⟨k, hkm, hy⟩ := List.mem_flatMap.1 hy
      obtain ⟨s, p0, p1⟩ := (Po hT hN hn (f + 1) hf x.id x.i0 x.i1 h.i0 h.i1).2.2 k hkm
      have e3 := zk (hT x.id).1 (i := 3) (by decide)
      have e0 := zk (hT x.id).1 (i := 0) (by decide)
      have agH : RB (f + 1) + 16777216 = RB f := by unfold RB; omega
      obtain ⟨s1, s2, s3, s4⟩ := s
      have hc := Fw.Md B (f + 1) x.id x.i0 x.i1 (fun h => by omega)
      have MP : k.id ∈ (B x.id).fl := by rw [← hc]; exact List.mem_map_of_mem hkm
      obtain ⟨g, hg, Yv, hall⟩ := ih (by omega) (Qt (B x.id).sty k) ⟨by show rB (RB f) k.i0; unfold rB; omega, by show rB (RB f) k.i1; unfold rB; omega, by show 0 ≤ k.s0 ∧ k.s0 ≤ RB f; omega, by show 0 ≤ k.s1 ∧ k.s1 ≤ RB f; omega,
        by show Ab (Fw.wr _) _; unfold Ab at *; rw [cO (by omega)]; omega, by show Ab (Fw.wr _) _; unfold Ab at *; rw [cO (by omega)]; omega⟩ (Mt (fun z => (hT z).1) (f + 1) x.id x.i0 x.i1 k hkm) (hk k.id (ekid _ (.inl MP))) y hy
      exact ⟨g, hg, Yv, fun j hj => List.mem_cons_of_mem _ (List.mem_append_left _ (List.mem_flatMap.2 ⟨k, hkm, hall j hj⟩))⟩
    · obtain ⟨k, hkm, hy⟩ := List.mem_flatMap.1 hy
      obtain ⟨g, hg, Yv, hall⟩ := ih (by omega) _ (abn hT hN hn hw hh (by omega) k h hb.1.1 hb.2.1) (Mv (fun z => (hT z).1) ww wh f k x) (hk k (ekid _ (.inr hkm))) y hy
      exact ⟨g, hg, Yv, fun j hj => List.mem_cons_of_mem _ (List.mem_append_right _ (List.mem_flatMap.2 ⟨k, hkm, hall j hj⟩))⟩
end
section
variable {B : Int → Fw.Bx} (hT : ∀ z, TV (B z).sty) (hm : ∀ z, 0 ≤ (B z).sty.c 16 ∧ 0 ≤ (B z).sty.c 20)
include hm
theorem mg_ge0 (e : Nat) (r : Int) (z : Int) : 0 ≤ Fw.mg (B z).sty 1 e r := by
  have h := hm z
  have key : ∀ k n : Int, 0 ≤ n → 0 ≤ Fx.len k n (-1) 0 := fun k n hn => by
    unfold Fx.len
    split
    · exact Fx.xC hn
    · rw [if_neg (by omega)]; decide
  unfold Fw.mg Fw.sd
  rw [if_neg (by decide)]
  by_cases e0 : e = 0
  · rw [if_pos e0]; exact key _ _ h.1
  · rw [if_neg e0]; exact key _ _ h.2
theorem meet_ge0 (e : Nat) : ∀ (f : Nat) (z : Int), ∀ x ∈ Fw.meet B e f z, 0 ≤ x := by
  intro f
  induction f with
  | zero =>
    intro z x hx
    rw [Fw.meet, List.mem_singleton] at hx
    subst hx
    exact mg_ge0 hm e (-1) z
  | succ f ih =>
    intro z x hx
    rw [Fw.meet] at hx
    rcases List.mem_cons.1 hx with rfl | hx
    · exact mg_ge0 hm e (-1) z
    · split at hx
      · split at hx
        · exact ih _ x hx
        · simp at hx
      · simp at hx
include hT
theorem block_next {lay : Int → Int → Int → Int → Int → Fw.Ld} {M : Int} {C : Int → Int} (hM : 536870912 ≤ M) (hM2 : M ≤ 1627389952) (HL : LB B lay M C) {f : Nat} {z i0 i1 : Int} (h0 : rB M i0) (h1 : rB M i1) (hn : (B z).fl.length ≤ 32) {j : Nat} (hj : j + 1 < (B z).fl.length) :
    ∃ x y, (Fw.lH B lay f z i0 i1).1[j]? = some x ∧ (Fw.lH B lay f z i0 i1).1[j + 1]? = some y ∧ x.id = (B z).fl.getD j 0 ∧ y.id = (B z).fl.getD (j + 1) 0 ∧ x.a1 + x.s1 ≤ y.a1 := by
  obtain ⟨b, hb⟩ : ∃ b, B z = b := ⟨_, rfl⟩
  rw [hb] at hn hj ⊢
  obtain ⟨sz, hsz⟩ : ∃ l, (b.fl.map (Fw.jR B lay i0 i1)).map (·.s1) = l := ⟨_, rfl⟩
  obtain ⟨tp, htp⟩ : ∃ l, (b.fl.map fun k => Fx.coll (Fw.meet B 0 f k)) = l := ⟨_, rfl⟩
  obtain ⟨bt, hbt⟩ : ∃ l, (b.fl.map fun k => Fx.coll (Fw.meet B 1 f k)) = l := ⟨_, rfl⟩
  obtain ⟨first, hfi⟩ : ∃ a, (if Fw.opn b.sty b.ib 0 = true then (0 : Int) else tp.getD 0 0) = a := ⟨_, rfl⟩
  have hcc : ∀ j, Ab (Fx.coll [bt.getD (j - 1) 0, tp.getD j 0]) 1048576 := fun j => by rw [← htp, ← hbt]; exact XM hT 1 f 0 f b.fl j
  have hs : ∀ j, Ab (sz.getD j 0) (M + 16777216) := fun j => by
    refine wE (by omega) (fun x hx => ?_) j
    rw [← hsz] at hx
    obtain ⟨y, hy, rfl⟩ := List.mem_map.1 hx
    obtain ⟨k, _, rfl⟩ := List.mem_map.1 hy
    have := (XO hT hM hM2 HL h0 h1 k).1.s1
    unfold Ab; omega
  have hf1 : Ab first 1048576 := by
    rw [← hfi]
    split
    · unfold Ab; omega
    · refine wE (by omega) (fun x hx => ?_) _
      rw [← htp] at hx
      obtain ⟨k, _, rfl⟩ := List.mem_map.1 hx
      exact Jt (by omega) (QE hT 0 f k)
  have hco : 0 ≤ Fx.coll [bt.getD j 0, tp.getD (j + 1) 0] := by
    have g : ∀ (e : Nat) (l : List Int) (i : Nat), l = b.fl.map (fun k => Fx.coll (Fw.meet B e f k)) → 0 ≤ l.getD i 0 := fun e l i hl => by
      rw [List.getD]
      cases h : l[i]? with
      | none => simp
      | some x =>
        have := List.mem_of_getElem? h
        rw [hl] at this
        obtain ⟨k, _, rfl⟩ := List.mem_map.1 this
        exact coll_ge0 (meet_ge0 hm e f k)
    refine coll_ge0 fun x hx => ?_
    simp only [List.mem_cons, List.mem_singleton, List.not_mem_nil, or_false] at hx
    rcases hx with rfl | rfl
    · exact g 1 bt _ hbt.symm
    · exact g 0 tp _ htp.symm
  have ah8 := XI hs hcc j
  have hmul := Int.mul_le_mul_of_nonneg_right (show (j : Int) ≤ 32 by omega) (show 0 ≤ M + 16777216 + 1048576 by omega)
  have hsj := hs j
  have hcj := hcc (j + 1)
  rw [Nat.add_sub_cancel] at hcj
  have en : Fx.kZ sz tp bt (j + 1) = Fx.kZ sz tp bt j + sz.getD j 0 + Fx.coll [bt.getD j 0, tp.getD (j + 1) 0] := by
    rw [Fx.Gd _ _ _ (by omega), Nat.add_sub_cancel, Fx.xE, Pg ah8 hsj (by omega)]
    refine Pg (x := 100000000000) ?_ hcj (by omega)
    unfold Ab at *
    omega
  have ebl : (Fw.lH B lay f z i0 i1).1 = (b.fl.map (Fw.jR B lay i0 i1)).mapIdx fun i x => { x with a1 := Fw.wr (first + Fx.kZ sz tp bt i) } := by
    unfold Fw.lH
    simp only [hb, hsz, htp, hbt, hfi]
  have g : ∀ i (hi : i < b.fl.length), (Fw.lH B lay f z i0 i1).1[i]? = some { Fw.jR B lay i0 i1 b.fl[i] with a1 := Fw.wr (first + Fx.kZ sz tp bt i) } := fun i hi => by
    rw [ebl, List.getElem?_mapIdx, List.getElem?_map, List.getElem?_eq_getElem hi]
    rfl
  have hid : ∀ k, (Fw.jR B lay i0 i1 k).id = k := fun k => HL.id k i0 i1 (-1) (-1)
  have hsx : sz.getD j 0 = (Fw.jR B lay i0 i1 (b.fl[j]'(by omega))).s1 := by
    rw [← hsz, List.getD, List.getElem?_map, List.getElem?_map, List.getElem?_eq_getElem (show j < b.fl.length by omega)]
    rfl
  refine ⟨_, _, g j (by omega), g (j + 1) hj, ?_, ?_, ?_⟩
  · show (Fw.jR B lay i0 i1 _).id = _
    rw [hid, List.getD, List.getElem?_eq_getElem (show j < b.fl.length by omega), Option.getD_some]
  · show (Fw.jR B lay i0 i1 _).id = _
    rw [hid, List.getD, List.getElem?_eq_getElem hj, Option.getD_some]
  · show Fw.wr (first + Fx.kZ sz tp bt j) + (Fw.jR B lay i0 i1 _).s1 ≤ Fw.wr (first + Fx.kZ sz tp bt (j + 1))
    rw [← hsx, en]
    unfold Ab at *
    rw [cO (by omega), cO (by omega)]
    omega
end
theorem next_lays {T : Tr.T} {n : Nat} (M : xS T n) (h32 : n ≤ 32) (hv : VT T) (hmg : ∀ z nd, T z = some nd → 0 ≤ nd.sty.c 16 ∧ 0 ≤ nd.sty.c 20) {ww wh : Int} (hw : 0 ≤ ww ∧ ww ≤ 1048576) (hh : 0 ≤ wh ∧ wh ≤ 1048576) {z : Int} {d : Nat} (hd : Tr.Dp T z d) (hs : uH T (d + 1) z = true) (h0 : (dw T z).c 0 = 0)
    {j : Nat} (hj : j + 1 < (kg T z).fl.length) (r1 : (dw T ((kg T z).fl.getD j 0)).c 1 ≠ 1) (r2 : (dw T ((kg T z).fl.getD (j + 1) 0)).c 1 ≠ 1) :
    ∃ p0 p1 p2 p3 q0 q1 q2 q3 : Int, pF T ww wh (.int .i64 ((kg T z).fl.getD j 0)) = some (.agg #[.int .i64 p0, .int .i64 p1, .int .i64 p2, .int .i64 p3]) ∧ pF T ww wh (.int .i64 ((kg T z).fl.getD (j + 1) 0)) = some (.agg #[.int .i64 q0, .int .i64 q1, .int .i64 q2, .int .i64 q3]) ∧ p1 + p3 ≤ q1 ∧ Ab p1 1000000000000 ∧ Ab p3 1000000000000 := by
  have hT : ∀ z, TV (kg T z).sty := fun z => by
    show TV (dw T z)
    unfold dw
    cases h : T z with
    | none => exact Jr
    | some nd => exact hv z nd h
  have hm : ∀ z, 0 ≤ (kg T z).sty.c 16 ∧ 0 ≤ (kg T z).sty.c 20 := fun z => by
    show 0 ≤ (dw T z).c 16 ∧ 0 ≤ (dw T z).c 20
    unfold dw
    cases h : T z with
    | none => exact ⟨Int.le_refl _, Int.le_refl _⟩
    | some nd => exact hmg z nd h
  have hN := abq M.wf M.num h32
  have hl : ∀ z, (kg T z).fl.length ≤ 32 := fun z => by
    have h1 := hN 1 (by decide) z
    have h2 := XG (g := Aj (kg T) 0) (l := (kg T z).fl) fun k _ => uo _ _ _
    have h3 : Aj (kg T) 1 z = 1 + zs (Aj (kg T) 0) (kg T z).fl := rfl
    omega
  rcases M.told ww wh hd with ⟨hno, _⟩ | ⟨_, X, hX, hXz, _, _⟩
  · rw [hno] at hs; cases hs
  have hr := (adX M.wf hd hs).1
  have hL : qB T ww wh = tl (kg T) ww wh 64 (sK T ww wh) := by unfold qB; rw [if_pos hr]
  have hn1 := (M.zl ww wh).1
  rw [hL] at hX
  have HL0 := XR hT hN hl (Nat.le_refl _) (Po hT hN hl 64 (Nat.le_refl _)) (M := 536870912) (by omega) (by omega) (by unfold RB; omega)
  obtain ⟨s1, s2, s3, s4⟩ := HL0.sz 0 ww wh (-1) (-1) ⟨by omega, by omega⟩ ⟨by omega, by omega⟩ pV pV
  have hroot : TB (RB 64) (sK T ww wh) := by
    refine ⟨?_, ?_, ?_, ?_, ?_, ?_⟩
    · show rB (RB 64) (Fw.iU (kg T) (Fw.cont (kg T) 64) 0 ww wh (-1) (-1)).i0
      unfold rB RB; omega
    · show rB (RB 64) (Fw.iU (kg T) (Fw.cont (kg T) 64) 0 ww wh (-1) (-1)).i1
      unfold rB RB; omega
    · show 0 ≤ (Fw.iU (kg T) (Fw.cont (kg T) 64) 0 ww wh (-1) (-1)).s0 ∧ (Fw.iU (kg T) (Fw.cont (kg T) 64) 0 ww wh (-1) (-1)).s0 ≤ RB 64
      unfold RB; omega
    · show 0 ≤ (Fw.iU (kg T) (Fw.cont (kg T) 64) 0 ww wh (-1) (-1)).s1 ∧ (Fw.iU (kg T) (Fw.cont (kg T) 64) 0 ww wh (-1) (-1)).s1 ≤ RB 64
      unfold RB; omega
    · show Ab 0 _
      unfold Ab; omega
    · show Ab 0 _
      unfold Ab; omega
  have hbig : Big (kg T) (sK T ww wh) := Big.iU (fun z => (hT z).1) _ 0 ww wh (nP fun z => (hT z).1) (nP fun z => (hT z).1)
  obtain ⟨g, hg, hTB, hall⟩ := tl_kids hT hN hl hw hh rfl 64 (Nat.le_refl _) _ hroot hbig M.wf.rT X hX
  have hsm := agJ hT hN hl hw hh 64 (Nat.le_refl _) _ hroot hbig
  rw [hXz] at hall
  have hMf : RB (g + 1) + 12582912 ≤ RB g := by unfold RB; omega
  have hM : 536870912 ≤ RB (g + 1) := by unfold RB; omega
  have hM2 : RB (g + 1) ≤ 1627389952 := by unfold RB; omega
  have HL := XR hT hN hl (by omega) (Po hT hN hl g (by omega)) hM hM2 hMf
  obtain ⟨x, y, ex, ey, ix, iy, hle⟩ := block_next hT hm hM hM2 HL (f := g) (z := z) hTB.i0 hTB.i1 (hl z) hj
  have hne : (kg T z).fl ≠ [] := fun e => by rw [e] at hj; simp at hj
  have hc0 : (kg T z).sty.c 0 = 0 := h0
  have ec : (Fw.cont (kg T) (g + 1) z X.i0 X.i1).1 = (Fw.lH (kg T) (Fw.iU (kg T) (Fw.cont (kg T) g)) g z X.i0 X.i1).1.map (Fw.mv (kg T) X.i0 X.i1) := by
    have ek : Fw.kind (kg T) (Fw.iU (kg T) (Fw.cont (kg T) g)) g z X.i0 X.i1 = Fw.lH (kg T) (Fw.iU (kg T) (Fw.cont (kg T) g)) g z X.i0 X.i1 := by
      unfold Fw.kind
      rw [if_neg (by omega), if_neg (by omega)]
    simp only [Fw.cont, if_neg hne, ek]
  have mvx : ∀ u : Fw.Ld, (dw T u.id).c 1 ≠ 1 → Fw.mv (kg T) X.i0 X.i1 u = u := fun u hu => by
    unfold Fw.mv
    exact if_neg hu
  have mx : x ∈ (Fw.cont (kg T) (g + 1) z X.i0 X.i1).1 := by
    rw [ec]
    exact List.mem_map.2 ⟨x, List.mem_of_getElem? ex, mvx x (by rw [ix]; exact r1)⟩
  have my : y ∈ (Fw.cont (kg T) (g + 1) z X.i0 X.i1).1 := by
    rw [ec]
    exact List.mem_map.2 ⟨y, List.mem_of_getElem? ey, mvx y (by rw [iy]; exact r2)⟩
  have kx := hall x mx
  have ky := hall y my
  obtain ⟨_, b1, _, a1⟩ := hsm _ kx
  obtain ⟨_, b2, _, a2⟩ := hsm _ ky
  have g1 := sM _ (fun _ => none) _ hn1 kx
  have g2 := sM _ (fun _ => none) _ hn1 ky
  have e1 : (Qt (kg T z).sty x).id = (kg T z).fl.getD j 0 := ix
  have e2 : (Qt (kg T z).sty y).id = (kg T z).fl.getD (j + 1) 0 := iy
  rw [e1] at g1
  rw [e2] at g2
  refine ⟨Fx.cut (Qt (kg T z).sty x).a0, Fx.cut (Qt (kg T z).sty x).a1, Fx.cut (Qt (kg T z).sty x).s0, Fx.cut (Qt (kg T z).sty x).s1, Fx.cut (Qt (kg T z).sty y).a0, Fx.cut (Qt (kg T z).sty y).a1, Fx.cut (Qt (kg T z).sty y).s0, Fx.cut (Qt (kg T z).sty y).s1, ?_, ?_, ?_, (qC a1).le (by omega), ?_⟩
  · unfold pF; rw [hL]; exact g1
  · unfold pF; rw [hL]; exact g2
  · obtain ⟨sx, px, py⟩ := (Po hT hN hl (g + 1) hg z X.i0 X.i1 hTB.i0 hTB.i1).2.2 x mx
    obtain ⟨sy, qx, qy⟩ := (Po hT hN hl (g + 1) hg z X.i0 X.i1 hTB.i0 hTB.i1).2.2 y my
    have ed0 := zk (hT z).1 (i := 0) (by decide)
    have w1 : (Qt (kg T z).sty x).a1 = x.a1 + Fw.ed (kg T z).sty 0 := by
      show Fw.wr _ = _
      unfold Ab at py
      rw [cO (by omega)]
    have w2 : (Qt (kg T z).sty y).a1 = y.a1 + Fw.ed (kg T z).sty 0 := by
      show Fw.wr _ = _
      unfold Ab at qy
      rw [cO (by omega)]
    have w3 : (Qt (kg T z).sty x).s1 = x.s1 := rfl
    rw [w1] at a1
    rw [w2] at a2
    rw [w3] at b1
    unfold Ab at a1 a2
    rw [w1, w2, w3, Fx.fM (n := x.a1 + _) (by omega) (by omega), Fx.fM (n := y.a1 + _) (by omega) (by omega), Fx.fM (n := x.s1) (by omega) (by omega)]
    omega
  · refine (qC (c := 2000000000) ?_).le (by omega)
    unfold Ab; omega
end Go.Proofs.YtmidaiklolmkcaaGreat.Fix
namespace Go.Proofs.YtmidaiklolmkcaaGreat.Fix
open Go.ChangeShapes Go.WideShapes Go.ChangeAt Go.RowKit Go.Deep Go.Joins Go.Shelf
set_option linter.unusedVariables false
set_option linter.unusedSimpArgs false
set_option maxRecDepth 100000
theorem look_any {G : Lit → Option Value} {x : Int} (hf : G (.int .i64 x) = none ∨ ∃ y, G (.int .i64 x) = some (rcv y)) (hx : Wf x) : ∃ (p0 p1 p2 p3 : Int), (∀ q0 q1 q2 q3 : Int, G (.int .i64 x) = some (.agg #[.int .i64 q0, .int .i64 q1, .int .i64 q2, .int .i64 q3]) → p1 = q1 ∧ p3 = q3) ∧ ∀ (X : World) (b n : Nat), GM 3 X b n G →
    (Instr.lookup 28 (.map (some b)) (.int .i64 x) false).run Tryz.prog X = .ok (.agg #[.int .i64 p0, .int .i64 p1, .int .i64 p2, .int .i64 p3]) X := by
  rcases hf with h | ⟨y, h⟩
  · refine ⟨0, 0, 0, 0, fun q0 q1 q2 q3 e => (by rw [h] at e; cases e), fun X b n g => ?_⟩
    have k := g.look mU Tryz.underlying28 (z := .agg #[.int .i64 0, .int .i64 0, .int .i64 0, .int .i64 0]) (by kernel_rfl) (mJ hx)
    rw [h] at k
    exact k
  · refine ⟨Fx.cut y.a0, Fx.cut y.a1, Fx.cut y.s0, Fx.cut y.s1, fun q0 q1 q2 q3 e => ?_, fun X b n g => ?_⟩
    · rw [h] at e
      unfold rcv at e
      injection e with e
      injection e with e
      injection e with e
      simp only [List.cons.injEq, Value.int.injEq, true_and, and_true] at e
      exact ⟨e.2.1, e.2.2.2⟩
    have k := g.look mU Tryz.underlying28 (z := .agg #[.int .i64 0, .int .i64 0, .int .i64 0, .int .i64 0]) (by kernel_rfl) (mJ hx)
    rw [h] at k
    exact k
theorem field_pos (s : Re.St) (W : World) : (Instr.field 46 (.agg (cells s)) 1).run Tryz.prog W = .ok (.int .i64 (s.c 1)) W := by kernel_rfl
theorem field_disp (s : Re.St) (W : World) : (Instr.field 46 (.agg (cells s)) 0).run Tryz.prog W = .ok (.int .i64 (s.c 0)) W := by kernel_rfl
set_option maxHeartbeats 16000000 in
theorem fapart_walk (a0 : Option Addr) (um cap0 : Nat) (a1 a2 : Int) (w : World) (w0 : Mk w a0 um cap0) : Calls Tryz.prog 3 #[.slice a0 um cap0, .int .i64 a1, .int .i64 a2] w fun e w' => e = .returned (.bool true) ∧ Below w.heap.size w w' := by
  obtain ⟨l, hA⟩ := w0.acts
  clear w0
  go_enter Tryz.func3, Tryz.ntmps3
  go_upto_region 4 with (go_at_call 5; (with_reducible refine (MJ _).mono ?_); rintro e w1 ⟨rfl, hb1⟩)
  have kG := Pf cap0 (hA.after hb1)
  have hs1 := hb1.size
  clear hA
  go_upto_region 5 with (go_at_call 6; (with_reducible refine kG.mono ?_); rintro e w2 ⟨⟨tb, rb, ok, rfl, hok⟩, hb2⟩)
  have HB2 := hb1.trans (hb2.mono hs1)
  have hs2 := hb2.size
  clear kG hb1 hb2
  cases ok with
  | false =>
    go_wp2
    go_ret
    exact ⟨rfl, HB2⟩
  | true =>
  by_cases b4 : (1048576 : Int) < a1
  · go_wp2
    go_ret
    exact ⟨rfl, HB2⟩
  by_cases b5 : (1048576 : Int) < a2
  · go_wp2
    go_ret
    exact ⟨rfl, HB2⟩
  obtain ⟨gg, cc, mm, n, L, K, T, two, hn, hvt, hdp⟩ := hok rfl
  have g2 := two.good
  have M : xS T n := ⟨g2.inv.wf, g2.inv.num, by omega, fun x d h => by have := hdp x d h; omega, fun z nd h => (hvt z nd h).1⟩
  have HM := Lib.hid M
  have HG2 := Lib.hid g2
  have kL := Ms HG2.out HM.out a1 a2
  have HNX := Lib.hid fun (hmg : ∀ z nd, T z = some nd → 0 ≤ nd.sty.c 16 ∧ 0 ≤ nd.sty.c 20) (z : Int) (d : Nat) (hd : Tr.Dp T z d) (hs : uH T (d + 1) z = true) (h0 : (dw T z).c 0 = 0) (j : Nat) (hj : j + 1 < (kg T z).fl.length) (r1 : (dw T ((kg T z).fl.getD j 0)).c 1 ≠ 1) (r2 : (dw T ((kg T z).fl.getD (j + 1) 0)).c 1 ≠ 1) => next_lays M (show n ≤ 32 by omega) hvt hmg (ww := max a1 0) (wh := max a2 0) (by omega) (by omega) hd hs h0 hj r1 r2
  clear two M hvt hdp g2 hok hn
  go_upto_region 8 with (go_at_call 7; (with_reducible refine kL.mono ?_); rintro e w4 ⟨⟨b1, rfl, aia, hG1⟩, hb4⟩)
  obtain ⟨N, hN⟩ : ∃ N, (qB T (max a1 0) (max a2 0)).length = N := ⟨_, rfl⟩
  obtain ⟨G, hG⟩ : ∃ G, pF T (max a1 0) (max a2 0) = G := ⟨_, rfl⟩
  have HGF : Hid (∀ k, G k = none ∨ ∃ y, G k = some (rcv y)) := Lib.hid fun k => by rw [← hG]; exact O6 T (kg T) _ _ k
  rw [hN, hG] at hG1
  simp only [hG] at HNX
  have HB4 := HB2.trans (hb4.mono HB2.size)
  have HG4 := Lib.hid (HG2.out.after hb4)
  have hs4 := Nat.le_trans hs2 hb4.size
  have HGM4 := Lib.hid hG1
  have kO := OY HG4.out
  clear kL HB2 HG2 hb4 hG1 hN hG aia
  go_upto_region 9 with (go_at_call 8; (with_reducible refine kO.mono ?_); rintro e wa ⟨⟨v, rfl, hk⟩, hba⟩; obtain ⟨A, c, rfl, hI, -⟩ := hk.row.ints)
  have HBa := HB4.trans (hba.mono (Nat.le_trans hs1 hs4))
  have Tj := Lib.hid (HGM4.out.keep hba)
  have HGa := Lib.hid (HG4.out.after hba)
  have HI := Lib.hid hI
  have HOR : Hid (∀ x, x ∈ Tr.ord T ↔ ∃ nd, T x = some nd) := Lib.hid fun x => HM.out.wf.iV
  clear kO HB4 HG4 HGM4 hba hI hk
  obtain ⟨o, ho⟩ : ∃ o, Tr.ord T = o := ⟨_, rfl⟩
  rw [ho] at HI HOR ⊢
  have hol : o.length ≤ 64 := by rw [← ho, HM.out.num]; exact HM.out.few
  obtain ⟨no, hno⟩ : ∃ k, o.length = k := ⟨_, rfl⟩
  rw [hno] at hol ⊢
  have HNO := Lib.hid hno
  have hT0 : Hid (∀ nd, T 0 = some nd → nd.up = -1) := Lib.hid fun nd h => HM.out.wf.tC h
  have HKL : Hid (∀ z nd, T z = some nd → nd.kids.length ≤ 64) := Lib.hid fun z nd h => by
    have := HM.out.wf.qK h
    rw [HM.out.num] at this
    exact Nat.le_trans this HM.out.few
  have HWF : Hid (∀ z nd, T z = some nd → Wf z) := Lib.hid fun z nd h => (iX _).2 (by have := HM.out.wf.range z nd h; omega)
  have hsa := HBa.size
  clear ho hno
  go_wp2
  go_loopw [13] (fun i wr => ∃ j : Nat, j ≤ no ∧ i = .int .i64 (j : Int) ∧ Below wa.heap.size wa wr ∧ ∀ k, k < j → 0 ≤ (dw T (o.getD k 0)).c 16 ∧ 0 ≤ (dw T (o.getD k 0)).c 20) (fun i _ => no - (intOf i).toNat)
  case atStart => exact ⟨0, by omega, rfl, Below.refl _ _, fun k hk => absurd hk (Nat.not_lt_zero _)⟩
  case round =>
    obtain ⟨j, hj, rfl, hbr, hmg⟩ := hrel
    have HMG := Lib.hid hmg
    clear hmg
    have hsr := hbr.size
    by_cases hjn : j < no
    · have hjz : (j : Int) < (no : Int) := by omega
      obtain ⟨ba, oa, rfl, lba, cx⟩ := (HI.out.after hbr).at_ (k := j) (by rw [HNO.out]; exact hjn)
      obtain ⟨nd, hnd⟩ := (HOR.out (o.getD j 0)).1 (by rw [List.getD, List.getElem?_eq_getElem (by rw [HNO.out]; exact hjn)]; exact List.getElem_mem _)
      obtain ⟨x, hx⟩ : ∃ x, o.getD j 0 = x := ⟨_, rfl⟩
      rw [hx] at cx hnd
      have HX := Lib.hid hx
      have kS := oC (HGa.out.after hbr).inv.rep (HWF.out x nd hnd)
      obtain ⟨s, hs⟩ : ∃ s, (T x).elim Re.zero (·.sty) = s := ⟨_, rfl⟩
      rw [hs] at kS
      have HS : Hid (dw T x = s) := Lib.hid hs
      clear hx hs hnd
      go_upto_region 13 with (first | (refine dn (by rfl) rfl ?_) | (refine eP (by rfl) rfl ?_) | (refine bq (by rfl) _ rfl rfl (by first | assumption | (with_reducible exact At.new _ _)) ?_) | (refine eT (by rfl) _ _ rfl rfl rfl (by first | assumption | (with_reducible exact At.new _ _)) ?_) | (refine dJ (by rfl) _ _ rfl rfl rfl (by first | assumption | (with_reducible exact At.new _ _)) ?_) | (go_at_call 9; (with_reducible refine kS.mono ?_); rintro e w3 ⟨rfl, hb3⟩))
      obtain ⟨bs, hbs⟩ : ∃ b, w3.heap.size = b := ⟨_, rfl⟩
      generalize hW : World.setRow _ _ _ = w4
      have A4 : At w4 bs (.cells (cells s) 46) := hW ▸ hbs ▸ At.setRow (At.new _ _) _
      have hB4 : Below wr.heap.size wr w4 := hW ▸ bW (Below.alloc' hb3 _) hb3.size _
      rw [hbs]
      have lb4 := A4.lt
      have f16 := A4.st 16 (by decide) rfl
      have f20 := A4.st 20 (by decide) rfl
      have p9 := hbr.trans (hB4.mono hsr)
      clear hW kS hb3 hbs cx A4 hB4
      by_cases m0 : s.c 16 < 0
      · go_wp2
        go_ret
        exact ⟨rfl, HBa.trans (p9.mono hsa)⟩
      by_cases m2 : s.c 20 < 0
      · go_wp2
        go_ret
        exact ⟨rfl, HBa.trans (p9.mono hsa)⟩
      go_wp2
      go_roundw
      case rel => exact ⟨j + 1, by omega, by go_num, p9, fun k hk => by
        by_cases e : k = j
        · subst e; rw [HX.out, HS.out]; omega
        · exact HMG.out k (by omega)⟩
      case measure => simp [intOf]; omega
    · have hjz : ¬ (j : Int) < (no : Int) := by omega
      have hjno : j = no := by omega
      have hmg : ∀ z nd, T z = some nd → 0 ≤ nd.sty.c 16 ∧ 0 ≤ nd.sty.c 20 := fun z nd h => by
        obtain ⟨k, hk, e⟩ := List.mem_iff_getElem.1 ((HOR.out z).2 ⟨nd, h⟩)
        have hm := HMG.out k (by rw [hjno, ← HNO.out]; exact hk)
        rw [List.getD, List.getElem?_eq_getElem hk, Option.getD_some, e] at hm
        have es : dw T z = nd.sty := by unfold dw; rw [h]; rfl
        rwa [es] at hm
      have HN2 := Lib.hid (HNX.out hmg)
      clear HMG HNX hmg hjno
      go_wp2
      go_loopw [15] (fun i wq => ∃ j : Nat, j ≤ no ∧ i = .int .i64 (j : Int) ∧ Below wa.heap.size wa wq) (fun i _ => no - (intOf i).toNat)
      case atStart => exact ⟨0, by omega, rfl, hbr⟩
      case round =>
        clear hj hbr hsr hjn hjz
        obtain ⟨j, hj, rfl, hbq⟩ := hrel
        have hsq := hbq.size
        by_cases hjn : j < no
        · have hjz : (j : Int) < (no : Int) := by omega
          obtain ⟨ba, oa, rfl, lba, cx⟩ := (HI.out.after hbq).at_ (k := j) (by rw [HNO.out]; exact hjn)
          obtain ⟨nd, hnd⟩ := (HOR.out (o.getD j 0)).1 (by rw [List.getD, List.getElem?_eq_getElem (by rw [HNO.out]; exact hjn)]; exact List.getElem_mem _)
          obtain ⟨x, hx⟩ : ∃ x, o.getD j 0 = x := ⟨_, rfl⟩
          rw [hx] at cx hnd
          have hxw := HWF.out x nd hnd
          obtain ⟨d, _, hd⟩ := HM.out.wf.deep x nd hnd
          obtain ⟨ks, hks⟩ : ∃ ks, nd.kids = ks := ⟨_, rfl⟩
          have kF := MI (HGa.out.after hbq).inv.rep hT0.out hd hnd ks hks (fun y hy => by obtain ⟨_, q, hq, _⟩ := HM.out.wf.kid x nd y hnd (hks ▸ hy); exact ⟨q, hq⟩) (by have := HKL.out x nd hnd; rw [hks] at this; omega)
          obtain ⟨F, hF⟩ : ∃ F, (if uH T (d + 1) x = true then nC T ks else []) = F := ⟨_, rfl⟩
          rw [hF] at kF
          obtain ⟨s, hs⟩ : ∃ s, nd.sty = s := ⟨_, rfl⟩
          have kS := fun X (h : Below wa.heap.size wa X) => oC (HGa.out.after h).inv.rep hxw
          have hso : (T x).elim Re.zero (·.sty) = s := by rw [hnd]; exact hs
          simp only [hso] at kS
          have kSh := fun X (h : Below wa.heap.size wa X) => vQ (HGa.out.after h).inv.rep hT0.out hd
          have HKS := Lib.hid kS
          have HSH := Lib.hid kSh
          have HND := Lib.hid hnd
          have HKK := Lib.hid hks
          have HSS := Lib.hid hso
          have HF := Lib.hid hF
          have hfd := field_disp s
          clear hx hs hso kS kSh hnd hks hF
          go_upto_region 19 with (go_at_call 10; (with_reducible refine kF.mono ?_); rintro e wb ⟨⟨v, rfl, hv⟩, hbb⟩; obtain ⟨A1, d1, rfl, hI1, -⟩ := KS.ints (fH hv (Nat.zero_le _)))
          have aii := hbq.trans (hbb.mono hsq)
          have WQ := (hbb.cell (p := ⟨ba, oa + j, none⟩) lba).trans cx
          have agU : ba < wb.heap.size := by have := hbb.size; omega
          have kS1 := HKS.out wb aii
          clear kF hv hbb cx lba
          by_cases c0 : s.c 0 = 0
          case neg =>
            have c0b : (s.c 0 != 0) = true := by simp [c0]
            go_wp2_with (go_at_call 9; (with_reducible refine kS1.mono ?_); rintro e wc ⟨rfl, hbc⟩)
            go_roundw
            case rel => exact ⟨j + 1, by omega, by go_num, aii.trans (hbc.mono aii.size)⟩
            case measure => simp [intOf]; omega
          case pos =>
          have c0b : (s.c 0 != 0) = false := by simp [c0]
          cases hsh : uH T (d + 1) x
          · go_wp2_with (first | (go_at_call 9; (with_reducible refine kS1.mono ?_); rintro e wc ⟨rfl, hbc⟩; have hbc2 := aii.trans (hbc.mono aii.size); have kH := HSH.out wc hbc2; rw [hsh] at kH; have cx3 := (hbc.cell (p := ⟨ba, oa + j, none⟩) agU).trans WQ; have ajz := Nat.lt_of_lt_of_le agU hbc.size) | (go_at_call 11; (with_reducible refine kH.mono ?_); rintro e we ⟨rfl, hbe⟩))
            go_roundw
            case rel => exact ⟨j + 1, by omega, by go_num, hbc2.trans (hbe.mono hbc2.size)⟩
            case measure => simp [intOf]; omega
          · have HFK : Hid ((kg T x).fl = F) := Lib.hid (by
              rw [← HF.out, if_pos hsh]
              show nC T (dF T x) = _
              unfold dF
              rw [HND.out, ← HKK.out]
              rfl)
            have HFM : Hid (∀ y ∈ F, ∃ yd, T y = some yd) := Lib.hid fun y hy => by
              rw [← HF.out, if_pos hsh] at hy
              obtain ⟨_, q, hq, _⟩ := HM.out.wf.kid x nd y HND.out (HKK.out ▸ (List.mem_filter.1 hy).1)
              exact ⟨q, hq⟩
            have hFl : F.length ≤ 64 := by
              have h1 := HKL.out x nd HND.out
              rw [HKK.out] at h1
              rw [← HF.out, if_pos hsh]
              exact Nat.le_trans (List.length_filter_le _ _) h1
            have HNQ := Lib.hid (HN2.out x d hd hsh (by show ((T x).elim Re.zero (·.sty)).c 0 = 0; rw [HSS.out]; exact c0))
            rw [HFK.out] at HNQ
            obtain ⟨nk, hnk⟩ : ∃ k, F.length = k := ⟨_, rfl⟩
            rw [hnk] at hFl ⊢
            have HNK := Lib.hid hnk
            go_upto_region 20 with (first | (go_at_call 9; (with_reducible refine kS1.mono ?_); rintro e wc ⟨rfl, hbc⟩; have hbc2 := aii.trans (hbc.mono aii.size); have kH := HSH.out wc hbc2; rw [hsh] at kH; have cx3 := (hbc.cell (p := ⟨ba, oa + j, none⟩) agU).trans WQ; have ajz := Nat.lt_of_lt_of_le agU hbc.size) | (go_at_call 11; (with_reducible refine kH.mono ?_); rintro e we ⟨rfl, hbe⟩))
            have hbe2 := hbc2.trans (hbe.mono hbc2.size)
            have HIe := Lib.hid (hI1.after (hbc.trans (hbe.mono hbc.size)))
            clear kH kS1 hI1 hbc hbc2 hbe WQ cx3 agU ajz aii hnk c0b hfd
            go_wp2
            go_loopw [17] (fun i wf => ∃ q : Nat, q ≤ nk ∧ i = .int .i64 ((q : Int) + 1) ∧ Below we.heap.size we wf) (fun i _ => nk - (intOf i).toNat)
            case atStart => exact ⟨0, by omega, rfl, Below.refl _ _⟩
            case round =>
              obtain ⟨q, hq, rfl, hbf⟩ := hrel
              have hsf := hbf.size
              by_cases hqn : q + 1 < nk
              · have hqz : (q : Int) + 1 < (nk : Int) := by omega
                have hq1 : q < F.length := by rw [HNK.out]; omega
                have hq2 : q + 1 < F.length := by rw [HNK.out]; omega
                obtain ⟨bk, ofk, rfl, lbk, cy1⟩ := (HIe.out.after hbf).at_ (k := q) hq1
                have cy2 := (Sd (HIe.out.after hbf) (k := q + 1) hq2).2
                have hnq := HNQ.out q hq2
                obtain ⟨e1, he1⟩ := HFM.out (F.getD q 0) (by rw [List.getD, List.getElem?_eq_getElem hq1]; exact List.getElem_mem _)
                obtain ⟨e2, he2⟩ := HFM.out (F.getD (q + 1) 0) (by rw [List.getD, List.getElem?_eq_getElem hq2]; exact List.getElem_mem _)
                obtain ⟨y1, hy1⟩ : ∃ y, F.getD q 0 = y := ⟨_, rfl⟩
                obtain ⟨y2, hy2⟩ : ∃ y, F.getD (q + 1) 0 = y := ⟨_, rfl⟩
                rw [hy1] at cy1 hnq he1
                rw [hy2] at cy2 hnq he2
                have hw1 := HWF.out y1 e1 he1
                have hw2 := HWF.out y2 e2 he2
                obtain ⟨p0, p1, p2, p3, hp, hl1⟩ := look_any (HGF.out _) hw1
                obtain ⟨q0, q1, q2, q3, hqq, hl2⟩ := look_any (HGF.out _) hw2
                obtain ⟨s1, hz1⟩ : ∃ s, (T y1).elim Re.zero (·.sty) = s := ⟨_, rfl⟩
                obtain ⟨s2, hz2⟩ : ∃ s, (T y2).elim Re.zero (·.sty) = s := ⟨_, rfl⟩
                have hcmp : s1.c 1 ≠ 1 → s2.c 1 ≠ 1 → p1 + p3 ≤ q1 ∧ Ab p1 1000000000000 ∧ Ab p3 1000000000000 := fun r1 r2 => by
                  obtain ⟨u0, u1, u2, u3, v0, v1, v2, v3, g1, g2, h1, h2, h3⟩ := hnq (by show ((T y1).elim Re.zero (·.sty)).c 1 ≠ 1; rw [hz1]; exact r1) (by show ((T y2).elim Re.zero (·.sty)).c 1 ≠ 1; rw [hz2]; exact r2)
                  obtain ⟨rfl, rfl⟩ := hp _ _ _ _ g1
                  obtain ⟨rfl, rfl⟩ := hqq _ _ _ _ g2
                  exact ⟨h1, h2, h3⟩
                have HCMP := Lib.hid hcmp
                have hbg := hbe2.trans (hbf.mono hbe2.size)
                have k1 := hl1 wr b1 N (Tj.out.keep hbg)
                have HL2 := Lib.hid hl2
                have kY1 := fun X (h : Below wa.heap.size wa X) => oC (HGa.out.after h).inv.rep hw1
                have kY2 := fun X (h : Below wa.heap.size wa X) => oC (HGa.out.after h).inv.rep hw2
                simp only [hz1] at kY1
                simp only [hz2] at kY2
                have HK1 := Lib.hid kY1
                have ZX := Lib.hid kY2
                have x0 : IntKind.i64.wrap ((q : Int) + 1 - 1) = (q : Int) := by rw [Int.add_sub_cancel]; exact IntWalk.i64_in _ (by omega)
                have hgw := hbg.size
                clear hq1 hq2 hnq he1 he2 hy1 hy2 hw1 hw2 hp hl1 hqq hl2 hz1 hz2 hcmp kY1 kY2 e1 e2
                go_upto_region 24 with (fail)
                have abu : Below wr.heap.size wr (wr.alloc (.cells #[.int .i64 p0, .int .i64 p1, .int .i64 p2, .int .i64 p3] 51)) := Below.alloc' (Below.refl _ _) _
                have ru : At (wr.alloc (.cells #[.int .i64 p0, .int .i64 p1, .int .i64 p2, .int .i64 p3] 51)) wr.heap.size (.cells #[.int .i64 p0, .int .i64 p1, .int .i64 p2, .int .i64 p3] 51) := At.new _ _
                generalize wr.alloc (.cells #[.int .i64 p0, .int .i64 p1, .int .i64 p2, .int .i64 p3] 51) = wd at *
                have hbd := hbg.trans (abu.mono hgw)
                have hbwd := hbf.trans (abu.mono hsf)
                have cz1 := (abu.cell (p := ⟨bk, ofk + q, none⟩) lbk).trans cy1
                have cz2 := (abu.cell (p := ⟨bk, ofk + (q + 1), none⟩) lbk).trans cy2
                have lbk2 : bk < wd.heap.size := by have := abu.size; omega
                generalize hRb : wr.heap.size = R1 at *
                have k2 := HL2.out wd b1 N (Tj.out.keep hbd)
                clear k1 cy1 cy2 hRb abu lbk hbg HL2
                go_upto_region 25 with (fail)
                have X7 : Below wd.heap.size wd (wd.alloc (.cells #[.int .i64 q0, .int .i64 q1, .int .i64 q2, .int .i64 q3] 51)) := Below.alloc' (Below.refl _ _) _
                have hR2 : At (wd.alloc (.cells #[.int .i64 q0, .int .i64 q1, .int .i64 q2, .int .i64 q3] 51)) wd.heap.size (.cells #[.int .i64 q0, .int .i64 q1, .int .i64 q2, .int .i64 q3] 51) := At.new _ _
                generalize wd.alloc (.cells #[.int .i64 q0, .int .i64 q1, .int .i64 q2, .int .i64 q3] 51) = wh at *
                have hR1h := ru.keep X7
                have cu1 := (X7.cell (p := ⟨bk, ofk + q, none⟩) lbk2).trans cz1
                have cu2 := (X7.cell (p := ⟨bk, ofk + (q + 1), none⟩) lbk2).trans cz2
                have lbk3 : bk < wh.heap.size := by have := X7.size; omega
                have hbh := hbd.trans (X7.mono hbd.size)
                have hbwh := hbwd.trans (X7.mono hbwd.size)
                have hsh2 := hbh.size
                generalize hRc : wd.heap.size = R2 at *
                have kS1 := HK1.out wh hbh
                have hf1 := field_pos s1
                have hf2 := field_pos s2
                clear k2 cz1 cz2 hRc X7 ru lbk2 HK1
                by_cases r1 : s1.c 1 = 1
                · have r1b : (s1.c 1 != 1) = false := by simp [r1]
                  go_wp2_with (go_at_call 9; (with_reducible refine kS1.mono ?_); rintro e wi ⟨rfl, hbi⟩)
                  go_roundw
                  case rel => exact ⟨q + 1, by omega, by go_num, hbwh.trans (hbi.mono hbwh.size)⟩
                  case measure => simp [intOf]; omega
                have r1b : (s1.c 1 != 1) = true := by simp [r1]
                by_cases r2 : s2.c 1 = 1
                · have r2b : (s2.c 1 != 1) = false := by simp [r2]
                  go_wp2_with (go_at_call 9; first | ((with_reducible refine kS2.mono ?_); rintro e wj ⟨rfl, hbj⟩) | ((with_reducible refine kS1.mono ?_); rintro e wi ⟨rfl, hbi⟩; have kS2 := ZX.out wi (hbh.trans (hbi.mono hsh2)); have cv2 := (hbi.cell (p := ⟨bk, ofk + (q + 1), none⟩) lbk3).trans cu2; have lbk4 := Nat.lt_of_lt_of_le lbk3 hbi.size; clear kS1 cu1 cu2 lbk3))
                  go_roundw
                  case rel => exact ⟨q + 1, by omega, by go_num, (hbwh.trans (hbi.mono hbwh.size)).trans (hbj.mono (Nat.le_trans hbwh.size hbi.size))⟩
                  case measure => simp [intOf]; omega
                have r2b : (s2.c 1 != 1) = true := by simp [r2]
                go_upto_region 26 with (go_at_call 9; first | ((with_reducible refine kS2.mono ?_); rintro e wj ⟨rfl, hbj⟩) | ((with_reducible refine kS1.mono ?_); rintro e wi ⟨rfl, hbi⟩; have kS2 := ZX.out wi (hbh.trans (hbi.mono hsh2)); have cv2 := (hbi.cell (p := ⟨bk, ofk + (q + 1), none⟩) lbk3).trans cu2; have lbk4 := Nat.lt_of_lt_of_le lbk3 hbi.size; clear kS1 cu1 cu2 lbk3))
                obtain ⟨h1, ⟨h2, h3⟩, h4, h5⟩ := HCMP.out r1 r2
                have x1 : IntKind.i64.wrap (p1 + p3) = p1 + p3 := IntWalk.i64_in _ (by omega)
                have y1n : ¬ q1 < p1 + p3 := by omega
                have hbij := hbi.trans (hbj.mono hbi.size)
                obtain ⟨l1, c10, c11, c12, c13⟩ := At.four (hR1h.keep hbij)
                obtain ⟨l2, c20, c21, c22, c23⟩ := At.four (hR2.keep hbij)
                clear kS2 cv2 lbk4 hR1h hR2
                go_wp2
                go_roundw
                case rel => exact ⟨q + 1, by omega, by go_num, (hbwh.trans (hbi.mono hbwh.size)).trans (hbj.mono (Nat.le_trans hbwh.size hbi.size))⟩
                case measure => simp [intOf]; omega
              · have hqz : ¬ (q : Int) + 1 < (nk : Int) := by omega
                go_wp2
                go_roundw
                case rel => exact ⟨j + 1, by omega, by go_num, hbe2.trans (hbf.mono hbe2.size)⟩
                case measure => simp [intOf]; omega
        · have hjz : ¬ (j : Int) < (no : Int) := by omega
          go_wp2
          go_ret
          exact ⟨rfl, HBa.trans (hbq.mono hsa)⟩
end Go.Proofs.YtmidaiklolmkcaaGreat.Fix
