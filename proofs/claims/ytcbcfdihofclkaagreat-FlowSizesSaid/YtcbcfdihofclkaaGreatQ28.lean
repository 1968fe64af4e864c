/- Proved here: what functions of the program do, in plain numbers (part 28); no conditions but those in sight. -/
import Derived.RangeFuncBox
import Derived.RangeFuncLeaves
import Derived.OwnWalkIn
import Derived.TacticsInMore
import Derived.LoopNIn
import Derived.LoopIn
import Derived.Sort.CutIn
import Derived.Maps.AppendAt
import Derived.Shelf.Abstract
import Derived.Test.YtcbcfdihofclkaaGreatQK
import Derived.Test.YtcbcfdihofclkaaGreatQ23
set_option linter.unusedVariables false
set_option linter.unusedSimpArgs false
set_option linter.unusedSectionVars false
set_option maxRecDepth 100000
namespace Go.Proofs.YtcbcfdihofclkaaGreat.Fix
open Go.ChangeShapes Go.WideShapes Go.ChangeAt Go.RowKit
attribute [local go_sem] Oper.semAt_some
def Gm(n₀ B:Nat)(W W':World):Prop:=Below n₀ W W'/\∀k t v,B<k->k<B+5->t≠49->Boxed W k t v->Boxed W' k t v
theorem Gm.refl(n₀ B:Nat)(W:World):Gm n₀ B W W:=⟨Below.refl _ _,λ_ _ _ _ _ _ h=>h⟩
theorem Gm.trans{n₀ B:Nat}{X Y Z:World}(h:Gm n₀ B X Y)(k:Gm n₀ B Y Z):Gm n₀ B X Z:=⟨h.1.trans k.1,λi t v h1 h2 h3 h4=>k.2 i t v h1 h2 h3 (h.2 i t v h1 h2 h3 h4)⟩
theorem Gm.of_below{n₀ B:Nat}{W W':World}(h:Below W.heap.size W W')(hn:n₀<=W.heap.size):Gm n₀ B W W' :=
 ⟨h.mono hn,λi t v _ _ _ hb=>(h.block i hb.lt).trans hb⟩
theorem Gm.putObj{n₀ B:Nat}{w:World}(hn:n₀<=w.heap.size)(hB:B+5<=w.heap.size)(W:World)(l:Nat)(o o':Obj)(hl:w.heap.size<=l)(h:W.heap[l]? = some o)(hc:o.isCells=false)(hw:o.isWalk=false):Gm n₀ B W (W.putObj l o') :=
 ⟨belowK_b hn W l o o' hl h hc hw,λi t v _ h2 _ hb=>(World.putObj_heap_other ak).trans hb⟩
theorem DX{W W':World}(h:Below W.heap.size W W'):W.grownBy W' none:=⟨h.os,h.tape,h.output,h.size,λk hk _=>h.block k hk⟩
theorem VJ(A:Option Addr)(n c:Nat)(room gap:Int)(wrap:Bool)(w:World) :
  Calls Tryz.prog 270 #[.slice A n c,.int .i64 room,.int .i64 gap,.bool wrap] w λe w'=>e=.returned (.func (.func 299) #[] #[.pointer (some ⟨w.heap.size,0,none⟩),.pointer (some ⟨w.heap.size+1,0,none⟩),.pointer (some ⟨w.heap.size+2,0,none⟩),.pointer (some ⟨w.heap.size+3,0,none⟩)]) /\
   w'=(((w.alloc (.cells #[.slice A n c] 30)).alloc (.cells #[.int .i64 room] 3)).alloc (.cells #[.int .i64 gap] 3)).alloc (.cells #[.bool wrap] 4):=by
 have Jy:∀(fn:Fn) (first cap:Array Value) (w:World),(Instr.makeFunc fn first cap).run Tryz.prog w=.ok (.func fn first cap) w:=λ_ _ _ _=>rfl;go_enter Tryz.func270,Tryz.ntmps270
 go_wp2;exact Eu
theorem Og{P:Program}{ops:Array Oper}{Q:Exit->Act->World->Prop}{S:World->Prop}{k:Nat}{o:Oper}{os:List Oper}{a:Act}{t:TypeId}{x:Operand}{lo hi mx:Option Operand}{v:Value}(ho:o.op=.slice t x lo hi mx)(hw:Region.wanted o (yielded ops a.tmps)=true)
  (hrun:∀w,(Instr.sliceAt t (a.eval x) (lo.map a.eval) (hi.map a.eval) (mx.map a.eval)).run P w=.ok v w) (h:aj.dW P ops Q S k os (a.put o.dst v)):aj.dW P ops Q S (k+1) (o::os) a :=
 aj.iX hw (λw _=>by unfold execOp;simp only[ho,Sem.run_bind,Sem.run_pure,hrun,Result.andThen_ok]) h
def aeC(x:Nat×Nat):Array Value:=#[.int .i64 (x.1:Int),.int .i64 (x.2:Int)]
theorem VK(A:Option Addr)(l:List Int)(n c:Nat)(room gap:Int)(wrap:Bool)(w:World)(q:Nat)(hI:Ints w A l)(hl:l.length=n)(h0:0<n)(hn:n<=100000)(hq:q=Li.cnt room gap wrap l) :
 Calls Tryz.prog 300 #[.slice A n c,.int .i64 room,.int .i64 gap,.bool wrap] w λe w'=>e=.returned (.int .i64 (q:Nat))/\w=w':=hq▸Rq A l n c room gap wrap w hI hl h0 hn
set_option maxRecDepth 100000 in
set_option maxHeartbeats 4000000 in
theorem ZV(n:Nat)(hn1:1<=n)(lp n₀ B:Nat)(A:Option Addr)(l:List Int)(m c:Nat)(room gap:Int)(wrap:Bool)(hl:l.length=m)(hm:m<=10000)(hcap:m<=c)(J Jx:List (Nat×Nat)->World->Prop)
  (hY:∀pre x W,J pre W->pre.length<(Li.brk room gap wrap l).length->YieldAt Fence.wide (n-1) Tryz.prog lp (aeC x) W λe W' =>
   (e=.returned (.bool true)/\J (pre++[x]) W'/\Gm n₀ B W W')\/(e=.returned (.bool false)/\Jx (pre++[x]) W'))
  (W:World) (hJ:AbidesFrom W.heap.size J) (hn₀:n₀<=W.heap.size) (b1:Boxed W (B+1) 30 (.slice A m c)) (b2:Boxed W (B+2) 3 (.int .i64 room)) (b3:Boxed W (B+3) 3 (.int .i64 gap)) (b4:Boxed W (B+4) 4 (.bool wrap))
  (hI:Ints W A l) (hA:0<l.length->∀x,A=some x->x.block<n₀) (h0:J [] W) :
  CallsIn Fence.wide n Tryz.prog 299 #[.func (.yield lp) #[] #[],.pointer (some ⟨B+1,0,none⟩),.pointer (some ⟨B+2,0,none⟩),.pointer (some ⟨B+3,0,none⟩),.pointer (some ⟨B+4,0,none⟩)] W λe W'=>(∃v,e=.returned v) /\
   ((∃ys,ys=Li.brk room gap wrap l/\J ys W')\/(∃pre,True/\Jx pre W')):=by
 have HL:=Lib.hid hl;have HI:=Lib.hid hI;have HA:=Lib.hid hA;have HY:=Lib.hid hY;have HJ:=Lib.hid hJ;have HB1:=Lib.hid b1;have HB2:=Lib.hid b2;have HB3:=Lib.hid b3;have Ji:=Lib.hid b4;clear hl hI hA hY hJ b1 b2 b3 b4;refine callsIn_of_wp Tryz.func299 rfl trivial ?_ rfl;simp only[Tryz.ntmps299,List.size_toArray,List.length_cons,List.length_nil,Nat.reduceAdd,Nat.reduceSub,Array.replicate_succ,Array.replicate_zero,List.push_toArray,List.append_toArray,List.nil_append,List.cons_append]
 gi_wp2
 gi_loopw [6,7] (λvf _ wr=>∃(k:Nat) (pre:List (Nat×Nat)),vf=.int .i64 k/\k<=m/\Hid (pre++Li.tail room gap wrap l k=Li.brk room gap wrap l)/\J pre wr/\Gm n₀ B W wr) (λvf _ _=>m-(intOf vf).toNat)
 case atStart=>exact⟨0,[],rfl,by omega,Lib.hid rfl,h0,Gm.refl _ _ _⟩
 case round =>
  obtain⟨k,pre,rfl,hk,HP,hJs,hK⟩:=hrel;have p1:=hK.2 _ _ _ ak ak aG HB1.out;have p2:=hK.2 _ _ _ ak ak aG HB2.out;have p3:=hK.2 _ _ _ ak ak aG HB3.out;have p4:=hK.2 _ _ _ ak ak aG Ji.out;have c1:=p1.cell;have c2:=p2.cell;have c3:=p3.cell;have c4:=p4.cell;have l1:=p1.lt;have l2:=p2.lt;have l3:=p3.lt;have l4:=p4.lt;clear p1 p2 p3 p4;by_cases hlt:k<m
  . have hltz:(k:Int)<(m:Int):=by omega
    have HI0:Hid (Ints wr A l):=Lib.hid (HI.out.keep hK.1 HA.out);have I1:=HI0.out.from_ k c Z58 (by rw[HL.out];exact hcap);have F1:=qb A m c k ak;generalize hA1:(if c=k then A else A.map (·.add (k*1)))=A1 at *;have HI1:=Lib.hid I1;have HF1:=Lib.hid F1;obtain⟨r,r1,r2⟩:∃r,r+k<=m/\m<=r+k:=⟨m-k,by omega,by omega⟩;have HR:Hid (m-k=r):=Lib.hid ak;have zM:Hid ((l.drop k).length=r):=Lib.hid (by rw[List.length_drop,HL.out];omega);replace HF1:=Lib.hid HF1.out;rw[HR.out]at HF1;clear hA1 I1 F1;obtain⟨s,hs⟩:∃s,s=Li.stop room gap wrap l k:=⟨_,rfl⟩;have hks:k<s:=by rw[hs];exact Li.xZ _ _ _ _ _
    have hsm:s<=m:=by rw[hs,<-HL.out];exact Li.G6 _ _ _ _ (by rw[HL.out];exact hlt)
    have ht:=Li.rG room gap wrap l (at_:=k) (by rw[HL.out];exact hlt);rw[<-hs]at ht;have HT:=Lib.hid ht;obtain⟨q,hq⟩:∃q,q=Li.cnt room gap wrap (l.drop k):=⟨_,rfl⟩;have ahI:s<=k+q:=by rw[hs,hq];exact ah _
    have ahJ:k+q<=s:=by rw[hs,hq];exact ah _
    have w1:IntKind.i64.wrap ((k:Int)+(q:Int))=(s:Int):=by rw[IntWalk.i64_in _ ak];omega
    have HQ:=Lib.hid hq;clear hs ht hq;have lw:=hK.1.size
    gi_upto_region 2 with(fail)
    refine wpIn_wide.2 ?_;refine xP ?_
    (repeat (first|(refine Og rfl aU (HF1.out) ?_;(try simp only[bF,bG,bH,tks]))|refine nN ?_ | refine nO ?_ (hc:=by intro w2 hS;first|with_reducible exact JM hS (VK _ _ _ _ _ _ _ _ _ (HI1.out.after hS) zM.out ak ak HQ.out))|refine nP ?_))
    refine aj.bZ ?_;intro w2 hS;have hJ2:=HJ.out pre wr w2 none hJs (DX hS) (λr e=>by cases e);have hK2:=hK.trans (Gm.of_below hS (aC hn₀ lw));have hlen:pre.length<(Li.brk room gap wrap l).length:=by
     rw[<-HP.out,HT.out,List.length_append,List.length_cons];omega
    obtain⟨fn,tmps,assign,body,hy,hR⟩:=HY.out pre (k,s) w2 hJ2 hlen;simp only[aeC]at hy;clear hS hJs hK c1 c2 c3 c4 l1 l2 l3 l4
    gi_wp2
    refine hR.mono ?_;rintro e W3 (⟨rfl,hJ3,hk3⟩|⟨rfl,hJx3⟩)
    . gi_wp2
      go_roundw
      case rel=>exact⟨s,pre++[(k,s)],rfl,hsm,Lib.hid (by rw[<-HP.out,HT.out,List.append_assoc];rfl),hJ3,hK2.trans hk3⟩
      case measure=>simp[intOf];omega
    . gi_wp2
      refine bodyPost_ret (results_none rfl _ _ _) rfl ?_;exact⟨⟨_,rfl⟩,.inr ⟨_,trivial,hJx3⟩⟩
  . have hltz:¬ (k:Int)<(m:Int):=by omega
    have HE:Hid (pre=Li.brk room gap wrap l):=Lib.hid (by rw[<-HP.out,Li.rF _ _ _ _ Z58,List.append_nil])
    gi_wp2
    go_end0
    refine⟨⟨_,rfl⟩,.inl ?_⟩
    first|exact⟨_,HE.out,hJs⟩|(rw[<-HE.out];exact hJs)
end Go.Proofs.YtcbcfdihofclkaaGreat.Fix
namespace Go.Proofs.YtcbcfdihofclkaaGreat.Fix
open Go.ChangeShapes Go.WideShapes Go.ChangeAt Go.RowKit Go.Shelf
attribute [local go_sem] Oper.semAt_some
theorem VL:(Tryz.prog.info? 49).map (λi=>(i.zero,i.size,i.bytes))=some (some (.agg #[.int .i64 0,.int .i64 0]),2,16):=by kernel_rfl
theorem cell_two_new(w:World)(x y:Value)(t:TypeId):∀j u,[x,y][j]? = some u->(w.alloc (.cells #[x,y] t)).cell? ((⟨w.heap.size,0,none⟩:Addr).add j)=some u:=by
 intro j u hj
 match j,hj with
 | 0,hj=>simp at hj;subst hj;simp[Addr.add]
 | 1,hj=>simp at hj;subst hj;simp[Addr.add]
theorem Gm.appended{n₀ B:Nat}{W w1:World}{v v':Value}{k:Nat}{xs:List Value}{tmp:Obj}(hrow:W.ownsRow n₀ 49 2 v k xs)(hgrow:(W.alloc tmp).grownBy w1 v.ownBlock)(hb:Below n₀ W (w1.setCell ⟨B,0,none⟩ v')):Gm n₀ B W (w1.setCell ⟨B,0,none⟩ v') :=
 ⟨hb,λi t u h1 h2 h3 h4=>((h4.alloc tmp).kept hgrow (h4.not_row h3 hrow)).kept (grownBy_setCell' w1 B v') (λe=>by injection e with e;omega)⟩
set_option maxRecDepth 100000 in
set_option maxHeartbeats 4000000 in
theorem RH(A:Option Addr)(l:List Int)(m c:Nat)(room gap:Int)(wrap:Bool)(w:World)(hI:Ints w A l)(hl:l.length=m)(hm:m<=10000)(hcap:m<=c) :
  Calls Tryz.prog 228 #[.slice A m c,.int .i64 room,.int .i64 gap,.bool wrap] w λe w'=>∃v,e=.returned v/\w'.ownsRow w.heap.size 49 2 v (Li.brk room gap wrap l).length ((Li.flat (Li.brk room gap wrap l)).map (Value.int .i64))/\Below w.heap.size w w':=by
 obtain⟨i0,hi,hz0,hz1,hz2⟩:=info_parts VL;have HI:=Lib.hid hI;have HL:=Lib.hid hl;have HA:=Lib.hid hI.lt;clear hI hl;refine(callsIn_wide (n:=5)).1 ?_;refine callsIn_of_wp_marks Tryz.func228 rfl trivial ?_ rfl;simp only[Tryz.ntmps228,List.size_toArray,List.length_cons,List.length_nil,Nat.reduceAdd,Nat.reduceSub,Array.replicate_succ,Array.replicate_zero,List.push_toArray,List.append_toArray,List.nil_append,List.cons_append]
 gi_wp2_with (refine⟨trivial,?_⟩;gi_at_call 270;refine(callsIn_wide.2 (VJ _ _ _ _ _ _ _)).mono ?_;rintro e w' ⟨rfl,rfl⟩)
 have bT:At _ (w.heap.size+1) _:=At.new' (W:=w.alloc (.cells #[] 49)) (.cells #[.slice (some ⟨w.heap.size,0,none⟩) 0 0] 256) eY;have bR:At _ w.heap.size _:=At.new w (.cells #[] 49);have b1:At _ (w.heap.size+1+1) _:=At.new' (W:=(w.alloc (.cells #[] 49)).alloc (.cells #[.slice (some ⟨w.heap.size,0,none⟩) 0 0] 256)) (.cells #[.slice A m c] 30) eY;have b2:At _ (w.heap.size+1+2) _:=At.new' (W:=((w.alloc (.cells #[] 49)).alloc (.cells #[.slice (some ⟨w.heap.size,0,none⟩) 0 0] 256)).alloc (.cells #[.slice A m c] 30)) (.cells #[.int .i64 room] 3) eY;have b3:At _ (w.heap.size+1+3) _:=At.new' (W:=(((w.alloc (.cells #[] 49)).alloc (.cells #[.slice (some ⟨w.heap.size,0,none⟩) 0 0] 256)).alloc (.cells #[.slice A m c] 30)).alloc (.cells #[.int .i64 room] 3)) (.cells #[.int .i64 gap] 3) eY;have b4:At _ (w.heap.size+1+4) _:=At.new' (W:=((((w.alloc (.cells #[] 49)).alloc (.cells #[.slice (some ⟨w.heap.size,0,none⟩) 0 0] 256)).alloc (.cells #[.slice A m c] 30)).alloc (.cells #[.int .i64 room] 3)).alloc (.cells #[.int .i64 gap] 3)) (.cells #[.bool wrap] 4) eY;replace bT:=((((bT.alloc (.cells #[.slice A m c] 30)).alloc (.cells #[.int .i64 room] 3)).alloc (.cells #[.int .i64 gap] 3)).alloc (.cells #[.bool wrap] 4));replace bR:=(((((bR.alloc (.cells #[.slice (some ⟨w.heap.size,0,none⟩) 0 0] 256)).alloc (.cells #[.slice A m c] 30)).alloc (.cells #[.int .i64 room] 3)).alloc (.cells #[.int .i64 gap] 3)).alloc (.cells #[.bool wrap] 4));replace b1:=(((b1.alloc (.cells #[.int .i64 room] 3)).alloc (.cells #[.int .i64 gap] 3)).alloc (.cells #[.bool wrap] 4));replace b2:=((b2.alloc (.cells #[.int .i64 gap] 3)).alloc (.cells #[.bool wrap] 4));replace b3:=(b3.alloc (.cells #[.bool wrap] 4));have hB0:Below w.heap.size w _:=Below.alloc' (Below.alloc' (Below.alloc' (Below.alloc' (Below.alloc' (Below.alloc' (Below.refl _ w) (.cells #[] 49)) (.cells #[.slice (some ⟨w.heap.size,0,none⟩) 0 0] 256)) (.cells #[.slice A m c] 30)) (.cells #[.int .i64 room] 3)) (.cells #[.int .i64 gap] 3)) (.cells #[.bool wrap] 4);have hsz:(((((( w.alloc (.cells #[] 49)).alloc (.cells #[.slice (some ⟨w.heap.size,0,none⟩) 0 0] 256)).alloc (.cells #[.slice A m c] 30)).alloc (.cells #[.int .i64 room] 3)).alloc (.cells #[.int .i64 gap] 3)).alloc (.cells #[.bool wrap] 4)).heap.size=w.heap.size+6:=by simp
 generalize (((((( w.alloc (.cells #[] 49)).alloc (.cells #[.slice (some ⟨w.heap.size,0,none⟩) 0 0] 256)).alloc (.cells #[.slice A m c] 30)).alloc (.cells #[.int .i64 room] 3)).alloc (.cells #[.int .i64 gap] 3)).alloc (.cells #[.bool wrap] 4))=W0 at *;have aeD:W0.ownsRow w.heap.size 49 2 (.slice (some ⟨w.heap.size,0,none⟩) 0 0) 0 []:=⟨by simp,.inr ⟨w.heap.size,0,#[],rfl,ah _,bR,ah _,by simp[maxLen],by simp,by simp⟩⟩;have hIW:=HI.out.after hB0;have hN:=Li.Cx room gap wrap l;rw[HL.out]at hN
 refine wpIn_rangeFunc_ownG (α:=Nat×Nat) rfl ak (gf:=299) (lb:=#[.pointer (some ⟨w.heap.size+1+1,0,none⟩),.pointer (some ⟨w.heap.size+1+2,0,none⟩),.pointer (some ⟨w.heap.size+1+3,0,none⟩),.pointer (some ⟨w.heap.size+1+4,0,none⟩)]) rfl trivial (enters_of Tryz.func299 fV rfl)
  (encs:=λx:Nat×Nat=>#[.int .i64 (x.1:Int),.int .i64 (x.2:Int)]) (Kp:=Gm w.heap.size (w.heap.size+1)) (S:=λys=>ys=Li.brk room gap wrap l) (Sp:=λ_=>True) (N:=(Li.brk room gap wrap l).length) (w0:=W0)
  (λlp J Jx W hW hJ hJx hY h0=>ZV 4 ak lp w.heap.size (w.heap.size+1) A l m c room gap wrap HL.out hm hcap J Jx hY W hJ (by have:=hW.size;omega)
   ((hW.block _ ak).trans b1) ((hW.block _ ak).trans b2) ((hW.block _ ak).trans b3) ((hW.block _ ak).trans b4)
   (hIW.keep (hW.mono ak) HA.out) HA.out h0)
  Gm.trans (Gm.putObj ak ak) (Below.refl _ _) (λ_=>rfl)
  (λpre W=>(∃v,Boxed W (w.heap.size+1) 256 v/\W.ownsRow w.heap.size 49 2 v pre.length ((Li.flat pre).map (Value.int .i64))/\True)/\Below w.heap.size w W)
  (λ_ _ _=>False)
  (OwnFrom.and (Own.from (holdsRow_own w.heap.size (w.heap.size+1) 256 49 2 (λpre:List (Nat×Nat)=>pre.length) (λpre=>(Li.flat pre).map (Value.int .i64)) (λ_ _=>True)) _) (ownFrom_below (ah _) ak))
  (λ_ _ _ _ _ hs _ _=>hs)
  ⟨⟨_,bT,aeD,trivial⟩,hB0⟩
  (λx=>{ tmps:=#[.slice A m c,.int .i64 room,.int .i64 gap,.bool wrap,undef,undef,undef,undef,.slice none 0 0,.pointer (some ⟨w.heap.size+1,0,none⟩),.int .i64 (x.1:Int),.int .i64 (x.2:Int),.slice (some ⟨w.heap.size,0,none⟩) 0 0,.slice A m c,.int .i64 room,.int .i64 gap,.bool wrap,.func (.func 299) #[] #[.pointer (some ⟨w.heap.size+1+1,0,none⟩),.pointer (some ⟨w.heap.size+1+1+1,0,none⟩),.pointer (some ⟨w.heap.size+1+1+2,0,none⟩),.pointer (some ⟨w.heap.size+1+1+3,0,none⟩)],.int .i64 (x.1:Int),.int .i64 (x.2:Int),undef,undef,undef,undef,undef,undef,undef],defers:=[] }) ?assign ?body ?done ?stop
 case assign =>
  intro lp x W K hK
  gi_wp2
  exact hK
 case body =>
  rintro lp pre x W ⟨⟨v,hv,hrow,_⟩,hB⟩ hlt;have hc:=hv.cell
  gi_wp2_with (gi_at_builtin;refine wpListIn_append_own _ rfl _ _ 256 rfl w.heap.size 49 i0 (.agg #[.int .i64 0,.int .i64 0]) 2 16 Tryz.underlying256 hi hz0 hz1 hz2 rfl aG _ _ _ rfl (hrow.alloc _) ⟨W.heap.size,0,none⟩ 1 1 [.int .i64 (x.1:Int),.int .i64 (x.2:Int)] rfl rfl (cell_two_new _ _ _ _) Jk OZ ak (by have:=hB.size;simp;omega) ?_;intro v' w1 hown' hgrow _;obtain⟨g',cap',rfl⟩:=ownsRow_succ hown';obtain⟨hv1,hv2,hr2,hk2,hb2⟩:=hv.appended aG hrow hB.size ak hown' hgrow;have hc1:=hv1.cell;have hf1:=hv1.frozen)
  exact⟨hk2.from _,Gm.appended hrow hgrow hb2,⟨_,hv2,by rw[Li.Qv,List.map_append,List.length_append];exact hr2,trivial⟩,hB.trans hb2⟩
 case done =>
  rintro D ys W hD rfl ⟨⟨v,hv,hrow,_⟩,hB⟩ hK;have hc:=hv.cell
  gi_wp2
  refine⟨by simp,.inl ⟨_,_,rfl,run_takeDeferred hK,?_⟩⟩;exact⟨_,results_tmp rfl _ _ _,v,rfl,ownsRow_putObj hrow _ hK rfl,hB.trans (belowK_b (w:=w) (ah _) W D _ _ ak hK rfl rfl)⟩
 case stop =>
  rintro D c pre W _ _ h _;exact h.elim
end Go.Proofs.YtcbcfdihofclkaaGreat.Fix
