/- Proved here: what functions of the program do, in plain numbers (part 17); no conditions but those in sight. -/
import Derived.ScopeJumps
import Derived.WalkMore
import Derived.DeepKeys3
import Derived.DeepKeys4
import Derived.Test.YtcbcfdihofclkaaGreatQK
import Derived.Test.YtcbcfdihofclkaaGreatQ01
import Derived.Test.YtcbcfdihofclkaaGreatQ11
import Derived.Test.YtcbcfdihofclkaaGreatQ15
import Derived.Test.YtcbcfdihofclkaaGreatQ16
set_option linter.unusedVariables false
set_option linter.unusedSimpArgs false
set_option linter.unusedSectionVars false
set_option maxRecDepth 100000
namespace Go.Proofs.YtcbcfdihofclkaaGreat.Fix
open Go.ChangeShapes Go.WideShapes Go.ChangeAt Go.RowKit Go.Shelf
attribute [local go_sem] Oper.semAt_some
set_option maxRecDepth 100000 in
set_option maxHeartbeats 4000000 in
theorem Q8(A:Option Addr)(l:Nat->Fe.It)(n c:Nat)(room:Int)(w:World)(hI:Items w A l n)(hn:n<=64)(hr:0<=room/\room<=67108864) :
  Calls Tryz.prog 307 #[.slice A n c,.int .i64 room] w λe w'=>(∃R I,e=.returned (.pointer (some ⟨R,0,none⟩))/\w.heap.size<=I/\eX w' R I n room (Fe.x9 l n room) (Fe.begun (Fe.x9 l n room) l))/\Below w.heap.size w w':=by
 have Jy:∀(fn:Fn) (first cap:Array Value) (w:World),(Instr.makeFunc fn first cap).run Tryz.prog w=.ok (.func fn first cap) w:=λ_ _ _ _=>rfl;obtain⟨i0,hi0,hz0,hz1,hz2⟩:=info_parts Q7;have HI:=Lib.hid hI;clear hI;have hrun:=run_make (P:=Tryz.prog) w 361 365 i0 _ Tryz.underlying361 hi0 hz0 .i64 .i64 n n ak (Int.le_refl _) Qr ak;rw[hz1,Int.toNat_natCast]at hrun;simp only[Value.cells]at hrun;have GV:=Lib.hid hrun;clear hrun;refine(callsIn_wide (n:=5)).1 ?_;refine callsIn_of_wp_marks Tryz.func307 rfl trivial ?_ rfl;simp only[Tryz.ntmps307,List.size_toArray,List.length_cons,List.length_nil,Nat.reduceAdd,Nat.reduceSub,Array.replicate_succ,Array.replicate_zero,List.push_toArray,List.append_toArray,List.nil_append,List.cons_append]
 gi_upto_region 2 with(refine vB _ rfl aU _ _ 361 rfl GV.out ?_)
 obtain⟨W0,hA1,wP,hB,hsz,hW⟩:∃W0,At W0 (w.heap.size+1+1) (.cells #[.pointer (some ⟨w.heap.size+1,0,none⟩)] 355)/\eX W0 (w.heap.size+1) w.heap.size n room false (λ_=>NG)/\Below w.heap.size w W0/\W0.heap.size=w.heap.size+3 /\
   (((w.alloc (.cells (madeCells #[.int .i64 0,.int .i64 0,.int .i64 0,.int .i64 0,.int .i64 0,.int .i64 0,.int .i64 0,.bool false] (n*8)) 365)).alloc (.cells #[.slice (some ⟨w.heap.size,0,none⟩) n n,.int .i64 room,.int .i64 (-1)] 363)).alloc (.cells #[.pointer (some ⟨w.heap.size+1,0,none⟩)] 355))=W0 :=
  ⟨_,At.new' _ eY,⟨(At.new' (.cells #[.slice (some ⟨w.heap.size,0,none⟩) n n,.int .i64 room,.int .i64 (-1)] 363) eY).alloc _,((UM w n).alloc _).alloc _⟩,Below.alloc' (Below.alloc' (Below.alloc' (Below.refl _ _) _) _) _,by simp,rfl⟩
 rw[hW];clear hW GV hi0 hz0 hz1 hz2 i0
 gi_wp2
 gi_loopw [6,20] (λs i wr=>∃k:Nat,k<=n/\i=.int .i64 k/\s=.int .i64 (Fe.x8 l k)/\eX wr (w.heap.size+1) w.heap.size n room false (mO (λ_=>NG) (Fe.fresh l) k)/\At wr (w.heap.size+1+1) (.cells #[.pointer (some ⟨w.heap.size+1,0,none⟩)] 355)/\Below w.heap.size w wr) (λ_ i _=>n-(intOf i).toNat)
 case atStart=>exact⟨0,by omega,rfl,rfl,by rw[vZ];exact wP,hA1,hB⟩
 case round =>
  obtain⟨k,hk,rfl,rfl,hR,hA,hB⟩:=hrel;have hwr:=hB.size;have pF:=hR.1.lt;have hA1:=hA.lt;by_cases hlt:k<n
  . have hltz:(k:Int)<(n:Int):=by omega
    obtain⟨b,off,rfl,hbl,hc⟩:=(HI.out.after hB) ak;obtain⟨c0,c1,c2,c3,c4⟩:=hc k hlt;clear hc;obtain⟨s1,s2⟩:=YP l k;obtain⟨k1,k2⟩:=Fe.lH (l k) (Fe.cnt (l k)).b;have HZ:Hid (Fe.x8 l (k+1)=Fe.x8 l k+Fe.clamp (l k) (Fe.cnt (l k)).b):=Lib.hid rfl;have HF:Hid (Fe.fresh l k=⟨Fe.cnt (l k),Fe.clamp (l k) (Fe.cnt (l k)).b,0,false⟩):=Lib.hid rfl;have YQ:=Lib.hid (Fe.FV (l k) (Fe.cnt (l k)).b);generalize hl9:l k=x at *;have HX:=Lib.hid hl9;clear hl9;generalize hcx:Fe.cnt x=y at *;have HY:=Lib.hid hcx;clear hcx;generalize hz:Fe.clamp x y.b=z at *;clear hz;obtain⟨x0,x1,x2,x3,x4⟩:=x;obtain⟨y0,y1,y2,y3,y4⟩:=y;dsimp only at c0 c1 c2 c3 c4 YQ;generalize Fe.x8 l k=u at *
    gi_upto_region 6 with(fail)
    obtain⟨W1,qx,hb,hs1,hW⟩:∃W1,At W1 wr.heap.size (.cells #[.int .i64 x0,.int .i64 x1,.int .i64 x2,.int .i64 x3,.int .i64 x4] 281)/\Below wr.heap.size wr W1/\wr.heap.size<W1.heap.size /\
     wr.alloc (.cells #[.int .i64 x0,.int .i64 x1,.int .i64 x2,.int .i64 x3,.int .i64 x4] 281)=W1:=⟨_,At.new _ _,Below.alloc' (Below.refl _ _) _,by simp,rfl⟩
    rw[hW];clear hW c0 c1 c2 c3 c4;generalize hX9:wr.heap.size=X at *;obtain⟨l9,a0,a1,a2,a3,a4⟩:=qx.five
    gi_upto_region 7 with(refine⟨trivial,?_⟩;gi_at_call 301;refine(callsIn_wide.2 (Kw x0 x1 x2 x3 x4 _)).mono ?_;rintro e w2 ⟨rfl,hb2⟩;rw[HY.out];simp only[enc];clear l9 a0 a1 a2 a3 a4;replace hb:=Below.trans hb (hb2.mono ak);replace qx:=qx.keep hb2;clear hb2;obtain⟨l9,a0,a1,a2,a3,a4⟩:=qx.five;have z0:=qx.thaw 0;have z1:=qx.thaw 1;have z2:=qx.thaw 2;have z3:=qx.thaw 3;have z4:=qx.thaw 4)
    replace qx:=qx.abG (.int .i64 y0) (.int .i64 y1) (.int .i64 y2) (.int .i64 y3) (.int .i64 y4);replace hb:=Below.abG hb (ah X) (.int .i64 y0) (.int .i64 y1) (.int .i64 y2) (.int .i64 y3) (.int .i64 y4);clear l9 a0 a1 a2 a3 a4 z0 z1 z2 z3 z4;generalize World.setCell _ _ _=W2 at *;obtain⟨l9,a0,a1,a2,a3,a4⟩:=qx.five
    gi_upto_region 8 with(refine⟨trivial,?_⟩;gi_at_call 272;refine(callsIn_wide.2 (BX y0 y1 y2 y3 y4 y0 _)).mono ?_;rintro e w3 ⟨rfl,hb3⟩;rw[YQ.out];replace hb:=Below.trans hb (hb3.mono ak);clear l9 a0 a1 a2 a3 a4;replace qx:=qx.keep hb3;clear hb3;obtain⟨l9,a0,a1,a2,a3,a4⟩:=qx.five)
    have wF:=hR.keep (hX9▸hb);have hAw:=hA.keep (hX9▸hb);have hBw:=Below.trans hB (hb.mono ak);obtain⟨g0,r0,-, -⟩:=wF.cells;have cB:_=some (Value.pointer (some ⟨w.heap.size+1,0,none⟩)):=hAw.cell 0;have gB:=hAw.lt;have gI:=wF.2.lt;refine wpIn_wide.2 ?_;refine QB 9 1 ?_
    (repeat (first|refine nN ?_ | refine nO ?_ (hc:=by intro w2 hS;first|with_reducible exact JM hS (fF _ _))|refine nP ?_))
    refine aj.dJ ?_;intro w2 hS;have Nq:=wF.keep hS;have xw:=hAw.keep hS;have ru:=Below.ay hBw (ah _) hS;have h95:=qx.keep hS;obtain⟨gI5,e0,e1,e2,e3,e4,e5,e6,e7⟩:=Nq.2.fields hlt;have t0:=Nq.2.thaw (k*8);have t1:=Nq.2.thaw (k*8+1);have t2:=Nq.2.thaw (k*8+2);have t3:=Nq.2.thaw (k*8+3);have t4:=Nq.2.thaw (k*8+4);have t5:=Nq.2.thaw (k*8+5);have t6:=Nq.2.thaw (k*8+6);have t7:=Nq.2.thaw (k*8+7);refine xV ?_;intro K hK;go_simp;refine hK _ _ (aj.bP ?_);clear hK K;have hR6:=Nq.UL hlt y0 y1 y2 y3 y4 z HF.out;have xA:=xw.adO (I:=w.heap.size) (k:=k) ak y0 y1 y2 y3 y4 z;have ED:=Below.UL (I:=w.heap.size) (k:=k) ru (ah _) y0 y1 y2 y3 y4 z;clear hR hA hB wF hAw hBw Nq xw ru h95 qx hb hS r0 cB e0 e1 e2 e3 e4 e5 e6 e7 t0 t1 t2 t3 t4 t5 t6 t7 l9 a0 a1 a2 a3 a4
    first|generalize World.setCell _ _ _=W6 at * | (trace_state;fail)
    gi_wp2
    go_roundw
    case rel=>exact⟨k+1,by omega,by go_num,by rw[HZ.out],hR6,xA,ED⟩
    case measure=>simp[intOf];omega
  . have hltz:¬ (k:Int)<(n:Int):=by omega
    obtain rfl:k=n:=by omega
    have hR2:eX wr (w.heap.size+1) w.heap.size k room false (Fe.fresh l):=⟨hR.1,hR.2.same (yD _ _ _)⟩;have hne:=hR.ne;obtain⟨g0,-, -, c2⟩:=hR2.cells;have z2:=hR2.1.thaw 2;clear hR;refine(Decidable.em (Fe.x8 l k<room)).elim (λhg => ?_) (λhg => ?_)
    all_goals
     first
      | have HG:Hid (Fe.x9 l k room=true):=Lib.hid (decide_eq_true hg)
      | have HG:Hid (Fe.x9 l k room=false):=Lib.hid (decide_eq_false hg)
     have cB:wr.cell? ⟨w.heap.size+1+1,0,none⟩=some (.pointer (some ⟨w.heap.size+1,0,none⟩)):=hA.cell 0
     gi_wp2
     first
      | (obtain⟨W7,hR7,Mi,M7,hW⟩:∃W7,eX W7 (w.heap.size+1) w.heap.size k room (Fe.x9 l k room) (Fe.fresh l)/\At W7 (w.heap.size+1+1) (.cells #[.pointer (some ⟨w.heap.size+1,0,none⟩)] 355)/\Below w.heap.size w W7/\wr.setCell ⟨w.heap.size+1,2,none⟩ (.int .i64 1)=W7 :=
        ⟨_,by rw[HG.out];exact⟨hR2.1.set 2 _,hR2.2.off ak _⟩,hA.off ak _ _,Below.setCell hB eY _,rfl⟩
         rw[hW]
         clear hW)
      | (obtain⟨W7,hR7,Mi,M7,hW⟩:∃W7,eX W7 (w.heap.size+1) w.heap.size k room (Fe.x9 l k room) (Fe.fresh l)/\At W7 (w.heap.size+1+1) (.cells #[.pointer (some ⟨w.heap.size+1,0,none⟩)] 355)/\Below w.heap.size w W7/\wr=W7 :=
        ⟨_,by rw[HG.out];exact hR2,hA,hB,rfl⟩
         subst hW)
     clear hA1 hR2 z2 c2 wP HI HG cB hA hB hg pF g0 hwr;have hs7:=M7.size;have hI7:=hR7.2.lt;have hQ7:=Mi.lt;have ahr:=hR7.ne
     refine j6 (n:=5) (gf:=314) (first:=#[.pointer (some ⟨w.heap.size+1,0,none⟩)]) (lb:=#[]) rfl (enters_of Tryz.func314 fV rfl) k (λi=>(Fe.fresh l i).f) (λi=>#[.int .i64 (Fe.pl (Fe.fresh l) i:Nat),.pointer (some ⟨w.heap.size,i*8,none⟩)]) (λ_=>rfl)
      (λi W=>eX W (w.heap.size+1) w.heap.size k room (Fe.x9 l k room) (mO (Fe.fresh l) (Fe.begun (Fe.x9 l k room) l) i)/\At W (w.heap.size+1+1) (.cells #[.pointer (some ⟨w.heap.size+1,0,none⟩)] 355)/\Below w.heap.size w W)
      (λW=>False)
      (λi W r o o' h hr hW hc=>⟨h.1.turn ak ak o,h.2.1.turn ak o,Below.turn h.2.2 ak hW o⟩)
      (λW r o o' h hr hW _=>h)
      (λo1 o2=>⟨by rw[vZ];exact(hR7.alloc o1).alloc o2,(Mi.alloc o1).alloc o2,Below.alloc' (Below.alloc' M7 o1) o2⟩)
      (λlp J Jx W hV hs hY hJ=>rU 4 (w.heap.size+1) w.heap.size k room (Fe.sg (Fe.x9 l k room)) (Fe.fresh l) hn lp J Jx W (λi W h=>(hV i W h).1.mixed) hs hY hJ)
      (λi W hi hf h=>by cases hf)
      (λi t=>((t.setIfInBounds 52 (.int .i64 (Fe.pl (Fe.fresh l) i:Nat))).setIfInBounds 53 (.pointer (some ⟨w.heap.size,i*8,none⟩))).setIfInBounds 11 (.pointer (some ⟨w.heap.size,i*8,none⟩))) ?assign ?body ?done ?stop
     case assign =>
      exact Z1o
     case stop=>exact λD W hD h _=>h.elim
     case body =>
      rintro lp i W hi hf ⟨SH,Nt,hB8⟩;have cB:W.cell? ⟨w.heap.size+1+1,0,none⟩=some (.pointer (some ⟨w.heap.size+1,0,none⟩)):=Nt.cell 0;have lB:=Nt.lt;have hbd:((0<=(mO (Fe.fresh l) (Fe.begun (Fe.x9 l k room) l) i i).x.b/\(mO (Fe.fresh l) (Fe.begun (Fe.x9 l k room) l) i i).x.b<=1048576)/\0<=(mO (Fe.fresh l) (Fe.begun (Fe.x9 l k room) l) i i).z/\(mO (Fe.fresh l) (Fe.begun (Fe.x9 l k room) l) i i).z<=1048576):=by
       rw[pI (ah _)];obtain⟨q1,q2,_⟩:=Fe.G7 (l i);exact⟨⟨q1,q2⟩,Fe.lH (l i) _⟩
      have HST:Hid (Fe.stay (Fe.x9 l k room) (mO (Fe.fresh l) (Fe.begun (Fe.x9 l k room) l) i i).x (mO (Fe.fresh l) (Fe.begun (Fe.x9 l k room) l) i i).z=(Fe.begun (Fe.x9 l k room) l i).f):=Lib.hid (by rw[pI (ah _)];rfl)
      (simp only[List.setIfInBounds_toArray,List.set_cons_zero,List.set_cons_succ])
      gi_wp2_with (refine⟨trivial,?_⟩;gi_at_call 315;refine(CallsIn.inRound lp (callsIn_wide.2 (Q6 _ _ k i room _ _ _ SH hi hbd))).mono ?_;rintro e w9 ⟨rfl,fT⟩;rw[HST.out];have l9:=(SH.keep fT).2.lt;obtain⟨-, -, -, -, -, -, -, -, e7⟩:=(SH.keep fT).2.fields hi;have z7:=(SH.keep fT).2.thaw (i*8+7))
      have hz9:=fT.size;refine⟨(KeepsFrom.of_below fT).trans ((KeepsOthers.setCell _ _ _).from _),⟨(SH.1.keep fT).off ak _ _,?_⟩,(Nt.keep fT).off ak _ _,Below.setCell (Below.ay hB8 ak fT) (ah _) _⟩;refine(SH.2.keep fT).put hi ak ?_ ?_ ?_
      . rw[tu];simp[Jz]
      . intro q hq hqn
        rw[tu,pI (ah _)];unfold Jz
        (repeat' split)<;>first|rfl|omega
      . intro j hj hjn;rw[yC _ _ hjn]
     case done =>
      rintro D W hD ⟨SH,Nt,hB8⟩ hK;have cB:W.cell? ⟨w.heap.size+1+1,0,none⟩=some (.pointer (some ⟨w.heap.size+1,0,none⟩)):=Nt.cell 0;have lB:=Nt.lt
      gi_wp2
      refine⟨by simp,.inl ⟨_,_,rfl,run_takeDeferred hK,?_⟩⟩;exact⟨_,results_tmp rfl _ _ _,⟨w.heap.size+1,w.heap.size,rfl,ah _,⟨(SH.turn ak ak _).1,(SH.turn ak ak _).2.same (yD _ _ _)⟩⟩,Below.turn hB8 ak hK _⟩
end Go.Proofs.YtcbcfdihofclkaaGreat.Fix
namespace Go.Proofs.YtcbcfdihofclkaaGreat.Fix
open Go.ChangeShapes Go.WideShapes Go.ChangeAt Go.RowKit
def mD(l:Nat->Fe.It)(n:Nat)(x:Int):List Int:=(List.range n).map λi=>(Fe.fin l n (Fe.to x 67108864) i).z
def vC(S:Nat->Fe.St)(n:Nat):Prop:=Sound S n/\∀i,i<n->-134217728<=(S i).m/\(S i).m<=134217728
theorem Kz(gr:Bool)(l:Nat->Fe.It)(n:Nat):vC (Fe.begun gr l) n:=by
 refine⟨λi _ => ?_,λi _=>⟨by show -134217728<=(0:Int);omega,by show(0:Int)<=134217728;omega⟩⟩;obtain⟨q1,q2,_,_,_,_,_,_,q3,q4⟩:=Fe.G7 (l i);exact⟨⟨⟨q1,q2⟩,q3,q4⟩,Fe.lH (l i) _⟩
theorem YR{gr:Bool}{room:Int}{S:Nat->Fe.St}{n i:Nat}(h:Sound S n)(hi:i<n)(hf:(S i).f=false) : -67108864<=Fe.want gr (Fe.parts gr room S n) S i/\Fe.want gr (Fe.parts gr room S n) S i<=68157440:=by
 have hp:=Fe.Pf S hi hf;obtain⟨⟨⟨hb1,hb2⟩,_⟩,_⟩:=h i hi;have hpv:0<=(Fe.parts gr room S n).getD (Fe.pl S i) 0/\(Fe.parts gr room S n).getD (Fe.pl S i) 0<=67108864:=by
  unfold Fe.parts;rw[Fe.FW _ _ (by rw[Fe.rJ];exact hp)];exact Fe.BM _ _ (by rw[Fe.rJ];exact hp)
 unfold Fe.want;have hq : -67108864<=Fe.sg gr*(Fe.parts gr room S n).getD (Fe.pl S i) 0/\Fe.sg gr*(Fe.parts gr room S n).getD (Fe.pl S i) 0<=67108864:=by cases gr<;>simp only[Fe.sg,Bool.false_eq_true,if_false,if_true]<;>omega
 omega
theorem tF{gr:Bool}{room:Int}{S:Nat->Fe.St}{n:Nat}(h:vC S n):vC (Fe.shared gr room n S) n:=by
 constructor
 . intro i hi
   obtain⟨h1,h2⟩:=h.1 i hi;unfold Fe.shared Fe.fO;cases hf:(S i).f
   . simp only[Bool.false_eq_true,if_false]
     exact⟨h1,Fe.lH _ _⟩
   . simp only[if_true]
     exact⟨h1,h2⟩
 . intro i hi
   have h3:=h.2 i hi;unfold Fe.shared Fe.fO;cases hf:(S i).f
   . simp only[Bool.false_eq_true,if_false]
     have:=YR (gr:=gr) (room:=room) h.1 hi hf;have:=Fe.lH (S i).x (Fe.want gr (Fe.parts gr room S n) S i);omega
   . simp only[if_true]
     exact h3
theorem KA{S:Nat->Fe.St}{n:Nat}(h:vC S n):vC (Fe.froze n S) n:=by
 constructor
 . intro i hi
   have h1:=h.1 i hi;unfold Fe.froze;cases hf:(S i).f<;>simp only[Bool.false_eq_true,if_false,if_true]<;>exact h1
 . intro i hi
   have h1:=h.2 i hi;unfold Fe.froze;cases hf:(S i).f<;>simp only[Bool.false_eq_true,if_false,if_true]<;>exact h1
theorem Il{gr:Bool}{room:Int}{S:Nat->Fe.St}{n:Nat}(h:vC S n)(k:Nat):vC (Fe.rounds gr room n S k) n:=by
 induction k with
 | zero=>exact h
 | succ k ih=>exact KA (tF ih)
set_option maxHeartbeats 4000000 in
theorem Gc(R I n:Nat)(room:Int)(gr:Bool)(S:Nat->Fe.St)(w:World)(h:eX w R I n room gr S)(hn:n<=64) :
  Calls Tryz.prog 311 #[.pointer (some ⟨R,0,none⟩)] w λe w'=>(∃b,e=.returned (.slice (some ⟨b,0,none⟩) n n)/\w.heap.size<=b/\Ints w' (some ⟨b,0,none⟩) ((List.range n).map λi=>(S i).z))/\Below w.heap.size w w':=by
 obtain⟨i0,hi0,hz0,hz1,hz2⟩:=info_parts intZero;have HR:=Lib.hid h;obtain⟨l0,c0,c1,c2⟩:=h.cells;clear h c1 c2;go_enter Tryz.func311,Tryz.ntmps311
 go_upto_region 2 with(at_make;refine wpList_make_row _ rfl _ _ 30 rfl 3 i0 (.int .i64 0) Tryz.underlying30 hi0 hz0 hz1 rfl .i64 .i64 n rfl rfl Qr ak ?_)
 have Mg:At (w.alloc (.cells (madeCells #[.int .i64 0] n) 3)) w.heap.size (.cells (aK (λi=>(S i).z) n 0) 3):=by rw[<-jM];exact At.new _ _
 have hB0:Below w.heap.size w (w.alloc (.cells (madeCells #[.int .i64 0] n) 3)):=Below.alloc' (Below.refl _ _) _;generalize (w.alloc (.cells (madeCells #[.int .i64 0] n) 3))=W1 at *;obtain⟨l0',c0',-, -⟩:=(HR.out.keep hB0).cells;go_wp2
 go_loopw [17] (λi wr=>∃k:Nat,k<=n/\i=.int .i64 k/\At wr w.heap.size (.cells (aK (λi=>(S i).z) n k) 3)/\Below w.heap.size w wr) (λi _=>n-(intOf i).toNat)
 case atStart=>exact⟨0,by omega,rfl,Mg,hB0⟩
 case round =>
  obtain⟨k,hk,rfl,hA,hB⟩:=hrel;by_cases hlt:k<n
  . obtain⟨l1,d0,d1,d2,d3,d4,d5,d6,d7⟩:=(HR.out.keep hB).2.fields hlt
    have HZ:Hid ((λi=>(S i).z) k=(S k).z):=Lib.hid rfl;have hz:=hA.thaw k;have hc0:=hA.cell k;rw[cK _ hlt]at hc0;simp only[Nat.lt_irrefl,if_false]at hc0;have hlb:=hA.lt;have hsz:=hB.size
    have fin:∀(W5:World),Below wr.heap.size wr W5->At (W5.setCell ⟨w.heap.size,k,none⟩ (.int .i64 (S k).z)) w.heap.size (.cells (aK (λi=>(S i).z) n (k+1)) 3)/\Below w.heap.size w (W5.setCell ⟨w.heap.size,k,none⟩ (.int .i64 (S k).z)):=λW5 hb =>
     ⟨by rw[<-j3 _ hlt];exact(hA.keep hb).set k _,Below.setCell (Below.trans hB (hb.mono ak)) (ah _) _⟩
    have FIN:=Lib.hid fin;clear fin;generalize (S k).x.b=v0 at *;generalize (S k).x.lo=v1 at *;generalize (S k).x.hi=v2 at *;generalize (S k).x.g=v3 at *;generalize (S k).x.s=v4 at *;generalize (S k).z=v5 at *;generalize (S k).m=v6 at *;generalize (S k).f=v7 at *;go_wp2
    go_roundw
    case rel=>exact⟨k+1,by omega,by go_num,(FIN.out wr (Below.refl _ _)).1.alloc _,Below.alloc' (FIN.out wr (Below.refl _ _)).2 _⟩
    case measure=>simp[intOf];omega
  . obtain rfl:k=n:=by omega
    go_wp2;refine bodyPost_ret (v:=.slice (some ⟨w.heap.size,0,none⟩) k k) (by simp[results,Tryz.results311,go_sem, *];first|done|exact⟨rfl,rfl⟩|rfl) rfl ⟨⟨w.heap.size,rfl,ah _,tC _ k Jv hA⟩,hB⟩
def YS(W:World)(I:Nat):Nat->Nat
 | 0=>0
 | k+1=>YS W I k+(match W.cell? ⟨I,k*8+7,none⟩with
   | some (.bool false)=>1
   | _=>0)
def yE(W:World)(v:Value):Nat :=
 match v with
 | .pointer (some p)=>(match W.cell? ⟨p.block,0,none⟩with
   | some (.slice (some q) n _)=>YS W q.block n
   | _=>0)
 | _=>0
theorem Ag{W:World}{R I n:Nat}{room:Int}{gr:Bool}{S:Nat->Fe.St}(h:eX W R I n room gr S):yE W (.pointer (some ⟨R,0,none⟩))=Fe.pl S n:=by
 have c:∀k,k<=n->YS W I k=Fe.pl S k:=by
  intro k hk
  induction k with
  | zero=>rfl
  | succ k ih =>
    have h7:W.cell? ⟨I,k*8+7,none⟩=some (.bool (S k).f):=h.2.cell (show k<n by omega) 7 ak;simp only[YS,Fe.pl,ih ak,h7];cases (S k).f<;>simp
 simp only[yE,h.cells.2.1];exact c n (ah _)
set_option maxRecDepth 100000 in
set_option maxHeartbeats 8000000 in
theorem MF(A:Option Addr)(l:Nat->Fe.It)(n c:Nat)(x:Int)(w:World)(hI:Items w A l n)(hn:n<=64) :
  Calls Tryz.prog 302 #[.slice A n c,.int .i64 x] w λe w'=>(∃b,e=.returned (.slice (some ⟨b,0,none⟩) n n)/\w.heap.size<=b/\Ints w' (some ⟨b,0,none⟩) (mD l n x))/\Below w.heap.size w w':=by
 obtain⟨room,hroom⟩:∃room,room=Fe.to x 67108864:=⟨_,rfl⟩;have r1:0<=room:=by rw[hroom];exact Fe.rH ak
 have r2:room<=67108864:=by rw[hroom];exact Fe.ug ak
 have HRM:=Lib.hid hroom;clear hroom;have HI:=Lib.hid hI;clear hI;obtain⟨gr,hgr⟩:∃gr,gr=Fe.x9 l n room:=⟨_,rfl⟩;have HS:Hid (∀k,vC (Fe.rounds gr room n (Fe.begun gr l) k) n):=Lib.hid (λk=>Il (Kz gr l n) k)
 have HF:Hid (∀k,k<=n->Fe.pl (Fe.rounds gr room n (Fe.begun gr l) k) n=0->(List.range n).map (λi=>(Fe.rounds gr room n (Fe.begun gr l) k i).z)=mD l n x):=Lib.hid (by
  intro k hk h0;unfold mD Fe.fin;rw[<-HRM.out,<-hgr];apply List.map_congr_left;intro i hi;have hi:i<n:=by simpa using hi
  rw[Fe.Hf (Fe.Yg h0 i hi) n hk])
 have HG:=Lib.hid hgr;clear hgr;go_enter Tryz.func302,Tryz.ntmps302
 go_wp2
 refine wp_scope_jumps 0 (λa' w'=>∃(R I k:Nat) (u8 u13 u14 u15 u16 u17 u18 u19 u20:Value),a'={ tmps:=#[.slice A n c,.int .i64 x,undef,undef,.slice none 0 0,.pointer (some ⟨R,0,none⟩),.slice A n c,.int .i64 n,u8,.slice A n c,.int .i64 x,.int .i64 room,.pointer (some ⟨R,0,none⟩),u13,u14,u15,u16,u17,u18,u19,u20],defers:=[] } /\
  w.heap.size<=I/\eX w' R I n room gr (Fe.rounds gr room n (Fe.begun gr l) k)/\Below w.heap.size w w'/\k+Fe.pl (Fe.rounds gr room n (Fe.begun gr l) k) n<=n) (λa' w'=>yE w' (a'.tmps.getD 5 undef)) rfl ?_ ?_
 . go_wp2_with (first|(go_at_call 101;refine(Ik _ _ _ ak).mono ?_;rintro e w' ⟨rfl,rfl⟩;rw[<-HRM.out])|(go_at_call 307;refine(Q8 A l n c room _ HI.out hn ⟨r1,r2⟩).mono ?_;rintro e w1 ⟨⟨R,I,rfl,Xq,wP⟩,hB⟩;rw[<-HG.out]at wP))
   go_step3;replace wP:eX w1 R I n room gr (Fe.rounds gr room n (Fe.begun gr l) 0):=wP;have hS:=HS.out 0;by_cases hp:0<Fe.pl (Fe.rounds gr room n (Fe.begun gr l) 0) n
   . go_wp2_with (first|(go_at_call 308;refine(BU R I n room gr _ _ wP hn).mono ?_;rintro e w2 ⟨rfl,hb2⟩;rw[decide_eq_true hp];replace wP:=wP.keep hb2;replace hB:=Below.ay hB (ah _) hb2;clear hb2)|(go_at_call 309;refine(Dy w.heap.size R I n room gr _ _ wP hn ⟨Xq,hB.size⟩ hS.1 ⟨r1,r2⟩).mono ?_;rintro e w3 ⟨⟨v3,rfl⟩,abH,hb3⟩;replace hB:=Below.trans hB hb3;clear hb3)|(go_at_call 310;refine(Dw w.heap.size R I n room gr _ _ abH hn ⟨Xq,hB.size⟩ (tF hS).2).mono ?_;rintro e w4 ⟨⟨v4,rfl⟩,YT,hb4⟩;replace hB:=Below.trans hB hb4;clear hb4))
     go_step3;have hless:=Fe.Cz gr room hp;refine⟨rfl,R,I,1,_,_,_,_,_,_,_,_,_,rfl,Xq,YT,hB,?_⟩;have h1:=Fe.Pb (Fe.rounds gr room n (Fe.begun gr l) 0) n;change 1+Fe.pl (Fe.round gr room n (Fe.rounds gr room n (Fe.begun gr l) 0)) n<=n;omega
   . have h0:Fe.pl (Fe.rounds gr room n (Fe.begun gr l) 0) n=0:=by omega
     go_wp2_with (first|(go_at_call 308;refine(BU R I n room gr _ _ wP hn).mono ?_;rintro e w2 ⟨rfl,hb2⟩;rw[decide_eq_false hp];replace wP:=wP.keep hb2;replace hB:=Below.ay hB (ah _) hb2;clear hb2)|(go_at_call 311;refine(Gc R I n room gr _ _ wP hn).mono ?_;rintro e w3 ⟨⟨b,rfl,hbb,Ti⟩,hb3⟩;rw[HF.out 0 ak h0]at Ti;have hsz:=hB.size;replace hB:=Below.ay hB (ah _) hb3;clear hb3))
     exact Z34
 . rintro a' w' ⟨R,I,k,u8,u13,u14,u15,u16,u17,u18,u19,u20,rfl,Xq,wP,hB,hk⟩
   have HLO:=Lib.hid (Ag wP);have hS:=HS.out k;by_cases hp:0<Fe.pl (Fe.rounds gr room n (Fe.begun gr l) k) n
   . go_wp2_with (first|(go_at_call 308;refine(BU R I n room gr _ _ wP hn).mono ?_;rintro e w2 ⟨rfl,hb2⟩;rw[decide_eq_true hp];replace wP:=wP.keep hb2;replace hB:=Below.ay hB (ah _) hb2;clear hb2)|(go_at_call 309;refine(Dy w.heap.size R I n room gr _ _ wP hn ⟨Xq,hB.size⟩ hS.1 ⟨r1,r2⟩).mono ?_;rintro e w3 ⟨⟨v3,rfl⟩,abH,hb3⟩;replace hB:=Below.trans hB hb3;clear hb3)|(go_at_call 310;refine(Dw w.heap.size R I n room gr _ _ abH hn ⟨Xq,hB.size⟩ (tF hS).2).mono ?_;rintro e w4 ⟨⟨v4,rfl⟩,YT,hb4⟩;replace hB:=Below.trans hB hb4;clear hb4))
     go_step3;have hless:=Fe.Cz gr room hp;refine⟨rfl,⟨R,I,k+1,_,_,_,_,_,_,_,_,_,rfl,Xq,YT,hB,?_⟩,?_⟩
     . change k+1+Fe.pl (Fe.round gr room n (Fe.rounds gr room n (Fe.begun gr l) k)) n<=n
       omega
     . show yE _ (.pointer (some ⟨R,0,none⟩))<yE _ (.pointer (some ⟨R,0,none⟩))
       rw[Ag YT,HLO.out];exact hless
   . have h0:Fe.pl (Fe.rounds gr room n (Fe.begun gr l) k) n=0:=by omega
     go_wp2_with (first|(go_at_call 308;refine(BU R I n room gr _ _ wP hn).mono ?_;rintro e w2 ⟨rfl,hb2⟩;rw[decide_eq_false hp];replace wP:=wP.keep hb2;replace hB:=Below.ay hB (ah _) hb2;clear hb2)|(go_at_call 311;refine(Gc R I n room gr _ _ wP hn).mono ?_;rintro e w3 ⟨⟨b,rfl,hbb,Ti⟩,hb3⟩;rw[HF.out k ak h0]at Ti;have hsz:=hB.size;replace hB:=Below.ay hB (ah _) hb3;clear hb3))
     exact Z34
structure Im where
 it:Fe.It
 ld:Fw.Ld
 bx:Nat
 m0:Int
 m1:Int
 m2:Int
 m3:Int
def eF(x:Fw.Ld):Array Value:=#[.int .i64 x.id,.int .i64 x.i0,.int .i64 x.i1,.int .i64 x.s0,.int .i64 x.s1,.int .i64 x.a0,.int .i64 x.a1]
def nJ(x:Im):Array Value:=#[.int .i64 x.it.b,.int .i64 x.it.lo,.int .i64 x.it.hi,.int .i64 x.it.g,.int .i64 x.it.s,.int .i64 x.ld.id,.int .i64 x.ld.i0,.int .i64 x.ld.i1,.int .i64 x.ld.s0,.int .i64 x.ld.s1,.int .i64 x.ld.a0,.int .i64 x.ld.a1,.pointer (some ⟨x.bx,0,none⟩),.int .i64 x.m0,.int .i64 x.m1,.int .i64 x.m2,.int .i64 x.m3]
theorem At.im{W:World}{b:Nat}{x:Im}{T:TypeId}(h:At W b (.cells (nJ x) T)):b<W.heap.size/\W.cell? ⟨b,0,none⟩=some (.int .i64 x.it.b)/\W.cell? ⟨b,1,none⟩=some (.int .i64 x.it.lo)/\W.cell? ⟨b,2,none⟩=some (.int .i64 x.it.hi)/\W.cell? ⟨b,3,none⟩=some (.int .i64 x.it.g)/\W.cell? ⟨b,4,none⟩=some (.int .i64 x.it.s)/\W.cell? ⟨b,5,none⟩=some (.int .i64 x.ld.id)/\W.cell? ⟨b,6,none⟩=some (.int .i64 x.ld.i0)/\W.cell? ⟨b,7,none⟩=some (.int .i64 x.ld.i1)/\W.cell? ⟨b,8,none⟩=some (.int .i64 x.ld.s0)/\W.cell? ⟨b,9,none⟩=some (.int .i64 x.ld.s1)/\W.cell? ⟨b,10,none⟩=some (.int .i64 x.ld.a0)/\W.cell? ⟨b,11,none⟩=some (.int .i64 x.ld.a1)/\W.cell? ⟨b,12,none⟩=some (.pointer (some ⟨x.bx,0,none⟩))/\W.cell? ⟨b,13,none⟩=some (.int .i64 x.m0)/\W.cell? ⟨b,14,none⟩=some (.int .i64 x.m1)/\W.cell? ⟨b,15,none⟩=some (.int .i64 x.m2)/\W.cell? ⟨b,16,none⟩=some (.int .i64 x.m3) :=
 ⟨h.lt,h.cell 0,h.cell 1,h.cell 2,h.cell 3,h.cell 4,h.cell 5,h.cell 6,h.cell 7,h.cell 8,h.cell 9,h.cell 10,h.cell 11,h.cell 12,h.cell 13,h.cell 14,h.cell 15,h.cell 16⟩
theorem KF:(Tryz.prog.info? 283).map (·.size)=some 17:=by kernel_rfl
theorem Q9{W:World}{b:Nat}{x:Im}(h:At W b (.cells (nJ x) 283)):(Instr.loadAt 283 (.pointer (some ⟨b,0,none⟩))).run Tryz.prog W=.ok (.agg (nJ x)) W:=by
 simp only[Instr.loadAt,Instr.sureAddr,Sem.run_bind,Sem.run_pure,Result.andThen_ok,run_loadVar_row W b 283 283 (nJ x) (0,0) _ h Tryz.underlying283 rfl (by exact KF)]
theorem vD{o:Oper}{a:Act}{w:World}{b:Nat}{x:Im}(p:Operand)(ho:o.op=.load 283 p)(hp:a.eval p=.pointer (some ⟨b,0,none⟩))(h:At w b (.cells (nJ x) 283)):(execOp a.eval o).run Tryz.prog w=.ok (.value (.agg (nJ x))) w:=by
 unfold execOp;simp only[ho,hp,Sem.run_bind,Q9 h,Result.andThen_ok,Sem.run_pure]
def UN(x:Im)(s:Re.St):Int:=Fw.wr (Fw.wr (x.m0+x.m1)+Fw.nR s 0)
def ext1(x:Im)(s:Re.St):Int:=Fw.wr (Fw.wr (x.m2+x.m3)+Fw.nR s 1)
set_option maxHeartbeats 4000000 in
theorem Pz(x:Im)(s:Re.St)(fl ap:Value)(ib:Bool)(w:World)(h:aF w x.bx s fl ap ib):Calls Tryz.prog 273 #[.agg (nJ x),.int .i64 0] w λe w'=>e=.returned (.int .i64 (UN x s))/\Below w.heap.size w w':=by
 obtain⟨it,ld,b,m0,m1,m2,m3⟩:=x;go_enter Tryz.func273,Tryz.ntmps273
 go_upto_region 1 with(fail)
 generalize hW:World.alloc _ _=W0;have A0:At W0 w.heap.size (.cells (nJ ⟨it,ld,b,m0,m1,m2,m3⟩) 283):=hW▸At.new _ _;have A2:aF W0 b s fl ap ib:=hW▸aF.alloc h _;have hB:Below w.heap.size w W0:=hW▸Below.alloc' (Below.refl _ _) _;clear hW h;obtain⟨l0,-, -, -, -, -, -, -, -, -, -, -, -, c0,c1,c2,c3,c4⟩:=At.im A0;obtain⟨l2,aN,aO,aP,aQ,aZ,bq,aX,aY⟩:=At.bx0 A2;simp only at c0 c1 c2 c3 c4;exact Z1l
set_option maxHeartbeats 4000000 in
theorem PD(x:Im)(s:Re.St)(fl ap:Value)(ib:Bool)(w:World)(h:aF w x.bx s fl ap ib):Calls Tryz.prog 273 #[.agg (nJ x),.int .i64 1] w λe w'=>e=.returned (.int .i64 (ext1 x s))/\Below w.heap.size w w':=by
 obtain⟨it,ld,b,m0,m1,m2,m3⟩:=x;go_enter Tryz.func273,Tryz.ntmps273
 go_upto_region 1 with(fail)
 generalize hW:World.alloc _ _=W0;have A0:At W0 w.heap.size (.cells (nJ ⟨it,ld,b,m0,m1,m2,m3⟩) 283):=hW▸At.new _ _;have A2:aF W0 b s fl ap ib:=hW▸aF.alloc h _;have hB:Below w.heap.size w W0:=hW▸Below.alloc' (Below.refl _ _) _;clear hW h;obtain⟨l0,-, -, -, -, -, -, -, -, -, -, -, -, c0,c1,c2,c3,c4⟩:=At.im A0;obtain⟨l2,aN,aO,aP,aQ,aZ,bq,aX,aY⟩:=At.bx1 A2;simp only at c0 c1 c2 c3 c4;exact Z1l
def Ah(x:Im):Int:=Fw.wr (x.ld.s0+Fw.wr (x.m0+x.m1))
def Ai(x:Im):Int:=Fw.wr (x.ld.s1+Fw.wr (x.m2+x.m3))
set_option maxHeartbeats 4000000 in
theorem PE(x:Im)(B:Nat)(w:World)(h:w.cell? ⟨B,0,none⟩=some (.int .i64 0)):Calls Tryz.prog 278 #[.agg (nJ x),.pointer (some ⟨B,0,none⟩)] w λe w'=>e=.returned (.int .i64 (Ah x))/\Below w.heap.size w w':=by
 exact Z12
set_option maxHeartbeats 4000000 in
theorem PG(x:Im)(B:Nat)(w:World)(h:w.cell? ⟨B,0,none⟩=some (.int .i64 1)):Calls Tryz.prog 278 #[.agg (nJ x),.pointer (some ⟨B,0,none⟩)] w λe w'=>e=.returned (.int .i64 (Ai x))/\Below w.heap.size w w':=by
 exact Z12
set_option maxHeartbeats 4000000 in
theorem UO(x:Im)(s:Re.St)(fl ap:Value)(ib:Bool)(B:Nat)(w:World)(hb:aF w x.bx s fl ap ib)(h:w.cell? ⟨B,0,none⟩=some (.int .i64 0)):Calls Tryz.prog 271 #[.agg (nJ x),.pointer (some ⟨B,0,none⟩)] w λe w'=>e=.returned (.int .i64 (Fw.wr (Fe.clamp x.it x.it.b+UN x s)))/\Below w.heap.size w w':=by
 obtain⟨⟨YU,ilo,ihi,ig,is⟩,ld,b,m0,m1,m2,m3⟩:=x;have hlt:B<w.heap.size:=World.block_lt_of_cell? _ _ h;go_enter Tryz.func271,Tryz.ntmps271
 go_upto_region 1 with(fail)
 have hB:Below w.heap.size w (w.alloc (.cells (nJ ⟨⟨YU,ilo,ihi,ig,is⟩,ld,b,m0,m1,m2,m3⟩) 283)):=Below.alloc' (Below.refl _ _) _;generalize hW:World.alloc _ _=W0;have A0:At W0 w.heap.size (.cells (nJ ⟨⟨YU,ilo,ihi,ig,is⟩,ld,b,m0,m1,m2,m3⟩) 283):=hW▸At.new _ _;have A2:aF W0 b s fl ap ib:=hW▸aF.alloc hb _;replace hB:Below w.heap.size w W0:=hW▸hB;have lB:B<W0.heap.size:=aR hlt hB.size;have cB:=(Below.cell_ hB hlt 0).trans h;clear hW h hlt hb;obtain⟨l0,e0,e1,e2,e3,e4,d0,d1,d2,d3,d4,d5,d6,c0,c1,c2,c3,c4⟩:=At.im A0;simp only at e0 e1 e2 e3 e4 d0 d1 d2 d3 d4 d5 d6 c0 c1 c2 c3 c4;have HX:aF W0 (Im.mk ⟨YU,ilo,ihi,ig,is⟩ ld b m0 m1 m2 m3).bx s fl ap ib:=A2;have hx:=λw' (hS:Below W0.heap.size W0 w')=>Pz ⟨⟨YU,ilo,ihi,ig,is⟩,ld,b,m0,m1,m2,m3⟩ s fl ap ib w' (aF.keep HX hS);have hc:=λw'=>BX YU ilo ihi ig is YU w';clear HX A2;have HI:=Lib.hid A0;refine xP ?_
 (refine aj.iX aU Z4i ?_;(try simp only[bF,bG,bH,tks]))
 (refine aj.iX aU Z4i ?_;(try simp only[bF,bG,bH,tks]))
 (refine aj.iX aU Z4i ?_;(try simp only[bF,bG,bH,tks]))
 (refine aj.iX aU Z4i ?_;(try simp only[bF,bG,bH,tks]))
 (refine aj.iX aU Z4i ?_;(try simp only[bF,bG,bH,tks]))
 (refine aj.CU (o:=⟨_,.call ⟨.value _,_,_⟩,_,_,_,_⟩) aU (by intro w2 hS;go_simp;first|done|with_reducible rfl|exact⟨rfl,rfl⟩) (by intro w2 hS;(with_reducible refine(hc w2).mono ?_);rintro e w' ⟨rfl,hb⟩;exact⟨rfl,Below.after hS hb⟩) ?_;(try simp only[bF,bG,bH,tks]))
 (refine aj.iX aU (λw2 hS=>vD (.tmp 2) rfl rfl (At.keep HI.out hS)) ?_;(try simp only[bF,bG,bH,tks]))
 (refine aj.iX aU Z4i ?_;(try simp only[bF,bG,bH,tks]))
 (refine aj.CU (o:=⟨_,.call ⟨.value _,_,_⟩,_,_,_,_⟩) aU (by intro w2 hS;go_simp;first|done|with_reducible rfl|exact⟨rfl,rfl⟩) (by intro w2 hS;(with_reducible refine(hx w2 hS).mono ?_);rintro e w' ⟨rfl,hb⟩;exact⟨rfl,Below.after hS hb⟩) ?_;(try simp only[bF,bG,bH,tks]))
 (refine aj.iX aU Z4i ?_;(try simp only[bF,bG,bH,tks]))
 (refine aj.iX aU Z4i ?_;(try simp only[bF,bG,bH,tks]))
 refine aj.bZ ?_;intro w2 hS;go_wp2
 go_ret
 exact⟨bI (by first|(simp only[uJ,qZ];done)|(simp only[uJ,qZ];rfl)),Below.ay hB (ah _) hS⟩
set_option maxHeartbeats 4000000 in
theorem abI(x:Im)(w:World):Calls Tryz.prog 277 #[.agg (nJ x)] w λe w'=>e=.returned (.int .i64 (Fe.clamp x.it x.it.b))/\Below w.heap.size w w':=by
 obtain⟨⟨YU,ilo,ihi,ig,is⟩,ld,b,m0,m1,m2,m3⟩:=x;go_enter Tryz.func277,Tryz.ntmps277
 go_upto_region 1 with(fail)
 have hB:Below w.heap.size w (w.alloc (.cells (nJ ⟨⟨YU,ilo,ihi,ig,is⟩,ld,b,m0,m1,m2,m3⟩) 283)):=Below.alloc' (Below.refl _ _) _;generalize hW:World.alloc _ _=W0;have A0:At W0 w.heap.size (.cells (nJ ⟨⟨YU,ilo,ihi,ig,is⟩,ld,b,m0,m1,m2,m3⟩) 283):=hW▸At.new _ _;replace hB:Below w.heap.size w W0:=hW▸hB;clear hW;obtain⟨l0,e0,e1,e2,e3,e4,-, -, -, -, -, -, -, -, -, -, -, -⟩:=At.im A0;simp only at e0 e1 e2 e3 e4
 go_wp2_with (first|(go_at_call 272;(with_reducible refine(BX _ _ _ _ _ _ _).mono ?_);rintro e w' ⟨rfl,hb⟩;(try replace hb:=Below.after (by assumption) hb);obtain⟨hc,hf⟩:=kP hb;have hz:=hb.size;(try simp at hz)))
 go_ret
 exact⟨rfl,hb⟩
def SF(s:Re.St)(y:Nat)(base room:Int):Fe.It:=⟨Fx.len (s.c 41) (s.c 42) room base,Fx.limit 0 (s.c (7+2*y)) (s.c (8+2*y)) 0 0 room,max (Fx.len (s.c (11+2*y)) (s.c (12+2*y)) room 1048576) 0,s.c 39,s.c 40⟩
def wz(x:Fe.It):Array Value:=#[.int .i64 x.b,.int .i64 x.lo,.int .i64 x.hi,.int .i64 x.g,.int .i64 x.s]
theorem At.aaY{W:World}{b:Nat}{x0 x1 x2 x3 x4:Value}{T:TypeId}(h:At W b (.cells #[x0,x1,x2,x3,x4] T)):b<W.heap.size/\W.cell? ⟨b,0,none⟩=some x0/\W.cell? ⟨b,1,none⟩=some x1/\W.cell? ⟨b,2,none⟩=some x2/\W.cell? ⟨b,3,none⟩=some x3/\W.cell? ⟨b,4,none⟩=some x4:=⟨h.lt,h.cell 0,h.cell 1,h.cell 2,h.cell 3,h.cell 4⟩
set_option maxHeartbeats 4000000 in
theorem PI(k0 n0 k1 n1 k2 n2:Int)(s:Re.St)(base room:Int)(w:World):Calls Tryz.prog 227 #[.agg #[.int .i64 k0,.int .i64 n0,.int .i64 k1,.int .i64 n1,.int .i64 k2,.int .i64 n2],.agg (cells s),.int .i64 base,.int .i64 room] w λe w'=>e=.returned (.agg #[.int .i64 (Fx.len (s.c 41) (s.c 42) room base),.int .i64 (Fx.limit 0 k1 n1 0 0 room),.int .i64 (max (Fx.len k2 n2 room 1048576) 0),.int .i64 (s.c 39),.int .i64 (s.c 40)])/\Below w.heap.size w w':=by
 go_enter Tryz.func227,Tryz.ntmps227
 go_upto_region 1 with(fail)
 generalize hW:World.alloc _ _=W0;have A0:At W0 w.heap.size (.cells #[.int .i64 k0,.int .i64 n0,.int .i64 k1,.int .i64 n1,.int .i64 k2,.int .i64 n2] 190):=hW▸At.alloc (At.alloc (At.new _ _) _) _;have A1:At W0 (w.heap.size+1) (.cells (cells s) 51):=by rw[<-hW];exact At.alloc (At.new' _ Ev) _
 have A2:At W0 (w.heap.size+1+1) (.cells #[.int .i64 0,.int .i64 0,.int .i64 0,.int .i64 0,.int .i64 0] 281):=by rw[<-hW];exact At.new' _ Ev
 have hB:Below w.heap.size w W0:=hW▸Below.alloc' (Below.alloc' (Below.alloc' (Below.refl _ _) _) _) _;clear hW;obtain⟨l0,c0,c1,c2,c3,c4,c5⟩:=At.six A0;have l1:=A1.lt;have d0:=A1.st 41 aG rfl;have d1:=A1.st 42 aG rfl;have d2:=A1.st 39 aG rfl;have d3:=A1.st 40 aG rfl;refine wT 20 1 ?_
 (repeat (first|refine nN ?_ | refine nO ?_ (hc:=by intro w2 hS;first|with_reducible exact nI hS (ng _ _ _ _ _)|with_reducible exact nI hS (F4 _ _ _ _ _ _ _))|refine nP ?_))
 refine aj.dJ ?_;intro w2 hS;replace A2:=A2.keep hS;replace hB:=Below.ay hB (ah _) hS;obtain⟨l2,y0,y1,y2,y3,y4⟩:=At.aaY A2;have z0:=A2.thaw 0;have z1:=A2.thaw 1;have z2:=A2.thaw 2;have z3:=A2.thaw 3;have z4:=A2.thaw 4;refine xV ?_;intro K hK;go_simp;refine hK _ _ (aj.bP ?_);clear hK K;generalize hW:World.setCell _ _ _=W1;replace A2:At W1 (w.heap.size+1+1) (.cells #[_,_,_,_,_] 281):=hW▸At.set (At.set (At.set (At.set (At.set A2 0 _) 1 _) 2 _) 3 _) 4 _;replace hB:Below w.heap.size w W1:=hW▸Below.setCell (Below.setCell (Below.setCell (Below.setCell (Below.setCell hB jH _) jH _) jH _) jH _) jH _;clear hW y0 y1 y2 y3 y4 z0 z1 z2 z3 z4 l2;obtain⟨l2,y0,y1,y2,y3,y4⟩:=At.aaY A2;go_wp2;refine bodyPost_ret (v:=.agg #[.int .i64 _,.int .i64 _,.int .i64 _,.int .i64 _,.int .i64 _]) (by simp[results,Tryz.results227,go_sem, *];first|done|exact⟨rfl,rfl⟩|exact⟨rfl,rfl,rfl,rfl,rfl⟩|rfl) rfl ⟨Ku rfl rfl rfl rfl rfl,hB⟩
def hR:Value->Option (DataW Value×List MemPlace):=λv=>some (.held v,[])
def GM(k:TypeId)(W:World)(b n:Nat)(g:Lit->Option Value):Prop :=
 ∃D:DataW Value,W.ownsMap Tryz.prog k hR b n D/\Maps.size D=n/\∀l,WideAt.IsKeyLit l->(∀z,D.atKey l (.held z)=.held ((g l).getD z))/\Maps.has D l=(g l).isSome
section
variable {k t e:TypeId} {W W':World} {b n:Nat} {g:Lit->Option Value}
theorem GM.lt(h:GM k W b n g):b<W.heap.size:=by obtain⟨D,h,_⟩:=h;exact h.lt
theorem GM.obj(h:GM k W b n g):∃es clock,At W b (.map es clock):=by obtain⟨D,⟨es,clock,hb,_⟩,_⟩:=h;exact⟨es,clock,hb⟩
theorem GM.out{M:Nat->Prop}(h:GM k W b n g)(hm:¬ M b)(q:Out M W W'):GM k W' b n g:=by
 have hl:=h.lt;obtain⟨D,⟨es,clock,hb,r⟩,r2⟩:=h;exact⟨D,⟨es,clock,(q.2 b hl hm).trans hb,r⟩,r2⟩
theorem GM.keep(h:GM k W b n g)(hb:Below W.heap.size W W'):GM k W' b n g:=h.out (M:=λ_=>False) (λq=>q) (Out.of_below hb)
theorem GM.congr{g':Lit->Option Value}(h:GM k W b n g)(q:∀l,WideAt.IsKeyLit l->g l=g' l):GM k W b n g':=by
 obtain⟨D,h1,h2,h3⟩:=h;exact⟨D,h1,h2,λl hl=>by rw[<-q l hl];exact h3 l hl⟩
theorem GM.look(h:GM k W b n g)(K:Maps.Keyed Tryz.prog k)(ht:Tryz.prog.underlying t=some (.map k e)){z:Value}(hz:(zeroValue e).run Tryz.prog W=.ok z W){key:Value}{kl:Lit}(hkey:keyOf Tryz.prog k key=some kl) :
  (Instr.lookup t (.map (some b)) key false).run Tryz.prog W=.ok ((g kl).getD z) W:=by
 obtain⟨D,h1,_,h3⟩:=h;obtain⟨v,ps,hr,hv⟩:=h1.lookup (z:=z) (zd:=.held z) (zp:=[]) K ht hz rfl hkey;rw[(h3 kl (K.key hkey)).1 z]at hv;simp only[hR,Option.some.injEq,Prod.mk.injEq,DataW.held.injEq]at hv;rw[hr,hv.1]
theorem GM.look_ok(h:GM k W b n g)(K:Maps.Keyed Tryz.prog k)(ht:Tryz.prog.underlying t=some (.map k e)){z:Value}(hz:(zeroValue e).run Tryz.prog W=.ok z W){key:Value}{kl:Lit}(hkey:keyOf Tryz.prog k key=some kl) :
  (Instr.lookup t (.map (some b)) key true).run Tryz.prog W=.ok (.tuple #[(g kl).getD z,.bool (g kl).isSome]) W:=by
 obtain⟨D,h1,_,h3⟩:=h;obtain⟨v,ps,hr,hv⟩:=h1.look_ok (z:=z) (zd:=.held z) (zp:=[]) K ht hz rfl hkey;rw[(h3 kl (K.key hkey)).1 z]at hv;simp only[hR,Option.some.injEq,Prod.mk.injEq,DataW.held.injEq]at hv;rw[hr,hv.1,(h3 kl (K.key hkey)).2]
theorem GM.len(h:GM k W b n g)(ht:Tryz.prog.underlying t=some (.map k e))(ty:TypeId):(Builtin.len_ #[t] ty #[.map (some b)]).run Tryz.prog W=.ok (.int .i64 (n:Int)) W:=by
 obtain⟨D,h1,h2,_⟩:=h;rw[h1.len ht ty,h2]
noncomputable def xB(g:Lit->Option Value)(l:Lit)(v:Value):Lit->Option Value:=λy=>@ite (Option Value) (y=l) (Classical.propDecidable _) (some v) (g y)
theorem jm(g:Lit->Option Value)(l:Lit)(v:Value):xB g l v l=some v:=if_pos rfl
theorem jK{g:Lit->Option Value}{l y:Lit}{v:Value}(h:y≠l):xB g l v y=g y:=if_neg h
theorem UQ{P:Program}{k:TypeId}{R:Value->Option (DataW Value×List MemPlace)}{W:World}{b n:Nat}{D:DataW Value}(h:W.ownsMap P k R b n D):W.ownsMap P k R b (Maps.size D) D:=by
 obtain⟨es,clock,hb,F,hs,rfl⟩:=h;exact⟨es,clock,hb,F,by simp[Maps.size,length_sorted],rfl⟩
theorem GM.store(h:GM k W b n g)(K:Maps.Keyed Tryz.prog k)(ht:Tryz.prog.underlying t=some (.map k e))(hn:n<maxLen){key v:Value}{kl:Lit}(hkey:keyOf Tryz.prog k key=some kl)(hf:g kl=none) :
  ∃W',(Instr.mapUpdate t (.map (some b)) key v).run Tryz.prog W=.ok () W'/\GM k W' b (n+1) (xB g kl v)/\Out (λx=>x=b) W W':=by
 obtain⟨D,h1,h2,h3⟩:=h;obtain⟨W',hr,ho,ht⟩:=h1.store K ht hn hkey (val:=v) rfl;have hsz:Maps.size (D.put kl (.held v))=n+1:=by
  rw[Maps.size_put (h1.tidy K),(h3 kl (K.key hkey)).2,hf,h2];rfl
 refine⟨W',hr,⟨_,hsz▸UQ ho,hsz,λy hy => ?_⟩,Out.turned ht⟩;exact Z2a
theorem GM.made(k:TypeId)(W:World):GM k (W.alloc (.map #[] 0)) W.heap.size 0 (λ_=>none) :=
 ⟨.map [],World.ownsMap_made _ _ _ _,rfl,λl hl=>⟨λz=>rfl,rfl⟩⟩
end
theorem BZ:Maps.Keyed Tryz.prog 112:=Maps.Keyed.of_law (deep_law (m:=5) aG fV fV fV)
def NH(z a b:Int):Value:=.agg #[.int .i64 z,.int .i64 a,.int .i64 b]
def klit(z a b:Int):Lit:=.string (keyBytes [.int .i64 z,.int .i64 a,.int .i64 b])
theorem Io(d:Nat){z:Int}(h:Wf z):Tryz.prog.keyLits (d+1) 3 [.int .i64 z]=some [.int .i64 z]:=by
 have h':(Lit.int .i64 z).wf=true:=h;simp[Program.keyLits,Tryz.underlying3,h']
theorem UR(d:Nat){a b:Int}(ha:Wf a)(hb:Wf b):Tryz.prog.keyLits (d+2) 108 [.int .i64 a,.int .i64 b]=some [.int .i64 a,.int .i64 b]:=by
 have hc:Tryz.prog.cellsOf 108=2:=by kernel_rfl
 have hi:Tryz.prog.cellsOf 3=1:=by kernel_rfl
 have e1:=Io d ha;have e2:=Io d hb;unfold Program.keyLits;simp only[Tryz.underlying108,hc,hi,List.length_cons,List.length_nil,Nat.reduceAdd,if_true];rw[show List.range 2=[0,1]from rfl];simp[e1,e2]
theorem KG{z a b:Int}(hz:Wf z)(ha:Wf a)(hb:Wf b):keyOf Tryz.prog 112 (NH z a b)=some (klit z a b):=by
 have hc:Tryz.prog.cellsOf 112=3:=by kernel_rfl
 have hs:Tryz.prog.cellsOf 108=2:=by kernel_rfl
 have hi:Tryz.prog.cellsOf 3=1:=by kernel_rfl
 have hk:Tryz.prog.keyType 112=true:=by kernel_rfl
 obtain⟨d,hd⟩:∃d,Tryz.prog.types.size+1=d+3:=⟨Tryz.prog.types.size-2,by have h:Nat.ble 2 Tryz.prog.types.size=true:=fV;have:=Nat.le_of_ble_eq_true h;omega⟩;have e1:=Io (d+1) hz;have e2:=UR d ha hb;have hf:Value.formed Tryz.prog 112 (NH z a b)=true:=by simp[Value.formed,NH,Tryz.underlying112,hc]
 have hl:Tryz.prog.keyLits (d+3) 112 [.int .i64 z,.int .i64 a,.int .i64 b]=some [.int .i64 z,.int .i64 a,.int .i64 b]:=by
  unfold Program.keyLits;simp only[Tryz.underlying112,hc,List.length_cons,List.length_nil,Nat.reduceAdd];simp[hs,hi,e1,e2]
 unfold keyOf;simp only[Tryz.underlying112,hk,hd,hf,Bool.and_self,if_true];rw[show(NH z a b).cells.toList=[.int .i64 z,.int .i64 a,.int .i64 b]from rfl,hl];rfl
theorem UU{z a b z' a' b':Int}(hz:Wf z)(ha:Wf a)(hb:Wf b)(hz':Wf z')(ha':Wf a')(hb':Wf b')(h:klit z a b=klit z' a' b'):z=z'/\a=a'/\b=b':=by
 have e:=BZ.inj (KG hz ha hb) (h▸KG hz' ha' hb');simpa[NH]using e
end Go.Proofs.YtcbcfdihofclkaaGreat.Fix
