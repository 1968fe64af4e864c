/- Proved here: what functions of the program do, in plain numbers (part 16); no conditions but those in sight. -/
import Derived.Test.YtcbcfdihofclkaaGreatQK
import Derived.Test.YtcbcfdihofclkaaGreatQ07
import Derived.Test.YtcbcfdihofclkaaGreatQ15
set_option linter.unusedVariables false
set_option linter.unusedSimpArgs false
set_option linter.unusedSectionVars false
set_option maxRecDepth 100000
namespace Go.Proofs.YtcbcfdihofclkaaGreat.Fix
open Go.ChangeShapes Go.WideShapes Go.ChangeAt Go.RowKit
theorem At.five{W:World}{b:Nat}{x y z u v:Value}{T:TypeId}(h:At W b (.cells #[x,y,z,u,v] T)):b<W.heap.size/\W.cell? ⟨b,0,none⟩=some x/\W.cell? ⟨b,1,none⟩=some y/\W.cell? ⟨b,2,none⟩=some z/\W.cell? ⟨b,3,none⟩=some u/\W.cell? ⟨b,4,none⟩=some v:=⟨h.lt,h.cell 0,h.cell 1,h.cell 2,h.cell 3,h.cell 4⟩
theorem UJ(n lo hi:Int)(w:World)(h:(0<=lo/\lo<=1048576)/\0<=hi/\hi<=1048576):Calls Tryz.prog 101 #[.int .i64 n,.int .i64 lo,.int .i64 hi] w λe w'=>e=.returned (.int .i64 (Fe.inn lo hi n))/\w=w':=by
 rw[<-Fe.Yd h.1.1 h.1.2 h.2.1 h.2.2];exact rP n lo hi w
theorem Kw(b lo hi g s:Int)(w:World):Calls Tryz.prog 301 #[.agg #[.int .i64 b,.int .i64 lo,.int .i64 hi,.int .i64 g,.int .i64 s]] w λe w'=>e=.returned (enc (Fe.cnt ⟨b,lo,hi,g,s⟩))/\Below w.heap.size w w':=Kv ⟨b,lo,hi,g,s⟩ w
set_option maxHeartbeats 4000000 in
theorem ND(x:Fe.It)(n:Int)(w:World):Calls Tryz.prog 272 #[enc x,.int .i64 n] w λe w'=>e=.returned (.int .i64 (Fe.clamp x n))/\Below w.heap.size w w':=by
 obtain⟨b,lo,hi,g,s⟩:=x;obtain⟨d1,d2,d3,d4,d5,d6,d7,d8,d9,d10⟩:=Fe.G7 ⟨b,lo,hi,g,s⟩;unfold Fe.clamp;have HC:Hid (Fe.cnt ⟨b,lo,hi,g,s⟩=Fe.cnt ⟨b,lo,hi,g,s⟩):=Lib.hid rfl;generalize hc:Fe.cnt ⟨b,lo,hi,g,s⟩=c at *;obtain⟨b',lo',hi',g',s'⟩:=c;simp only at d1 d2 d3 d4 d5 d6;have HE:=Lib.hid hc;clear hc HC d7 d8 d9 d10;simp only[enc];go_enter Tryz.func272,Tryz.ntmps272
 go_upto_region 1 with(fail)
 generalize hW:World.alloc _ _=W0;have A0:At W0 w.heap.size (.cells #[.int .i64 b,.int .i64 lo,.int .i64 hi,.int .i64 g,.int .i64 s] 281):=hW▸At.new _ _;have hB:Below w.heap.size w W0:=hW▸Below.alloc' (Below.refl _ _) _;clear hW;obtain⟨l0,c0,c1,c2,c3,c4⟩:=A0.five
 go_upto_region 2 with(go_at_call 301;(with_reducible refine(Kw _ _ _ _ _ _).mono ?_);rintro e w' ⟨rfl,hb⟩;rw[HE.out];simp only[enc];clear l0 c0 c1 c2 c3 c4;replace A0:=A0.keep hb;replace hB:=Below.ay hB (ah _) hb;clear hb;obtain⟨l0,c0,c1,c2,c3,c4⟩:=A0.five;have z0:=A0.thaw 0;have z1:=A0.thaw 1;have z2:=A0.thaw 2;have z3:=A0.thaw 3;have z4:=A0.thaw 4)
 go_wp2_with (first|(go_at_call 101;with_reducible refine wL (UJ _ _ _ _ ⟨by omega,by omega⟩) ?_))
 go_ret
 exact⟨bI (by unfold Fe.inn;(repeat' split)<;>omega),by(repeat (first|exact Below.refl _ _ | assumption|refine Below.drew ?_ | refine Below.drewN ?_ _ | refine Below.alloc' ?_ _ | refine Below.setCell ?_ Z53 _ | refine Below.ay ?_ (ah _) (by assumption)))⟩
end Go.Proofs.YtcbcfdihofclkaaGreat.Fix
namespace Go.Proofs.YtcbcfdihofclkaaGreat.Fix
open Go.ChangeShapes Go.WideShapes Go.ChangeAt Go.RowKit Go.Shelf
attribute [local go_sem] Oper.semAt_some
theorem ownsRow_below{W w:World}{base:Nat}{e:TypeId}{sz:Nat}{v:Value}{k:Nat}{xs:List Value}(h:W.ownsRow base e sz v k xs)(hb:Below W.heap.size W w):w.ownsRow base e sz v k xs:=by
 refine h.kept (row:=none) ⟨hb.os,hb.tape,hb.output,hb.size,λk hk _=>hb.block k hk⟩ ?_;rcases h.2 with⟨rfl,_⟩|⟨g,cap,cur,rfl,_⟩
 . exact .inl rfl
 . exact .inr (by simp[Value.ownBlock])
theorem At.row{W w:World}{b base k:Nat}{vs:Array Value}{T:TypeId}{v:Value}{xs:List Value}(h:At W b (.cells vs T))(hT:T≠3)(ho:W.ownsRow base 3 1 v k xs)(hg:W.grownBy w v.ownBlock):At w b (.cells vs T):=by
 refine(hg.block b h.lt λe => ?_).trans h;rcases ho.2 with⟨rfl,_⟩|⟨g,cap,cur,rfl,_,hgb,_⟩
 . simp[Value.ownBlock]at e
 . have e':b=g:=by simpa[Value.ownBlock]using e
   subst e';unfold At at h;rw[h]at hgb;injection hgb with hgb;injection hgb with _ hgb;exact hT hgb
theorem sK.row{W w:World}{I n base k:Nat}{S:Nat->Fe.St}{v:Value}{xs:List Value}(h:sK W I n S)(ho:W.ownsRow base 3 1 v k xs)(hg:W.grownBy w v.ownBlock):sK w I n S:=by
 obtain⟨vs,h,r⟩:=h;exact⟨vs,h.row aG ho hg,r⟩
theorem Ky{W:World}{base k:Nat}{v:Value}{xs:List Int}(x:Int)(hown:W.ownsRow base 3 1 v k (xs.map (Value.int .i64)))(hbase:base<=W.heap.size)(hk:k<=10000) :
  ∃g c w',(Builtin.append_ #[30,30] 30 #[v,.slice (some ⟨W.heap.size,0,none⟩) 1 1]).run Tryz.prog (W.alloc (.cells #[.int .i64 x] 3))=.ok (.slice (some ⟨g,0,none⟩) (k+1) c) w' /\
   w'.ownsRow base 3 1 (.slice (some ⟨g,0,none⟩) (k+1) c) (k+1) ((xs++[x]).map (Value.int .i64))/\(W.alloc (.cells #[.int .i64 x] 3)).grownBy w' v.ownBlock:=by
 obtain⟨i0,hi0,hz0,hz1,hz2⟩:=info_parts intZero
 obtain⟨v',w',hr,ho,hg,_,_⟩:=run_append_own_at (P:=Tryz.prog) (w:=W.alloc (.cells #[.int .i64 x] 3)) base 30 30 3 i0 (.int .i64 0) 1 8 Tryz.underlying30 hi0 hz0 hz1 hz2 rfl aG v k _ (hown.alloc _) ⟨W.heap.size,0,none⟩ 1 1 [.int .i64 x] rfl
  (by intro j u hj
      match j,hj with
      | 0,hj=>simp at hj;subst hj;simp[Addr.add])
  Jk OZ ak jH
 obtain⟨g,c,rfl⟩:=ownsRow_succ ho;exact⟨g,c,w',hr,by rw[List.map_append];exact ho,hg⟩
theorem Below.row{N:Nat}{w0 W w:World}{base k:Nat}{v:Value}{xs:List Value}(h:Below N w0 W)(ho:W.ownsRow base 3 1 v k xs)(hg:W.grownBy w v.ownBlock)(hN:N<=base)(hW:N<=W.heap.size):Below N w0 w:=by
 refine h.grown hg hW (λj e => ?_);rcases ho.2 with⟨rfl,_⟩|⟨g,cap,cur,rfl,hb,_⟩
 . simp[Value.ownBlock]at e
 . have e':j=g:=by simpa[Value.ownBlock,eq_comm]using e
   omega
theorem KeepsOthers.row{W w:World}{base k:Nat}{v:Value}{xs:List Value}(ho:W.ownsRow base 3 1 v k xs)(hg:W.grownBy w v.ownBlock):KeepsOthers W w :=
 KeepsOthers.of_grownBy hg λj o ej hj=>by
  rcases ho.2 with⟨rfl,_⟩|⟨g,cap,cur,rfl,_,hgb,_⟩
  . simp[Value.ownBlock]at ej
  . obtain rfl:g=j:=by simpa[Value.ownBlock]using ej
    rw[hgb]at hj;cases hj;rfl
theorem Bp{w:World}{base:Nat}{v:Value}{n:Nat}{l:List Int}(h:w.ownsRow base 3 1 v n (l.map (Value.int .i64)))(hm:n<=maxLen):∃A c,v=.slice A n c/\Ints w A l/\l.length=n:=by
 have hl:l.length=n:=by simpa using h.1
 obtain⟨A,c,rfl,hI⟩:=uV h hm;exact⟨A,c,by rw[hl],hI,hl⟩
theorem Ints.turn{W:World}{A:Option Addr}{l:List Int}{r:Nat}{o':Obj}(h:Ints W A l)(hW:W.heap[r]? = some o')(hc:o'.isCells=false)(o:Obj):Ints (W.putObj r o) A l:=by
 refine⟨h.1,λh0 => ?_⟩;obtain⟨b,off,rfl,hcell⟩:=h.2 h0;exact⟨b,off,rfl,λk hk=>cell_kept (hcell k hk) (grownBy_putObj' W r o) (λr' e=>by cases e;exact⟨o',hW,hc⟩)⟩
theorem Ints.off{W:World}{b off g k:Nat}{l:List Int}(h:Ints W (some ⟨b,off,none⟩) l)(hne:b≠g)(v:Value):Ints (W.setCell ⟨g,k,none⟩ v) (some ⟨b,off,none⟩) l:=by
 refine⟨h.1,λh0 => ?_⟩;obtain⟨b',off',e,hcell⟩:=h.2 h0;injection e with e;injection e with e1 e2;subst e1;subst e2;exact⟨b,off,rfl,λk' hk=>(World.cell?_of_block (Below.heap_setCell W ⟨g,k,none⟩ v b hne)).trans (hcell k' hk)⟩
theorem Dx{P:Program}{w w':World}{o:Oper}{a:Act}(s x:Operand)(t:TypeId)(ho:o.op=.call { callee:=.builtin .append,args:=#[s,x],argTypes:=#[t,t] }){v u v':Value}(hs:a.eval s=v)(hx:a.eval x=u)
  (hrun:(Builtin.append_ #[t,t] o.type #[v,u]).run P w=.ok v' w'):(execOp a.eval o).run P w=.ok (.value v') w':=by
 exact Z1x
theorem BX(b lo hi g s n:Int)(w:World):Calls Tryz.prog 272 #[.agg #[.int .i64 b,.int .i64 lo,.int .i64 hi,.int .i64 g,.int .i64 s],.int .i64 n] w λe w'=>e=.returned (.int .i64 (Fe.clamp ⟨b,lo,hi,g,s⟩ n))/\Below w.heap.size w w':=ND ⟨b,lo,hi,g,s⟩ n w
set_option maxRecDepth 100000 in
set_option maxHeartbeats 4000000 in
theorem Dy(N R I n:Nat)(room:Int)(gr:Bool)(S:Nat->Fe.St)(w:World)(h:eX w R I n room gr S)(hn:n<=64)(hN:N<=I/\N<=w.heap.size)(hs:Sound S n)(hr:0<=room/\room<=67108864) :
  Calls Tryz.prog 309 #[.pointer (some ⟨R,0,none⟩)] w λe w'=>(∃v,e=.returned v)/\eX w' R I n room gr (Fe.shared gr room n S)/\Below N w w':=by
 have Jy:∀(fn:Fn) (first cap:Array Value) (w:World),(Instr.makeFunc fn first cap).run Tryz.prog w=.ok (.func fn first cap) w:=λ_ _ _ _=>rfl;have hR:=h.1.lt;have hI:=h.2.lt;have HR:=Lib.hid h;have HS:=Lib.hid hs;clear h hs;refine(callsIn_wide (n:=5)).1 ?_;refine callsIn_of_wp_marks Tryz.func309 rfl trivial ?_ rfl;simp only[Tryz.ntmps309,List.size_toArray,List.length_cons,List.length_nil,Nat.reduceAdd,Nat.reduceSub,Array.replicate_succ,Array.replicate_zero,List.push_toArray,List.append_toArray,List.nil_append,List.cons_append]
 gi_wp2
 obtain⟨W0,hA1,hA2,hrow,hB,wP,hsz,hW⟩:∃W0,At W0 w.heap.size (.cells #[.pointer (some ⟨R,0,none⟩)] 355)/\At W0 (w.heap.size+1+1) (.cells #[.slice (some ⟨w.heap.size+1,0,none⟩) 0 0] 30) /\
   W0.ownsRow w.heap.size 3 1 (.slice (some ⟨w.heap.size+1,0,none⟩) 0 0) 0 []/\Below N w W0/\eX W0 R I n room gr S/\W0.heap.size=w.heap.size+3 /\
   (((w.alloc (.cells #[.pointer (some ⟨R,0,none⟩)] 355)).alloc (.cells #[] 3)).alloc (.cells #[.slice (some ⟨w.heap.size+1,0,none⟩) 0 0] 30))=W0:=by
  refine⟨_,((At.new w _).alloc _).alloc _,At.new' _ eY,?_,(((Below.refl _ _).alloc hN.2 _).alloc jH _).alloc jH _,((HR.out.alloc _).alloc _).alloc _,by simp,rfl⟩;have bR:At ((w.alloc (.cells #[.pointer (some ⟨R,0,none⟩)] 355)).alloc (.cells #[] 3)) (w.heap.size+1) (.cells #[] 3):=At.new' _ eY;exact⟨by simp,.inr ⟨w.heap.size+1,0,#[],rfl,by omega,bR.alloc _,ah _,by simp[maxLen],by simp,by simp⟩⟩
 rw[hW];clear hW
 refine j6 (n:=5) (gf:=314) (first:=#[.pointer (some ⟨R,0,none⟩)]) (lb:=#[]) rfl (enters_of Tryz.func314 fV rfl) n (λi=>(S i).f) (λi=>#[.int .i64 (Fe.pl S i:Nat),.pointer (some ⟨I,i*8,none⟩)]) (λ_=>rfl)
  (λi W=>eX W R I n room gr S/\At W w.heap.size (.cells #[.pointer (some ⟨R,0,none⟩)] 355)/\(∃v,At W (w.heap.size+1+1) (.cells #[v] 30)/\W.ownsRow w.heap.size 3 1 v (Fe.pl S i) ((Fe.ws gr S i).map (Value.int .i64)))/\Below N w W)
  (λW=>False)
  (λi W r o o' h hr hW hc=>⟨h.1.turn ak ak o,h.2.1.turn ak o,by obtain⟨v,h1,h2⟩:=h.2.2.1;exact⟨v,h1.turn ak o,ownsRow_putObj h2 o hW hc⟩,Below.turn h.2.2.2 ak hW o⟩)
  (λW r o o' h hr hW _=>h)
  (λo1 o2=>⟨(wP.alloc o1).alloc o2,(hA1.alloc o1).alloc o2,⟨_,(hA2.alloc o1).alloc o2,(hrow.alloc o1).alloc o2⟩,(hB.alloc ak o1).alloc jH o2⟩)
  (λlp J Jx W hV hs hY hJ=>rU 4 R I n room (Fe.sg gr) S hn lp J Jx W (λi W h=>(hV i W h).1.sees i) hs hY hJ)
  (λi W hi hf h=>⟨h.1,h.2.1,by simp only[Fe.pl,Fe.ws,hf,if_true];exact h.2.2.1,h.2.2.2⟩)
  (λi t=>((t.setIfInBounds 12 (.int .i64 (Fe.pl S i:Nat))).setIfInBounds 13 (.pointer (some ⟨I,i*8,none⟩))).setIfInBounds 4 (.pointer (some ⟨I,i*8,none⟩))) ?assign ?body ?done ?stop
 case assign =>
  exact Z1o
 case body =>
  rintro l i W hi hf ⟨pF,hB1,⟨v,hV,hown⟩,hBl⟩;have hb1:=hB1.lt;have hb2:=hV.lt;have hpl:=Fe.Pb S i;obtain⟨hs1,_⟩:=HS.out i hi;have hP:Fe.pl S (i+1)=Fe.pl S i+1:=by simp[Fe.pl,hf]
  have hWs:Fe.ws gr S (i+1)=Fe.ws gr S i++[Fe.wt gr (S i).x]:=by simp[Fe.ws,hf]
  have HP:=Lib.hid hP;have HWs:=Lib.hid hWs;clear hP hWs
  (simp only[List.setIfInBounds_toArray,List.set_cons_zero,List.set_cons_succ])
  gi_upto_region 4 with(fail)
  refine aj.QK (S:=(λW'=>W'.cell? ⟨w.heap.size+1+1,0,none⟩=some v/\W'.cell? ⟨w.heap.size,0,none⟩=some (.pointer (some ⟨R,0,none⟩)))) 6 fV fV (by rintro⟨_,_,hh⟩;exact hh) ?_ ?_
  . exact⟨hV.cell 0,hB1.cell 0⟩
  intro hS0;refine aT 0 ?_;refine aT 1 ?_;refine aT 2 ?_;refine tk1 3 ?_;refine aj.Step.call dQ (NA R I n i room gr S _ pF.drew hi hs1) ?_;rintro e w3 ⟨rfl,hb⟩;replace hb:Below W.heap.size W w3:=Below.ay (Below.refl _ _).drew (ah _) hb;have hV3:=hV.keep hb;have hB3:=hB1.keep hb;have hown3:=ownsRow_below hown hb;have BK:=pF.keep hb;have agf:=Below.trans hBl (hb.mono ak);have hz3:=hb.size;refine⟨_,rfl,λ_=>⟨hV3.cell 0,hB3.cell 0⟩,?_⟩
  (try simp only[bF,bG,bH,tks])
  obtain⟨g,c,w4,hrun,aaX,hg4⟩:=Ky (Fe.wt gr (S i).x) hown3 ak ak;refine tk1 4 ?_;refine uF ?_ (hS:=by first|(intro hlt;exact absurd hlt aG)|(intro _;exact⟨(hV3.alloc _).cell 0,(hB3.alloc _).cell 0⟩));have hV4:=(hV3.alloc (.cells #[.int .i64 (Fe.wt gr (S i).x)] 3)).row aG (hown3.alloc _) hg4;have hB4:=(hB3.alloc (.cells #[.int .i64 (Fe.wt gr (S i).x)] 3)).row aG (hown3.alloc _) hg4;have hz4:=hV4.thaw 0;have hc4:w4.cell? ⟨w.heap.size+1+1,0,none⟩=some v:=hV4.cell 0;have hl4:=hV4.lt;refine tk1 5 ?_;refine aj.Step.value (Dx (.tmp 14) (.tmp 18) 30 rfl rfl rfl hrun) ⟨λ_=>⟨hV4.cell 0,hB4.cell 0⟩,?_⟩
  (try simp only[bF,bG,bH,tks])
  refine tk1 6 ?_;refine aj.Step.skip Z4o ?_;refine⟨by first|(intro hlt;exact absurd hlt aG)|(intro _;omega),?_⟩;(try simp only[Act.put]);refine jY ?_
  gi_wp2
  refine⟨(KeepsFrom.of_below hb).trans ((((KeepsOthers.alloc _ _).trans (KeepsOthers.row (hown3.alloc _) hg4)).trans (KeepsOthers.setCell _ _ _)).from _),?_,?_,⟨_,hV4.set 0 _,?_⟩,?_⟩
  . exact eX.off ⟨At.row (BK.1.alloc _) aG (hown3.alloc _) hg4,(BK.2.alloc _).row (hown3.alloc _) hg4⟩ ak ak _
  . exact hB4.off ak _ _
  . rw[HP.out,HWs.out]
    exact aaX.kept (grownBy_setCell' w4 _ _) (.inr (Boxed.not_row (show Boxed w4 _ _ _ from hV4) aG aaX).symm)
  . exact Below.setCell (Below.row (agf.alloc ak _) (hown3.alloc _) hg4 hN.2 jH) jH _
 case stop=>exact λD W hD h _=>h.elim
 case done =>
  rintro D W hD ⟨pF,hB1,⟨v,hV,hown⟩,hBl⟩ hK;have hlD:=(Array.getElem?_eq_some_iff.1 hK).1;have hpl:=Fe.Pb S n;obtain⟨A,c,rfl,Xq,hL⟩:=Bp hown Jv;have hb1:=hB1.lt;have hb2:=hV.lt;clear hown hA1 hA2 hrow hB wP HR
  gi_upto_region 5 with(fail)
  refine wpIn_wide.2 (aj.kg (λa0 a W5=>∃b B5,a={ a0 with tmps:=((((a0.tmps.setIfInBounds 20 (.pointer (some ⟨R,0,none⟩))).setIfInBounds 21 (.int .i64 (Fe.free gr room S n))).setIfInBounds 22 (.slice A (Fe.pl S n) c)).setIfInBounds 23 (.slice (some ⟨b,0,none⟩) (Fe.pl S n) (Fe.pl S n))).setIfInBounds 5 (.pointer (some ⟨B5,0,none⟩)) } /\
   W.heap.size<=b/\W.heap.size<=B5/\At W5 B5 (.cells #[.slice (some ⟨b,0,none⟩) (Fe.pl S n) (Fe.pl S n)] 30)/\Ints W5 (some ⟨b,0,none⟩) (Fe.parts gr room S n)/\Below W.heap.size W W5) ?_ ?_)
  . refine kQ (S:=(λW'=>W'.cell? ⟨w.heap.size+1+1,0,none⟩=some (.slice A (Fe.pl S n) c)/\W'.cell? ⟨w.heap.size,0,none⟩=some (.pointer (some ⟨R,0,none⟩)))) 5 ?_ ?_
    . exact⟨hV.cell 0,hB1.cell 0⟩
    intro hS0;have hx:Below W.heap.size W W.drew:=(Below.refl _ _).drew;refine aT 0 ?_;refine aT 2 ?_;refine tk2 1 4 ?_ ?_
    . refine aj.Step.call dQ (Kt R I n room gr S _ (pF.keep hx) HS.out hn hr) ?_
      rintro e w3 ⟨rfl,hb⟩;replace hx:=Below.ay hx (ah _) hb;clear hb;refine⟨_,rfl,λ_=>⟨(hV.keep hx).cell 0,(hB1.keep hx).cell 0⟩,?_⟩
      (try simp only[bF,bG,bH,tks])
      refine tk2 3 4 ?_ ?_
      . refine aj.Step.call dQ (Cq A (Fe.ws gr S n) _ c (Fe.free gr room S n) _ (Xq.after hx) hL ak) ?_
        rintro e w4 ⟨⟨b,rfl,hbb,Ti⟩,hb⟩;have hx3:=hx.size;replace hx:=Below.ay hx (ah _) hb;clear hb;refine⟨_,rfl,λ_=>⟨(hV.keep hx).cell 0,(hB1.keep hx).cell 0⟩,?_⟩
        (try simp only[bF,bG,bH,tks])
        refine tk1 4 ?_;refine uF ?_ (hS:=by first|(intro hlt;exact absurd hlt aG)|(intro _;exact⟨((hV.keep hx).alloc _).cell 0,((hB1.keep hx).alloc _).cell 0⟩));have hx4:=hx.size;refine tk1 5 ?_;refine aj.Step.skip Z4o ?_;refine⟨by first|(intro hlt;exact absurd hlt aG)|(intro _;omega),?_⟩;(try simp only[Act.put]);refine jY ?_;exact⟨rfl,b,w4.heap.size,rfl,by omega,by omega,At.new _ _,Ti.after (Below.alloc' (Below.refl _ _) _),Below.alloc' hx _⟩
      . refine aj.Step.value (u:=.pointer (some ⟨w3.heap.size,0,none⟩)) (w':=w3.alloc (.cells #[.slice none 0 0] 30)) dQ ?_
        obtain⟨w9,bA,qx,fT,hz0,UK⟩:∃w9,w9=w3.alloc (.cells #[.slice none 0 0] 30)/\At w9 w3.heap.size (.cells #[.slice none 0 0] 30)/\Below w3.heap.size w3 w9/\w9.heap.size=w3.heap.size+1/\W.heap.size<=w3.heap.size:=⟨_,rfl,At.new _ _,Below.alloc' (Below.refl _ _) _,by simp,hx.size⟩;rw[<-bA];clear bA;generalize w3.heap.size=B5 at *;replace hx:=Below.trans hx (fT.mono ak);clear fT;refine⟨λ_=>⟨(hV.keep hx).cell 0,(hB1.keep hx).cell 0⟩,?_⟩;exact Z18
    . refine aj.Step.value (u:=.pointer (some ⟨W.drew.heap.size,0,none⟩)) (w':=W.drew.alloc (.cells #[.slice none 0 0] 30)) dQ ?_
      obtain⟨w9,bA,qx,fT,hz0,UK⟩:∃w9,w9=W.drew.alloc (.cells #[.slice none 0 0] 30)/\At w9 W.drew.heap.size (.cells #[.slice none 0 0] 30)/\Below W.drew.heap.size W.drew w9/\w9.heap.size=W.drew.heap.size+1/\W.heap.size<=W.drew.heap.size:=⟨_,rfl,At.new _ _,Below.alloc' (Below.refl _ _) _,by simp,hx.size⟩;rw[<-bA];clear bA;generalize W.drew.heap.size=B5 at *;replace hx:=Below.trans hx (fT.mono ak);clear fT;refine⟨λ_=>⟨(hV.keep hx).cell 0,(hB1.keep hx).cell 0⟩,?_⟩
      (try simp only[bF,bG,bH,tks])
      refine tk1 1 ?_;refine aj.Step.call dQ (Kt R I n room gr S _ (pF.keep hx) HS.out hn hr) ?_;rintro e w3 ⟨rfl,hb⟩;replace hx:=Below.ay hx (ah _) hb;replace qx:=qx.keep hb;have hl9:=qx.lt;clear hb;refine⟨_,rfl,λ_=>⟨(hV.keep hx).cell 0,(hB1.keep hx).cell 0⟩,?_⟩;exact Z18
  . rintro a W5 ⟨b,B5,rfl,hbb,ru,xw,hI5,hx⟩
    simp only[List.setIfInBounds_toArray,List.set_cons_zero,List.set_cons_succ];have hcB:W5.cell? ⟨w.heap.size,0,none⟩=some (.pointer (some ⟨R,0,none⟩)):=(hB1.keep hx).cell 0;have hlB:=(hB1.keep hx).lt
    gi_wp2
    have hx5:=hx.size;have hlW:=hBl.size
    refine j6 (n:=5) (gf:=314) (first:=#[.pointer (some ⟨R,0,none⟩)]) (lb:=#[]) rfl (enters_of Tryz.func314 fV rfl) n (λi=>(S i).f) (λi=>#[.int .i64 (Fe.pl S i:Nat),.pointer (some ⟨I,i*8,none⟩)]) (λ_=>rfl)
     (λi W=>eX W R I n room gr (mO S (Fe.fO gr (Fe.parts gr room S n) S) i)/\At W w.heap.size (.cells #[.pointer (some ⟨R,0,none⟩)] 355)/\At W B5 (.cells #[.slice (some ⟨b,0,none⟩) (Fe.pl S n) (Fe.pl S n)] 30)/\Ints W (some ⟨b,0,none⟩) (Fe.parts gr room S n)/\Below N w W/\W.heap[D]? = some (.deferred (some [])))
     (λW=>False)
     (λi W r o o' h hr hW hc=>⟨h.1.turn ak ak o,h.2.1.turn ak o,h.2.2.1.turn (by have:=xw.lt;omega) o,h.2.2.2.1.turn hW hc o,Below.turn h.2.2.2.2.1 ak hW o,(World.putObj_heap_other ak).trans h.2.2.2.2.2⟩)
     (λW r o o' h hr hW _=>h)
     (λo1 o2=>⟨by rw[vZ];exact((pF.keep hx).alloc o1).alloc o2,((hB1.keep hx).alloc o1).alloc o2,(xw.alloc o1).alloc o2,(hI5.after (Below.alloc' (Below.refl _ _) o1)).after (Below.alloc' (Below.refl _ _) o2),((Below.trans hBl (hx.mono ak)).alloc ak o1).alloc jH o2,(At.alloc (At.keep (show At W D _ from hK) hx) o1).alloc o2⟩)
     (λlp J Jx W hV hs hY hJ=>rU 4 R I n room (Fe.sg gr) S hn lp J Jx W (λi W h=>(hV i W h).1.mixed) hs hY hJ)
     (λi W hi hf h=>⟨by rw[Ga (by simp[Fe.fO,hf])];exact h.1,h.2⟩)
     (λi t=>(((t.setIfInBounds 26 (.int .i64 (Fe.pl S i:Nat))).setIfInBounds 27 (.pointer (some ⟨I,i*8,none⟩))).setIfInBounds 6 (.int .i64 (Fe.pl S i:Nat))).setIfInBounds 7 (.pointer (some ⟨I,i*8,none⟩))) ?assign ?body ?done ?stop
    case assign =>
     exact Z1o
    case stop=>exact λD W hD h _=>h.elim
    case done =>
     rintro D2 W2 hD2 ⟨hR2,hB2,hA2,hI2,YO,hK1⟩ hK2
     gi_wp2
     have hl2:=(Array.getElem?_eq_some_iff.1 hK2).1;refine⟨by simp,.inl ⟨_,_,rfl,run_takeDeferred hK2,?_⟩⟩;have hK3:(W2.putObj D2 (.deferred none)).heap[D]? = some (.deferred (some [])):=(World.putObj_heap_other ak).trans hK1;refine⟨by simp,.inl ⟨_,_,rfl,run_takeDeferred hK3,?_⟩⟩;exact⟨_,results_none rfl _ _ _,⟨_,rfl⟩,⟨((hR2.turn ak ak _).turn ak ak _).1,(((hR2.turn ak ak _).turn ak ak _).2.same (yD _ _ _))⟩,Below.turn (Below.turn YO ak hK2 _) ak hK3 _⟩
    case body =>
     rintro l i W6 hi hf ⟨hR2,hB2,hA2,hI2,YO,hD2⟩;have hne:=hR2.ne;have hp:=Fe.Pf S hi hf;obtain⟨⟨⟨hb1,hb2⟩,_⟩,_⟩:=HS.out i hi;have hpn:(Fe.parts gr room S n).length=Fe.pl S n:=by unfold Fe.parts;rw[Fe.G9,Fe.rJ]
     have hpv:0<=(Fe.parts gr room S n).getD (Fe.pl S i) 0/\(Fe.parts gr room S n).getD (Fe.pl S i) 0<=67108864:=by
      unfold Fe.parts;rw[Fe.FW _ _ (by rw[Fe.rJ];exact hp)];exact Fe.BM _ _ (by rw[Fe.rJ];exact hp)
     obtain⟨b',o',eA,hbl,hpc⟩:=hI2.at_ (k:=Fe.pl S i) (by rw[hpn];exact hp);injection eA with eA;injection eA with e1 e2;subst e1;subst e2;rw[Nat.zero_add]at hpc;obtain⟨l2,d0,d1,d2,d3,d4,d5,d6,d7⟩:=hR2.2.fields hi;obtain⟨l3,r0,r1,r2⟩:=hR2.cells;have hcB:W6.cell? ⟨w.heap.size,0,none⟩=some (.pointer (some ⟨R,0,none⟩)):=hB2.cell 0;have hlB:=hB2.lt;have hcA:W6.cell? ⟨B5,0,none⟩=some (.slice (some ⟨b,0,none⟩) (Fe.pl S n) (Fe.pl S n)):=hA2.cell 0;have hlA:=hA2.lt;rw[pI (ah _)]at d0 d1 d2 d3 d4 d5 d6 d7;have HT:Hid (Fe.fO gr (Fe.parts gr room S n) S i=⟨(S i).x,Fe.clamp (S i).x (Fe.want gr (Fe.parts gr room S n) S i),Fe.clamp (S i).x (Fe.want gr (Fe.parts gr room S n) S i)-Fe.want gr (Fe.parts gr room S n) S i,false⟩):=Lib.hid (by simp[Fe.fO,hf])
     have HWt:Hid (IntKind.i64.wrap ((S i).x.b+IntKind.i64.wrap (Fe.sg gr*(Fe.parts gr room S n).getD (Fe.pl S i) 0))=Fe.want gr (Fe.parts gr room S n) S i/\-67108864<=Fe.want gr (Fe.parts gr room S n) S i/\Fe.want gr (Fe.parts gr room S n) S i<=68157440):=Lib.hid (by
      unfold Fe.want;have hq : -67108864<=Fe.sg gr*(Fe.parts gr room S n).getD (Fe.pl S i) 0/\Fe.sg gr*(Fe.parts gr room S n).getD (Fe.pl S i) 0<=67108864:=by cases gr<;>simp only[Fe.sg,Bool.false_eq_true,if_false,if_true]<;>omega
      rw[IntWalk.i64_in (Fe.sg gr*_) ak,IntWalk.i64_in _ ak]
      exact⟨rfl,by omega,by omega⟩)
     have FIN:∀(W8:World) (cl wt:Int),cl=Fe.clamp (S i).x (Fe.want gr (Fe.parts gr room S n) S i)->wt=Fe.want gr (Fe.parts gr room S n) S i->Below W6.heap.size W6 W8 ->
       roundEnd W5.heap.size (λW=>eX W R I n room gr (mO S (Fe.fO gr (Fe.parts gr room S n) S) (i+1))/\At W w.heap.size (.cells #[.pointer (some ⟨R,0,none⟩)] 355)/\At W B5 (.cells #[.slice (some ⟨b,0,none⟩) (Fe.pl S n) (Fe.pl S n)] 30)/\Ints W (some ⟨b,0,none⟩) (Fe.parts gr room S n)/\Below N w W/\W.heap[D]? = some (.deferred (some []))) (λ_=>False) W6 .normal { tmps:=#[],defers:=[] }
        ((W8.setCell ⟨I,i*8+5,none⟩ (.int .i64 cl)).setCell ⟨I,i*8+6,none⟩ (.int .i64 (cl-wt))):=by
      intro W8 cl wt hcl hwt xQ;have SH:=hR2.keep xQ;have b1:sK (W8.setCell ⟨I,i*8+5,none⟩ (.int .i64 cl)) I n (λk=>if k=i then ⟨(S i).x,cl,(S i).m,false⟩else mO S (Fe.fO gr (Fe.parts gr room S n) S) i k):=by
       refine SH.2.put hi ak (by simp[Jz]) ?_ (λk hk hkn=>by simp[hkn]);intro q hq hqn;simp only[if_true];rw[pI (ah _)];unfold Jz;rw[hf]
       (repeat' split)<;>first|rfl|omega
      have b2:sK ((W8.setCell ⟨I,i*8+5,none⟩ (.int .i64 cl)).setCell ⟨I,i*8+6,none⟩ (.int .i64 (cl-wt))) I n (mO S (Fe.fO gr (Fe.parts gr room S n) S) (i+1)):=by
       refine b1.put hi ak ?_ ?_ ?_
       . rw[tu,HT.out,hcl,hwt];simp[Jz]
       . intro q hq hqn
         rw[tu,HT.out,<-hcl,<-hwt];simp only[if_true];unfold Jz
         (repeat' split)<;>first|rfl|omega
       . intro k hk hkn
         rw[yC _ _ hkn];simp[hkn]
      have hz8:=xQ.size;refine⟨((KeepsFrom.of_below xQ).trans (((KeepsOthers.setCell _ _ _).trans (KeepsOthers.setCell _ _ _)).from _)),⟨(SH.1.off ak _ _).off ak _ _,b2⟩,((hB2.keep xQ).off ak _ _).off ak _ _,((hA2.keep xQ).off ak _ _).off ak _ _,((hI2.after xQ).off ak _).off ak _,Below.setCell (Below.setCell (Below.trans YO (xQ.mono (by have:=YO.size;omega))) hN.1 _) hN.1 _,?_⟩;exact(KeepsOthers.setCell _ _ _).same _ _ ((KeepsOthers.setCell _ _ _).same _ _ ((xQ.block D (Array.getElem?_eq_some_iff.1 hD2).1).trans hD2) rfl) rfl
     replace FIN:=Lib.hid FIN;clear d5 d6 d7 hI2 hA2 HT hpv hpn hb1 hb2;have HR2:=Lib.hid hR2;clear hR2;generalize SI:(S i).x=x at *;have HX:=Lib.hid SI;clear SI;obtain⟨x0,x1,x2,x3,x4⟩:=x;dsimp only at d0 d1 d2 d3 d4 HWt;generalize hwt:Fe.want gr (Fe.parts gr room S n) S i=wt at *;replace hwt:=Lib.hid hwt;generalize (Fe.parts gr room S n).getD (Fe.pl S i) 0=pv at *;generalize Fe.sg gr=way at *;have ahq:(Fe.pl S i:Int)<(Fe.pl S n:Int):=by omega
     simp only[List.setIfInBounds_toArray,List.set_cons_zero,List.set_cons_succ]
     gi_upto_region 9 with(fail)
     refine aj.M6 (Below.refl _ _) fV fV fV fV (by rintro⟨_,_,hh⟩;exact hh) ?_
     (repeat (first|refine nN ?_ | refine nO ?_ (hc:=by intro w2 hS;first|with_reducible exact JM hS (fF _ _))|refine nP ?_))
     refine aj.bZ ?_;intro w2 hS;rw[HWt.out.1];obtain⟨l4,e0,e1,e2,e3,e4,e5,e6,e7⟩:=(HR2.out.keep hS).2.fields hi;rw[pI (ah _)]at e0 e1 e2 e3 e4;rw[HX.out]at e0 e1 e2 e3 e4;dsimp only at e0 e1 e2 e3 e4;obtain⟨t1,t2⟩:=HWt.out.2;have k1:=(Fe.lH ⟨x0,x1,x2,x3,x4⟩ wt).1;have k2:=(Fe.lH ⟨x0,x1,x2,x3,x4⟩ wt).2;obtain⟨cl,hcl⟩:∃cl,cl=Fe.clamp ⟨x0,x1,x2,x3,x4⟩ wt:=⟨_,rfl⟩;rw[<-hcl]at k1 k2;have bA:IntKind.i64.wrap (cl-wt)=cl-wt:=IntWalk.i64_in _ ak;have HCL:=Lib.hid hcl;clear hcl e5 e6 e7 d0 d1 d2 d3 d4 r0 r1 r2 hcB hcA hpc
     gi_upto_region 11 with(refine⟨trivial,?_⟩;gi_at_call 272;refine(CallsIn.inRound l (callsIn_wide.2 (BX x0 x1 x2 x3 x4 wt _))).mono ?_;rintro e w7 ⟨rfl,xR⟩;rw[<-HCL.out];have hx7:=Below.ay hS (ah _) xR;clear xR hS e0 e1 e2 e3 e4 l4;obtain⟨l5,-, -, -, -, -, e5,e6,-⟩:=(HR2.out.keep hx7).2.fields hi;have z5:=(HR2.out.keep hx7).2.thaw (i*8+5);have z6:=(HR2.out.keep hx7).2.thaw (i*8+6))
     gi_wp2
     exact FIN.out w7 cl wt HCL.out rfl hx7
end Go.Proofs.YtcbcfdihofclkaaGreat.Fix
namespace Go.Proofs.YtcbcfdihofclkaaGreat.Fix
open Go.ChangeShapes Go.WideShapes Go.ChangeAt Go.RowKit Go.Shelf
attribute [local go_sem] Oper.semAt_some
def Items(w:World)(A:Option Addr)(l:Nat->Fe.It)(n:Nat):Prop :=
 0<n->∃b off,A=some ⟨b,off,none⟩/\b<w.heap.size/\∀k,k<n->w.cell? ⟨b,off+k*5,none⟩=some (.int .i64 (l k).b)/\w.cell? ⟨b,off+k*5+1,none⟩=some (.int .i64 (l k).lo)/\w.cell? ⟨b,off+k*5+2,none⟩=some (.int .i64 (l k).hi)/\w.cell? ⟨b,off+k*5+3,none⟩=some (.int .i64 (l k).g)/\w.cell? ⟨b,off+k*5+4,none⟩=some (.int .i64 (l k).s)
theorem Items.after{W w:World}{A:Option Addr}{l:Nat->Fe.It}{n:Nat}(h:Items W A l n)(hb:Below W.heap.size W w):Items w A l n:=λh0=>by
 obtain⟨b,off,rfl,hl,hc⟩:=h h0;refine⟨b,off,rfl,aR hl hb.size,λk hk => ?_⟩;obtain⟨c0,c1,c2,c3,c4⟩:=hc k hk;exact⟨(hb.cell (p:=⟨b,off+k*5,none⟩) hl).trans c0,(hb.cell (p:=⟨b,off+k*5+1,none⟩) hl).trans c1,(hb.cell (p:=⟨b,off+k*5+2,none⟩) hl).trans c2,(hb.cell (p:=⟨b,off+k*5+3,none⟩) hl).trans c3,(hb.cell (p:=⟨b,off+k*5+4,none⟩) hl).trans c4⟩
theorem sK.step{W:World}{I n k j:Nat}{S:Nat->Fe.St}{s:Fe.St}{v:Value}(t:Fe.St)(h:sK W I n (λi=>if i=k then s else S i))(hk:k<n)(hj:j<8)(hv:Jz t j=v)(ho:∀q,q<8->q≠j->Jz t q=Jz s q) :
  sK (W.setCell ⟨I,k*8+j,none⟩ v) I n (λi=>if i=k then t else S i) :=
 h.put hk hj (by simpa using hv) (λq hq hqn=>by simpa using ho q hq hqn) (λi _ hi=>by simp[hi])
theorem sK.UL{W:World}{I n k:Nat}{S:Nat->Fe.St}(h:sK W I n S)(hk:k<n)(b lo hi g s z:Int) :
  sK ((((((((W.setCell ⟨I,k*8,none⟩ (.int .i64 b)).setCell ⟨I,k*8+1,none⟩ (.int .i64 lo)).setCell ⟨I,k*8+2,none⟩ (.int .i64 hi)).setCell ⟨I,k*8+3,none⟩ (.int .i64 g)).setCell ⟨I,k*8+4,none⟩ (.int .i64 s)).setCell ⟨I,k*8+5,none⟩ (.int .i64 z)).setCell ⟨I,k*8+6,none⟩ (.int .i64 0)).setCell ⟨I,k*8+7,none⟩ (.bool false)) I n
   (λi=>if i=k then ⟨⟨b,lo,hi,g,s⟩,z,0,false⟩else S i):=by
 have h0:sK W I n (λi=>if i=k then S k else S i):=h.same λi _=>by by_cases e:i=k<;>simp[e]
 generalize S k=s0 at h0;obtain⟨⟨b0,lo0,hi0,g0,s00⟩,z0,m0,f0⟩:=s0;have h1:=h0.step (j:=0) (v:=.int .i64 b) ⟨⟨b,lo0,hi0,g0,s00⟩,z0,m0,f0⟩ hk ak rfl Z4n;have h2:=h1.step (j:=1) (v:=.int .i64 lo) ⟨⟨b,lo,hi0,g0,s00⟩,z0,m0,f0⟩ hk ak rfl Z4n;have h3:=h2.step (j:=2) (v:=.int .i64 hi) ⟨⟨b,lo,hi,g0,s00⟩,z0,m0,f0⟩ hk ak rfl Z4n;have h4:=h3.step (j:=3) (v:=.int .i64 g) ⟨⟨b,lo,hi,g,s00⟩,z0,m0,f0⟩ hk ak rfl Z4n;have h5:=h4.step (j:=4) (v:=.int .i64 s) ⟨⟨b,lo,hi,g,s⟩,z0,m0,f0⟩ hk ak rfl Z4n;have h6:=h5.step (j:=5) (v:=.int .i64 z) ⟨⟨b,lo,hi,g,s⟩,z,m0,f0⟩ hk ak rfl Z4n;have h7:=h6.step (j:=6) (v:=.int .i64 0) ⟨⟨b,lo,hi,g,s⟩,z,0,f0⟩ hk ak rfl Z4n;exact h7.step (j:=7) (v:=.bool false) ⟨⟨b,lo,hi,g,s⟩,z,0,false⟩ hk ak rfl Z4n
theorem At.adO{W:World}{I k c:Nat}{o:Obj}(h:At W c o)(hne:c≠I)(b lo hi g s z:Int):At ((((((((W.setCell ⟨I,k*8,none⟩ (.int .i64 b)).setCell ⟨I,k*8+1,none⟩ (.int .i64 lo)).setCell ⟨I,k*8+2,none⟩ (.int .i64 hi)).setCell ⟨I,k*8+3,none⟩ (.int .i64 g)).setCell ⟨I,k*8+4,none⟩ (.int .i64 s)).setCell ⟨I,k*8+5,none⟩ (.int .i64 z)).setCell ⟨I,k*8+6,none⟩ (.int .i64 0)).setCell ⟨I,k*8+7,none⟩ (.bool false)) c o :=
 (((((((h.off hne _ _).off hne _ _).off hne _ _).off hne _ _).off hne _ _).off hne _ _).off hne _ _).off hne _ _
theorem eX.UL{W:World}{R I n k:Nat}{room:Int}{gr:Bool}{S T:Nat->Fe.St}(h:eX W R I n room gr (mO S T k))(hk:k<n)(b lo hi g s z:Int)(hT:T k=⟨⟨b,lo,hi,g,s⟩,z,0,false⟩) :
  eX ((((((((W.setCell ⟨I,k*8,none⟩ (.int .i64 b)).setCell ⟨I,k*8+1,none⟩ (.int .i64 lo)).setCell ⟨I,k*8+2,none⟩ (.int .i64 hi)).setCell ⟨I,k*8+3,none⟩ (.int .i64 g)).setCell ⟨I,k*8+4,none⟩ (.int .i64 s)).setCell ⟨I,k*8+5,none⟩ (.int .i64 z)).setCell ⟨I,k*8+6,none⟩ (.int .i64 0)).setCell ⟨I,k*8+7,none⟩ (.bool false)) R I n room gr (mO S T (k+1)) :=
 ⟨At.adO h.1 h.ne b lo hi g s z,(h.2.UL hk b lo hi g s z).same λi _=>by
  by_cases e:i=k
  . subst e;rw[tu,hT];simp
  . rw[yC _ _ e];simp[e]⟩
theorem Below.UL{N:Nat}{w W:World}{I k:Nat}(h:Below N w W)(hN:N<=I)(b lo hi g s z:Int):Below N w ((((((((W.setCell ⟨I,k*8,none⟩ (.int .i64 b)).setCell ⟨I,k*8+1,none⟩ (.int .i64 lo)).setCell ⟨I,k*8+2,none⟩ (.int .i64 hi)).setCell ⟨I,k*8+3,none⟩ (.int .i64 g)).setCell ⟨I,k*8+4,none⟩ (.int .i64 s)).setCell ⟨I,k*8+5,none⟩ (.int .i64 z)).setCell ⟨I,k*8+6,none⟩ (.int .i64 0)).setCell ⟨I,k*8+7,none⟩ (.bool false)) :=
 Below.setCell (Below.setCell (Below.setCell (Below.setCell (Below.setCell (Below.setCell (Below.setCell (Below.setCell h hN _) hN _) hN _) hN _) hN _) hN _) hN _) hN _
theorem At.abG{W:World}{b:Nat}{x y z u v:Value}{T:TypeId}(h:At W b (.cells #[x,y,z,u,v] T))(x' y' z' u' v':Value) :
 At (((((W.setCell ⟨b,0,none⟩ x').setCell ⟨b,1,none⟩ y').setCell ⟨b,2,none⟩ z').setCell ⟨b,3,none⟩ u').setCell ⟨b,4,none⟩ v') b (.cells #[x',y',z',u',v'] T):=((((h.set 0 x').set 1 y').set 2 z').set 3 u').set 4 v'
theorem Below.abG{N:Nat}{w W:World}{b:Nat}(h:Below N w W)(hN:N<=b)(x' y' z' u' v':Value):Below N w (((((W.setCell ⟨b,0,none⟩ x').setCell ⟨b,1,none⟩ y').setCell ⟨b,2,none⟩ z').setCell ⟨b,3,none⟩ u').setCell ⟨b,4,none⟩ v') :=
 Below.setCell (Below.setCell (Below.setCell (Below.setCell (Below.setCell h hN _) hN _) hN _) hN _) hN _
theorem Q7:(Tryz.prog.info? 365).map (λi=>(i.zero,i.size,i.bytes))=some (some (.agg #[.int .i64 0,.int .i64 0,.int .i64 0,.int .i64 0,.int .i64 0,.int .i64 0,.int .i64 0,.bool false]),8,64):=by kernel_rfl
def NG:Fe.St:=⟨⟨0,0,0,0,0⟩,0,0,false⟩
theorem UM(w:World)(n:Nat):sK (w.alloc (.cells (madeCells #[.int .i64 0,.int .i64 0,.int .i64 0,.int .i64 0,.int .i64 0,.int .i64 0,.int .i64 0,.bool false] (n*8)) 365)) w.heap.size n (λ_=>NG):=by
 refine⟨_,At.new _ _,size_madeCells _ _,λi j hi hj => ?_⟩;have e:(i*8+j)%8=j:=by omega
 have hlt:i*8+j<n*8:=by omega
 simp only[madeCells,Array.getElem?_map,Array.getElem?_range,hlt,if_true,Option.map_some,List.size_toArray,List.length_cons,List.length_nil,Nat.reduceAdd,Nat.zero_add,e];rcases(show j=0\/j=1\/j=2\/j=3\/j=4\/j=5\/j=6\/j=7 by omega)with rfl|rfl|rfl|rfl|rfl|rfl|rfl|rfl<;>rfl
theorem YP(l:Nat->Fe.It)(k:Nat):0<=Fe.x8 l k/\Fe.x8 l k<=1048576*k:=by
 induction k with
 | zero=>simp[Fe.x8]
 | succ k ih =>
   have:=Fe.lH (l k) (Fe.cnt (l k)).b;simp only[Fe.x8];constructor<;>omega
theorem vB{F:Fence}{m:Nat}{P:Program}(w:World){ops:Array Oper}{rest:List Oper}{o:Oper}{a:Act}{Q:Exit->Act->World->Prop}(hro:F.round=none)(hw:Region.wanted o (yielded ops a.tmps)=true)
  (l c:Operand) (t:TypeId) (hop:o.op=Op.makeSlice t l c) {v:Value} {w':World} (hrun:(Instr.makeSlice t (a.eval l) (a.eval c)).run P w=.ok v w') (hK:wpListIn F m P ops Q rest (a.put o.dst v) w'):wpListIn F m P ops Q (o::rest) a w:=by
 unfold wpListIn;rw[if_pos hw];unfold Oper.wpIn;refine⟨λf hf => ?_,?_⟩
 . unfold Oper.about at hf
   simp[hop]at hf
 . rw[hro,Oper.semAt_none]
   unfold execOp;simp only[hop,Sem.run_bind,hrun,Result.andThen_ok,Sem.run_pure];exact hK
end Go.Proofs.YtcbcfdihofclkaaGreat.Fix
