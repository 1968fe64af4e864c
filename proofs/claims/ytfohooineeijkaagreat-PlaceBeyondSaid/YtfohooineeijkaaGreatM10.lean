/- Steps of the program (10); no conditions. -/
import Derived.Test.YtfohooineeijkaaGreatM09
set_option linter.all false
set_option maxRecDepth 100000
set_option maxHeartbeats 16000000
namespace Go.Proofs.YtfohooineeijkaaGreat.Fix
open Go.ChangeShapes Go.WideShapes Go.ChangeAt Go.RowKit
open Go.Proofs.Tryz renaming prog → ja0
section
open Go.Shelf
open List renaming setIfInBounds_toArray → ja1,set_cons_zero → ja2,set_cons_succ → ja3,length_cons → jb4
variable {xs:List Value}{v:Value}{W w:World}{base k:Nat}{l:List Int}
attribute [local go_sem] Oper.semAt_some
theorem ownsRow_below{base:Nat}{e:TypeId}{sz:Nat}{k:Nat}(h:W.ownsRow base e sz v k xs)(hb:Below W W w):w.ownsRow base e sz v k xs:=by
 refine h.kept (row:=none) ⟨hb.os,hb.tape,hb.output,hb.size,λk hk _=>hb.block k hk⟩ ?_;rcases h.2 with⟨rfl,_⟩|⟨g,cap,cur,rfl,_⟩
 . exact .inl rfl
 . exact .inr (by simp[Value.ownBlock])
theorem At.row{b base k:Nat}{vs:Array Value}{T:TypeId}(h:At W b (.cells vs T))(hT:T≠3)(ho:W.ownsRow base 3 1 v k xs)(hg:W.grownBy w v.ownBlock):At w b (.cells vs T):=by
 refine(hg.block b h.lt λe => ?_).trans h;rcases ho.2 with⟨rfl,_⟩|⟨g,cap,cur,rfl,_,hgb,_⟩
 . simp[Value.ownBlock]at e
 . have e':b=g:=by simpa[Value.ownBlock]using e
   subst e';unfold At at h;rw[h]at hgb;injection hgb with hgb;injection hgb with _ hgb;exact hT hgb
theorem um.row{I n base k:Nat}{S:Nat->Fe.St}(h:um W I n S)(ho:W.ownsRow base 3 1 v k xs)(hg:W.grownBy w v.ownBlock):um w I n S:=by
 obtain⟨vs,h,r⟩:=h;exact⟨vs,h.row aN ho hg,r⟩
theorem Nk{W:World}{xs:List Int}(x:Int)(hown:W.ownsRow base 3 1 v k (xs.map (Value.int .i64)))(hbase:base<=W.heap.size)(hk:k<=10000) :
  ∃g c w',(Builtin.append_ #[37,37] 37 #[v,.slice W 1 1]).run ja0 (W.alloc (.cells #[x] 3))=.ok (.slice (some ⟨g,0,none⟩) (k+1) c) w' /\
   w'.ownsRow base 3 1 (.slice g (k+1) c) (k+1) ((xs++[x]).map (Value.int .i64))/\(W.alloc (.cells #[x] 3)).grownBy w' v.ownBlock:=by
 obtain⟨i0,hi0,hz0,hz1,hz2⟩:=info_parts intZero
 obtain⟨v',w',hr,ho,hg,_,_⟩:=run_append_own_at (P:=ja0) (w:=W.alloc (.cells #[x] 3)) base 37 37 3 i0 (.int .i64 0) 1 8 Tryz.underlying37 hi0 hz0 hz1 hz2 rfl aN v k _ (hown.alloc _) ⟨W,0,none⟩ 1 1 [.int .i64 x] rfl
  (by intro j u hj
      match j,hj with
      | 0,hj=>simp at hj;subst hj;simp[Addr.add])
  LH RN ak jB
 obtain⟨g,c,rfl⟩:=ownsRow_succ ho;exact⟨g,c,w',hr,by rw[List.map_append];exact ho,hg⟩
theorem Below.row{N:Nat}{w0 W w:World}(h:Below N w0 W)(ho:W.ownsRow base 3 1 v k xs)(hg:W.grownBy w v.ownBlock)(hN:N<=base)(hW:N<=W.heap.size):Below N w0 w:=by
 refine h.grown hg hW (λj e => ?_);rcases ho.2 with⟨rfl,_⟩|⟨g,cap,cur,rfl,hb,_⟩
 . simp[Value.ownBlock]at e
 . have e':j=g:=by simpa[Value.ownBlock,eq_comm]using e
   omega
theorem KeepsOthers.row(ho:W.ownsRow base 3 1 v k xs)(hg:W.grownBy w v.ownBlock):KeepsOthers W w :=
 KeepsOthers.of_grownBy hg λj o ej hj=>by
  rcases ho.2 with⟨rfl,_⟩|⟨g,cap,cur,rfl,_,hgb,_⟩
  . simp[Value.ownBlock]at ej
  . obtain rfl:g=j:=by simpa[Value.ownBlock]using ej
    rw[hgb]at hj;cases hj;rfl
theorem Dh{w:World}{base:Nat}{n:Nat}(h:w.ownsRow base 3 1 v n (l.map (Value.int .i64)))(hm:n<=maxLen):∃A c,v=.slice A n c/\Ints w A l/\l.length=n:=by
 have hl:l.length=n:=by simpa using h.1
 obtain⟨A,c,rfl,hI⟩:=wL h hm;exact⟨A,c,by rw[hl],hI,hl⟩
theorem Ints.turn{W:World}{A:Option Addr}{r:Nat}{o':Obj}(h:Ints W A l)(hW:W.heap[r]? = some o')(hc:o'.isCells=false)(o:Obj):Ints (W.putObj r o) A l:=by
 refine⟨h.1,λh0 => ?_⟩;obtain⟨b,off,rfl,hcell⟩:=h.2 h0;exact⟨b,off,rfl,λk hk=>cell_kept (hcell k hk) (grownBy_putObj' W r o) (λr' e=>by cases e;exact⟨o',hW,hc⟩)⟩
theorem Ints.off{W:World}{b off g k:Nat}(h:Ints W (some ⟨b,off,none⟩) l)(hne:b≠g)(v:Value):Ints (W.setCell ⟨g,k,none⟩ v) (some ⟨b,off,none⟩) l:=by
 refine⟨h.1,λh0 => ?_⟩;obtain⟨b',off',e,hcell⟩:=h.2 h0;injection e with e;injection e with e1 e2;subst e1;subst e2;exact⟨b,off,rfl,λk' hk=>(World.cell?_of_block (Below.heap_setCell W ⟨g,k,none⟩ v b hne)).trans (hcell k' hk)⟩
theorem E9{P:Program}{w w':World}{o:Oper}{a:Act}(s x:Operand)(t:TypeId)(ho:o.op=.call { callee:=.builtin .append,args:=#[s,x],argTypes:=#[t,t] }){v u v':Value}(hs:a.eval s=v)(hx:a.eval x=u)
  (hrun:(Builtin.append_ #[t,t] o.type #[v,u]).run P w=.ok v' w'):(execOp a.eval o).run P w=.ok (.value v') w':=by
 exact Z1c
theorem DV(b lo hi g s n:Int)(w:World):Calls ja0 175 #[.agg #[b,lo,hi,g,s],n] w λe w'=>e=.returned (.int .i64 (Fe.clamp ⟨b,lo,hi,g,s⟩ n))/\Below w w w':=Qr ⟨b,lo,hi,g,s⟩ n w
theorem Fa(N R I n:Nat)(room:Int)(gr:Bool)(S:Nat->Fe.St)(w:World)(h:fZ w R I n room gr S)(hn:n<=64)(hN:N<=I/\N<=w.heap.size)(hs:Sound S n)(hr:0<=room/\room<=67108864) :
  Calls ja0 210 #[R] w λe w'=>(∃v,e=.returned v)/\fZ w' R I n room gr (Fe.shared gr room n S)/\Below N w w':=by
 have Kc:=@tC;have hR:=h.1.lt;have hI:=h.2.lt;have HR:=ah h;have HS:=ah hs;clear h hs;refine(callsIn_wide (n:=5)).1 ?_;refine callsIn_of_wp_marks Tryz.func210 rfl trivial ?_ rfl;simp only[Tryz.ntmps210,List.size_toArray,jb4,List.length_nil,Nat.reduceAdd,Nat.reduceSub,Array.replicate_succ,Array.replicate_zero,List.push_toArray,List.append_toArray,List.nil_append,List.cons_append]
 gi_wp2
 obtain⟨W0,hA1,hA2,hrow,hB,yD,hsz,hW⟩:∃W0,At W0 w (.cells #[R] 295)/\At W0 (w.heap.size+1+1) (.cells #[.slice (some ⟨w.heap.size+1,0,none⟩) 0 0] 37) /\
   W0.ownsRow w.heap.size 3 1 (.slice (some ⟨w.heap.size+1,0,none⟩) 0 0) 0 []/\Below N w W0/\fZ W0 R I n room gr S/\W0.heap.size=w.heap.size+3 /\
   (((w.alloc (.cells #[R] 295)).alloc (.cells #[] 3)).alloc (.cells #[.slice (some ⟨w.heap.size+1,0,none⟩) 0 0] 37))=W0:=by
  refine⟨_,((At.new w _).alloc _).alloc _,At.new' _ bI,?_,(((Below.refl _ _).alloc hN.2 _).alloc jB _).alloc jB _,((HR.out.alloc _).alloc _).alloc _,by simp,rfl⟩;have bR:At ((w.alloc (.cells #[R] 295)).alloc (.cells #[] 3)) (w.heap.size+1) (.cells #[] 3):=At.new' _ bI;exact⟨by simp,.inr ⟨w.heap.size+1,0,#[],rfl,by omega,bR.alloc _,aO _,by simp[maxLen],by simp,by simp⟩⟩
 rw[hW];clear hW
 refine lH (n:=5) (gf:=215) (first:=#[R]) (lb:=#[]) rfl (enters_of Tryz.func215 bE rfl) n (λi=>(S i).f) (λi=>#[.int .i64 (Fe.pl S i:Nat),.pointer (some ⟨I,i*8,none⟩)]) (λ_=>rfl)
  (λi W=>fZ W R I n room gr S/\At W w (.cells #[R] 295)/\(∃v,At W (w.heap.size+1+1) (.cells #[v] 37)/\W.ownsRow w.heap.size 3 1 v (Fe.pl S i) ((Fe.ws gr S i).map (Value.int .i64)))/\Below N w W)
  (λW=>False)
  (λi W r o o' h hr hW hc=>⟨h.1.turn ak ak o,h.2.1.turn ak o,by obtain⟨v,h1,h2⟩:=h.2.2.1;exact⟨v,h1.turn ak o,ownsRow_putObj h2 o hW hc⟩,Below.turn h.2.2.2 ak hW o⟩)
  (λW r o o' h hr hW _=>h)
  (λo1 o2=>⟨(yD.alloc o1).alloc o2,(hA1.alloc o1).alloc o2,⟨_,(hA2.alloc o1).alloc o2,(hrow.alloc o1).alloc o2⟩,(hB.alloc ak o1).alloc jB o2⟩)
  (λlp J Jx W hV hs hY hJ=>tL 4 R I n room (Fe.sg gr) S hn lp J Jx W (λi W h=>(hV i W h).1.sees i) hs hY hJ)
  (λi W hi hf h=>⟨h.1,h.2.1,by simp only[Fe.pl,Fe.ws,hf,if_true];exact h.2.2.1,h.2.2.2⟩)
  (λi t=>((t.setIfInBounds 12 (.int .i64 (Fe.pl S i:Nat))).setIfInBounds 13 (.pointer (some ⟨I,i*8,none⟩))).setIfInBounds 4 (.pointer (some ⟨I,i*8,none⟩))) ?assign ?body ?done ?stop
 case assign =>
  exact Z15
 case body =>
  rintro l i W hi hf ⟨uN,hB1,⟨v,hV,hown⟩,hBl⟩;have hb1:=hB1.lt;have hb2:=hV.lt;have hpl:=Fe.RZ S i;obtain⟨hs1,_⟩:=HS.out i hi;have hP:Fe.pl S (i+1)=Fe.pl S i+1:=by simp[Fe.pl,hf]
  have hWs:Fe.ws gr S (i+1)=Fe.ws gr S i++[Fe.wt gr (S i).x]:=by simp[Fe.ws,hf]
  have HP:=ah hP;have HWs:=ah hWs;clear hP hWs
  (simp only[ja1,ja2,ja3])
  gi_upto_region 4 with(fail)
  refine aj.Us (S:=(λW'=>W'.cell? ⟨w.heap.size+1+1,0,none⟩=some v/\W'.cell? ⟨w,0,none⟩=some (.pointer R))) 6 bE bE (by rintro⟨_,_,hh⟩;exact hh) ?_ ?_
  . exact⟨hV.cell 0,hB1.cell 0⟩
  intro hS0;refine aW 0 ?_;refine aW 1 ?_;refine aW 2 ?_;refine tk1 3 ?_;refine aj.Step.call eD (Qp R I n i room gr S _ uN.drew hi hs1) ?_;rintro e w3 ⟨rfl,hb⟩;replace hb:Below W W w3:=Below.ay (Below.refl _ _).drew aF hb;have hV3:=hV.keep hb;have hB3:=hB1.keep hb;have hown3:=ownsRow_below hown hb;have GA:=uN.keep hb;have ais:=Below.trans hBl (hb.mono ak);have hz3:=hb.size;refine⟨_,rfl,λ_=>⟨hV3.cell 0,hB3.cell 0⟩,?_⟩
  (try simp only[bV,bW,bX,tks])
  obtain⟨g,c,w4,hrun,acZ,hg4⟩:=Nk (Fe.wt gr (S i).x) hown3 ak ak;refine tk1 4 ?_;refine wm ?_ (hS:=by first|(intro hlt;exact absurd hlt aN)|(intro _;exact⟨(hV3.alloc _).cell 0,(hB3.alloc _).cell 0⟩));have hV4:=(hV3.alloc (.cells #[.int .i64 (Fe.wt gr (S i).x)] 3)).row aN (hown3.alloc _) hg4;have hB4:=(hB3.alloc (.cells #[.int .i64 (Fe.wt gr (S i).x)] 3)).row aN (hown3.alloc _) hg4;have hz4:=hV4.thaw 0;have hc4:w4.cell? ⟨w.heap.size+1+1,0,none⟩=some v:=hV4.cell 0;have hl4:=hV4.lt;refine tk1 5 ?_;refine aj.Step.value (E9 (.tmp 14) (.tmp 18) 37 rfl rfl rfl hrun) ⟨λ_=>⟨hV4.cell 0,hB4.cell 0⟩,?_⟩
  (try simp only[bV,bW,bX,tks])
  refine tk1 6 ?_;refine aj.Step.skip Z43 ?_;refine⟨by first|(intro hlt;exact absurd hlt aN)|(intro _;omega),?_⟩;(try simp only[Act.put]);refine jk ?_
  gi_wp2
  refine⟨(KeepsFrom.of_below hb).trans ((((KeepsOthers.alloc _ _).trans (KeepsOthers.row (hown3.alloc _) hg4)).trans (KeepsOthers.setCell _ _ _)).from _),?_,?_,⟨_,hV4.set 0 _,?_⟩,?_⟩
  . exact fZ.off ⟨At.row (GA.1.alloc _) aN (hown3.alloc _) hg4,(GA.2.alloc _).row (hown3.alloc _) hg4⟩ ak ak _
  . exact hB4.off ak _ _
  . rw[HP.out,HWs.out]
    exact acZ.kept (grownBy_setCell' w4 _ _) (.inr (Boxed.not_row (show Boxed w4 _ _ _ from hV4) aN acZ).symm)
  . exact Below.setCell (Below.row (ais.alloc ak _) (hown3.alloc _) hg4 hN.2 jB) jB _
 case stop=>exact λD W hD h _=>h.elim
 case done =>
  rintro D W hD ⟨uN,hB1,⟨v,hV,hown⟩,hBl⟩ hK;have hlD:=(Array.getElem?_eq_some_iff.1 hK).1;have hpl:=Fe.RZ S n;obtain⟨A,c,rfl,hIw,hL⟩:=Dh hown LY;have hb1:=hB1.lt;have hb2:=hV.lt;clear hown hA1 hA2 hrow hB yD HR
  gi_upto_region 5 with(fail)
  refine wpIn_wide.2 (aj.iJ (λa0 a W5=>∃b B5,a={ a0 with tmps:=((((a0.tmps.setIfInBounds 20 (.pointer R)).setIfInBounds 21 (.int .i64 (Fe.free gr room S n))).setIfInBounds 22 (.slice A (Fe.pl S n) c)).setIfInBounds 23 (.slice (some ⟨b,0,none⟩) (Fe.pl S n) (Fe.pl S n))).setIfInBounds 5 (.pointer (some ⟨B5,0,none⟩)) } /\
   W.heap.size<=b/\W.heap.size<=B5/\At W5 B5 (.cells #[.slice b (Fe.pl S n) (Fe.pl S n)] 37)/\Ints W5 (some ⟨b,0,none⟩) (Fe.parts gr room S n)/\Below W W W5) ?_ ?_)
  . refine jy (S:=(λW'=>W'.cell? ⟨w.heap.size+1+1,0,none⟩=some (.slice A (Fe.pl S n) c)/\W'.cell? ⟨w,0,none⟩=some (.pointer R))) 5 ?_ ?_
    . exact⟨hV.cell 0,hB1.cell 0⟩
    intro hS0;have hx:Below W W W.drew:=(Below.refl _ _).drew;refine aW 0 ?_;refine aW 2 ?_;refine tk2 1 4 ?_ ?_
    . refine aj.Step.call eD (Ng R I n room gr S _ (uN.keep hx) HS.out hn hr) ?_
      rintro e w3 ⟨rfl,hb⟩;replace hx:=Below.ay hx aF hb;clear hb;refine⟨_,rfl,λ_=>⟨(hV.keep hx).cell 0,(hB1.keep hx).cell 0⟩,?_⟩
      (try simp only[bV,bW,bX,tks])
      refine tk2 3 4 ?_ ?_
      . refine aj.Step.call eD (Ea A (Fe.ws gr S n) _ c (Fe.free gr room S n) _ (hIw.after hx) hL ak) ?_
        rintro e w4 ⟨⟨b,rfl,hbb,WJ⟩,hb⟩;have hx3:=hx.size;replace hx:=Below.ay hx aF hb;clear hb;refine⟨_,rfl,λ_=>⟨(hV.keep hx).cell 0,(hB1.keep hx).cell 0⟩,?_⟩
        (try simp only[bV,bW,bX,tks])
        refine tk1 4 ?_;refine wm ?_ (hS:=by first|(intro hlt;exact absurd hlt aN)|(intro _;exact⟨((hV.keep hx).alloc _).cell 0,((hB1.keep hx).alloc _).cell 0⟩));have hx4:=hx.size;refine tk1 5 ?_;refine aj.Step.skip Z43 ?_;refine⟨by first|(intro hlt;exact absurd hlt aN)|(intro _;omega),?_⟩;(try simp only[Act.put]);refine jk ?_;exact⟨rfl,b,w4.heap.size,rfl,by omega,by omega,At.new _ _,WJ.after (aD aG _),aD hx _⟩
      . refine aj.Step.value (u:=.pointer w3) (w':=w3.alloc (.cells #[.slice none 0 0] 37)) eD ?_
        obtain⟨w9,vZ,qO,iM,hz0,hs9⟩:∃w9,w9=w3.alloc (.cells #[.slice none 0 0] 37)/\At w9 w3 (.cells #[.slice none 0 0] 37)/\Below w3 w3 w9/\w9.heap.size=w3.heap.size+1/\W.heap.size<=w3.heap.size:=⟨_,rfl,At.new _ _,aD aG _,by simp,hx.size⟩;rw[<-vZ];clear vZ;generalize w3.heap.size=B5 at *;replace hx:=Below.trans hx (iM.mono ak);clear iM;refine⟨λ_=>⟨(hV.keep hx).cell 0,(hB1.keep hx).cell 0⟩,?_⟩;exact Zn
    . refine aj.Step.value (u:=.pointer W.drew) (w':=W.drew.alloc (.cells #[.slice none 0 0] 37)) eD ?_
      obtain⟨w9,vZ,qO,iM,hz0,hs9⟩:∃w9,w9=W.drew.alloc (.cells #[.slice none 0 0] 37)/\At w9 W.drew (.cells #[.slice none 0 0] 37)/\Below W.drew W.drew w9/\w9.heap.size=W.drew.heap.size+1/\W.heap.size<=W.drew.heap.size:=⟨_,rfl,At.new _ _,aD aG _,by simp,hx.size⟩;rw[<-vZ];clear vZ;generalize W.drew.heap.size=B5 at *;replace hx:=Below.trans hx (iM.mono ak);clear iM;refine⟨λ_=>⟨(hV.keep hx).cell 0,(hB1.keep hx).cell 0⟩,?_⟩
      (try simp only[bV,bW,bX,tks])
      refine tk1 1 ?_;refine aj.Step.call eD (Ng R I n room gr S _ (uN.keep hx) HS.out hn hr) ?_;rintro e w3 ⟨rfl,hb⟩;replace hx:=Below.ay hx aF hb;replace qO:=qO.keep hb;have hl9:=qO.lt;clear hb;refine⟨_,rfl,λ_=>⟨(hV.keep hx).cell 0,(hB1.keep hx).cell 0⟩,?_⟩;exact Zn
  . rintro a W5 ⟨b,B5,rfl,hbb,mX,yR,hI5,hx⟩
    simp only[ja1,ja2,ja3];have hcB:W5.cell? ⟨w,0,none⟩=some (.pointer R):=(hB1.keep hx).cell 0;have hlB:=(hB1.keep hx).lt
    gi_wp2
    have hx5:=hx.size;have hlW:=hBl.size
    refine lH (n:=5) (gf:=215) (first:=#[R]) (lb:=#[]) rfl (enters_of Tryz.func215 bE rfl) n (λi=>(S i).f) (λi=>#[.int .i64 (Fe.pl S i:Nat),.pointer (some ⟨I,i*8,none⟩)]) (λ_=>rfl)
     (λi W=>fZ W R I n room gr (nD S (Fe.iW gr (Fe.parts gr room S n) S) i)/\At W w (.cells #[R] 295)/\At W B5 (.cells #[.slice b (Fe.pl S n) (Fe.pl S n)] 37)/\Ints W (some ⟨b,0,none⟩) (Fe.parts gr room S n)/\Below N w W/\W.heap[D]? = some (.deferred (some [])))
     (λW=>False)
     (λi W r o o' h hr hW hc=>⟨h.1.turn ak ak o,h.2.1.turn ak o,h.2.2.1.turn (by have:=yR.lt;omega) o,h.2.2.2.1.turn hW hc o,Below.turn h.2.2.2.2.1 ak hW o,(World.putObj_heap_other ak).trans h.2.2.2.2.2⟩)
     (λW r o o' h hr hW _=>h)
     (λo1 o2=>⟨by rw[xR];exact((uN.keep hx).alloc o1).alloc o2,((hB1.keep hx).alloc o1).alloc o2,(yR.alloc o1).alloc o2,(hI5.after (aD aG o1)).after (aD aG o2),((Below.trans hBl (hx.mono ak)).alloc ak o1).alloc jB o2,(At.alloc (At.keep (show At W D _ from hK) hx) o1).alloc o2⟩)
     (λlp J Jx W hV hs hY hJ=>tL 4 R I n room (Fe.sg gr) S hn lp J Jx W (λi W h=>(hV i W h).1.mixed) hs hY hJ)
     (λi W hi hf h=>⟨by rw[Ja (by simp[Fe.iW,hf])];exact h.1,h.2⟩)
     (λi t=>(((t.setIfInBounds 26 (.int .i64 (Fe.pl S i:Nat))).setIfInBounds 27 (.pointer (some ⟨I,i*8,none⟩))).setIfInBounds 6 (.int .i64 (Fe.pl S i:Nat))).setIfInBounds 7 (.pointer (some ⟨I,i*8,none⟩))) ?assign ?body ?done ?stop
    case assign =>
     exact Z15
    case stop=>exact λD W hD h _=>h.elim
    case done =>
     rintro D2 W2 hD2 ⟨hR2,hB2,hA2,hI2,abx,hK1⟩ hK2
     gi_wp2
     have hl2:=(Array.getElem?_eq_some_iff.1 hK2).1;refine⟨by simp,.inl ⟨_,_,rfl,run_takeDeferred hK2,?_⟩⟩;have hK3:(W2.putObj D2 (.deferred none)).heap[D]? = some (.deferred (some [])):=(World.putObj_heap_other ak).trans hK1;refine⟨by simp,.inl ⟨_,_,rfl,run_takeDeferred hK3,?_⟩⟩;exact⟨_,results_none rfl _ _ _,⟨_,rfl⟩,⟨((hR2.turn ak ak _).turn ak ak _).1,(((hR2.turn ak ak _).turn ak ak _).2.same (zW _ _ _))⟩,Below.turn (Below.turn abx ak hK2 _) ak hK3 _⟩
    case body =>
     rintro l i W6 hi hf ⟨hR2,hB2,hA2,hI2,abx,hD2⟩;have hne:=hR2.ne;have hp:=Fe.R4 S hi hf;obtain⟨⟨⟨hb1,hb2⟩,_⟩,_⟩:=HS.out i hi;have hpn:(Fe.parts gr room S n).length=Fe.pl S n:=by unfold Fe.parts;rw[Fe.JW,Fe.sW]
     have hpv:0<=(Fe.parts gr room S n).getD (Fe.pl S i) 0/\(Fe.parts gr room S n).getD (Fe.pl S i) 0<=67108864:=by
      unfold Fe.parts;rw[Fe.IL _ _ (by rw[Fe.sW];exact hp)];exact Fe.DC _ _ (by rw[Fe.sW];exact hp)
     obtain⟨b',o',eA,hbl,hpc⟩:=hI2.at_ (k:=Fe.pl S i) (by rw[hpn];exact hp);injection eA with eA;injection eA with e1 e2;subst e1;subst e2;rw[Nat.zero_add]at hpc;obtain⟨l2,d0,d1,d2,d3,d4,d5,d6,d7⟩:=hR2.2.fields hi;obtain⟨l3,r0,r1,r2⟩:=hR2.cells;have hcB:W6.cell? ⟨w,0,none⟩=some (.pointer R):=hB2.cell 0;have hlB:=hB2.lt;have hcA:W6.cell? ⟨B5,0,none⟩=some (.slice b (Fe.pl S n) (Fe.pl S n)):=hA2.cell 0;have hlA:=hA2.lt;rw[pX (aO _)]at d0 d1 d2 d3 d4 d5 d6 d7;have HT:Hid (Fe.iW gr (Fe.parts gr room S n) S i=⟨(S i).x,Fe.clamp (S i).x (Fe.want gr (Fe.parts gr room S n) S i),Fe.clamp (S i).x (Fe.want gr (Fe.parts gr room S n) S i)-Fe.want gr (Fe.parts gr room S n) S i,false⟩):=ah (by simp[Fe.iW,hf])
     have HWt:Hid (IntKind.i64.wrap ((S i).x.b+IntKind.i64.wrap (Fe.sg gr*(Fe.parts gr room S n).getD (Fe.pl S i) 0))=Fe.want gr (Fe.parts gr room S n) S i/\-67108864<=Fe.want gr (Fe.parts gr room S n) S i/\Fe.want gr (Fe.parts gr room S n) S i<=68157440):=ah (by
      unfold Fe.want;have hq : -67108864<=Fe.sg gr*(Fe.parts gr room S n).getD (Fe.pl S i) 0/\Fe.sg gr*(Fe.parts gr room S n).getD (Fe.pl S i) 0<=67108864:=by cases gr<;>simp only[Fe.sg,Bool.false_eq_true,if_false,if_true]<;>omega
      rw[IntWalk.i64_in (Fe.sg gr*_) ak,IntWalk.i64_in _ ak]
      exact⟨rfl,by omega,by omega⟩)
     have FIN:∀(W8:World) (cl wt:Int),cl=Fe.clamp (S i).x (Fe.want gr (Fe.parts gr room S n) S i)->wt=Fe.want gr (Fe.parts gr room S n) S i->Below W6 W6 W8 ->
       roundEnd W5.heap.size (λW=>fZ W R I n room gr (nD S (Fe.iW gr (Fe.parts gr room S n) S) (i+1))/\At W w (.cells #[R] 295)/\At W B5 (.cells #[.slice b (Fe.pl S n) (Fe.pl S n)] 37)/\Ints W (some ⟨b,0,none⟩) (Fe.parts gr room S n)/\Below N w W/\W.heap[D]? = some (.deferred (some []))) (λ_=>False) W6 .normal { tmps:=#[],defers:=[] }
        ((W8.setCell ⟨I,i*8+5,none⟩ (.int .i64 cl)).setCell ⟨I,i*8+6,none⟩ (.int .i64 (cl-wt))):=by
      intro W8 cl wt hcl hwt yc;have Wv:=hR2.keep yc;have b1:um (W8.setCell ⟨I,i*8+5,none⟩ (.int .i64 cl)) I n (λk=>if k=i then ⟨(S i).x,cl,(S i).m,false⟩else nD S (Fe.iW gr (Fe.parts gr room S n) S) i k):=by
       refine Wv.2.put hi ak (by simp[L6]) ?_ (λk hk hkn=>by simp[hkn]);intro q hq hqn;simp only[if_true];rw[pX (aO _)];unfold L6;rw[hf]
       (repeat' split)<;>first|rfl|omega
      have b2:um ((W8.setCell ⟨I,i*8+5,none⟩ (.int .i64 cl)).setCell ⟨I,i*8+6,none⟩ (.int .i64 (cl-wt))) I n (nD S (Fe.iW gr (Fe.parts gr room S n) S) (i+1)):=by
       refine b1.put hi ak ?_ ?_ ?_
       . rw[uT,HT.out,hcl,hwt];simp[L6]
       . intro q hq hqn
         rw[uT,HT.out,<-hcl,<-hwt];simp only[if_true];unfold L6
         (repeat' split)<;>first|rfl|omega
       . intro k hk hkn
         rw[zV _ _ hkn];simp[hkn]
      have hz8:=yc.size;refine⟨((KeepsFrom.of_below yc).trans (((KeepsOthers.setCell _ _ _).trans (KeepsOthers.setCell _ _ _)).from _)),⟨(Wv.1.off ak _ _).off ak _ _,b2⟩,((hB2.keep yc).off ak _ _).off ak _ _,((hA2.keep yc).off ak _ _).off ak _ _,((hI2.after yc).off ak _).off ak _,Below.setCell (Below.setCell (Below.trans abx (yc.mono (by have:=abx.size;omega))) hN.1 _) hN.1 _,?_⟩;exact(KeepsOthers.setCell _ _ _).same _ _ ((KeepsOthers.setCell _ _ _).same _ _ ((yc.block D (Array.getElem?_eq_some_iff.1 hD2).1).trans hD2) rfl) rfl
     replace FIN:=ah FIN;clear d5 d6 d7 hI2 hA2 HT hpv hpn hb1 hb2;have HR2:=ah hR2;clear hR2;generalize Ww:(S i).x=x at *;have HX:=ah Ww;clear Ww;obtain⟨x0,x1,x2,x3,x4⟩:=x;dsimp only at d0 d1 d2 d3 d4 HWt;generalize hwt:Fe.want gr (Fe.parts gr room S n) S i=wt at *;replace hwt:=ah hwt;generalize (Fe.parts gr room S n).getD (Fe.pl S i) 0=pv at *;generalize Fe.sg gr=way at *;have akg:(Fe.pl S i:Int)<(Fe.pl S n:Int):=by omega
     simp only[ja1,ja2,ja3]
     gi_upto_region 9 with(fail)
     refine aj.PG aG bE bE bE bE (by rintro⟨_,_,hh⟩;exact hh) ?_
     (repeat (first|refine jV ?_ | refine jW ?_ (hc:=by intro w2 hS;first|with_reducible exact AF hS (fO _ _))|refine jX ?_))
     refine aj.bY ?_;intro w2 hS;rw[HWt.out.1];obtain⟨l4,e0,e1,e2,e3,e4,e5,e6,e7⟩:=(HR2.out.keep hS).2.fields hi;rw[pX (aO _)]at e0 e1 e2 e3 e4;rw[HX.out]at e0 e1 e2 e3 e4;dsimp only at e0 e1 e2 e3 e4;obtain⟨t1,t2⟩:=HWt.out.2;have k1:=(Fe.oV ⟨x0,x1,x2,x3,x4⟩ wt).1;have k2:=(Fe.oV ⟨x0,x1,x2,x3,x4⟩ wt).2;obtain⟨cl,hcl⟩:∃cl,cl=Fe.clamp ⟨x0,x1,x2,x3,x4⟩ wt:=⟨_,rfl⟩;rw[<-hcl]at k1 k2;have vZ:IntKind.i64.wrap (cl-wt)=cl-wt:=IntWalk.i64_in _ ak;have HCL:=ah hcl;clear hcl e5 e6 e7 d0 d1 d2 d3 d4 r0 r1 r2 hcB hcA hpc
     gi_upto_region 11 with(refine⟨trivial,?_⟩;gi_at_call 175;refine(CallsIn.inRound l (callsIn_wide.2 (DV x0 x1 x2 x3 x4 wt _))).mono ?_;rintro e w7 ⟨rfl,pG⟩;rw[<-HCL.out];have hx7:=Below.ay hS aF pG;clear pG hS e0 e1 e2 e3 e4 l4;obtain⟨l5,-, -, -, -, -, e5,e6,-⟩:=(HR2.out.keep hx7).2.fields hi;have z5:=(HR2.out.keep hx7).2.thaw (i*8+5);have z6:=(HR2.out.keep hx7).2.thaw (i*8+6))
     gi_wp2
     exact FIN.out w7 cl wt HCL.out rfl hx7
end
section
open Go.Shelf
open List renaming length_cons → jb4
variable {W:World}
attribute [local go_sem] Oper.semAt_some
def Items(w:World)(A:Option Addr)(l:Nat->Fe.It)(n:Nat):Prop :=
 0<n->∃b off,A=some ⟨b,off,none⟩/\b<w.heap.size/\∀k,k<n->w.cell? ⟨b,off+k*5,none⟩=some (.int .i64 (l k).b)/\w.cell? ⟨b,off+k*5+1,none⟩=some (.int .i64 (l k).lo)/\w.cell? ⟨b,off+k*5+2,none⟩=some (.int .i64 (l k).hi)/\w.cell? ⟨b,off+k*5+3,none⟩=some (.int .i64 (l k).g)/\w.cell? ⟨b,off+k*5+4,none⟩=some (.int .i64 (l k).s)
theorem Items.after{W w:World}{A:Option Addr}{l:Nat->Fe.It}{n:Nat}(h:Items W A l n)(hb:Below W W w):Items w A l n:=λh0=>by
 obtain⟨b,off,rfl,hl,hc⟩:=h h0;refine⟨b,off,rfl,bA hl hb.size,λk hk => ?_⟩;obtain⟨c0,c1,c2,c3,c4⟩:=hc k hk;exact⟨(hb.cell (p:=⟨b,off+k*5,none⟩) hl).trans c0,(hb.cell (p:=⟨b,off+k*5+1,none⟩) hl).trans c1,(hb.cell (p:=⟨b,off+k*5+2,none⟩) hl).trans c2,(hb.cell (p:=⟨b,off+k*5+3,none⟩) hl).trans c3,(hb.cell (p:=⟨b,off+k*5+4,none⟩) hl).trans c4⟩
theorem um.step{I n k j:Nat}{S:Nat->Fe.St}{s:Fe.St}{v:Value}(t:Fe.St)(h:um W I n (λi=>if i=k then s else S i))(hk:k<n)(hj:j<8)(hv:L6 t j=v)(ho:∀q,q<8->q≠j->L6 t q=L6 s q) :
  um (W.setCell ⟨I,k*8+j,none⟩ v) I n (λi=>if i=k then t else S i) :=
 h.put hk hj (by simpa using hv) (λq hq hqn=>by simpa using ho q hq hqn) (λi _ hi=>by simp[hi])
theorem um.X7{I n k:Nat}{S:Nat->Fe.St}(h:um W I n S)(hk:k<n)(b lo hi g s z:Int) :
  um ((((((((W.setCell ⟨I,k*8,none⟩ (.int .i64 b)).setCell ⟨I,k*8+1,none⟩ (.int .i64 lo)).setCell ⟨I,k*8+2,none⟩ (.int .i64 hi)).setCell ⟨I,k*8+3,none⟩ (.int .i64 g)).setCell ⟨I,k*8+4,none⟩ (.int .i64 s)).setCell ⟨I,k*8+5,none⟩ (.int .i64 z)).setCell ⟨I,k*8+6,none⟩ (.int .i64 0)).setCell ⟨I,k*8+7,none⟩ (.bool false)) I n
   (λi=>if i=k then ⟨⟨b,lo,hi,g,s⟩,z,0,false⟩else S i):=by
 have h0:um W I n (λi=>if i=k then S k else S i):=h.same λi _=>by by_cases e:i=k<;>simp[e]
 generalize S k=s0 at h0;obtain⟨⟨b0,lo0,hi0,g0,s00⟩,z0,m0,f0⟩:=s0;have h1:=h0.step (j:=0) (v:=.int .i64 b) ⟨⟨b,lo0,hi0,g0,s00⟩,z0,m0,f0⟩ hk ak rfl Z42;have h2:=h1.step (j:=1) (v:=.int .i64 lo) ⟨⟨b,lo,hi0,g0,s00⟩,z0,m0,f0⟩ hk ak rfl Z42;have h3:=h2.step (j:=2) (v:=.int .i64 hi) ⟨⟨b,lo,hi,g0,s00⟩,z0,m0,f0⟩ hk ak rfl Z42;have h4:=h3.step (j:=3) (v:=.int .i64 g) ⟨⟨b,lo,hi,g,s00⟩,z0,m0,f0⟩ hk ak rfl Z42;have h5:=h4.step (j:=4) (v:=.int .i64 s) ⟨⟨b,lo,hi,g,s⟩,z0,m0,f0⟩ hk ak rfl Z42;have h6:=h5.step (j:=5) (v:=.int .i64 z) ⟨⟨b,lo,hi,g,s⟩,z,m0,f0⟩ hk ak rfl Z42;have h7:=h6.step (j:=6) (v:=.int .i64 0) ⟨⟨b,lo,hi,g,s⟩,z,0,f0⟩ hk ak rfl Z42;exact h7.step (j:=7) (v:=.bool false) ⟨⟨b,lo,hi,g,s⟩,z,0,false⟩ hk ak rfl Z42
theorem At.afT{I k c:Nat}{o:Obj}(h:At W c o)(hne:c≠I)(b lo hi g s z:Int):At ((((((((W.setCell ⟨I,k*8,none⟩ (.int .i64 b)).setCell ⟨I,k*8+1,none⟩ (.int .i64 lo)).setCell ⟨I,k*8+2,none⟩ (.int .i64 hi)).setCell ⟨I,k*8+3,none⟩ (.int .i64 g)).setCell ⟨I,k*8+4,none⟩ (.int .i64 s)).setCell ⟨I,k*8+5,none⟩ (.int .i64 z)).setCell ⟨I,k*8+6,none⟩ (.int .i64 0)).setCell ⟨I,k*8+7,none⟩ (.bool false)) c o :=
 (((((((h.off hne _ _).off hne _ _).off hne _ _).off hne _ _).off hne _ _).off hne _ _).off hne _ _).off hne _ _
theorem fZ.X7{R I n k:Nat}{room:Int}{gr:Bool}{S T:Nat->Fe.St}(h:fZ W R I n room gr (nD S T k))(hk:k<n)(b lo hi g s z:Int)(hT:T k=⟨⟨b,lo,hi,g,s⟩,z,0,false⟩) :
  fZ ((((((((W.setCell ⟨I,k*8,none⟩ (.int .i64 b)).setCell ⟨I,k*8+1,none⟩ (.int .i64 lo)).setCell ⟨I,k*8+2,none⟩ (.int .i64 hi)).setCell ⟨I,k*8+3,none⟩ (.int .i64 g)).setCell ⟨I,k*8+4,none⟩ (.int .i64 s)).setCell ⟨I,k*8+5,none⟩ (.int .i64 z)).setCell ⟨I,k*8+6,none⟩ (.int .i64 0)).setCell ⟨I,k*8+7,none⟩ (.bool false)) R I n room gr (nD S T (k+1)) :=
 ⟨At.afT h.1 h.ne b lo hi g s z,(h.2.X7 hk b lo hi g s z).same λi _=>by
  by_cases e:i=k
  . subst e;rw[uT,hT];simp
  . rw[zV _ _ e];simp[e]⟩
theorem Below.X7{N:Nat}{w W:World}{I k:Nat}(h:Below N w W)(hN:N<=I)(b lo hi g s z:Int):Below N w ((((((((W.setCell ⟨I,k*8,none⟩ (.int .i64 b)).setCell ⟨I,k*8+1,none⟩ (.int .i64 lo)).setCell ⟨I,k*8+2,none⟩ (.int .i64 hi)).setCell ⟨I,k*8+3,none⟩ (.int .i64 g)).setCell ⟨I,k*8+4,none⟩ (.int .i64 s)).setCell ⟨I,k*8+5,none⟩ (.int .i64 z)).setCell ⟨I,k*8+6,none⟩ (.int .i64 0)).setCell ⟨I,k*8+7,none⟩ (.bool false)) :=
 Below.setCell (Below.setCell (Below.setCell (Below.setCell (Below.setCell (Below.setCell (Below.setCell (Below.setCell h hN _) hN _) hN _) hN _) hN _) hN _) hN _) hN _
theorem At.adO{b:Nat}{x y z u v:Value}{T:TypeId}(h:At W b (.cells #[x,y,z,u,v] T))(x' y' z' u' v':Value) :
 At (((((W.setCell ⟨b,0,none⟩ x').setCell ⟨b,1,none⟩ y').setCell ⟨b,2,none⟩ z').setCell ⟨b,3,none⟩ u').setCell ⟨b,4,none⟩ v') b (.cells #[x',y',z',u',v'] T):=((((h.set 0 x').set 1 y').set 2 z').set 3 u').set 4 v'
theorem Below.adO{N:Nat}{w W:World}{b:Nat}(h:Below N w W)(hN:N<=b)(x' y' z' u' v':Value):Below N w (((((W.setCell ⟨b,0,none⟩ x').setCell ⟨b,1,none⟩ y').setCell ⟨b,2,none⟩ z').setCell ⟨b,3,none⟩ u').setCell ⟨b,4,none⟩ v') :=
 Below.setCell (Below.setCell (Below.setCell (Below.setCell (Below.setCell h hN _) hN _) hN _) hN _) hN _
theorem UW:(Tryz.prog.info? 305).map (λi=>(i.zero,i.size,i.bytes))=some (some (.agg #[(),(),(),(),(),(),(),false]),8,64):=by kernel_rfl
def Qs:Fe.St:=⟨⟨0,0,0,0,0⟩,0,0,false⟩
theorem X8(w:World)(n:Nat):um (w.alloc (.cells (madeCells #[(),(),(),(),(),(),(),false] (n*8)) 305)) w.heap.size n (λ_=>Qs):=by
 refine⟨_,At.new _ _,size_madeCells _ _,λi j hi hj => ?_⟩;have e:(i*8+j)%8=j:=by omega
 have hlt:i*8+j<n*8:=by omega
 simp only[madeCells,Array.getElem?_map,Array.getElem?_range,hlt,if_true,Option.map_some,List.size_toArray,jb4,List.length_nil,Nat.reduceAdd,Nat.zero_add,e];rcases(show j=0\/j=1\/j=2\/j=3\/j=4\/j=5\/j=6\/j=7 by omega)with rfl|rfl|rfl|rfl|rfl|rfl|rfl|rfl<;>rfl
theorem aby(l:Nat->Fe.It)(k:Nat):0<=Fe.zF l k/\Fe.zF l k<=1048576*k:=by
 induction k with
 | zero=>simp[Fe.zF]
 | succ k ih =>
   have:=Fe.oV (l k) (Fe.cnt (l k)).b;simp only[Fe.zF];constructor<;>omega
theorem wW{F:Fence}{m:Nat}{P:Program}(w:World){ops:Array Oper}{rest:List Oper}{o:Oper}{a:Act}{Q:Exit->Act->World->Prop}(hro:F.round=none)(hw:Region.wanted o (yielded ops a.tmps)=true)
  (l c:Operand) (t:TypeId) (hop:o.op=Op.makeSlice t l c) {v:Value} {w':World} (hrun:(Instr.makeSlice t (a.eval l) (a.eval c)).run P w=.ok v w') (hK:wpListIn F m P ops Q rest (a.put o.dst v) w'):wpListIn F m P ops Q (o::rest) a w:=by
 unfold wpListIn;rw[if_pos hw];unfold Oper.wpIn;refine⟨λf hf => ?_,?_⟩
 . unfold Oper.about at hf
   simp[hop]at hf
 . rw[hro,Oper.semAt_none]
   unfold execOp;simp only[hop,Sem.run_bind,hrun,Result.andThen_ok,Sem.run_pure];exact hK
end
section
open Go.Shelf
open List renaming setIfInBounds_toArray → ja1,set_cons_zero → ja2,set_cons_succ → ja3,length_cons → jb4
open World renaming setCell → ja4
attribute [local go_sem] Oper.semAt_some
theorem UY(A:Option Addr)(l:Nat->Fe.It)(n c:Nat)(room:Int)(w:World)(hI:Items w A l n)(hn:n<=64)(hr:0<=room/\room<=67108864) :
  Calls ja0 208 #[.slice A n c,room] w λe w'=>(∃R I,e=.returned (.pointer (some ⟨R,0,none⟩))/\w.heap.size<=I/\fZ w' R I n room (Fe.El l n room) (Fe.begun (Fe.El l n room) l))/\Below w w w':=by
 have Kc:=@tC;obtain⟨i0,hi0,hz0,hz1,hz2⟩:=info_parts UW;have HI:=ah hI;clear hI;have hrun:=run_make (P:=ja0) w 301 305 i0 _ Tryz.underlying301 hi0 hz0 .i64 .i64 n n ak (Int.le_refl _) TQ ak;rw[hz1,Int.toNat_natCast]at hrun;simp only[Value.cells]at hrun;have Bg:=ah hrun;clear hrun;refine(callsIn_wide (n:=5)).1 ?_;refine callsIn_of_wp_marks Tryz.func208 rfl trivial ?_ rfl;simp only[Tryz.ntmps208,List.size_toArray,jb4,List.length_nil,Nat.reduceAdd,Nat.reduceSub,Array.replicate_succ,Array.replicate_zero,List.push_toArray,List.append_toArray,List.nil_append,List.cons_append]
 gi_upto_region 2 with(refine wW _ rfl bB _ _ 301 rfl Bg.out ?_)
 obtain⟨W0,hA1,yD,hB,hsz,hW⟩:∃W0,At W0 (w.heap.size+1+1) (.cells #[.pointer (some ⟨w.heap.size+1,0,none⟩)] 295)/\fZ W0 (w.heap.size+1) w.heap.size n room false (λ_=>Qs)/\Below w w W0/\W0.heap.size=w.heap.size+3 /\
   (((w.alloc (.cells (madeCells #[(),(),(),(),(),(),(),false] (n*8)) 305)).alloc (.cells #[.slice w n n,room,.int .i64 (-1)] 303)).alloc (.cells #[.pointer (some ⟨w.heap.size+1,0,none⟩)] 295))=W0 :=
  ⟨_,At.new' _ bI,⟨(At.new' (.cells #[.slice w n n,room,.int .i64 (-1)] 303) bI).alloc _,((X8 w n).alloc _).alloc _⟩,aD (aD (aD aG _) _) _,by simp,rfl⟩
 rw[hW];clear hW Bg hi0 hz0 hz1 hz2 i0
 gi_wp2
 gi_loopw [6,20] (λs i wr=>∃k:Nat,k<=n/\i=.int .i64 k/\s=.int .i64 (Fe.zF l k)/\fZ wr (w.heap.size+1) w.heap.size n room false (nD (λ_=>Qs) (Fe.fresh l) k)/\At wr (w.heap.size+1+1) (.cells #[.pointer (some ⟨w.heap.size+1,0,none⟩)] 295)/\Below w w wr) (λ_ i _=>n-(intOf i).toNat)
 case atStart=>exact⟨0,by omega,rfl,rfl,by rw[xR];exact yD,hA1,hB⟩
 case round =>
  obtain⟨k,hk,rfl,rfl,hR,hA,hB⟩:=hrel;have hwr:=hB.size;have uN:=hR.1.lt;have hA1:=hA.lt;by_cases hlt:k<n
  . have hltz:(k:Int)<(n:Int):=by omega
    obtain⟨b,off,rfl,hbl,hc⟩:=(HI.out.after hB) ak;obtain⟨c0,c1,c2,c3,c4⟩:=hc k hlt;clear hc;obtain⟨s1,s2⟩:=aby l k;obtain⟨k1,k2⟩:=Fe.oV (l k) (Fe.cnt (l k)).b;have HZ:Hid (Fe.zF l (k+1)=Fe.zF l k+Fe.clamp (l k) (Fe.cnt (l k)).b):=ah rfl;have HF:Hid (Fe.fresh l k=⟨Fe.cnt (l k),Fe.clamp (l k) (Fe.cnt (l k)).b,0,false⟩):=ah rfl;have HCC:=ah (Fe.Ua (l k) (Fe.cnt (l k)).b);generalize hl9:l k=x at *;have HX:=ah hl9;clear hl9;generalize hcx:Fe.cnt x=y at *;have HY:=ah hcx;clear hcx;generalize hz:Fe.clamp x y.b=z at *;clear hz;obtain⟨x0,x1,x2,x3,x4⟩:=x;obtain⟨y0,y1,y2,y3,y4⟩:=y;dsimp only at c0 c1 c2 c3 c4 HCC;generalize Fe.zF l k=u at *
    gi_upto_region 6 with(fail)
    obtain⟨W1,qO,hb,hs1,hW⟩:∃W1,At W1 wr (.cells #[x0,x1,x2,x3,x4] 214)/\Below wr wr W1/\wr.heap.size<W1.heap.size /\
     wr.alloc (.cells #[x0,x1,x2,x3,x4] 214)=W1:=⟨_,At.new _ _,aD aG _,by simp,rfl⟩
    rw[hW];clear hW c0 c1 c2 c3 c4;generalize hX9:wr.heap.size=X at *;obtain⟨l9,a0,a1,a2,a3,a4⟩:=qO.five
    gi_upto_region 7 with(refine⟨trivial,?_⟩;gi_at_call 203;refine(callsIn_wide.2 (Nj x0 x1 x2 x3 x4 _)).mono ?_;rintro e w2 ⟨rfl,hb2⟩;rw[HY.out];simp only[enc];clear l9 a0 a1 a2 a3 a4;replace hb:=Below.trans hb (hb2.mono ak);replace qO:=qO.keep hb2;clear hb2;obtain⟨l9,a0,a1,a2,a3,a4⟩:=qO.five;have z0:=qO.thaw 0;have z1:=qO.thaw 1;have z2:=qO.thaw 2;have z3:=qO.thaw 3;have z4:=qO.thaw 4)
    replace qO:=qO.adO (.int .i64 y0) (.int .i64 y1) (.int .i64 y2) (.int .i64 y3) (.int .i64 y4);replace hb:=Below.adO hb (aO X) (.int .i64 y0) (.int .i64 y1) (.int .i64 y2) (.int .i64 y3) (.int .i64 y4);clear l9 a0 a1 a2 a3 a4 z0 z1 z2 z3 z4;generalize ja4 _ _ _=W2 at *;obtain⟨l9,a0,a1,a2,a3,a4⟩:=qO.five
    gi_upto_region 8 with(refine⟨trivial,?_⟩;gi_at_call 175;refine(callsIn_wide.2 (DV y0 y1 y2 y3 y4 y0 _)).mono ?_;rintro e w3 ⟨rfl,hb3⟩;rw[HCC.out];replace hb:=Below.trans hb (hb3.mono ak);clear l9 a0 a1 a2 a3 a4;replace qO:=qO.keep hb3;clear hb3;obtain⟨l9,a0,a1,a2,a3,a4⟩:=qO.five)
    have yg:=hR.keep (hX9▸hb);have hAw:=hA.keep (hX9▸hb);have hBw:=Below.trans hB (hb.mono ak);obtain⟨g0,r0,-, -⟩:=yg.cells;have cB:_=some (Value.pointer (some ⟨w.heap.size+1,0,none⟩)):=hAw.cell 0;have gB:=hAw.lt;have gI:=yg.2.lt;refine wpIn_wide.2 ?_;refine zB 9 1 ?_
    (repeat (first|refine jV ?_ | refine jW ?_ (hc:=by intro w2 hS;first|with_reducible exact AF hS (fO _ _))|refine jX ?_))
    refine aj.dH ?_;intro w2 hS;have Gu:=yg.keep hS;have yR:=hAw.keep hS;have mX:=Below.ay hBw aF hS;have h95:=qO.keep hS;obtain⟨gI5,e0,e1,e2,e3,e4,e5,e6,e7⟩:=Gu.2.fields hlt;have t0:=Gu.2.thaw (k*8);have t1:=Gu.2.thaw (k*8+1);have t2:=Gu.2.thaw (k*8+2);have t3:=Gu.2.thaw (k*8+3);have t4:=Gu.2.thaw (k*8+4);have t5:=Gu.2.thaw (k*8+5);have t6:=Gu.2.thaw (k*8+6);have t7:=Gu.2.thaw (k*8+7);refine vH ?_;intro K hK;go_simp;refine hK _ _ (aj.bF ?_);clear hK K;have hR6:=Gu.X7 hlt y0 y1 y2 y3 y4 z HF.out;have vU:=yR.afT (I:=w.heap.size) (k:=k) ak y0 y1 y2 y3 y4 z;have AA:=Below.X7 (I:=w.heap.size) (k:=k) mX aF y0 y1 y2 y3 y4 z;clear hR hA hB yg hAw hBw Gu yR mX h95 qO hb hS r0 cB e0 e1 e2 e3 e4 e5 e6 e7 t0 t1 t2 t3 t4 t5 t6 t7 l9 a0 a1 a2 a3 a4
    first|generalize ja4 _ _ _=W6 at * | (trace_state;fail)
    gi_wp2
    go_roundw
    case rel=>exact⟨k+1,by omega,by go_num,by rw[HZ.out],hR6,vU,AA⟩
    case measure=>simp[intOf];omega
  . have hltz:¬ (k:Int)<(n:Int):=by omega
    obtain rfl:k=n:=by omega
    have hR2:fZ wr (w.heap.size+1) w.heap.size k room false (Fe.fresh l):=⟨hR.1,hR.2.same (zW _ _ _)⟩;have hne:=hR.ne;obtain⟨g0,-, -, c2⟩:=hR2.cells;have z2:=hR2.1.thaw 2;clear hR;refine(Decidable.em (Fe.zF l k<room)).elim (λhg => ?_) (λhg => ?_)
    all_goals
     first
      | have HG:Hid (Fe.El l k room=true):=ah (decide_eq_true hg)
      | have HG:Hid (Fe.El l k room=false):=ah (decide_eq_false hg)
     have cB:wr.cell? ⟨w.heap.size+1+1,0,none⟩=some (.pointer (some ⟨w.heap.size+1,0,none⟩)):=hA.cell 0
     gi_wp2
     first
      | (obtain⟨W7,hR7,OO,DN,hW⟩:∃W7,fZ W7 (w.heap.size+1) w.heap.size k room (Fe.El l k room) (Fe.fresh l)/\At W7 (w.heap.size+1+1) (.cells #[.pointer (some ⟨w.heap.size+1,0,none⟩)] 295)/\Below w w W7/\wr.setCell ⟨w.heap.size+1,2,none⟩ (.int .i64 1)=W7 :=
        ⟨_,by rw[HG.out];exact⟨hR2.1.set 2 _,hR2.2.off ak _⟩,hA.off ak _ _,Below.setCell hB bI _,rfl⟩
         rw[hW]
         clear hW)
      | (obtain⟨W7,hR7,OO,DN,hW⟩:∃W7,fZ W7 (w.heap.size+1) w.heap.size k room (Fe.El l k room) (Fe.fresh l)/\At W7 (w.heap.size+1+1) (.cells #[.pointer (some ⟨w.heap.size+1,0,none⟩)] 295)/\Below w w W7/\wr=W7 :=
        ⟨_,by rw[HG.out];exact hR2,hA,hB,rfl⟩
         subst hW)
     clear hA1 hR2 z2 c2 yD HI HG cB hA hB hg uN g0 hwr;have hs7:=DN.size;have hI7:=hR7.2.lt;have hQ7:=OO.lt;have akh:=hR7.ne
     refine lH (n:=5) (gf:=215) (first:=#[.pointer (some ⟨w.heap.size+1,0,none⟩)]) (lb:=#[]) rfl (enters_of Tryz.func215 bE rfl) k (λi=>(Fe.fresh l i).f) (λi=>#[.int .i64 (Fe.pl (Fe.fresh l) i:Nat),.pointer (some ⟨w,i*8,none⟩)]) (λ_=>rfl)
      (λi W=>fZ W (w.heap.size+1) w.heap.size k room (Fe.El l k room) (nD (Fe.fresh l) (Fe.begun (Fe.El l k room) l) i)/\At W (w.heap.size+1+1) (.cells #[.pointer (some ⟨w.heap.size+1,0,none⟩)] 295)/\Below w w W)
      (λW=>False)
      (λi W r o o' h hr hW hc=>⟨h.1.turn ak ak o,h.2.1.turn ak o,Below.turn h.2.2 ak hW o⟩)
      (λW r o o' h hr hW _=>h)
      (λo1 o2=>⟨by rw[xR];exact(hR7.alloc o1).alloc o2,(OO.alloc o1).alloc o2,aD (aD DN o1) o2⟩)
      (λlp J Jx W hV hs hY hJ=>tL 4 (w.heap.size+1) w.heap.size k room (Fe.sg (Fe.El l k room)) (Fe.fresh l) hn lp J Jx W (λi W h=>(hV i W h).1.mixed) hs hY hJ)
      (λi W hi hf h=>by cases hf)
      (λi t=>((t.setIfInBounds 52 (.int .i64 (Fe.pl (Fe.fresh l) i:Nat))).setIfInBounds 53 (.pointer (some ⟨w,i*8,none⟩))).setIfInBounds 11 (.pointer (some ⟨w,i*8,none⟩))) ?assign ?body ?done ?stop
     case assign =>
      exact Z15
     case stop=>exact λD W hD h _=>h.elim
     case body =>
      rintro lp i W hi hf ⟨Wv,PZ,X9⟩;have cB:W.cell? ⟨w.heap.size+1+1,0,none⟩=some (.pointer (some ⟨w.heap.size+1,0,none⟩)):=PZ.cell 0;have lB:=PZ.lt;have hbd:((0<=(nD (Fe.fresh l) (Fe.begun (Fe.El l k room) l) i i).x.b/\(nD (Fe.fresh l) (Fe.begun (Fe.El l k room) l) i i).x.b<=1048576)/\0<=(nD (Fe.fresh l) (Fe.begun (Fe.El l k room) l) i i).z/\(nD (Fe.fresh l) (Fe.begun (Fe.El l k room) l) i i).z<=1048576):=by
       rw[pX (aO _)];obtain⟨q1,q2,_⟩:=Fe.JU (l i);exact⟨⟨q1,q2⟩,Fe.oV (l i) _⟩
      have HST:Hid (Fe.stay (Fe.El l k room) (nD (Fe.fresh l) (Fe.begun (Fe.El l k room) l) i i).x (nD (Fe.fresh l) (Fe.begun (Fe.El l k room) l) i i).z=(Fe.begun (Fe.El l k room) l i).f):=ah (by rw[pX (aO _)];rfl)
      (simp only[ja1,ja2,ja3])
      gi_wp2_with (refine⟨trivial,?_⟩;gi_at_call 216;refine(CallsIn.inRound lp (callsIn_wide.2 (UU _ _ k i room _ _ _ Wv hi hbd))).mono ?_;rintro e w9 ⟨rfl,iM⟩;rw[HST.out];have l9:=(Wv.keep iM).2.lt;obtain⟨-, -, -, -, -, -, -, -, e7⟩:=(Wv.keep iM).2.fields hi;have z7:=(Wv.keep iM).2.thaw (i*8+7))
      have hz9:=iM.size;refine⟨(KeepsFrom.of_below iM).trans ((KeepsOthers.setCell _ _ _).from _),⟨(Wv.1.keep iM).off ak _ _,?_⟩,(PZ.keep iM).off ak _ _,Below.setCell (Below.ay X9 ak iM) aF _⟩;refine(Wv.2.keep iM).put hi ak ?_ ?_ ?_
      . rw[uT];simp[L6]
      . intro q hq hqn
        rw[uT,pX (aO _)];unfold L6
        (repeat' split)<;>first|rfl|omega
      . intro j hj hjn;rw[zV _ _ hjn]
     case done =>
      rintro D W hD ⟨Wv,PZ,X9⟩ hK;have cB:W.cell? ⟨w.heap.size+1+1,0,none⟩=some (.pointer (some ⟨w.heap.size+1,0,none⟩)):=PZ.cell 0;have lB:=PZ.lt
      gi_wp2
      refine⟨by simp,.inl ⟨_,_,rfl,run_takeDeferred hK,?_⟩⟩;exact⟨_,results_tmp rfl _ _ _,⟨w.heap.size+1,w.heap.size,rfl,aO _,⟨(Wv.turn ak ak _).1,(Wv.turn ak ak _).2.same (zW _ _ _)⟩⟩,Below.turn X9 ak hK _⟩
end
open List renaming range → jc0
open World renaming setCell → ja4,alloc → ja5
variable {S:Nat->Fe.St}{room:Int}{gr:Bool}{W:World}{b:Nat}
def mZ(l:Nat->Fe.It)(n:Nat)(x:Int):List Int:=(jc0 n).map λi=>(Fe.fin l n (Fe.to x 67108864) i).z
def wX(S:Nat->Fe.St)(n:Nat):Prop:=Sound S n/\∀i,i<n->-134217728<=(S i).m/\(S i).m<=134217728
theorem Nl(gr:Bool)(l:Nat->Fe.It)(n:Nat):wX (Fe.begun gr l) n:=by
 refine⟨λi _ => ?_,λi _=>⟨by show -134217728<=(0:Int);omega,by show(0:Int)<=134217728;omega⟩⟩;obtain⟨q1,q2,_,_,_,_,_,_,q3,q4⟩:=Fe.JU (l i);exact⟨⟨⟨q1,q2⟩,q3,q4⟩,Fe.oV (l i) _⟩
theorem abz{n i:Nat}(h:Sound S n)(hi:i<n)(hf:(S i).f=false) : -67108864<=Fe.want gr (Fe.parts gr room S n) S i/\Fe.want gr (Fe.parts gr room S n) S i<=68157440:=by
 have hp:=Fe.R4 S hi hf;obtain⟨⟨⟨hb1,hb2⟩,_⟩,_⟩:=h i hi;have hpv:0<=(Fe.parts gr room S n).getD (Fe.pl S i) 0/\(Fe.parts gr room S n).getD (Fe.pl S i) 0<=67108864:=by
  unfold Fe.parts;rw[Fe.IL _ _ (by rw[Fe.sW];exact hp)];exact Fe.DC _ _ (by rw[Fe.sW];exact hp)
 unfold Fe.want;have hq : -67108864<=Fe.sg gr*(Fe.parts gr room S n).getD (Fe.pl S i) 0/\Fe.sg gr*(Fe.parts gr room S n).getD (Fe.pl S i) 0<=67108864:=by cases gr<;>simp only[Fe.sg,Bool.false_eq_true,if_false,if_true]<;>omega
 omega
theorem uV{n:Nat}(h:wX S n):wX (Fe.shared gr room n S) n:=by
 constructor
 . intro i hi
   obtain⟨h1,h2⟩:=h.1 i hi;unfold Fe.shared Fe.iW;cases hf:(S i).f
   . simp only[Bool.false_eq_true,if_false]
     exact⟨h1,Fe.oV _ _⟩
   . simp only[if_true]
     exact⟨h1,h2⟩
 . intro i hi
   have h3:=h.2 i hi;unfold Fe.shared Fe.iW;cases hf:(S i).f
   . simp only[Bool.false_eq_true,if_false]
     have:=abz (gr:=gr) (room:=room) h.1 hi hf;have:=Fe.oV (S i).x (Fe.want gr (Fe.parts gr room S n) S i);omega
   . simp only[if_true]
     exact h3
theorem Nn{n:Nat}(h:wX S n):wX (Fe.froze n S) n:=by
 constructor
 . intro i hi
   have h1:=h.1 i hi;unfold Fe.froze;cases hf:(S i).f<;>simp only[Bool.false_eq_true,if_false,if_true]<;>exact h1
 . intro i hi
   have h1:=h.2 i hi;unfold Fe.froze;cases hf:(S i).f<;>simp only[Bool.false_eq_true,if_false,if_true]<;>exact h1
theorem Kt{n:Nat}(h:wX S n)(k:Nat):wX (Fe.rounds gr room n S k) n:=by
 induction k with
 | zero=>exact h
 | succ k ih=>exact Nn (uV ih)
theorem Jb(R I n:Nat)(room:Int)(gr:Bool)(S:Nat->Fe.St)(w:World)(h:fZ w R I n room gr S)(hn:n<=64) :
  Calls ja0 212 #[R] w λe w'=>(∃b,e=.returned (.slice (some ⟨b,0,none⟩) n n)/\w.heap.size<=b/\Ints w' (some ⟨b,0,none⟩) ((jc0 n).map λi=>(S i).z))/\Below w w w':=by
 obtain⟨i0,hi0,hz0,hz1,hz2⟩:=info_parts intZero;have HR:=ah h;obtain⟨l0,c0,c1,c2⟩:=h.cells;clear h c1 c2;go_enter Tryz.func212,Tryz.ntmps212
 go_upto_region 2 with(at_make;refine wpList_make_row _ rfl _ _ 37 rfl 3 i0 (.int .i64 0) Tryz.underlying37 hi0 hz0 hz1 rfl .i64 .i64 n rfl rfl TQ ak ?_)
 have Uz:At (w.alloc (.cells (madeCells #[()] n) 3)) w.heap.size (.cells (bG (λi=>(S i).z) n 0) 3):=by rw[<-j3];exact At.new _ _
 have hB0:Below w w (w.alloc (.cells (madeCells #[()] n) 3)):=aD aG _;generalize (w.alloc (.cells (madeCells #[()] n) 3))=W1 at *;obtain⟨l0',c0',-, -⟩:=(HR.out.keep hB0).cells;go_wp2
 go_loopw [17] (λi wr=>∃k:Nat,k<=n/\i=.int .i64 k/\At wr w (.cells (bG (λi=>(S i).z) n k) 3)/\Below w w wr) (λi _=>n-(intOf i).toNat)
 case atStart=>exact⟨0,by omega,rfl,Uz,hB0⟩
 case round =>
  obtain⟨k,hk,rfl,hA,hB⟩:=hrel;by_cases hlt:k<n
  . obtain⟨l1,d0,d1,d2,d3,d4,d5,d6,d7⟩:=(HR.out.keep hB).2.fields hlt
    have HZ:Hid ((λi=>(S i).z) k=(S k).z):=ah rfl;have hz:=hA.thaw k;have hc0:=hA.cell k;rw[dO _ hlt]at hc0;simp only[Nat.lt_irrefl,if_false]at hc0;have hlb:=hA.lt;have hsz:=hB.size
    have fin:∀(W5:World),Below wr wr W5->At (W5.setCell ⟨w,k,none⟩ (.int .i64 (S k).z)) w.heap.size (.cells (bG (λi=>(S i).z) n (k+1)) 3)/\Below w w (W5.setCell ⟨w,k,none⟩ (.int .i64 (S k).z)):=λW5 hb =>
     ⟨by rw[<-lD _ hlt];exact(hA.keep hb).set k _,Below.setCell (Below.trans hB (hb.mono ak)) aF _⟩
    have FIN:=ah fin;clear fin;generalize (S k).x.b=v0 at *;generalize (S k).x.lo=v1 at *;generalize (S k).x.hi=v2 at *;generalize (S k).x.g=v3 at *;generalize (S k).x.s=v4 at *;generalize (S k).z=v5 at *;generalize (S k).m=v6 at *;generalize (S k).f=v7 at *;go_wp2
    go_roundw
    case rel=>exact⟨k+1,by omega,by go_num,(FIN.out wr aG).1.alloc _,aD (FIN.out wr aG).2 _⟩
    case measure=>simp[intOf];omega
  . obtain rfl:k=n:=by omega
    go_wp2;refine bodyPost_ret (v:=.slice w k k) (by simp[results,Tryz.results212,go_sem, *];first|done|exact⟨rfl,rfl⟩|rfl) rfl ⟨⟨w.heap.size,rfl,aO _,uU _ k LY hA⟩,hB⟩
def abA(W:World)(I:Nat):Nat->Nat
 | 0=>0
 | k+1=>abA W I k+(match W.cell? ⟨I,k*8+7,none⟩with
   | some (.bool false)=>1
   | _=>0)
def zX(W:World)(v:Value):Nat :=
 match v with
 | .pointer (some p)=>(match W.cell? ⟨p.block,0,none⟩with
   | some (.slice (some q) n _)=>abA W q.block n
   | _=>0)
 | _=>0
theorem Cm{R I n:Nat}(h:fZ W R I n room gr S):zX W (.pointer R)=Fe.pl S n:=by
 have c:∀k,k<=n->abA W I k=Fe.pl S k:=by
  intro k hk
  induction k with
  | zero=>rfl
  | succ k ih =>
    have h7:W.cell? ⟨I,k*8+7,none⟩=some (.bool (S k).f):=h.2.cell (show k<n by omega) 7 ak;simp only[abA,Fe.pl,ih ak,h7];cases (S k).f<;>simp
 simp only[zX,h.cells.2.1];exact c n aF
theorem O4(A:Option Addr)(l:Nat->Fe.It)(n c:Nat)(x:Int)(w:World)(hI:Items w A l n)(hn:n<=64) :
  Calls ja0 204 #[.slice A n c,x] w λe w'=>(∃b,e=.returned (.slice (some ⟨b,0,none⟩) n n)/\w.heap.size<=b/\Ints w' (some ⟨b,0,none⟩) (mZ l n x))/\Below w w w':=by
 obtain⟨room,hroom⟩:∃room,room=Fe.to x 67108864:=⟨_,rfl⟩;have r1:0<=room:=by rw[hroom];exact Fe.sV ak
 have r2:room<=67108864:=by rw[hroom];exact Fe.vJ ak
 have HRM:=ah hroom;clear hroom;have HI:=ah hI;clear hI;obtain⟨gr,hgr⟩:∃gr,gr=Fe.El l n room:=⟨_,rfl⟩;have HS:Hid (∀k,wX (Fe.rounds gr room n (Fe.begun gr l) k) n):=ah (λk=>Kt (Nl gr l n) k)
 have HF:Hid (∀k,k<=n->Fe.pl (Fe.rounds gr room n (Fe.begun gr l) k) n=0->(jc0 n).map (λi=>(Fe.rounds gr room n (Fe.begun gr l) k i).z)=mZ l n x):=ah (by
  intro k hk h0;unfold mZ Fe.fin;rw[<-HRM.out,<-hgr];apply List.map_congr_left;intro i hi;have hi:i<n:=by simpa using hi
  rw[Fe.JY (Fe.aa3 h0 i hi) n hk])
 have HG:=ah hgr;clear hgr;go_enter Tryz.func204,Tryz.ntmps204
 go_wp2
 refine wp_scope_jumps 0 (λa' w'=>∃(R I k:Nat) (u8 u13 u14 u15 u16 u17 u18 u19 u20:Value),a'={ tmps:=#[.slice A n c,x,undef,undef,.slice none 0 0,R,.slice A n c,.int .i64 n,u8,.slice A n c,x,room,R,u13,u14,u15,u16,u17,u18,u19,u20],defers:=[] } /\
  w.heap.size<=I/\fZ w' R I n room gr (Fe.rounds gr room n (Fe.begun gr l) k)/\Below w w w'/\k+Fe.pl (Fe.rounds gr room n (Fe.begun gr l) k) n<=n) (λa' w'=>zX w' (a'.tmps.getD 5 undef)) rfl ?_ ?_
 . go_wp2_with (first|(go_at_call 38;refine(Kr _ _ _ ak).mono ?_;rintro e w' ⟨rfl,rfl⟩;rw[<-HRM.out])|(go_at_call 208;refine(UY A l n c room _ HI.out hn ⟨r1,r2⟩).mono ?_;rintro e w1 ⟨⟨R,I,rfl,hIw,yD⟩,hB⟩;rw[<-HG.out]at yD))
   go_step3;replace yD:fZ w1 R I n room gr (Fe.rounds gr room n (Fe.begun gr l) 0):=yD;have hS:=HS.out 0;by_cases hp:0<Fe.pl (Fe.rounds gr room n (Fe.begun gr l) 0) n
   . go_wp2_with (first|(go_at_call 209;refine(DU R I n room gr _ _ yD hn).mono ?_;rintro e w2 ⟨rfl,hb2⟩;rw[decide_eq_true hp];replace yD:=yD.keep hb2;replace hB:=Below.ay hB aF hb2;clear hb2)|(go_at_call 210;refine(Fa w.heap.size R I n room gr _ _ yD hn ⟨hIw,hB.size⟩ hS.1 ⟨r1,r2⟩).mono ?_;rintro e w3 ⟨⟨v3,rfl⟩,adP,hb3⟩;replace hB:=Below.trans hB hb3;clear hb3)|(go_at_call 211;refine(E8 w.heap.size R I n room gr _ _ adP hn ⟨hIw,hB.size⟩ (uV hS).2).mono ?_;rintro e w4 ⟨⟨v4,rfl⟩,abB,hb4⟩;replace hB:=Below.trans hB hb4;clear hb4))
     go_step3;have hless:=Fe.Em gr room hp;refine⟨rfl,R,I,1,_,_,_,_,_,_,_,_,_,rfl,hIw,abB,hB,?_⟩;have h1:=Fe.RZ (Fe.rounds gr room n (Fe.begun gr l) 0) n;change 1+Fe.pl (Fe.round gr room n (Fe.rounds gr room n (Fe.begun gr l) 0)) n<=n;omega
   . have h0:Fe.pl (Fe.rounds gr room n (Fe.begun gr l) 0) n=0:=by omega
     go_wp2_with (first|(go_at_call 209;refine(DU R I n room gr _ _ yD hn).mono ?_;rintro e w2 ⟨rfl,hb2⟩;rw[decide_eq_false hp];replace yD:=yD.keep hb2;replace hB:=Below.ay hB aF hb2;clear hb2)|(go_at_call 212;refine(Jb R I n room gr _ _ yD hn).mono ?_;rintro e w3 ⟨⟨b,rfl,hbb,WJ⟩,hb3⟩;rw[HF.out 0 ak h0]at WJ;have hsz:=hB.size;replace hB:=Below.ay hB aF hb3;clear hb3))
     exact Z2m
 . rintro a' w' ⟨R,I,k,u8,u13,u14,u15,u16,u17,u18,u19,u20,rfl,hIw,yD,hB,hk⟩
   have HLO:=ah (Cm yD);have hS:=HS.out k;by_cases hp:0<Fe.pl (Fe.rounds gr room n (Fe.begun gr l) k) n
   . go_wp2_with (first|(go_at_call 209;refine(DU R I n room gr _ _ yD hn).mono ?_;rintro e w2 ⟨rfl,hb2⟩;rw[decide_eq_true hp];replace yD:=yD.keep hb2;replace hB:=Below.ay hB aF hb2;clear hb2)|(go_at_call 210;refine(Fa w.heap.size R I n room gr _ _ yD hn ⟨hIw,hB.size⟩ hS.1 ⟨r1,r2⟩).mono ?_;rintro e w3 ⟨⟨v3,rfl⟩,adP,hb3⟩;replace hB:=Below.trans hB hb3;clear hb3)|(go_at_call 211;refine(E8 w.heap.size R I n room gr _ _ adP hn ⟨hIw,hB.size⟩ (uV hS).2).mono ?_;rintro e w4 ⟨⟨v4,rfl⟩,abB,hb4⟩;replace hB:=Below.trans hB hb4;clear hb4))
     go_step3;have hless:=Fe.Em gr room hp;refine⟨rfl,⟨R,I,k+1,_,_,_,_,_,_,_,_,_,rfl,hIw,abB,hB,?_⟩,?_⟩
     . change k+1+Fe.pl (Fe.round gr room n (Fe.rounds gr room n (Fe.begun gr l) k)) n<=n
       omega
     . show zX _ (.pointer R)<zX _ (.pointer R)
       rw[Cm abB,HLO.out];exact hless
   . have h0:Fe.pl (Fe.rounds gr room n (Fe.begun gr l) k) n=0:=by omega
     go_wp2_with (first|(go_at_call 209;refine(DU R I n room gr _ _ yD hn).mono ?_;rintro e w2 ⟨rfl,hb2⟩;rw[decide_eq_false hp];replace yD:=yD.keep hb2;replace hB:=Below.ay hB aF hb2;clear hb2)|(go_at_call 212;refine(Jb R I n room gr _ _ yD hn).mono ?_;rintro e w3 ⟨⟨b,rfl,hbb,WJ⟩,hb3⟩;rw[HF.out k ak h0]at WJ;have hsz:=hB.size;replace hB:=Below.ay hB aF hb3;clear hb3))
     exact Z2m
structure Im where
 it:Fe.It
 ld:Fw.Ld
 bx:Nat
 m0:Int
 m1:Int
 m2:Int
 m3:Int
def fH(x:Fw.Ld):Array Value:=#[x.id,x.i0,x.i1,x.s0,x.s1,x.a0,x.a1]
def nW(x:Im):Array Value:=#[x.it.b,x.it.lo,x.it.hi,x.it.g,x.it.s,x.ld.id,x.ld.i0,x.ld.i1,x.ld.s0,x.ld.s1,x.ld.a0,x.ld.a1,x.bx,x.m0,x.m1,x.m2,x.m3]
theorem At.im{x:Im}{T:TypeId}(h:At W b (.cells (nW x) T)):b<W.heap.size/\W.cell? ⟨b,0,none⟩=some (.int .i64 x.it.b)/\W.cell? ⟨b,1,none⟩=some (.int .i64 x.it.lo)/\W.cell? ⟨b,2,none⟩=some (.int .i64 x.it.hi)/\W.cell? ⟨b,3,none⟩=some (.int .i64 x.it.g)/\W.cell? ⟨b,4,none⟩=some (.int .i64 x.it.s)/\W.cell? ⟨b,5,none⟩=some (.int .i64 x.ld.id)/\W.cell? ⟨b,6,none⟩=some (.int .i64 x.ld.i0)/\W.cell? ⟨b,7,none⟩=some (.int .i64 x.ld.i1)/\W.cell? ⟨b,8,none⟩=some (.int .i64 x.ld.s0)/\W.cell? ⟨b,9,none⟩=some (.int .i64 x.ld.s1)/\W.cell? ⟨b,10,none⟩=some (.int .i64 x.ld.a0)/\W.cell? ⟨b,11,none⟩=some (.int .i64 x.ld.a1)/\W.cell? ⟨b,12,none⟩=some (.pointer x.bx)/\W.cell? ⟨b,13,none⟩=some (.int .i64 x.m0)/\W.cell? ⟨b,14,none⟩=some (.int .i64 x.m1)/\W.cell? ⟨b,15,none⟩=some (.int .i64 x.m2)/\W.cell? ⟨b,16,none⟩=some (.int .i64 x.m3) :=
 ⟨h.lt,h.cell 0,h.cell 1,h.cell 2,h.cell 3,h.cell 4,h.cell 5,h.cell 6,h.cell 7,h.cell 8,h.cell 9,h.cell 10,h.cell 11,h.cell 12,h.cell 13,h.cell 14,h.cell 15,h.cell 16⟩
theorem Np:(Tryz.prog.info? 216).map (·.size)=some 17:=by kernel_rfl
theorem UZ{x:Im}(h:At W b (.cells (nW x) 216)):(Instr.loadAt 216 (.pointer b)).run ja0 W=.ok (.agg (nW x)) W:=by
 simp only[Instr.loadAt,Instr.sureAddr,Sem.run_bind,Sem.run_pure,Result.andThen_ok,run_loadVar_row W b 216 216 (nW x) (0,0) _ h Tryz.underlying216 rfl (by exact Np)]
theorem wY{o:Oper}{a:Act}{w:World}{x:Im}(p:Operand)(ho:o.op=.load 216 p)(hp:a.eval p=.pointer b)(h:At w b (.cells (nW x) 216)):(execOp a.eval o).run ja0 w=.ok (.value (.agg (nW x))) w:=by
 unfold execOp;simp only[ho,hp,Sem.run_bind,UZ h,Result.andThen_ok,Sem.run_pure]
def Ya(x:Im)(s:Re.St):Int:=Fw.wr (Fw.wr (x.m0+x.m1)+Fw.xJ s 0)
def ext1(x:Im)(s:Re.St):Int:=Fw.wr (Fw.wr (x.m2+x.m3)+Fw.xJ s 1)
theorem Sw(x:Im)(s:Re.St)(fl ap:Value)(ib:Bool)(w:World)(h:aR w x.bx s fl ap ib):Calls ja0 176 #[.agg (nW x),()] w λe w'=>e=.returned (.int .i64 (Ya x s))/\Below w w w':=by
 obtain⟨it,ld,b,m0,m1,m2,m3⟩:=x;go_enter Tryz.func176,Tryz.ntmps176
 go_upto_region 1 with(fail)
 generalize hW:ja5 _ _=W0;have A0:At W0 w (.cells (nW ⟨it,ld,b,m0,m1,m2,m3⟩) 216):=hW▸At.new _ _;have A2:aR W0 b s fl ap ib:=hW▸aR.alloc h _;have hB:Below w w W0:=hW▸aD aG _;clear hW h;obtain⟨l0,-, -, -, -, -, -, -, -, -, -, -, -, c0,c1,c2,c3,c4⟩:=At.im A0;obtain⟨l2,aL,aM,aP,aQ,bO,bP,bM,bN⟩:=At.bx0 A2;simp only at c0 c1 c2 c3 c4;exact Z11
theorem Sy(x:Im)(s:Re.St)(fl ap:Value)(ib:Bool)(w:World)(h:aR w x.bx s fl ap ib):Calls ja0 176 #[.agg (nW x),.int .i64 1] w λe w'=>e=.returned (.int .i64 (ext1 x s))/\Below w w w':=by
 obtain⟨it,ld,b,m0,m1,m2,m3⟩:=x;go_enter Tryz.func176,Tryz.ntmps176
 go_upto_region 1 with(fail)
 generalize hW:ja5 _ _=W0;have A0:At W0 w (.cells (nW ⟨it,ld,b,m0,m1,m2,m3⟩) 216):=hW▸At.new _ _;have A2:aR W0 b s fl ap ib:=hW▸aR.alloc h _;have hB:Below w w W0:=hW▸aD aG _;clear hW h;obtain⟨l0,-, -, -, -, -, -, -, -, -, -, -, -, c0,c1,c2,c3,c4⟩:=At.im A0;obtain⟨l2,aL,aM,aP,aQ,bO,bP,bM,bN⟩:=At.bx1 A2;simp only at c0 c1 c2 c3 c4;exact Z11
def Cn(x:Im):Int:=Fw.wr (x.ld.s0+Fw.wr (x.m0+x.m1))
def Co(x:Im):Int:=Fw.wr (x.ld.s1+Fw.wr (x.m2+x.m3))
theorem Sz(x:Im)(B:Nat)(w:World)(h:w.cell? ⟨B,0,none⟩=some (.int .i64 0)):Calls ja0 181 #[.agg (nW x),B] w λe w'=>e=.returned (.int .i64 (Cn x))/\Below w w w':=by
 exact Zi
theorem SA(x:Im)(B:Nat)(w:World)(h:w.cell? ⟨B,0,none⟩=some (.int .i64 1)):Calls ja0 181 #[.agg (nW x),B] w λe w'=>e=.returned (.int .i64 (Co x))/\Below w w w':=by
 exact Zi
theorem Yb(x:Im)(s:Re.St)(fl ap:Value)(ib:Bool)(B:Nat)(w:World)(hb:aR w x.bx s fl ap ib)(h:w.cell? ⟨B,0,none⟩=some (.int .i64 0)):Calls ja0 174 #[.agg (nW x),B] w λe w'=>e=.returned (.int .i64 (Fw.wr (Fe.clamp x.it x.it.b+Ya x s)))/\Below w w w':=by
 obtain⟨⟨ib0,ilo,ihi,ig,is⟩,ld,b,m0,m1,m2,m3⟩:=x;have hlt:B<w.heap.size:=World.block_lt_of_cell? _ _ h;go_enter Tryz.func174,Tryz.ntmps174
 go_upto_region 1 with(fail)
 have hB:Below w w (w.alloc (.cells (nW ⟨⟨ib0,ilo,ihi,ig,is⟩,ld,b,m0,m1,m2,m3⟩) 216)):=aD aG _;generalize hW:ja5 _ _=W0;have A0:At W0 w (.cells (nW ⟨⟨ib0,ilo,ihi,ig,is⟩,ld,b,m0,m1,m2,m3⟩) 216):=hW▸At.new _ _;have A2:aR W0 b s fl ap ib:=hW▸aR.alloc hb _;replace hB:Below w w W0:=hW▸hB;have lB:B<W0.heap.size:=bA hlt hB.size;have cB:=(Below.cell_ hB hlt 0).trans h;clear hW h hlt hb;obtain⟨l0,e0,e1,e2,e3,e4,d0,d1,d2,d3,d4,d5,d6,c0,c1,c2,c3,c4⟩:=At.im A0;simp only at e0 e1 e2 e3 e4 d0 d1 d2 d3 d4 d5 d6 c0 c1 c2 c3 c4;have HX:aR W0 (Im.mk ⟨ib0,ilo,ihi,ig,is⟩ ld b m0 m1 m2 m3).bx s fl ap ib:=A2;have hx:=λw' (hS:Below W0 W0 w')=>Sw ⟨⟨ib0,ilo,ihi,ig,is⟩,ld,b,m0,m1,m2,m3⟩ s fl ap ib w' (aR.keep HX hS);have hc:=λw'=>DV ib0 ilo ihi ig is ib0 w';clear HX A2;have HI:=ah A0;refine vS ?_
 (refine aj.jq bB Z3x ?_;(try simp only[bV,bW,bX,tks]))
 (refine aj.jq bB Z3x ?_;(try simp only[bV,bW,bX,tks]))
 (refine aj.jq bB Z3x ?_;(try simp only[bV,bW,bX,tks]))
 (refine aj.jq bB Z3x ?_;(try simp only[bV,bW,bX,tks]))
 (refine aj.jq bB Z3x ?_;(try simp only[bV,bW,bX,tks]))
 (refine aj.Ey (o:=⟨_,.call ⟨.value _,_,_⟩,_,_,_,_⟩) bB (by intro w2 hS;go_simp;first|done|with_reducible rfl|exact⟨rfl,rfl⟩) (by intro w2 hS;(with_reducible refine(hc w2).mono ?_);rintro e w' ⟨rfl,hb⟩;exact⟨rfl,Below.after hS hb⟩) ?_;(try simp only[bV,bW,bX,tks]))
 (refine aj.jq bB (λw2 hS=>wY (.tmp 2) rfl rfl (At.keep HI.out hS)) ?_;(try simp only[bV,bW,bX,tks]))
 (refine aj.jq bB Z3x ?_;(try simp only[bV,bW,bX,tks]))
 (refine aj.Ey (o:=⟨_,.call ⟨.value _,_,_⟩,_,_,_,_⟩) bB (by intro w2 hS;go_simp;first|done|with_reducible rfl|exact⟨rfl,rfl⟩) (by intro w2 hS;(with_reducible refine(hx w2 hS).mono ?_);rintro e w' ⟨rfl,hb⟩;exact⟨rfl,Below.after hS hb⟩) ?_;(try simp only[bV,bW,bX,tks]))
 (refine aj.jq bB Z3x ?_;(try simp only[bV,bW,bX,tks]))
 (refine aj.jq bB Z3x ?_;(try simp only[bV,bW,bX,tks]))
 refine aj.bY ?_;intro w2 hS;go_wp2
 go_ret
 exact⟨bQ (by first|(simp only[wC,sK];done)|(simp only[wC,sK];rfl)),Below.ay hB aF hS⟩
theorem adQ(x:Im)(w:World):Calls ja0 180 #[.agg (nW x)] w λe w'=>e=.returned (.int .i64 (Fe.clamp x.it x.it.b))/\Below w w w':=by
 obtain⟨⟨ib0,ilo,ihi,ig,is⟩,ld,b,m0,m1,m2,m3⟩:=x;go_enter Tryz.func180,Tryz.ntmps180
 go_upto_region 1 with(fail)
 have hB:Below w w (w.alloc (.cells (nW ⟨⟨ib0,ilo,ihi,ig,is⟩,ld,b,m0,m1,m2,m3⟩) 216)):=aD aG _;generalize hW:ja5 _ _=W0;have A0:At W0 w (.cells (nW ⟨⟨ib0,ilo,ihi,ig,is⟩,ld,b,m0,m1,m2,m3⟩) 216):=hW▸At.new _ _;replace hB:Below w w W0:=hW▸hB;clear hW;obtain⟨l0,e0,e1,e2,e3,e4,-, -, -, -, -, -, -, -, -, -, -, -⟩:=At.im A0;simp only at e0 e1 e2 e3 e4
 go_wp2_with (first|(go_at_call 175;(with_reducible refine(DV _ _ _ _ _ _ _).mono ?_);rintro e w' ⟨rfl,hb⟩;(try replace hb:=Below.after (by assumption) hb);obtain⟨hc,hf⟩:=iV hb;have hz:=hb.size;(try simp at hz)))
 go_ret
 exact⟨rfl,hb⟩
def asI(s:Re.St)(y:Nat)(base room:Int):Fe.It:=⟨Fx.len (s.c 41) (s.c 42) room base,Fx.limit 0 (s.c (7+2*y)) (s.c (8+2*y)) 0 0 room,max (Fx.len (s.c (11+2*y)) (s.c (12+2*y)) room 1048576) 0,s.c 39,s.c 40⟩
def x8(x:Fe.It):Array Value:=#[x.b,x.lo,x.hi,x.g,x.s]
theorem At.ac0{x0 x1 x2 x3 x4:Value}{T:TypeId}(h:At W b (.cells #[x0,x1,x2,x3,x4] T)):b<W.heap.size/\W.cell? ⟨b,0,none⟩=some x0/\W.cell? ⟨b,1,none⟩=some x1/\W.cell? ⟨b,2,none⟩=some x2/\W.cell? ⟨b,3,none⟩=some x3/\W.cell? ⟨b,4,none⟩=some x4:=⟨h.lt,h.cell 0,h.cell 1,h.cell 2,h.cell 3,h.cell 4⟩
theorem SB(k0 n0 k1 n1 k2 n2:Int)(s:Re.St)(base room:Int)(w:World):Calls ja0 132 #[.agg #[k0,n0,k1,n1,k2,n2],.agg (cells s),base,room] w λe w'=>e=.returned (.agg #[.int .i64 (Fx.len (s.c 41) (s.c 42) room base),Fx.limit 0 k1 n1 0 0 room,.int .i64 (max (Fx.len k2 n2 room 1048576) 0),s.c 39,s.c 40])/\Below w w w':=by
 go_enter Tryz.func132,Tryz.ntmps132
 go_upto_region 1 with(fail)
 generalize hW:ja5 _ _=W0;have A0:At W0 w (.cells #[k0,n0,k1,n1,k2,n2] 137):=hW▸At.alloc (At.alloc (At.new _ _) _) _;have A1:At W0 (w.heap.size+1) (.cells (cells s) 59):=by rw[<-hW];exact At.alloc (At.new' _ Gs) _
 have A2:At W0 (w.heap.size+1+1) (.cells #[(),(),(),(),()] 214):=by rw[<-hW];exact At.new' _ Gs
 have hB:Below w w W0:=hW▸aD (aD (aD aG _) _) _;clear hW;obtain⟨l0,c0,c1,c2,c3,c4,c5⟩:=At.six A0;have l1:=A1.lt;have d0:=A1.st 41 aN rfl;have d1:=A1.st 42 aN rfl;have d2:=A1.st 39 aN rfl;have d3:=A1.st 40 aN rfl;refine yI 20 1 ?_
 (repeat (first|refine jV ?_ | refine jW ?_ (hc:=by intro w2 hS;first|with_reducible exact jI hS (jF _ _ _ _ _)|with_reducible exact jI hS (IY _ _ _ _ _ _ _))|refine jX ?_))
 refine aj.dH ?_;intro w2 hS;replace A2:=A2.keep hS;replace hB:=Below.ay hB aF hS;obtain⟨l2,y0,y1,y2,y3,y4⟩:=At.ac0 A2;have z0:=A2.thaw 0;have z1:=A2.thaw 1;have z2:=A2.thaw 2;have z3:=A2.thaw 3;have z4:=A2.thaw 4;refine vH ?_;intro K hK;go_simp;refine hK _ _ (aj.bF ?_);clear hK K;generalize hW:ja4 _ _ _=W1;replace A2:At W1 (w.heap.size+1+1) (.cells #[_,_,_,_,_] 214):=hW▸At.set (At.set (At.set (At.set (At.set A2 0 _) 1 _) 2 _) 3 _) 4 _;replace hB:Below w w W1:=hW▸Below.setCell (Below.setCell (Below.setCell (Below.setCell (Below.setCell hB jB _) jB _) jB _) jB _) jB _;clear hW y0 y1 y2 y3 y4 z0 z1 z2 z3 z4 l2;obtain⟨l2,y0,y1,y2,y3,y4⟩:=At.ac0 A2;go_wp2;refine bodyPost_ret (v:=.agg #[_,_,_,_,_]) (by simp[results,Tryz.results132,go_sem, *];first|done|exact⟨rfl,rfl⟩|exact⟨rfl,rfl,rfl,rfl,rfl⟩|rfl) rfl ⟨Nh rfl rfl rfl rfl rfl,hB⟩
end Go.Proofs.YtfohooineeijkaaGreat.Fix
