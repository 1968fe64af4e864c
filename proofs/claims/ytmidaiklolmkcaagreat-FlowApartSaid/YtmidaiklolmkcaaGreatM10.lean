/- What functions of the program do, in plain numbers, part 10; no conditions. -/
import Derived.Test.YtmidaiklolmkcaaGreatM09
set_option linter.unusedVariables false
set_option linter.unusedSimpArgs false
set_option linter.unusedSectionVars false
set_option maxRecDepth 100000
set_option maxHeartbeats 16000000
namespace Go.Proofs.YtmidaiklolmkcaaGreat.Fix
open Go.ChangeShapes Go.WideShapes Go.ChangeAt Go.RowKit Go.Shelf
attribute [local go_sem] Oper.semAt_some
theorem Below.turn{N:Nat}{w W:World}{r:Nat}{o':Obj}(h:Below N w W)(hr:N<=r)(hW:W.heap[r]? = some o')(o:Obj):Below N w (W.putObj r o) :=
 h.trans ((Below.refl N W).grown (grownBy_putObj' W r o) (by have:=(Array.getElem?_eq_some_iff.1 hW).1;omega) (λk e=>by cases e;exact hr))
theorem fA.turn{W:World}{R I n r:Nat}{room:Int}{gr:Bool}{S:Nat->Fe.St}(h:fA W R I n room gr S)(h1:R<r)(h2:I<r)(o:Obj):fA (W.putObj r o) R I n room gr S:=⟨h.1.turn aj o,h.2.turn aj o⟩
theorem fA.alloc{W:World}{R I n:Nat}{room:Int}{gr:Bool}{S:Nat->Fe.St}(h:fA W R I n room gr S)(o:Obj):fA (W.alloc o) R I n room gr S:=⟨h.1.alloc o,h.2.alloc o⟩
theorem fA.off{W:World}{R I n b k:Nat}{room:Int}{gr:Bool}{S:Nat->Fe.St}(h:fA W R I n room gr S)(h1:R≠b)(h2:I≠b)(v:Value):fA (W.setCell ⟨b,k,none⟩ v) R I n room gr S:=⟨h.1.off h1 k v,h.2.off h2 v⟩
theorem fA.sees{W:World}{R I n:Nat}{room:Int}{gr:Bool}{S:Nat->Fe.St}(h:fA W R I n room gr S)(i:Nat):acp R I n room (Fe.sg gr) S i W :=
 ⟨h.1,h.2.lt,λk _ hk=>h.2.cell hk 7 aj⟩
theorem KeepsFrom.of_below{B:Nat}{W W':World}(h:Below W.heap.size W W'):KeepsFrom B W W' :=
 ⟨h.size,λk o _ hk _=>(h.block k (Array.getElem?_eq_some_iff.1 hk).1).trans hk⟩
set_option maxRecDepth 100000 in
theorem Cn(R I n:Nat)(room:Int)(gr:Bool)(S:Nat->Fe.St)(w:World)(h:fA w R I n room gr S)(hn:n<=64) :
  Calls Tryz.prog 161 #[.pointer (some ⟨R,0,none⟩)] w λe w'=>e=.returned (.bool (decide (0<Fe.pl S n)))/\Below w.heap.size w w':=by
 have JM:∀(fn:Fn) (first cap:Array Value) (w:World),(Instr.makeFunc fn first cap).run Tryz.prog w=.ok (.func fn first cap) w:=λ_ _ _ _=>rfl;have hR:=h.1.lt;have hI:=h.2.lt;have HR:=ah h;clear h;refine(callsIn_wide (n:=5)).1 ?_;refine callsIn_of_wp_marks Tryz.func161 rfl trivial ?_ rfl;simp only[Tryz.ntmps161,List.size_toArray,List.length_cons,List.length_nil,Nat.reduceAdd,Nat.reduceSub,Array.replicate_succ,Array.replicate_zero,List.push_toArray,List.append_toArray,List.nil_append,List.cons_append]
 gi_wp2
 have hA:At (w.alloc (.cells #[.bool false] 4)) w.heap.size (.cells #[.bool false] 4):=At.new _ _;have hB:Below w.heap.size w (w.alloc (.cells #[.bool false] 4)):=Below.alloc' aF _;have wV:=HR.out.alloc (.cells #[.bool false] 4);have hsz:(w.alloc (.cells #[.bool false] 4)).heap.size=w.heap.size+1:=by simp
 generalize w.alloc (.cells #[.bool false] 4)=W0 at *
 refine kD (n:=5) (gf:=167) (first:=#[.pointer (some ⟨R,0,none⟩)]) (lb:=#[]) rfl (enters_of Tryz.func167 jD rfl) n (λi=>(S i).f) (λi=>#[.int .i64 (Fe.pl S i:Nat),.pointer (some ⟨I,i*8,none⟩)]) (λ_=>rfl)
  (λi W=>fA W R I n room gr S/\At W w.heap.size (.cells #[.bool false] 4)/\Below w.heap.size w W/\Fe.pl S i=0)
  (λW=>At W w.heap.size (.cells #[.bool true] 4)/\Below w.heap.size w W/\0<Fe.pl S n)
  (λi W r o o' h hr hW _=>⟨h.1.turn aj aj o,h.2.1.turn aj o,Below.turn h.2.2.1 aj hW o,h.2.2.2⟩)
  (λW r o o' h hr hW _=>⟨h.1.turn aj o,Below.turn h.2.1 aj hW o,h.2.2⟩)
  (λo1 o2=>⟨(wV.alloc o1).alloc o2,(hA.alloc o1).alloc o2,Below.alloc' (Below.alloc' hB o1) o2,rfl⟩)
  (λlp J Jx W hV hs hY hJ=>rZ 4 R I n room (Fe.sg gr) S hn lp J Jx W (λi W h=>(hV i W h).1.sees i) hs hY hJ)
  (λi W hi hf h=>⟨h.1,h.2.1,h.2.2.1,by simp[Fe.pl,hf,h.2.2.2]⟩)
  (λi t=>(t.setIfInBounds 5 (.int .i64 (Fe.pl S i:Nat))).setIfInBounds 6 (.pointer (some ⟨I,i*8,none⟩))) ?assign ?body ?done ?stop
 case assign =>
  intro l i W G hi hG;exact Z26
 case body =>
  rintro l i W hi hf ⟨ru,hA1,hB1,hp⟩;have hc:=hA1.cell 0;have hz:=hA1.thaw 0;simp only[List.setIfInBounds_toArray,List.set_cons_zero,List.set_cons_succ]
  gi_wp2
  exact⟨(KeepsOthers.setCell _ _ _).from _,hA1.set 0 _,Below.setCell hB1 aD _,by have:=Fe.PO S hi hf;omega⟩
 case done =>
  rintro D W hD ⟨ru,hA1,hB1,hp⟩ hK;have hc:=hA1.cell 0;have hz:=hA1.thaw 0
  gi_wp2
  refine⟨by simp,.inl ⟨_,_,rfl,run_takeDeferred ((KeepsOthers.setCell _ _ _).same D _ hK rfl),?_⟩⟩;have hA2:=(hA1.set 0 (.bool false)).turn (r:=D) aj (.deferred none);have hB2:=Below.turn (Below.setCell hB1 aD (.bool false) (p:=⟨w.heap.size,0,none⟩)) aj ((KeepsOthers.setCell _ _ _).same D _ hK rfl) (.deferred none);have hc2:=hA2.cell 0;generalize World.putObj _ _ _=W2 at *;refine⟨.bool false,?_,by rw[hp];rfl,hB2⟩;simp[results,Tryz.results161,go_sem,hc2]
 case stop =>
  rintro D W hD ⟨hA1,hB1,hp⟩ hK;have hc:=hA1.cell 0
  gi_wp2
  refine⟨by simp,.inl ⟨_,_,rfl,run_takeDeferred hK,?_⟩⟩;have hA2:=hA1.turn (r:=D) aj (.deferred none);have hB2:=Below.turn hB1 aj hK (.deferred none);have hc2:=hA2.cell 0;generalize World.putObj _ _ _=W2 at *;refine⟨.bool true,?_,by rw[decide_eq_true hp],hB2⟩;simp[results,Tryz.results161,go_sem,hc2]
end Go.Proofs.YtmidaiklolmkcaaGreat.Fix
namespace Go.Proofs.YtmidaiklolmkcaaGreat.Fix
open Go.ChangeShapes Go.WideShapes Go.ChangeAt Go.RowKit Go.Shelf
attribute [local go_sem] Oper.semAt_some
def mV(S T:Nat->Fe.St)(i:Nat):Nat->Fe.St:=λk=>if k<i then T k else S k
theorem wB(S T:Nat->Fe.St):mV S T 0=S:=by funext k;simp[mV]
theorem pR{S T:Nat->Fe.St}{i k:Nat}(h:i<=k):mV S T i k=S k:=by simp[mV,show¬ k<i by omega]
theorem Gv{S T:Nat->Fe.St}{i:Nat}(h:T i=S i):mV S T (i+1)=mV S T i:=by
 funext k;unfold mV;rcases Nat.lt_trichotomy k i with h'|h'|h'
 . simp[h',show k<i+1 by omega]
 . subst h';simp[h]
 . simp[show¬ k<i by omega,show¬ k<i+1 by omega]
theorem tN(S T:Nat->Fe.St)(i:Nat):mV S T (i+1) i=T i:=by simp[mV]
theorem yO(S T:Nat->Fe.St){i k:Nat}(h:k≠i):mV S T (i+1) k=mV S T i k:=by
 unfold mV;rcases Nat.lt_or_ge k i with h'|h'
 . simp[h',show k<i+1 by omega]
 . simp[show¬ k<i by omega,show¬ k<i+1 by omega]
theorem yP(S T:Nat->Fe.St)(n:Nat):∀i,i<n->mV S T n i=T i:=λi hi=>by simp[mV,hi]
theorem fA.mixed{W:World}{R I n i:Nat}{room:Int}{gr:Bool}{S T:Nat->Fe.St}(h:fA W R I n room gr (mV S T i)):acp R I n room (Fe.sg gr) S i W :=
 ⟨h.1,h.2.lt,λk hk hn=>by have:=h.2.cell hn 7 aj;rw[pR hk]at this;exact this⟩
theorem fA.ne{W:World}{R I n:Nat}{room:Int}{gr:Bool}{S:Nat->Fe.St}(h:fA W R I n room gr S):R≠I:=by
 rintro rfl;obtain⟨h1,vs,h2,_⟩:=h;unfold At N7 at h1;unfold At at h2;rw[h1]at h2;injection h2 with h2;injection h2 with _ h2;exact absurd h2 aH
theorem aac{S:Nat->Fe.St}{n:Nat}(h:∀i,i<n->-134217728<=(S i).m/\(S i).m<=134217728)(k:Nat)(hk:k<=n) : -134217728*k<=Fe.made S k/\Fe.made S k<=134217728*k:=by
 induction k with
 | zero=>simp[Fe.made]
 | succ k ih =>
   have:=ih aj;have:=h k aj;simp only[Fe.made];split<;>constructor<;>omega
set_option maxRecDepth 100000 in
theorem DU(N R I n:Nat)(room:Int)(gr:Bool)(S:Nat->Fe.St)(w:World)(h:fA w R I n room gr S)(hn:n<=64)(hN:N<=I/\N<=w.heap.size)(hm:∀i,i<n->-134217728<=(S i).m/\(S i).m<=134217728) :
  Calls Tryz.prog 163 #[.pointer (some ⟨R,0,none⟩)] w λe w'=>(∃v,e=.returned v)/\fA w' R I n room gr (Fe.froze n S)/\Below N w w':=by
 have JM:∀(fn:Fn) (first cap:Array Value) (w:World),(Instr.makeFunc fn first cap).run Tryz.prog w=.ok (.func fn first cap) w:=λ_ _ _ _=>rfl;have hR:=h.1.lt;have hI:=h.2.lt;have HR:=ah h;have HM:=ah hm;clear h hm;refine(callsIn_wide (n:=5)).1 ?_;refine callsIn_of_wp_marks Tryz.func163 rfl trivial ?_ rfl;simp only[Tryz.ntmps163,List.size_toArray,List.length_cons,List.length_nil,Nat.reduceAdd,Nat.reduceSub,Array.replicate_succ,Array.replicate_zero,List.push_toArray,List.append_toArray,List.nil_append,List.cons_append]
 gi_wp2
 obtain⟨W0,hA,hB,wV,hsz,hW⟩:∃W0,At W0 w.heap.size (.cells #[.int .i64 0] 3)/\Below N w W0/\fA W0 R I n room gr S/\W0.heap.size=w.heap.size+1/\w.alloc (.cells #[.int .i64 0] 3)=W0 :=
  ⟨_,At.new w (.cells #[.int .i64 0] 3),(Below.refl _ _).alloc hN.2 _,HR.out.alloc _,by simp,rfl⟩
 rw[hW];clear hW
 refine kD (n:=5) (gf:=167) (first:=#[.pointer (some ⟨R,0,none⟩)]) (lb:=#[]) rfl (enters_of Tryz.func167 jD rfl) n (λi=>(S i).f) (λi=>#[.int .i64 (Fe.pl S i:Nat),.pointer (some ⟨I,i*8,none⟩)]) (λ_=>rfl)
  (λi W=>fA W R I n room gr S/\At W w.heap.size (.cells #[.int .i64 (Fe.made S i)] 3)/\Below N w W)
  (λW=>False)
  (λi W r o o' h hr hW _=>⟨h.1.turn aj aj o,h.2.1.turn aj o,Below.turn h.2.2 aj hW o⟩)
  (λW r o o' h hr hW _=>h)
  (λo1 o2=>⟨(wV.alloc o1).alloc o2,(hA.alloc o1).alloc o2,(hB.alloc aj o1).alloc jM o2⟩)
  (λlp J Jx W hV hs hY hJ=>rZ 4 R I n room (Fe.sg gr) S hn lp J Jx W (λi W h=>(hV i W h).1.sees i) hs hY hJ)
  (λi W hi hf h=>⟨h.1,by simp only[Fe.made,hf,if_true];exact h.2.1,h.2.2⟩)
  (λi t=>((t.setIfInBounds 9 (.int .i64 (Fe.pl S i:Nat))).setIfInBounds 10 (.pointer (some ⟨I,i*8,none⟩))).setIfInBounds 4 (.pointer (some ⟨I,i*8,none⟩))) ?assign ?body ?done ?stop
 case assign =>
  exact Z1n
 case body =>
  rintro l i W hi hf ⟨ru,hA1,hB1⟩;have hc:=hA1.cell 0;have hz:=hA1.thaw 0;have l1:=hA1.lt;obtain⟨l2,d0,d1,d2,d3,d4,d5,d6,d7⟩:=ru.2.fields hi;have g1:=aac HM.out i aj;have g2:=HM.out i hi;have HL:Hid (Fe.made S (i+1)=Fe.made S i+(S i).m):=ah (by simp[Fe.made,hf]);have w1:IntKind.i64.wrap (Fe.made S i+(S i).m)=Fe.made S (i+1):=by rw[HL.out];exact IntWalk.i64_in _ aj
  generalize hT:Fe.made S (i+1)=T at *;have HT:=ah hT;clear hT;generalize Fe.made S i=u at *;generalize (S i).m=v at *;clear d0 d1 d2 d3 d4 d5 d7
  (simp only[List.setIfInBounds_toArray,List.set_cons_zero,List.set_cons_succ])
  gi_upto_region 3 with(fail)
  refine ak.Nu 6 1 aF jD jD rfl jD jD jD (by rintro⟨_,_,hh⟩;exact hh) ?_
  (repeat (first|refine nW ?_ | refine nX ?_ (hc:=by intro w2 hS;first|with_reducible exact J9 hS (fI _ _))|refine nY ?_))
  refine ak.dN ?_;intro w2 hS;have A2:=hA1.keep hS;have z2:=A2.thaw 0;have e2:=A2.cell 0;refine x9 ?_;intro K hK;go_simp;refine hK _ _ (ak.bV ?_);clear hK K
  gi_wp2
  refine⟨(KeepsFrom.of_below hS).trans ((KeepsOthers.setCell _ _ _).from _),(ru.keep hS).off aj aj _,?_,Below.setCell (Below.trans hB1 (hS.mono aj)) hN.2 _⟩;exact A2.set 0 _
 case stop=>exact λD W hD h _=>h.elim
 case done =>
  rintro D W hD ⟨ru,hA1,hB1⟩ hK;have hlD:=(Array.getElem?_eq_some_iff.1 hK).1;generalize hT:Fe.made S n=T at *;have HT:=ah hT;clear hT;have hF:∀i,Fe.froze n S i=if (S i).f then S i else ⟨(S i).x,(S i).z,(S i).m,Fe.PL T (S i).m⟩:=λi=>by unfold Fe.froze;rw[HT.out]
  have HF:=ah hF;clear hF hA hB wV HR
  gi_wp2
  refine kD (n:=5) (gf:=167) (first:=#[.pointer (some ⟨R,0,none⟩)]) (lb:=#[]) rfl (enters_of Tryz.func167 jD rfl) n (λi=>(S i).f) (λi=>#[.int .i64 (Fe.pl S i:Nat),.pointer (some ⟨I,i*8,none⟩)]) (λ_=>rfl)
   (λi W=>fA W R I n room gr (mV S (Fe.froze n S) i)/\At W w.heap.size (.cells #[.int .i64 T] 3)/\Below N w W/\W.heap[D]? = some (.deferred (some [])))
   (λW=>False)
   (λi W r o o' h hr hW _=>⟨h.1.turn aj aj o,h.2.1.turn aj o,Below.turn h.2.2.1 aj hW o,(World.putObj_heap_other aj).trans h.2.2.2⟩)
   (λW r o o' h hr hW _=>h)
   (λo1 o2=>⟨by rw[wB];exact(ru.alloc o1).alloc o2,(hA1.alloc o1).alloc o2,(hB1.alloc aj o1).alloc jM o2,(At.alloc (show At W D _ from hK) o1).alloc o2⟩)
   (λlp J Jx W hV hs hY hJ=>rZ 4 R I n room (Fe.sg gr) S hn lp J Jx W (λi W h=>(hV i W h).1.mixed) hs hY hJ)
   (λi W hi hf h=>⟨by rw[Gv (by rw[HF.out,hf];rfl)];exact h.1,h.2⟩)
   (λi t=>((t.setIfInBounds 19 (.int .i64 (Fe.pl S i:Nat))).setIfInBounds 20 (.pointer (some ⟨I,i*8,none⟩))).setIfInBounds 6 (.pointer (some ⟨I,i*8,none⟩))) ?assign ?body ?done ?stop
  case assign =>
   exact Z1n
  case body =>
   rintro l i W2 hi hf ⟨hR2,hA2,hB2,hD2⟩;have hc:=hA2.cell 0;have hz:=hA2.thaw 0;have l1:=hA2.lt;obtain⟨l2,d0,d1,d2,d3,d4,d5,d6,d7⟩:=hR2.2.fields hi;rw[pR (aG _)]at d6;have z7:=hR2.2.thaw (i*8+7);have HN:Hid (Fe.froze n S i=⟨(S i).x,(S i).z,(S i).m,Fe.PL T (S i).m⟩):=ah (by rw[HF.out,hf];rfl);have hne:=hR2.ne;have fin:∀b,Fe.PL T (S i).m=b->roundEnd W.heap.size (λW=>fA W R I n room gr (mV S (Fe.froze n S) (i+1))/\At W w.heap.size (.cells #[.int .i64 T] 3)/\Below N w W/\W.heap[D]? = some (.deferred (some []))) (λ_=>False) W2 .normal { tmps:=#[],defers:=[] } (W2.setCell ⟨I,i*8+7,none⟩ (.bool b)):=by
    intro b hb;refine⟨(KeepsOthers.setCell _ _ _).from _,⟨hR2.1.off aj _ _,?_⟩,hA2.off aj _ _,Below.setCell hB2 hN.1 _,(KeepsOthers.setCell _ _ _).same _ _ hD2 rfl⟩;refine hR2.2.put hi aj ?_ ?_ ?_
    . rw[tN,HN.out];simp[JN,hb]
    . intro q hq hqn
      rw[tN,HN.out,pR (aG _)];unfold JN
      (repeat' split)<;>first|rfl|omega
    . intro k hk hkn;rw[yO _ _ hkn]
   have FIN:=ah fin;clear fin d0 d1 d2 d3 d4 d5 HN;generalize (S i).m=v at *
   (simp only[List.setIfInBounds_toArray,List.set_cons_zero,List.set_cons_succ])
   rcases Int.lt_trichotomy T 0 with hT|hT|hT
   . have q1:decide (T=0)=false:=by simp;omega
     have q2:decide (0<T)=false:=by simp;omega
     have q3:decide (T<0)=true:=by simp;omega
     by_cases hv:v<0
     . gi_wp2
       refine FIN.out _ ?_;unfold Fe.PL;rw[q1,q2,q3];first|(simp;done)|(simp;omega)
     . gi_wp2
       refine FIN.out _ ?_;rw[show(T==0)=false by simp;omega];unfold Fe.PL;rw[q1,q2,q3];simp;omega
   . subst hT
     gi_wp2
     refine FIN.out _ ?_;simp[Fe.PL]
   . have q1:decide (T=0)=false:=by simp;omega
     have q2:decide (0<T)=true:=by simp;omega
     have q3:decide (T<0)=false:=by simp;omega
     by_cases hv:0<v
     . gi_wp2
       refine FIN.out _ ?_;unfold Fe.PL;rw[q1,q2,q3];first|(simp;done)|(simp;omega)
     . gi_wp2
       refine FIN.out _ ?_;rw[show(T==0)=false by simp;omega];unfold Fe.PL;rw[q1,q2,q3];simp;omega
  case stop=>exact λD W hD h _=>h.elim
  case done =>
   rintro D2 W2 hD2 ⟨hR2,hA2,hB2,hK1⟩ hK2
   gi_wp2
   have hl2:=(Array.getElem?_eq_some_iff.1 hK2).1;refine⟨by simp,.inl ⟨_,_,rfl,run_takeDeferred hK2,?_⟩⟩;have hK3:(W2.putObj D2 (.deferred none)).heap[D]? = some (.deferred (some [])):=(World.putObj_heap_other aj).trans hK1;refine⟨by simp,.inl ⟨_,_,rfl,run_takeDeferred hK3,?_⟩⟩;exact⟨_,results_none rfl _ _ _,⟨_,rfl⟩,⟨((hR2.turn aj aj _).turn aj aj _).1,(((hR2.turn aj aj _).turn aj aj _).2.same (yP _ _ _))⟩,Below.turn (Below.turn hB2 aj hK2 _) aj hK3 _⟩
end Go.Proofs.YtmidaiklolmkcaaGreat.Fix
namespace Go.Proofs.YtmidaiklolmkcaaGreat.Fix
open Go.ChangeShapes Go.WideShapes Go.ChangeAt Go.RowKit
def enc(x:Fe.It):Value:=.agg #[.int .i64 x.b,.int .i64 x.lo,.int .i64 x.hi,.int .i64 x.g,.int .i64 x.s]
theorem Qa(n:Int)(w:World):Calls Tryz.prog 173 #[.int .i64 n] w λe w'=>e=.returned (.int .i64 (Fe.cw n))/\w=w':=by
 go_enter Tryz.func173,Tryz.ntmps173
 go_wp2_with (first|(go_at_call 110;with_reducible refine wR (rV _ _ _ _) ?_))
 go_ret
 exact⟨bO (Fe.Us aj aj),rfl⟩
theorem IJ(n m:Int)(w:World)(h:0<=m/\m<=1073741824):Calls Tryz.prog 110 #[.int .i64 n,.int .i64 0,.int .i64 m] w λe w'=>e=.returned (.int .i64 (Fe.to n m))/\w=w':=by
 rw[<-Fe.Us h.1 h.2];exact rV n 0 m w
theorem KW{a b c d f a' b' c' d' f':Int}(h1:a=a')(h2:b=b')(h3:c=c')(h4:d=d')(h5:f=f'):Ending.returned (.agg #[.int .i64 a,.int .i64 b,.int .i64 c,.int .i64 d,.int .i64 f])=.returned (.agg #[.int .i64 a',.int .i64 b',.int .i64 c',.int .i64 d',.int .i64 f']):=by rw[h1,h2,h3,h4,h5]
theorem KZ(x:Fe.It)(w:World):Calls Tryz.prog 156 #[enc x] w λe w'=>e=.returned (enc (Fe.cnt x))/\Below w.heap.size w w':=by
 obtain⟨b,lo,hi,g,s⟩:=x;simp only[enc,Fe.cnt];go_enter Tryz.func156,Tryz.ntmps156
 go_wp2;refine Q6 16 1 ?_ (h0:=by first|assumption|exact Below.refl _ _)
 (repeat (first|refine nW ?_ | refine nX ?_ (hc:=by intro w2 hS;first|with_reducible exact J9 hS (IJ _ _ _ aj))|refine nY ?_))
 refine ak.dN ?_;intro w2 hS;obtain⟨hc,hf⟩:=kY hS;refine x9 ?_;intro K hK;go_simp;refine hK _ _ (ak.bV ?_);clear hK K;go_wp2;refine bodyPost_ret (v:=.agg #[.int .i64 _,.int .i64 _,.int .i64 _,.int .i64 _,.int .i64 _]) (by simp[results,Tryz.results156,go_sem, *];first|done|exact⟨rfl,rfl⟩|exact⟨rfl,rfl,rfl,rfl⟩|exact⟨rfl,rfl,rfl,rfl,rfl⟩|rfl) rfl ⟨KW rfl rfl rfl rfl rfl,?_⟩;exact Z5
theorem tO{w:World}{b:Nat}{T:TypeId}(f:Nat->Int)(n:Nat)(hn:n<=maxLen)(h:At w b (.cells (aO f n n) T)):Ints w (some ⟨b,0,none⟩) ((List.range n).map f):=by
 refine⟨by simpa using hn,λh0=>⟨b,0,rfl,λk hk => ?_⟩⟩;simp only[List.length_map,List.length_range]at hk;rw[h.cell,Nat.zero_add,dh _ hk];simp[hk]
theorem N9(f:Nat->Int)(n:Nat)(h:∀k,k<n->f k=0):aO f n 0=aO f n n:=by
 unfold aO;congr 1;apply List.map_congr_left;intro j hj;have hj:j<n:=by simpa using hj
 simp[hj,h j hj]
theorem CK(A:Option Addr)(l:List Int)(n c:Nat)(x:Int)(w:World)(hI:Ints w A l)(hl:l.length=n)(hn:n<=64) :
  Calls Tryz.prog 170 #[.int .i64 x,.slice A n c] w λe w'=>(∃b,e=.returned (.slice (some ⟨b,0,none⟩) n n)/\w.heap.size<=b/\Ints w' (some ⟨b,0,none⟩) (Fe.share x l))/\Below w.heap.size w w':=by
 obtain⟨i0,hi0,hz0,hz1,hz2⟩:=info_parts intZero;have HI:=ah hI;clear hI;have HL:=ah hl;clear hl;go_enter Tryz.func170,Tryz.ntmps170
 go_upto_region 5 with(first|first|(go_at_call 110;with_reducible refine wR (IJ _ _ _ aj) ?_)|(at_make;refine wpList_make_row _ rfl _ _ 30 rfl 3 i0 (.int .i64 0) Tryz.underlying30 hi0 hz0 hz1 rfl .i64 .i64 n rfl rfl QS aj ?_))
 have Vb:At (w.alloc (.cells (madeCells #[.int .i64 0] n) 3)) w.heap.size (.cells (aO (Fe.part x l) n 0) 3):=by rw[<-jT];exact At.new _ _
 have hB0:Below w.heap.size w (w.alloc (.cells (madeCells #[.int .i64 0] n) 3)):=Below.alloc' aF _;generalize (w.alloc (.cells (madeCells #[.int .i64 0] n) 3))=W1 at *;have HI1:Hid (Ints W1 A l):=ah (HI.out.after hB0);obtain⟨N,hN⟩:∃N,N=Fe.to x 67108864:=⟨_,rfl⟩;have N1:0<=N:=by rw[hN];exact Fe.rP aj
 have N2:N<=67108864:=by rw[hN];exact Fe.uy aj
 rw[<-hN];have HN:=ah hN;clear hN;have HA0:=ah Vb;clear Vb;have HB0:=ah hB0;clear hB0;go_wp2
 go_loop [6,24] (λs i=>∃k:Nat,k<=n/\i=.int .i64 k/\s=.int .i64 (Fe.up l k)) (λ_ i=>n-(intOf i).toNat)
 case atStart=>exact⟨0,by omega,rfl,rfl⟩
 case round =>
  obtain⟨k,hk,rfl,rfl⟩:=hrel;by_cases hlt:k<n
  . obtain⟨b1,o1,hA1,l1,c1⟩:=HI1.out.at_ (k:=k) (by rw[HL.out];exact hlt)
    have hs:Hid (Fe.up l k+Fe.cw (l.getD k 0)=Fe.up l (k+1)):=ah rfl;have g1:=Fe.C8 l k;have g2:Fe.up l k<=68719476736:=by have:=Fe.JV l k;omega
    have g3:=Fe.Uq (l.getD k 0);have g4:=Fe.Ur (l.getD k 0);generalize l.getD k 0=z at *;generalize Fe.up l k=u at *;subst hA1
    go_wp2_with (first|(go_at_call 173;with_reducible refine wR (Qa _ _) ?_))
    go_round
    case rel=>exact⟨k+1,by omega,by go_num,by rw[hs.out]⟩
    case measure=>simp[intOf];omega
  . obtain rfl:k=n:=by omega
    have ha:Hid (Fe.up l k=Fe.all l):=ah (by unfold Fe.all;rw[HL.out]);have g1:=Fe.C8 l k;have g2:Fe.up l k<=68719476736:=by have:=Fe.JV l k;omega
    generalize ha':Fe.up l k=a at *;by_cases h0:a=0
    . subst h0
      go_wp2;refine bodyPost_ret (v:=.slice (some ⟨w.heap.size,0,none⟩) k k) (by simp[results,Tryz.results170,go_sem, *];first|done|exact⟨rfl,rfl⟩|rfl) rfl ⟨⟨w.heap.size,rfl,aG _,?_⟩,HB0.out⟩;unfold Fe.share;rw[HL.out];refine tO (T:=3) _ k JK ?_;have h9:=HA0.out;rw[N9 _ _ (λj _=>Fe.zI (ha.out.symm) j)]at h9;exact h9
    . have ha1:1<=a:=by omega
      have HAA:Hid (Fe.up l k=a):=ah ha';clear ha';go_wp2
      go_loopw [9,10,38] (λh t i wr=>∃j:Nat,j<=k/\i=.int .i64 j/\h=.int .i64 (Fe.up l j)/\t=.int .i64 (Fe.so x l j)/\At wr w.heap.size (.cells (aO (Fe.part x l) k j) 3)/\Below w.heap.size w wr) (λ_ _ i _=>k-(intOf i).toNat)
      case atStart=>exact⟨0,by omega,rfl,rfl,by rw[Fe.PI],HA0.out,HB0.out⟩
      case round =>
       obtain⟨j,hj,rfl,rfl,rfl,hA,hB⟩:=hrel;by_cases hjt:j<k
       . obtain⟨b1,o1,hA1,l1,c1⟩:=(HI.out.after hB).at_ (k:=j) (by rw[HL.out];exact hjt)
         have hs:Hid (Fe.up l j+Fe.cw (l.getD j 0)=Fe.up l (j+1)):=ah rfl;have g3:=Fe.Uq (l.getD j 0);have g4:=Fe.Ur (l.getD j 0);have g5:=Fe.C8 l j;have g6:Fe.up l j<=68719476736:=by have:=Fe.JV l j;omega
         have hq:Hid (N*Fe.up l (j+1)/a=Fe.so x l (j+1)):=ah (by unfold Fe.so;rw[HN.out,ha.out]);have hp:Hid (Fe.so x l (j+1)-Fe.so x l j=Fe.part x l j):=ah rfl;have q1:=Fe.abw x l j;have q2:=Fe.Ib x l (show j<=j+1 by omega);have q3:Fe.so x l (j+1)<=67108864:=Int.le_trans (Fe.abx x l (k:=j+1) Z52) (Fe.uy aj);have p1:=Fe.aeh x l (k:=j+1) aj;rw[<-HN.out]at p1;have e1:(N*Fe.up l (j+1)).tdiv a=Fe.so x l (j+1):=by
          rw[<-hq.out];exact Int.tdiv_eq_ediv_of_nonneg p1.1
         have W2:Hid (wrap64 ((wrap64 (N*Fe.up l (j+1))).tdiv a)=Fe.so x l (j+1)):=ah (by rw[IntWalk.wrap64_in (N*Fe.up l (j+1)) aj,e1];exact IntWalk.wrap64_in _ aj);have W3:Hid (wrap64 (Fe.so x l (j+1)-Fe.so x l j)=Fe.part x l j):=ah (by rw[IntWalk.wrap64_in _ aj];exact hp.out);have w3:IntKind.i64.wrap (Fe.up l j+Fe.cw (l.getD j 0))=Fe.up l (j+1):=by rw[hs.out];exact IntWalk.i64_in _ (by have:=Fe.JV l (j+1);have:=Fe.C8 l (j+1);omega)
         have hz:=hA.thaw j;have hc0:=hA.cell j;rw[dh _ hjt]at hc0;have hlb:=hA.lt;clear e1 p1 q1 q2 q3;generalize l.getD j 0=z at *;generalize hu':Fe.up l (j+1)=u' at *;have hs2:=ah hu';clear hu';generalize Fe.up l j=u at *;generalize hs':Fe.so x l (j+1)=s' at *;have hs1:=ah hs';clear hs';generalize Fe.so x l j=s at *;generalize hpp:Fe.part x l j=p at *;have HPP:=ah hpp;clear hpp;subst hA1
         go_wp2_with (first|(go_at_call 173;with_reducible refine wR (Qa _ _) ?_))
         go_roundw
         case rel =>
          refine⟨j+1,by omega,by go_num,by rw[hs2.out],by rw[W2.out,hs1.out],?_,Below.setCell hB aD _⟩;rw[W2.out,W3.out,<-ku _ hjt,HPP.out];exact hA.set j _
         case measure=>simp[intOf];omega
       . obtain rfl:j=k:=by omega
         go_wp2;refine bodyPost_ret (v:=.slice (some ⟨w.heap.size,0,none⟩) j j) (by simp[results,Tryz.results170,go_sem, *];first|done|exact⟨rfl,rfl⟩|rfl) rfl ⟨⟨w.heap.size,rfl,aG _,?_⟩,hB⟩;unfold Fe.share;rw[HL.out];exact tO _ j JK hA
theorem At.five{W:World}{b:Nat}{x y z u v:Value}{T:TypeId}(h:At W b (.cells #[x,y,z,u,v] T)):b<W.heap.size/\W.cell? ⟨b,0,none⟩=some x/\W.cell? ⟨b,1,none⟩=some y/\W.cell? ⟨b,2,none⟩=some z/\W.cell? ⟨b,3,none⟩=some u/\W.cell? ⟨b,4,none⟩=some v:=⟨h.lt,h.cell 0,h.cell 1,h.cell 2,h.cell 3,h.cell 4⟩
theorem Vk(n lo hi:Int)(w:World)(h:(0<=lo/\lo<=1048576)/\0<=hi/\hi<=1048576):Calls Tryz.prog 110 #[.int .i64 n,.int .i64 lo,.int .i64 hi] w λe w'=>e=.returned (.int .i64 (Fe.inn lo hi n))/\w=w':=by
 rw[<-Fe.YU h.1.1 h.1.2 h.2.1 h.2.2];exact rV n lo hi w
theorem K6(b lo hi g s:Int)(w:World):Calls Tryz.prog 156 #[.agg #[.int .i64 b,.int .i64 lo,.int .i64 hi,.int .i64 g,.int .i64 s]] w λe w'=>e=.returned (enc (Fe.cnt ⟨b,lo,hi,g,s⟩))/\Below w.heap.size w w':=KZ ⟨b,lo,hi,g,s⟩ w
theorem Oa(x:Fe.It)(n:Int)(w:World):Calls Tryz.prog 131 #[enc x,.int .i64 n] w λe w'=>e=.returned (.int .i64 (Fe.clamp x n))/\Below w.heap.size w w':=by
 obtain⟨b,lo,hi,g,s⟩:=x;obtain⟨d1,d2,d3,d4,d5,d6,d7,d8,d9,d10⟩:=Fe.H8 ⟨b,lo,hi,g,s⟩;unfold Fe.clamp;have HC:Hid (Fe.cnt ⟨b,lo,hi,g,s⟩=Fe.cnt ⟨b,lo,hi,g,s⟩):=ah rfl;generalize hc:Fe.cnt ⟨b,lo,hi,g,s⟩=c at *;obtain⟨b',lo',hi',g',s'⟩:=c;simp only at d1 d2 d3 d4 d5 d6;have HE:=ah hc;clear hc HC d7 d8 d9 d10;simp only[enc];go_enter Tryz.func131,Tryz.ntmps131
 go_upto_region 1 with(fail)
 generalize hW:World.alloc _ _=W0;have A0:At W0 w.heap.size (.cells #[.int .i64 b,.int .i64 lo,.int .i64 hi,.int .i64 g,.int .i64 s] 166):=hW▸At.new _ _;have hB:Below w.heap.size w W0:=hW▸Below.alloc' aF _;clear hW;obtain⟨l0,c0,c1,c2,c3,c4⟩:=A0.five
 go_upto_region 2 with(go_at_call 156;(with_reducible refine(K6 _ _ _ _ _ _).mono ?_);rintro e w' ⟨rfl,hb⟩;rw[HE.out];simp only[enc];clear l0 c0 c1 c2 c3 c4;replace A0:=A0.keep hb;replace hB:=Below.ay hB aD hb;clear hb;obtain⟨l0,c0,c1,c2,c3,c4⟩:=A0.five;have z0:=A0.thaw 0;have z1:=A0.thaw 1;have z2:=A0.thaw 2;have z3:=A0.thaw 3;have z4:=A0.thaw 4)
 go_wp2_with (first|(go_at_call 110;with_reducible refine wR (Vk _ _ _ _ ⟨by omega,by omega⟩) ?_))
 go_ret
 exact⟨bO (by unfold Fe.inn;(repeat' split)<;>omega),by(repeat (first|exact Below.refl _ _ | assumption|refine Below.drew ?_ | refine Below.drewN ?_ _ | refine Below.alloc' ?_ _ | refine Below.setCell ?_ Z4x _ | refine Below.ay ?_ aD (by assumption)))⟩
end Go.Proofs.YtmidaiklolmkcaaGreat.Fix
namespace Go.Proofs.YtmidaiklolmkcaaGreat.Fix
open Go.ChangeShapes Go.WideShapes Go.ChangeAt Go.RowKit Go.Shelf
attribute [local go_sem] Oper.semAt_some
theorem ownsRow_below{W w:World}{base:Nat}{e:TypeId}{sz:Nat}{v:Value}{k:Nat}{xs:List Value}(h:W.ownsRow base e sz v k xs)(hb:Below W.heap.size W w):w.ownsRow base e sz v k xs:=by
 refine h.kept (row:=none) ⟨hb.os,hb.tape,hb.output,hb.size,λk hk _=>hb.block k hk⟩ ?_;rcases h.2 with⟨rfl,_⟩|⟨g,cap,cur,rfl,_⟩
 . exact .inl rfl
 . exact .inr (by simp[Value.ownBlock])
theorem At.row{W w:World}{b base k:Nat}{vs:Array Value}{T:TypeId}{v:Value}{xs:List Value}(h:At W b (.cells vs T))(hT:T≠3)(ho:W.ownsRow base 3 1 v k xs)(hg:W.grownBy w v.ownBlock):At w b (.cells vs T):=by
 refine(hg.block b h.lt λe => ?_).trans h;rcases ho.2 with⟨rfl,_⟩|⟨g,cap,cur,rfl,_,hgb,_⟩
 . simp[Value.ownBlock]at e
 . have e':b=g:=by simpa[Value.ownBlock]using e
   subst e';unfold At at h;rw[h]at hgb;injection hgb with hgb;injection hgb with _ hgb;exact hT hgb
theorem sP.row{W w:World}{I n base k:Nat}{S:Nat->Fe.St}{v:Value}{xs:List Value}(h:sP W I n S)(ho:W.ownsRow base 3 1 v k xs)(hg:W.grownBy w v.ownBlock):sP w I n S:=by
 obtain⟨vs,h,r⟩:=h;exact⟨vs,h.row aH ho hg,r⟩
theorem K8{W:World}{base k:Nat}{v:Value}{xs:List Int}(x:Int)(hown:W.ownsRow base 3 1 v k (xs.map (Value.int .i64)))(hbase:base<=W.heap.size)(hk:k<=10000) :
  ∃g c w',(Builtin.append_ #[30,30] 30 #[v,.slice (some ⟨W.heap.size,0,none⟩) 1 1]).run Tryz.prog (W.alloc (.cells #[.int .i64 x] 3))=.ok (.slice (some ⟨g,0,none⟩) (k+1) c) w' /\
   w'.ownsRow base 3 1 (.slice (some ⟨g,0,none⟩) (k+1) c) (k+1) ((xs++[x]).map (Value.int .i64))/\(W.alloc (.cells #[.int .i64 x] 3)).grownBy w' v.ownBlock:=by
 obtain⟨i0,hi0,hz0,hz1,hz2⟩:=info_parts intZero
 obtain⟨v',w',hr,ho,hg,_,_⟩:=run_append_own_at (P:=Tryz.prog) (w:=W.alloc (.cells #[.int .i64 x] 3)) base 30 30 3 i0 (.int .i64 0) 1 8 Tryz.underlying30 hi0 hz0 hz1 hz2 rfl aH v k _ (hown.alloc _) ⟨W.heap.size,0,none⟩ 1 1 [.int .i64 x] rfl
  (by intro j u hj
      match j,hj with
      | 0,hj=>simp at hj;subst hj;simp[Addr.add])
  JB Py aj jM
 obtain⟨g,c,rfl⟩:=ownsRow_succ ho;exact⟨g,c,w',hr,by rw[List.map_append];exact ho,hg⟩
theorem Below.row{N:Nat}{w0 W w:World}{base k:Nat}{v:Value}{xs:List Value}(h:Below N w0 W)(ho:W.ownsRow base 3 1 v k xs)(hg:W.grownBy w v.ownBlock)(hN:N<=base)(hW:N<=W.heap.size):Below N w0 w:=by
 refine h.grown hg hW (λj e => ?_);rcases ho.2 with⟨rfl,_⟩|⟨g,cap,cur,rfl,hb,_⟩
 . simp[Value.ownBlock]at e
 . have e':j=g:=by simpa[Value.ownBlock,eq_comm]using e
   omega
theorem KeepsOthers.row{W w:World}{base k:Nat}{v:Value}{xs:List Value}(ho:W.ownsRow base 3 1 v k xs)(hg:W.grownBy w v.ownBlock):KeepsOthers W w :=
 KeepsOthers.of_grownBy hg λj o ej hj=>by
  rcases ho.2 with⟨rfl,_⟩|⟨g,cap,cur,rfl,_,hgb,_⟩
  . simp[Value.ownBlock]at ej
  . obtain rfl:g=j:=by simpa[Value.ownBlock]using ej
    rw[hgb]at hj;cases hj;rfl
theorem BI{w:World}{base:Nat}{v:Value}{n:Nat}{l:List Int}(h:w.ownsRow base 3 1 v n (l.map (Value.int .i64)))(hm:n<=maxLen):∃A c,v=.slice A n c/\Ints w A l/\l.length=n:=by
 have hl:l.length=n:=by simpa using h.1
 obtain⟨A,c,rfl,hI⟩:=vg h hm;exact⟨A,c,by rw[hl],hI,hl⟩
theorem Ints.turn{W:World}{A:Option Addr}{l:List Int}{r:Nat}{o':Obj}(h:Ints W A l)(hW:W.heap[r]? = some o')(hc:o'.isCells=false)(o:Obj):Ints (W.putObj r o) A l:=by
 refine⟨h.1,λh0 => ?_⟩;obtain⟨b,off,rfl,hcell⟩:=h.2 h0;exact⟨b,off,rfl,λk hk=>cell_kept (hcell k hk) (grownBy_putObj' W r o) (λr' e=>by cases e;exact⟨o',hW,hc⟩)⟩
theorem Ints.off{W:World}{b off g k:Nat}{l:List Int}(h:Ints W (some ⟨b,off,none⟩) l)(hne:b≠g)(v:Value):Ints (W.setCell ⟨g,k,none⟩ v) (some ⟨b,off,none⟩) l:=by
 refine⟨h.1,λh0 => ?_⟩;obtain⟨b',off',e,hcell⟩:=h.2 h0;injection e with e;injection e with e1 e2;subst e1;subst e2;exact⟨b,off,rfl,λk' hk=>(World.cell?_of_block (Below.heap_setCell W ⟨g,k,none⟩ v b hne)).trans (hcell k' hk)⟩
theorem DV{P:Program}{w w':World}{o:Oper}{a:Act}(s x:Operand)(t:TypeId)(ho:o.op=.call { callee:=.builtin .append,args:=#[s,x],argTypes:=#[t,t] }){v u v':Value}(hs:a.eval s=v)(hx:a.eval x=u)
  (hrun:(Builtin.append_ #[t,t] o.type #[v,u]).run P w=.ok v' w'):(execOp a.eval o).run P w=.ok (.value v') w':=by
 exact Z1w
theorem Co(b lo hi g s n:Int)(w:World):Calls Tryz.prog 131 #[.agg #[.int .i64 b,.int .i64 lo,.int .i64 hi,.int .i64 g,.int .i64 s],.int .i64 n] w λe w'=>e=.returned (.int .i64 (Fe.clamp ⟨b,lo,hi,g,s⟩ n))/\Below w.heap.size w w':=Oa ⟨b,lo,hi,g,s⟩ n w
set_option maxRecDepth 100000 in
theorem DW(N R I n:Nat)(room:Int)(gr:Bool)(S:Nat->Fe.St)(w:World)(h:fA w R I n room gr S)(hn:n<=64)(hN:N<=I/\N<=w.heap.size)(hs:Sound S n)(hr:0<=room/\room<=67108864) :
  Calls Tryz.prog 162 #[.pointer (some ⟨R,0,none⟩)] w λe w'=>(∃v,e=.returned v)/\fA w' R I n room gr (Fe.shared gr room n S)/\Below N w w':=by
 have JM:∀(fn:Fn) (first cap:Array Value) (w:World),(Instr.makeFunc fn first cap).run Tryz.prog w=.ok (.func fn first cap) w:=λ_ _ _ _=>rfl;have hR:=h.1.lt;have hI:=h.2.lt;have HR:=ah h;have HS:=ah hs;clear h hs;refine(callsIn_wide (n:=5)).1 ?_;refine callsIn_of_wp_marks Tryz.func162 rfl trivial ?_ rfl;simp only[Tryz.ntmps162,List.size_toArray,List.length_cons,List.length_nil,Nat.reduceAdd,Nat.reduceSub,Array.replicate_succ,Array.replicate_zero,List.push_toArray,List.append_toArray,List.nil_append,List.cons_append]
 gi_wp2
 obtain⟨W0,hA1,hA2,hrow,hB,wV,hsz,hW⟩:∃W0,At W0 w.heap.size (.cells #[.pointer (some ⟨R,0,none⟩)] 239)/\At W0 (w.heap.size+1+1) (.cells #[.slice (some ⟨w.heap.size+1,0,none⟩) 0 0] 30) /\
   W0.ownsRow w.heap.size 3 1 (.slice (some ⟨w.heap.size+1,0,none⟩) 0 0) 0 []/\Below N w W0/\fA W0 R I n room gr S/\W0.heap.size=w.heap.size+3 /\
   (((w.alloc (.cells #[.pointer (some ⟨R,0,none⟩)] 239)).alloc (.cells #[] 3)).alloc (.cells #[.slice (some ⟨w.heap.size+1,0,none⟩) 0 0] 30))=W0:=by
  refine⟨_,((At.new w _).alloc _).alloc _,At.new' _ eZ,?_,(((Below.refl _ _).alloc hN.2 _).alloc jM _).alloc jM _,((HR.out.alloc _).alloc _).alloc _,by simp,rfl⟩;have bR:At ((w.alloc (.cells #[.pointer (some ⟨R,0,none⟩)] 239)).alloc (.cells #[] 3)) (w.heap.size+1) (.cells #[] 3):=At.new' _ eZ;exact⟨by simp,.inr ⟨w.heap.size+1,0,#[],rfl,by omega,bR.alloc _,aG _,by simp[maxLen],by simp,by simp⟩⟩
 rw[hW];clear hW
 refine kD (n:=5) (gf:=167) (first:=#[.pointer (some ⟨R,0,none⟩)]) (lb:=#[]) rfl (enters_of Tryz.func167 jD rfl) n (λi=>(S i).f) (λi=>#[.int .i64 (Fe.pl S i:Nat),.pointer (some ⟨I,i*8,none⟩)]) (λ_=>rfl)
  (λi W=>fA W R I n room gr S/\At W w.heap.size (.cells #[.pointer (some ⟨R,0,none⟩)] 239)/\(∃v,At W (w.heap.size+1+1) (.cells #[v] 30)/\W.ownsRow w.heap.size 3 1 v (Fe.pl S i) ((Fe.ws gr S i).map (Value.int .i64)))/\Below N w W)
  (λW=>False)
  (λi W r o o' h hr hW hc=>⟨h.1.turn aj aj o,h.2.1.turn aj o,by obtain⟨v,h1,h2⟩:=h.2.2.1;exact⟨v,h1.turn aj o,ownsRow_putObj h2 o hW hc⟩,Below.turn h.2.2.2 aj hW o⟩)
  (λW r o o' h hr hW _=>h)
  (λo1 o2=>⟨(wV.alloc o1).alloc o2,(hA1.alloc o1).alloc o2,⟨_,(hA2.alloc o1).alloc o2,(hrow.alloc o1).alloc o2⟩,(hB.alloc aj o1).alloc jM o2⟩)
  (λlp J Jx W hV hs hY hJ=>rZ 4 R I n room (Fe.sg gr) S hn lp J Jx W (λi W h=>(hV i W h).1.sees i) hs hY hJ)
  (λi W hi hf h=>⟨h.1,h.2.1,by simp only[Fe.pl,Fe.ws,hf,if_true];exact h.2.2.1,h.2.2.2⟩)
  (λi t=>((t.setIfInBounds 12 (.int .i64 (Fe.pl S i:Nat))).setIfInBounds 13 (.pointer (some ⟨I,i*8,none⟩))).setIfInBounds 4 (.pointer (some ⟨I,i*8,none⟩))) ?assign ?body ?done ?stop
 case assign =>
  exact Z1n
 case body =>
  rintro l i W hi hf ⟨ru,hB1,⟨v,hV,hown⟩,hBl⟩;have hb1:=hB1.lt;have hb2:=hV.lt;have hpl:=Fe.PN S i;obtain⟨hs1,_⟩:=HS.out i hi;have hP:Fe.pl S (i+1)=Fe.pl S i+1:=by simp[Fe.pl,hf]
  have hWs:Fe.ws gr S (i+1)=Fe.ws gr S i++[Fe.wt gr (S i).x]:=by simp[Fe.ws,hf]
  have HP:=ah hP;have HWs:=ah hWs;clear hP hWs
  (simp only[List.setIfInBounds_toArray,List.set_cons_zero,List.set_cons_succ])
  gi_upto_region 4 with(fail)
  refine ak.Ri (S:=(λW'=>W'.cell? ⟨w.heap.size+1+1,0,none⟩=some v/\W'.cell? ⟨w.heap.size,0,none⟩=some (.pointer (some ⟨R,0,none⟩)))) 6 jD jD (by rintro⟨_,_,hh⟩;exact hh) ?_ ?_
  . exact⟨hV.cell 0,hB1.cell 0⟩
  intro hS0;refine aW 0 ?_;refine aW 1 ?_;refine aW 2 ?_;refine tk1 3 ?_;refine ak.Step.call dV (N8 R I n i room gr S _ ru.drew hi hs1) ?_;rintro e w3 ⟨rfl,hb⟩;replace hb:Below W.heap.size W w3:=Below.ay (Below.refl _ _).drew aD hb;have hV3:=hV.keep hb;have hB3:=hB1.keep hb;have hown3:=ownsRow_below hown hb;have EW:=ru.keep hb;have ag':=Below.trans hBl (hb.mono aj);have hz3:=hb.size;refine⟨_,rfl,λ_=>⟨hV3.cell 0,hB3.cell 0⟩,?_⟩
  (try simp only[bL,bM,bN,tks])
  obtain⟨g,c,w4,hrun,abF,hg4⟩:=K8 (Fe.wt gr (S i).x) hown3 aj aj;refine tk1 4 ?_;refine uM ?_ (hS:=by first|(intro hlt;exact absurd hlt aH)|(intro _;exact⟨(hV3.alloc _).cell 0,(hB3.alloc _).cell 0⟩));have hV4:=(hV3.alloc (.cells #[.int .i64 (Fe.wt gr (S i).x)] 3)).row aH (hown3.alloc _) hg4;have hB4:=(hB3.alloc (.cells #[.int .i64 (Fe.wt gr (S i).x)] 3)).row aH (hown3.alloc _) hg4;have hz4:=hV4.thaw 0;have hc4:w4.cell? ⟨w.heap.size+1+1,0,none⟩=some v:=hV4.cell 0;have hl4:=hV4.lt;refine tk1 5 ?_;refine ak.Step.value (DV (.tmp 14) (.tmp 18) 30 rfl rfl rfl hrun) ⟨λ_=>⟨hV4.cell 0,hB4.cell 0⟩,?_⟩
  (try simp only[bL,bM,bN,tks])
  refine tk1 6 ?_;refine ak.Step.skip Z4k ?_;refine⟨by first|(intro hlt;exact absurd hlt aH)|(intro _;omega),?_⟩;(try simp only[Act.put]);refine ko ?_
  gi_wp2
  refine⟨(KeepsFrom.of_below hb).trans ((((KeepsOthers.alloc _ _).trans (KeepsOthers.row (hown3.alloc _) hg4)).trans (KeepsOthers.setCell _ _ _)).from _),?_,?_,⟨_,hV4.set 0 _,?_⟩,?_⟩
  . exact fA.off ⟨At.row (EW.1.alloc _) aH (hown3.alloc _) hg4,(EW.2.alloc _).row (hown3.alloc _) hg4⟩ aj aj _
  . exact hB4.off aj _ _
  . rw[HP.out,HWs.out]
    exact abF.kept (grownBy_setCell' w4 _ _) (.inr (Boxed.not_row (show Boxed w4 _ _ _ from hV4) aH abF).symm)
  . exact Below.setCell (Below.row (ag'.alloc aj _) (hown3.alloc _) hg4 hN.2 jM) jM _
 case stop=>exact λD W hD h _=>h.elim
 case done =>
  rintro D W hD ⟨ru,hB1,⟨v,hV,hown⟩,hBl⟩ hK;have hlD:=(Array.getElem?_eq_some_iff.1 hK).1;have hpl:=Fe.PN S n;obtain⟨A,c,rfl,Yd,hL⟩:=BI hown JK;have hb1:=hB1.lt;have hb2:=hV.lt;clear hown hA1 hA2 hrow hB wV HR
  gi_upto_region 5 with(fail)
  refine wpIn_wide.2 (ak.kE (λa0 a W5=>∃b B5,a={ a0 with tmps:=((((a0.tmps.setIfInBounds 20 (.pointer (some ⟨R,0,none⟩))).setIfInBounds 21 (.int .i64 (Fe.free gr room S n))).setIfInBounds 22 (.slice A (Fe.pl S n) c)).setIfInBounds 23 (.slice (some ⟨b,0,none⟩) (Fe.pl S n) (Fe.pl S n))).setIfInBounds 5 (.pointer (some ⟨B5,0,none⟩)) } /\
   W.heap.size<=b/\W.heap.size<=B5/\At W5 B5 (.cells #[.slice (some ⟨b,0,none⟩) (Fe.pl S n) (Fe.pl S n)] 30)/\Ints W5 (some ⟨b,0,none⟩) (Fe.parts gr room S n)/\Below W.heap.size W W5) ?_ ?_)
  . refine lF (S:=(λW'=>W'.cell? ⟨w.heap.size+1+1,0,none⟩=some (.slice A (Fe.pl S n) c)/\W'.cell? ⟨w.heap.size,0,none⟩=some (.pointer (some ⟨R,0,none⟩)))) 5 ?_ ?_
    . exact⟨hV.cell 0,hB1.cell 0⟩
    intro hS0;have hx:Below W.heap.size W W.drew:=(Below.refl _ _).drew;refine aW 0 ?_;refine aW 2 ?_;refine tk2 1 4 ?_ ?_
    . refine ak.Step.call dV (KV R I n room gr S _ (ru.keep hx) HS.out hn hr) ?_
      rintro e w3 ⟨rfl,hb⟩;replace hx:=Below.ay hx aD hb;clear hb;refine⟨_,rfl,λ_=>⟨(hV.keep hx).cell 0,(hB1.keep hx).cell 0⟩,?_⟩
      (try simp only[bL,bM,bN,tks])
      refine tk2 3 4 ?_ ?_
      . refine ak.Step.call dV (CK A (Fe.ws gr S n) _ c (Fe.free gr room S n) _ (Yd.after hx) hL aj) ?_
        rintro e w4 ⟨⟨b,rfl,hbb,Uc⟩,hb⟩;have hx3:=hx.size;replace hx:=Below.ay hx aD hb;clear hb;refine⟨_,rfl,λ_=>⟨(hV.keep hx).cell 0,(hB1.keep hx).cell 0⟩,?_⟩
        (try simp only[bL,bM,bN,tks])
        refine tk1 4 ?_;refine uM ?_ (hS:=by first|(intro hlt;exact absurd hlt aH)|(intro _;exact⟨((hV.keep hx).alloc _).cell 0,((hB1.keep hx).alloc _).cell 0⟩));have hx4:=hx.size;refine tk1 5 ?_;refine ak.Step.skip Z4k ?_;refine⟨by first|(intro hlt;exact absurd hlt aH)|(intro _;omega),?_⟩;(try simp only[Act.put]);refine ko ?_;exact⟨rfl,b,w4.heap.size,rfl,by omega,by omega,At.new _ _,Uc.after (Below.alloc' aF _),Below.alloc' hx _⟩
      . refine ak.Step.value (u:=.pointer (some ⟨w3.heap.size,0,none⟩)) (w':=w3.alloc (.cells #[.slice none 0 0] 30)) dV ?_
        obtain⟨w9,bF,qF,gV,hz0,Yk⟩:∃w9,w9=w3.alloc (.cells #[.slice none 0 0] 30)/\At w9 w3.heap.size (.cells #[.slice none 0 0] 30)/\Below w3.heap.size w3 w9/\w9.heap.size=w3.heap.size+1/\W.heap.size<=w3.heap.size:=⟨_,rfl,At.new _ _,Below.alloc' aF _,by simp,hx.size⟩;rw[<-bF];clear bF;generalize w3.heap.size=B5 at *;replace hx:=Below.trans hx (gV.mono aj);clear gV;refine⟨λ_=>⟨(hV.keep hx).cell 0,(hB1.keep hx).cell 0⟩,?_⟩;exact Z16
    . refine ak.Step.value (u:=.pointer (some ⟨W.drew.heap.size,0,none⟩)) (w':=W.drew.alloc (.cells #[.slice none 0 0] 30)) dV ?_
      obtain⟨w9,bF,qF,gV,hz0,Yk⟩:∃w9,w9=W.drew.alloc (.cells #[.slice none 0 0] 30)/\At w9 W.drew.heap.size (.cells #[.slice none 0 0] 30)/\Below W.drew.heap.size W.drew w9/\w9.heap.size=W.drew.heap.size+1/\W.heap.size<=W.drew.heap.size:=⟨_,rfl,At.new _ _,Below.alloc' aF _,by simp,hx.size⟩;rw[<-bF];clear bF;generalize W.drew.heap.size=B5 at *;replace hx:=Below.trans hx (gV.mono aj);clear gV;refine⟨λ_=>⟨(hV.keep hx).cell 0,(hB1.keep hx).cell 0⟩,?_⟩
      (try simp only[bL,bM,bN,tks])
      refine tk1 1 ?_;refine ak.Step.call dV (KV R I n room gr S _ (ru.keep hx) HS.out hn hr) ?_;rintro e w3 ⟨rfl,hb⟩;replace hx:=Below.ay hx aD hb;replace qF:=qF.keep hb;have hl9:=qF.lt;clear hb;refine⟨_,rfl,λ_=>⟨(hV.keep hx).cell 0,(hB1.keep hx).cell 0⟩,?_⟩;exact Z16
  . rintro a W5 ⟨b,B5,rfl,hbb,p9,xK,hI5,hx⟩
    simp only[List.setIfInBounds_toArray,List.set_cons_zero,List.set_cons_succ];have hcB:W5.cell? ⟨w.heap.size,0,none⟩=some (.pointer (some ⟨R,0,none⟩)):=(hB1.keep hx).cell 0;have hlB:=(hB1.keep hx).lt
    gi_wp2
    have hx5:=hx.size;have hlW:=hBl.size
    refine kD (n:=5) (gf:=167) (first:=#[.pointer (some ⟨R,0,none⟩)]) (lb:=#[]) rfl (enters_of Tryz.func167 jD rfl) n (λi=>(S i).f) (λi=>#[.int .i64 (Fe.pl S i:Nat),.pointer (some ⟨I,i*8,none⟩)]) (λ_=>rfl)
     (λi W=>fA W R I n room gr (mV S (Fe.fU gr (Fe.parts gr room S n) S) i)/\At W w.heap.size (.cells #[.pointer (some ⟨R,0,none⟩)] 239)/\At W B5 (.cells #[.slice (some ⟨b,0,none⟩) (Fe.pl S n) (Fe.pl S n)] 30)/\Ints W (some ⟨b,0,none⟩) (Fe.parts gr room S n)/\Below N w W/\W.heap[D]? = some (.deferred (some [])))
     (λW=>False)
     (λi W r o o' h hr hW hc=>⟨h.1.turn aj aj o,h.2.1.turn aj o,h.2.2.1.turn (by have:=xK.lt;omega) o,h.2.2.2.1.turn hW hc o,Below.turn h.2.2.2.2.1 aj hW o,(World.putObj_heap_other aj).trans h.2.2.2.2.2⟩)
     (λW r o o' h hr hW _=>h)
     (λo1 o2=>⟨by rw[wB];exact((ru.keep hx).alloc o1).alloc o2,((hB1.keep hx).alloc o1).alloc o2,(xK.alloc o1).alloc o2,(hI5.after (Below.alloc' aF o1)).after (Below.alloc' aF o2),((Below.trans hBl (hx.mono aj)).alloc aj o1).alloc jM o2,(At.alloc (At.keep (show At W D _ from hK) hx) o1).alloc o2⟩)
     (λlp J Jx W hV hs hY hJ=>rZ 4 R I n room (Fe.sg gr) S hn lp J Jx W (λi W h=>(hV i W h).1.mixed) hs hY hJ)
     (λi W hi hf h=>⟨by rw[Gv (by simp[Fe.fU,hf])];exact h.1,h.2⟩)
     (λi t=>(((t.setIfInBounds 26 (.int .i64 (Fe.pl S i:Nat))).setIfInBounds 27 (.pointer (some ⟨I,i*8,none⟩))).setIfInBounds 6 (.int .i64 (Fe.pl S i:Nat))).setIfInBounds 7 (.pointer (some ⟨I,i*8,none⟩))) ?assign ?body ?done ?stop
    case assign =>
     exact Z1n
    case stop=>exact λD W hD h _=>h.elim
    case done =>
     rintro D2 W2 hD2 ⟨hR2,hB2,hA2,hI2,aad,hK1⟩ hK2
     gi_wp2
     have hl2:=(Array.getElem?_eq_some_iff.1 hK2).1;refine⟨by simp,.inl ⟨_,_,rfl,run_takeDeferred hK2,?_⟩⟩;have hK3:(W2.putObj D2 (.deferred none)).heap[D]? = some (.deferred (some [])):=(World.putObj_heap_other aj).trans hK1;refine⟨by simp,.inl ⟨_,_,rfl,run_takeDeferred hK3,?_⟩⟩;exact⟨_,results_none rfl _ _ _,⟨_,rfl⟩,⟨((hR2.turn aj aj _).turn aj aj _).1,(((hR2.turn aj aj _).turn aj aj _).2.same (yP _ _ _))⟩,Below.turn (Below.turn aad aj hK2 _) aj hK3 _⟩
    case body =>
     rintro l i W6 hi hf ⟨hR2,hB2,hA2,hI2,aad,hD2⟩;have hne:=hR2.ne;have hp:=Fe.PO S hi hf;obtain⟨⟨⟨hb1,hb2⟩,_⟩,_⟩:=HS.out i hi;have hpn:(Fe.parts gr room S n).length=Fe.pl S n:=by unfold Fe.parts;rw[Fe.Ia,Fe.rQ]
     have hpv:0<=(Fe.parts gr room S n).getD (Fe.pl S i) 0/\(Fe.parts gr room S n).getD (Fe.pl S i) 0<=67108864:=by
      unfold Fe.parts;rw[Fe.Gi _ _ (by rw[Fe.rQ];exact hp)];exact Fe.Ca _ _ (by rw[Fe.rQ];exact hp)
     obtain⟨b',o',eA,hbl,hpc⟩:=hI2.at_ (k:=Fe.pl S i) (by rw[hpn];exact hp);injection eA with eA;injection eA with e1 e2;subst e1;subst e2;rw[Nat.zero_add]at hpc;obtain⟨l2,d0,d1,d2,d3,d4,d5,d6,d7⟩:=hR2.2.fields hi;obtain⟨l3,r0,r1,r2⟩:=hR2.cells;have hcB:W6.cell? ⟨w.heap.size,0,none⟩=some (.pointer (some ⟨R,0,none⟩)):=hB2.cell 0;have hlB:=hB2.lt;have hcA:W6.cell? ⟨B5,0,none⟩=some (.slice (some ⟨b,0,none⟩) (Fe.pl S n) (Fe.pl S n)):=hA2.cell 0;have hlA:=hA2.lt;rw[pR (aG _)]at d0 d1 d2 d3 d4 d5 d6 d7;have HT:Hid (Fe.fU gr (Fe.parts gr room S n) S i=⟨(S i).x,Fe.clamp (S i).x (Fe.want gr (Fe.parts gr room S n) S i),Fe.clamp (S i).x (Fe.want gr (Fe.parts gr room S n) S i)-Fe.want gr (Fe.parts gr room S n) S i,false⟩):=ah (by simp[Fe.fU,hf])
     have HWt:Hid (IntKind.i64.wrap ((S i).x.b+IntKind.i64.wrap (Fe.sg gr*(Fe.parts gr room S n).getD (Fe.pl S i) 0))=Fe.want gr (Fe.parts gr room S n) S i/\-67108864<=Fe.want gr (Fe.parts gr room S n) S i/\Fe.want gr (Fe.parts gr room S n) S i<=68157440):=ah (by
      unfold Fe.want;have hq : -67108864<=Fe.sg gr*(Fe.parts gr room S n).getD (Fe.pl S i) 0/\Fe.sg gr*(Fe.parts gr room S n).getD (Fe.pl S i) 0<=67108864:=by cases gr<;>simp only[Fe.sg,Bool.false_eq_true,if_false,if_true]<;>omega
      rw[IntWalk.i64_in (Fe.sg gr*_) aj,IntWalk.i64_in _ aj]
      exact⟨rfl,by omega,by omega⟩)
     have FIN:∀(W8:World) (cl wt:Int),cl=Fe.clamp (S i).x (Fe.want gr (Fe.parts gr room S n) S i)->wt=Fe.want gr (Fe.parts gr room S n) S i->Below W6.heap.size W6 W8 ->
       roundEnd W5.heap.size (λW=>fA W R I n room gr (mV S (Fe.fU gr (Fe.parts gr room S n) S) (i+1))/\At W w.heap.size (.cells #[.pointer (some ⟨R,0,none⟩)] 239)/\At W B5 (.cells #[.slice (some ⟨b,0,none⟩) (Fe.pl S n) (Fe.pl S n)] 30)/\Ints W (some ⟨b,0,none⟩) (Fe.parts gr room S n)/\Below N w W/\W.heap[D]? = some (.deferred (some []))) (λ_=>False) W6 .normal { tmps:=#[],defers:=[] }
        ((W8.setCell ⟨I,i*8+5,none⟩ (.int .i64 cl)).setCell ⟨I,i*8+6,none⟩ (.int .i64 (cl-wt))):=by
      intro W8 cl wt hcl hwt wW;have TF:=hR2.keep wW;have b1:sP (W8.setCell ⟨I,i*8+5,none⟩ (.int .i64 cl)) I n (λk=>if k=i then ⟨(S i).x,cl,(S i).m,false⟩else mV S (Fe.fU gr (Fe.parts gr room S n) S) i k):=by
       refine TF.2.put hi aj (by simp[JN]) ?_ (λk hk hkn=>by simp[hkn]);intro q hq hqn;simp only[if_true];rw[pR (aG _)];unfold JN;rw[hf]
       (repeat' split)<;>first|rfl|omega
      have b2:sP ((W8.setCell ⟨I,i*8+5,none⟩ (.int .i64 cl)).setCell ⟨I,i*8+6,none⟩ (.int .i64 (cl-wt))) I n (mV S (Fe.fU gr (Fe.parts gr room S n) S) (i+1)):=by
       refine b1.put hi aj ?_ ?_ ?_
       . rw[tN,HT.out,hcl,hwt];simp[JN]
       . intro q hq hqn
         rw[tN,HT.out,<-hcl,<-hwt];simp only[if_true];unfold JN
         (repeat' split)<;>first|rfl|omega
       . intro k hk hkn
         rw[yO _ _ hkn];simp[hkn]
      have hz8:=wW.size;refine⟨((KeepsFrom.of_below wW).trans (((KeepsOthers.setCell _ _ _).trans (KeepsOthers.setCell _ _ _)).from _)),⟨(TF.1.off aj _ _).off aj _ _,b2⟩,((hB2.keep wW).off aj _ _).off aj _ _,((hA2.keep wW).off aj _ _).off aj _ _,((hI2.after wW).off aj _).off aj _,Below.setCell (Below.setCell (Below.trans aad (wW.mono (by have:=aad.size;omega))) hN.1 _) hN.1 _,?_⟩;exact(KeepsOthers.setCell _ _ _).same _ _ ((KeepsOthers.setCell _ _ _).same _ _ ((wW.block D (Array.getElem?_eq_some_iff.1 hD2).1).trans hD2) rfl) rfl
     replace FIN:=ah FIN;clear d5 d6 d7 hI2 hA2 HT hpv hpn hb1 hb2;have HR2:=ah hR2;clear hR2;generalize TG:(S i).x=x at *;have HX:=ah TG;clear TG;obtain⟨x0,x1,x2,x3,x4⟩:=x;dsimp only at d0 d1 d2 d3 d4 HWt;generalize hwt:Fe.want gr (Fe.parts gr room S n) S i=wt at *;replace hwt:=ah hwt;generalize (Fe.parts gr room S n).getD (Fe.pl S i) 0=pv at *;generalize Fe.sg gr=way at *;have aiR:(Fe.pl S i:Int)<(Fe.pl S n:Int):=by omega
     simp only[List.setIfInBounds_toArray,List.set_cons_zero,List.set_cons_succ]
     gi_upto_region 9 with(fail)
     refine ak.Nv aF jD jD jD jD (by rintro⟨_,_,hh⟩;exact hh) ?_
     (repeat (first|refine nW ?_ | refine nX ?_ (hc:=by intro w2 hS;first|with_reducible exact J9 hS (fI _ _))|refine nY ?_))
     refine ak.cK ?_;intro w2 hS;rw[HWt.out.1];obtain⟨l4,e0,e1,e2,e3,e4,e5,e6,e7⟩:=(HR2.out.keep hS).2.fields hi;rw[pR (aG _)]at e0 e1 e2 e3 e4;rw[HX.out]at e0 e1 e2 e3 e4;dsimp only at e0 e1 e2 e3 e4;obtain⟨t1,t2⟩:=HWt.out.2;have k1:=(Fe.jQ ⟨x0,x1,x2,x3,x4⟩ wt).1;have k2:=(Fe.jQ ⟨x0,x1,x2,x3,x4⟩ wt).2;obtain⟨cl,hcl⟩:∃cl,cl=Fe.clamp ⟨x0,x1,x2,x3,x4⟩ wt:=⟨_,rfl⟩;rw[<-hcl]at k1 k2;have bF:IntKind.i64.wrap (cl-wt)=cl-wt:=IntWalk.i64_in _ aj;have HCL:=ah hcl;clear hcl e5 e6 e7 d0 d1 d2 d3 d4 r0 r1 r2 hcB hcA hpc
     gi_upto_region 11 with(refine⟨trivial,?_⟩;gi_at_call 131;refine(CallsIn.inRound l (callsIn_wide.2 (Co x0 x1 x2 x3 x4 wt _))).mono ?_;rintro e w7 ⟨rfl,wX⟩;rw[<-HCL.out];have hx7:=Below.ay hS aD wX;clear wX hS e0 e1 e2 e3 e4 l4;obtain⟨l5,-, -, -, -, -, e5,e6,-⟩:=(HR2.out.keep hx7).2.fields hi;have z5:=(HR2.out.keep hx7).2.thaw (i*8+5);have z6:=(HR2.out.keep hx7).2.thaw (i*8+6))
     gi_wp2
     exact FIN.out w7 cl wt HCL.out rfl hx7
end Go.Proofs.YtmidaiklolmkcaaGreat.Fix
namespace Go.Proofs.YtmidaiklolmkcaaGreat.Fix
open Go.ChangeShapes Go.WideShapes Go.ChangeAt Go.RowKit Go.Shelf
attribute [local go_sem] Oper.semAt_some
def Items(w:World)(A:Option Addr)(l:Nat->Fe.It)(n:Nat):Prop :=
 0<n->∃b off,A=some ⟨b,off,none⟩/\b<w.heap.size/\∀k,k<n->w.cell? ⟨b,off+k*5,none⟩=some (.int .i64 (l k).b)/\w.cell? ⟨b,off+k*5+1,none⟩=some (.int .i64 (l k).lo)/\w.cell? ⟨b,off+k*5+2,none⟩=some (.int .i64 (l k).hi)/\w.cell? ⟨b,off+k*5+3,none⟩=some (.int .i64 (l k).g)/\w.cell? ⟨b,off+k*5+4,none⟩=some (.int .i64 (l k).s)
theorem Items.after{W w:World}{A:Option Addr}{l:Nat->Fe.It}{n:Nat}(h:Items W A l n)(hb:Below W.heap.size W w):Items w A l n:=λh0=>by
 obtain⟨b,off,rfl,hl,hc⟩:=h h0;refine⟨b,off,rfl,aV hl hb.size,λk hk => ?_⟩;obtain⟨c0,c1,c2,c3,c4⟩:=hc k hk;exact⟨(hb.cell (p:=⟨b,off+k*5,none⟩) hl).trans c0,(hb.cell (p:=⟨b,off+k*5+1,none⟩) hl).trans c1,(hb.cell (p:=⟨b,off+k*5+2,none⟩) hl).trans c2,(hb.cell (p:=⟨b,off+k*5+3,none⟩) hl).trans c3,(hb.cell (p:=⟨b,off+k*5+4,none⟩) hl).trans c4⟩
theorem sP.step{W:World}{I n k j:Nat}{S:Nat->Fe.St}{s:Fe.St}{v:Value}(t:Fe.St)(h:sP W I n (λi=>if i=k then s else S i))(hk:k<n)(hj:j<8)(hv:JN t j=v)(ho:∀q,q<8->q≠j->JN t q=JN s q) :
  sP (W.setCell ⟨I,k*8+j,none⟩ v) I n (λi=>if i=k then t else S i) :=
 h.put hk hj (by simpa using hv) (λq hq hqn=>by simpa using ho q hq hqn) (λi _ hi=>by simp[hi])
theorem sP.Vl{W:World}{I n k:Nat}{S:Nat->Fe.St}(h:sP W I n S)(hk:k<n)(b lo hi g s z:Int) :
  sP ((((((((W.setCell ⟨I,k*8,none⟩ (.int .i64 b)).setCell ⟨I,k*8+1,none⟩ (.int .i64 lo)).setCell ⟨I,k*8+2,none⟩ (.int .i64 hi)).setCell ⟨I,k*8+3,none⟩ (.int .i64 g)).setCell ⟨I,k*8+4,none⟩ (.int .i64 s)).setCell ⟨I,k*8+5,none⟩ (.int .i64 z)).setCell ⟨I,k*8+6,none⟩ (.int .i64 0)).setCell ⟨I,k*8+7,none⟩ (.bool false)) I n
   (λi=>if i=k then ⟨⟨b,lo,hi,g,s⟩,z,0,false⟩else S i):=by
 have h0:sP W I n (λi=>if i=k then S k else S i):=h.same λi _=>by by_cases e:i=k<;>simp[e]
 generalize S k=s0 at h0;obtain⟨⟨b0,lo0,hi0,g0,s00⟩,z0,m0,f0⟩:=s0;have h1:=h0.step (j:=0) (v:=.int .i64 b) ⟨⟨b,lo0,hi0,g0,s00⟩,z0,m0,f0⟩ hk aj rfl Z4j;have h2:=h1.step (j:=1) (v:=.int .i64 lo) ⟨⟨b,lo,hi0,g0,s00⟩,z0,m0,f0⟩ hk aj rfl Z4j;have h3:=h2.step (j:=2) (v:=.int .i64 hi) ⟨⟨b,lo,hi,g0,s00⟩,z0,m0,f0⟩ hk aj rfl Z4j;have h4:=h3.step (j:=3) (v:=.int .i64 g) ⟨⟨b,lo,hi,g,s00⟩,z0,m0,f0⟩ hk aj rfl Z4j;have h5:=h4.step (j:=4) (v:=.int .i64 s) ⟨⟨b,lo,hi,g,s⟩,z0,m0,f0⟩ hk aj rfl Z4j;have h6:=h5.step (j:=5) (v:=.int .i64 z) ⟨⟨b,lo,hi,g,s⟩,z,m0,f0⟩ hk aj rfl Z4j;have h7:=h6.step (j:=6) (v:=.int .i64 0) ⟨⟨b,lo,hi,g,s⟩,z,0,f0⟩ hk aj rfl Z4j;exact h7.step (j:=7) (v:=.bool false) ⟨⟨b,lo,hi,g,s⟩,z,0,false⟩ hk aj rfl Z4j
theorem At.aey{W:World}{I k c:Nat}{o:Obj}(h:At W c o)(hne:c≠I)(b lo hi g s z:Int):At ((((((((W.setCell ⟨I,k*8,none⟩ (.int .i64 b)).setCell ⟨I,k*8+1,none⟩ (.int .i64 lo)).setCell ⟨I,k*8+2,none⟩ (.int .i64 hi)).setCell ⟨I,k*8+3,none⟩ (.int .i64 g)).setCell ⟨I,k*8+4,none⟩ (.int .i64 s)).setCell ⟨I,k*8+5,none⟩ (.int .i64 z)).setCell ⟨I,k*8+6,none⟩ (.int .i64 0)).setCell ⟨I,k*8+7,none⟩ (.bool false)) c o :=
 (((((((h.off hne _ _).off hne _ _).off hne _ _).off hne _ _).off hne _ _).off hne _ _).off hne _ _).off hne _ _
theorem fA.Vl{W:World}{R I n k:Nat}{room:Int}{gr:Bool}{S T:Nat->Fe.St}(h:fA W R I n room gr (mV S T k))(hk:k<n)(b lo hi g s z:Int)(hT:T k=⟨⟨b,lo,hi,g,s⟩,z,0,false⟩) :
  fA ((((((((W.setCell ⟨I,k*8,none⟩ (.int .i64 b)).setCell ⟨I,k*8+1,none⟩ (.int .i64 lo)).setCell ⟨I,k*8+2,none⟩ (.int .i64 hi)).setCell ⟨I,k*8+3,none⟩ (.int .i64 g)).setCell ⟨I,k*8+4,none⟩ (.int .i64 s)).setCell ⟨I,k*8+5,none⟩ (.int .i64 z)).setCell ⟨I,k*8+6,none⟩ (.int .i64 0)).setCell ⟨I,k*8+7,none⟩ (.bool false)) R I n room gr (mV S T (k+1)) :=
 ⟨At.aey h.1 h.ne b lo hi g s z,(h.2.Vl hk b lo hi g s z).same λi _=>by
  by_cases e:i=k
  . subst e;rw[tN,hT];simp
  . rw[yO _ _ e];simp[e]⟩
theorem Below.Vl{N:Nat}{w W:World}{I k:Nat}(h:Below N w W)(hN:N<=I)(b lo hi g s z:Int):Below N w ((((((((W.setCell ⟨I,k*8,none⟩ (.int .i64 b)).setCell ⟨I,k*8+1,none⟩ (.int .i64 lo)).setCell ⟨I,k*8+2,none⟩ (.int .i64 hi)).setCell ⟨I,k*8+3,none⟩ (.int .i64 g)).setCell ⟨I,k*8+4,none⟩ (.int .i64 s)).setCell ⟨I,k*8+5,none⟩ (.int .i64 z)).setCell ⟨I,k*8+6,none⟩ (.int .i64 0)).setCell ⟨I,k*8+7,none⟩ (.bool false)) :=
 Below.setCell (Below.setCell (Below.setCell (Below.setCell (Below.setCell (Below.setCell (Below.setCell (Below.setCell h hN _) hN _) hN _) hN _) hN _) hN _) hN _) hN _
theorem At.acr{W:World}{b:Nat}{x y z u v:Value}{T:TypeId}(h:At W b (.cells #[x,y,z,u,v] T))(x' y' z' u' v':Value) :
 At (((((W.setCell ⟨b,0,none⟩ x').setCell ⟨b,1,none⟩ y').setCell ⟨b,2,none⟩ z').setCell ⟨b,3,none⟩ u').setCell ⟨b,4,none⟩ v') b (.cells #[x',y',z',u',v'] T):=((((h.set 0 x').set 1 y').set 2 z').set 3 u').set 4 v'
theorem Below.acr{N:Nat}{w W:World}{b:Nat}(h:Below N w W)(hN:N<=b)(x' y' z' u' v':Value):Below N w (((((W.setCell ⟨b,0,none⟩ x').setCell ⟨b,1,none⟩ y').setCell ⟨b,2,none⟩ z').setCell ⟨b,3,none⟩ u').setCell ⟨b,4,none⟩ v') :=
 Below.setCell (Below.setCell (Below.setCell (Below.setCell (Below.setCell h hN _) hN _) hN _) hN _) hN _
theorem RA:(Tryz.prog.info? 249).map (λi=>(i.zero,i.size,i.bytes))=some (some (.agg #[.int .i64 0,.int .i64 0,.int .i64 0,.int .i64 0,.int .i64 0,.int .i64 0,.int .i64 0,.bool false]),8,64):=by kernel_rfl
def Ob:Fe.St:=⟨⟨0,0,0,0,0⟩,0,0,false⟩
theorem Vm(w:World)(n:Nat):sP (w.alloc (.cells (madeCells #[.int .i64 0,.int .i64 0,.int .i64 0,.int .i64 0,.int .i64 0,.int .i64 0,.int .i64 0,.bool false] (n*8)) 249)) w.heap.size n (λ_=>Ob):=by
 refine⟨_,At.new _ _,size_madeCells _ _,λi j hi hj => ?_⟩;have e:(i*8+j)%8=j:=by omega
 have hlt:i*8+j<n*8:=by omega
 simp only[madeCells,Array.getElem?_map,Array.getElem?_range,hlt,if_true,Option.map_some,List.size_toArray,List.length_cons,List.length_nil,Nat.reduceAdd,Nat.zero_add,e];rcases(show j=0\/j=1\/j=2\/j=3\/j=4\/j=5\/j=6\/j=7 by omega)with rfl|rfl|rfl|rfl|rfl|rfl|rfl|rfl<;>rfl
theorem aae(l:Nat->Fe.It)(k:Nat):0<=Fe.yA l k/\Fe.yA l k<=1048576*k:=by
 induction k with
 | zero=>simp[Fe.yA]
 | succ k ih =>
   have:=Fe.jQ (l k) (Fe.cnt (l k)).b;simp only[Fe.yA];constructor<;>omega
theorem vF{F:Fence}{m:Nat}{P:Program}(w:World){ops:Array Oper}{rest:List Oper}{o:Oper}{a:Act}{Q:Exit->Act->World->Prop}(hro:F.round=none)(hw:Region.wanted o (yielded ops a.tmps)=true)
  (l c:Operand) (t:TypeId) (hop:o.op=Op.makeSlice t l c) {v:Value} {w':World} (hrun:(Instr.makeSlice t (a.eval l) (a.eval c)).run P w=.ok v w') (hK:wpListIn F m P ops Q rest (a.put o.dst v) w'):wpListIn F m P ops Q (o::rest) a w:=by
 unfold wpListIn;rw[if_pos hw];unfold Oper.wpIn;refine⟨λf hf => ?_,?_⟩
 . unfold Oper.about at hf
   simp[hop]at hf
 . rw[hro,Oper.semAt_none]
   unfold execOp;simp only[hop,Sem.run_bind,hrun,Result.andThen_ok,Sem.run_pure];exact hK
end Go.Proofs.YtmidaiklolmkcaaGreat.Fix
namespace Go.Proofs.YtmidaiklolmkcaaGreat.Fix
open Go.ChangeShapes Go.WideShapes Go.ChangeAt Go.RowKit Go.Shelf
attribute [local go_sem] Oper.semAt_some
set_option maxRecDepth 100000 in
theorem RD(A:Option Addr)(l:Nat->Fe.It)(n c:Nat)(room:Int)(w:World)(hI:Items w A l n)(hn:n<=64)(hr:0<=room/\room<=67108864) :
  Calls Tryz.prog 160 #[.slice A n c,.int .i64 room] w λe w'=>(∃R I,e=.returned (.pointer (some ⟨R,0,none⟩))/\w.heap.size<=I/\fA w' R I n room (Fe.yB l n room) (Fe.begun (Fe.yB l n room) l))/\Below w.heap.size w w':=by
 have JM:∀(fn:Fn) (first cap:Array Value) (w:World),(Instr.makeFunc fn first cap).run Tryz.prog w=.ok (.func fn first cap) w:=λ_ _ _ _=>rfl;obtain⟨i0,hi0,hz0,hz1,hz2⟩:=info_parts RA;have HI:=ah hI;clear hI;have hrun:=run_make (P:=Tryz.prog) w 245 249 i0 _ Tryz.underlying245 hi0 hz0 .i64 .i64 n n aj (Int.le_refl _) QS aj;rw[hz1,Int.toNat_natCast]at hrun;simp only[Value.cells]at hrun;have Hu:=ah hrun;clear hrun;refine(callsIn_wide (n:=5)).1 ?_;refine callsIn_of_wp_marks Tryz.func160 rfl trivial ?_ rfl;simp only[Tryz.ntmps160,List.size_toArray,List.length_cons,List.length_nil,Nat.reduceAdd,Nat.reduceSub,Array.replicate_succ,Array.replicate_zero,List.push_toArray,List.append_toArray,List.nil_append,List.cons_append]
 gi_upto_region 2 with(refine vF _ rfl aX _ _ 245 rfl Hu.out ?_)
 obtain⟨W0,hA1,wV,hB,hsz,hW⟩:∃W0,At W0 (w.heap.size+1+1) (.cells #[.pointer (some ⟨w.heap.size+1,0,none⟩)] 239)/\fA W0 (w.heap.size+1) w.heap.size n room false (λ_=>Ob)/\Below w.heap.size w W0/\W0.heap.size=w.heap.size+3 /\
   (((w.alloc (.cells (madeCells #[.int .i64 0,.int .i64 0,.int .i64 0,.int .i64 0,.int .i64 0,.int .i64 0,.int .i64 0,.bool false] (n*8)) 249)).alloc (.cells #[.slice (some ⟨w.heap.size,0,none⟩) n n,.int .i64 room,.int .i64 (-1)] 247)).alloc (.cells #[.pointer (some ⟨w.heap.size+1,0,none⟩)] 239))=W0 :=
  ⟨_,At.new' _ eZ,⟨(At.new' (.cells #[.slice (some ⟨w.heap.size,0,none⟩) n n,.int .i64 room,.int .i64 (-1)] 247) eZ).alloc _,((Vm w n).alloc _).alloc _⟩,Below.alloc' (Below.alloc' (Below.alloc' aF _) _) _,by simp,rfl⟩
 rw[hW];clear hW Hu hi0 hz0 hz1 hz2 i0
 gi_wp2
 gi_loopw [6,20] (λs i wr=>∃k:Nat,k<=n/\i=.int .i64 k/\s=.int .i64 (Fe.yA l k)/\fA wr (w.heap.size+1) w.heap.size n room false (mV (λ_=>Ob) (Fe.fresh l) k)/\At wr (w.heap.size+1+1) (.cells #[.pointer (some ⟨w.heap.size+1,0,none⟩)] 239)/\Below w.heap.size w wr) (λ_ i _=>n-(intOf i).toNat)
 case atStart=>exact⟨0,by omega,rfl,rfl,by rw[wB];exact wV,hA1,hB⟩
 case round =>
  obtain⟨k,hk,rfl,rfl,hR,hA,hB⟩:=hrel;have hwr:=hB.size;have ru:=hR.1.lt;have hA1:=hA.lt;by_cases hlt:k<n
  . have hltz:(k:Int)<(n:Int):=by omega
    obtain⟨b,off,rfl,hbl,hc⟩:=(HI.out.after hB) aj;obtain⟨c0,c1,c2,c3,c4⟩:=hc k hlt;clear hc;obtain⟨s1,s2⟩:=aae l k;obtain⟨k1,k2⟩:=Fe.jQ (l k) (Fe.cnt (l k)).b;have HZ:Hid (Fe.yA l (k+1)=Fe.yA l k+Fe.clamp (l k) (Fe.cnt (l k)).b):=ah rfl;have HF:Hid (Fe.fresh l k=⟨Fe.cnt (l k),Fe.clamp (l k) (Fe.cnt (l k)).b,0,false⟩):=ah rfl;have HCC:=ah (Fe.Gh (l k) (Fe.cnt (l k)).b);generalize hl9:l k=x at *;have HX:=ah hl9;clear hl9;generalize hcx:Fe.cnt x=y at *;have HY:=ah hcx;clear hcx;generalize hz:Fe.clamp x y.b=z at *;clear hz;obtain⟨x0,x1,x2,x3,x4⟩:=x;obtain⟨y0,y1,y2,y3,y4⟩:=y;dsimp only at c0 c1 c2 c3 c4 HCC;generalize Fe.yA l k=u at *
    gi_upto_region 6 with(fail)
    obtain⟨W1,qF,hb,hs1,hW⟩:∃W1,At W1 wr.heap.size (.cells #[.int .i64 x0,.int .i64 x1,.int .i64 x2,.int .i64 x3,.int .i64 x4] 166)/\Below wr.heap.size wr W1/\wr.heap.size<W1.heap.size /\
     wr.alloc (.cells #[.int .i64 x0,.int .i64 x1,.int .i64 x2,.int .i64 x3,.int .i64 x4] 166)=W1:=⟨_,At.new _ _,Below.alloc' aF _,by simp,rfl⟩
    rw[hW];clear hW c0 c1 c2 c3 c4;generalize hX9:wr.heap.size=X at *;obtain⟨l9,a0,a1,a2,a3,a4⟩:=qF.five
    gi_upto_region 7 with(refine⟨trivial,?_⟩;gi_at_call 156;refine(callsIn_wide.2 (K6 x0 x1 x2 x3 x4 _)).mono ?_;rintro e w2 ⟨rfl,hb2⟩;rw[HY.out];simp only[enc];clear l9 a0 a1 a2 a3 a4;replace hb:=Below.trans hb (hb2.mono aj);replace qF:=qF.keep hb2;clear hb2;obtain⟨l9,a0,a1,a2,a3,a4⟩:=qF.five;have z0:=qF.thaw 0;have z1:=qF.thaw 1;have z2:=qF.thaw 2;have z3:=qF.thaw 3;have z4:=qF.thaw 4)
    replace qF:=qF.acr (.int .i64 y0) (.int .i64 y1) (.int .i64 y2) (.int .i64 y3) (.int .i64 y4);replace hb:=Below.acr hb (aG X) (.int .i64 y0) (.int .i64 y1) (.int .i64 y2) (.int .i64 y3) (.int .i64 y4);clear l9 a0 a1 a2 a3 a4 z0 z1 z2 z3 z4;generalize World.setCell _ _ _=W2 at *;obtain⟨l9,a0,a1,a2,a3,a4⟩:=qF.five
    gi_upto_region 8 with(refine⟨trivial,?_⟩;gi_at_call 131;refine(callsIn_wide.2 (Co y0 y1 y2 y3 y4 y0 _)).mono ?_;rintro e w3 ⟨rfl,hb3⟩;rw[HCC.out];replace hb:=Below.trans hb (hb3.mono aj);clear l9 a0 a1 a2 a3 a4;replace qF:=qF.keep hb3;clear hb3;obtain⟨l9,a0,a1,a2,a3,a4⟩:=qF.five)
    have wL:=hR.keep (hX9▸hb);have hAw:=hA.keep (hX9▸hb);have hBw:=Below.trans hB (hb.mono aj);obtain⟨g0,r0,-, -⟩:=wL.cells;have cB:_=some (Value.pointer (some ⟨w.heap.size+1,0,none⟩)):=hAw.cell 0;have gB:=hAw.lt;have gI:=wL.2.lt;refine wpIn_wide.2 ?_;refine Q6 9 1 ?_
    (repeat (first|refine nW ?_ | refine nX ?_ (hc:=by intro w2 hS;first|with_reducible exact J9 hS (fI _ _))|refine nY ?_))
    refine ak.dN ?_;intro w2 hS;have NS:=wL.keep hS;have xK:=hAw.keep hS;have p9:=Below.ay hBw aD hS;have h95:=qF.keep hS;obtain⟨gI5,e0,e1,e2,e3,e4,e5,e6,e7⟩:=NS.2.fields hlt;have t0:=NS.2.thaw (k*8);have t1:=NS.2.thaw (k*8+1);have t2:=NS.2.thaw (k*8+2);have t3:=NS.2.thaw (k*8+3);have t4:=NS.2.thaw (k*8+4);have t5:=NS.2.thaw (k*8+5);have t6:=NS.2.thaw (k*8+6);have t7:=NS.2.thaw (k*8+7);refine x9 ?_;intro K hK;go_simp;refine hK _ _ (ak.bV ?_);clear hK K;have hR6:=NS.Vl hlt y0 y1 y2 y3 y4 z HF.out;have xL:=xK.aey (I:=w.heap.size) (k:=k) aj y0 y1 y2 y3 y4 z;have EU:=Below.Vl (I:=w.heap.size) (k:=k) p9 aD y0 y1 y2 y3 y4 z;clear hR hA hB wL hAw hBw NS xK p9 h95 qF hb hS r0 cB e0 e1 e2 e3 e4 e5 e6 e7 t0 t1 t2 t3 t4 t5 t6 t7 l9 a0 a1 a2 a3 a4
    first|generalize World.setCell _ _ _=W6 at * | (trace_state;fail)
    gi_wp2
    go_roundw
    case rel=>exact⟨k+1,by omega,by go_num,by rw[HZ.out],hR6,xL,EU⟩
    case measure=>simp[intOf];omega
  . have hltz:¬ (k:Int)<(n:Int):=by omega
    obtain rfl:k=n:=by omega
    have hR2:fA wr (w.heap.size+1) w.heap.size k room false (Fe.fresh l):=⟨hR.1,hR.2.same (yP _ _ _)⟩;have hne:=hR.ne;obtain⟨g0,-, -, c2⟩:=hR2.cells;have z2:=hR2.1.thaw 2;clear hR;refine(Decidable.em (Fe.yA l k<room)).elim (λhg => ?_) (λhg => ?_)
    all_goals
     first
      | have HG:Hid (Fe.yB l k room=true):=ah (decide_eq_true hg)
      | have HG:Hid (Fe.yB l k room=false):=ah (decide_eq_false hg)
     have cB:wr.cell? ⟨w.heap.size+1+1,0,none⟩=some (.pointer (some ⟨w.heap.size+1,0,none⟩)):=hA.cell 0
     gi_wp2
     first
      | (obtain⟨W7,hR7,MO,Nw,hW⟩:∃W7,fA W7 (w.heap.size+1) w.heap.size k room (Fe.yB l k room) (Fe.fresh l)/\At W7 (w.heap.size+1+1) (.cells #[.pointer (some ⟨w.heap.size+1,0,none⟩)] 239)/\Below w.heap.size w W7/\wr.setCell ⟨w.heap.size+1,2,none⟩ (.int .i64 1)=W7 :=
        ⟨_,by rw[HG.out];exact⟨hR2.1.set 2 _,hR2.2.off aj _⟩,hA.off aj _ _,Below.setCell hB eZ _,rfl⟩
         rw[hW]
         clear hW)
      | (obtain⟨W7,hR7,MO,Nw,hW⟩:∃W7,fA W7 (w.heap.size+1) w.heap.size k room (Fe.yB l k room) (Fe.fresh l)/\At W7 (w.heap.size+1+1) (.cells #[.pointer (some ⟨w.heap.size+1,0,none⟩)] 239)/\Below w.heap.size w W7/\wr=W7 :=
        ⟨_,by rw[HG.out];exact hR2,hA,hB,rfl⟩
         subst hW)
     clear hA1 hR2 z2 c2 wV HI HG cB hA hB hg ru g0 hwr;have hs7:=Nw.size;have hI7:=hR7.2.lt;have hQ7:=MO.lt;have aiS:=hR7.ne
     refine kD (n:=5) (gf:=167) (first:=#[.pointer (some ⟨w.heap.size+1,0,none⟩)]) (lb:=#[]) rfl (enters_of Tryz.func167 jD rfl) k (λi=>(Fe.fresh l i).f) (λi=>#[.int .i64 (Fe.pl (Fe.fresh l) i:Nat),.pointer (some ⟨w.heap.size,i*8,none⟩)]) (λ_=>rfl)
      (λi W=>fA W (w.heap.size+1) w.heap.size k room (Fe.yB l k room) (mV (Fe.fresh l) (Fe.begun (Fe.yB l k room) l) i)/\At W (w.heap.size+1+1) (.cells #[.pointer (some ⟨w.heap.size+1,0,none⟩)] 239)/\Below w.heap.size w W)
      (λW=>False)
      (λi W r o o' h hr hW hc=>⟨h.1.turn aj aj o,h.2.1.turn aj o,Below.turn h.2.2 aj hW o⟩)
      (λW r o o' h hr hW _=>h)
      (λo1 o2=>⟨by rw[wB];exact(hR7.alloc o1).alloc o2,(MO.alloc o1).alloc o2,Below.alloc' (Below.alloc' Nw o1) o2⟩)
      (λlp J Jx W hV hs hY hJ=>rZ 4 (w.heap.size+1) w.heap.size k room (Fe.sg (Fe.yB l k room)) (Fe.fresh l) hn lp J Jx W (λi W h=>(hV i W h).1.mixed) hs hY hJ)
      (λi W hi hf h=>by cases hf)
      (λi t=>((t.setIfInBounds 52 (.int .i64 (Fe.pl (Fe.fresh l) i:Nat))).setIfInBounds 53 (.pointer (some ⟨w.heap.size,i*8,none⟩))).setIfInBounds 11 (.pointer (some ⟨w.heap.size,i*8,none⟩))) ?assign ?body ?done ?stop
     case assign =>
      exact Z1n
     case stop=>exact λD W hD h _=>h.elim
     case body =>
      rintro lp i W hi hf ⟨TF,NV,hB8⟩;have cB:W.cell? ⟨w.heap.size+1+1,0,none⟩=some (.pointer (some ⟨w.heap.size+1,0,none⟩)):=NV.cell 0;have lB:=NV.lt;have hbd:((0<=(mV (Fe.fresh l) (Fe.begun (Fe.yB l k room) l) i i).x.b/\(mV (Fe.fresh l) (Fe.begun (Fe.yB l k room) l) i i).x.b<=1048576)/\0<=(mV (Fe.fresh l) (Fe.begun (Fe.yB l k room) l) i i).z/\(mV (Fe.fresh l) (Fe.begun (Fe.yB l k room) l) i i).z<=1048576):=by
       rw[pR (aG _)];obtain⟨q1,q2,_⟩:=Fe.H8 (l i);exact⟨⟨q1,q2⟩,Fe.jQ (l i) _⟩
      have HST:Hid (Fe.stay (Fe.yB l k room) (mV (Fe.fresh l) (Fe.begun (Fe.yB l k room) l) i i).x (mV (Fe.fresh l) (Fe.begun (Fe.yB l k room) l) i i).z=(Fe.begun (Fe.yB l k room) l i).f):=ah (by rw[pR (aG _)];rfl)
      (simp only[List.setIfInBounds_toArray,List.set_cons_zero,List.set_cons_succ])
      gi_wp2_with (refine⟨trivial,?_⟩;gi_at_call 168;refine(CallsIn.inRound lp (callsIn_wide.2 (Rz _ _ k i room _ _ _ TF hi hbd))).mono ?_;rintro e w9 ⟨rfl,gV⟩;rw[HST.out];have l9:=(TF.keep gV).2.lt;obtain⟨-, -, -, -, -, -, -, -, e7⟩:=(TF.keep gV).2.fields hi;have z7:=(TF.keep gV).2.thaw (i*8+7))
      have hz9:=gV.size;refine⟨(KeepsFrom.of_below gV).trans ((KeepsOthers.setCell _ _ _).from _),⟨(TF.1.keep gV).off aj _ _,?_⟩,(NV.keep gV).off aj _ _,Below.setCell (Below.ay hB8 aj gV) aD _⟩;refine(TF.2.keep gV).put hi aj ?_ ?_ ?_
      . rw[tN];simp[JN]
      . intro q hq hqn
        rw[tN,pR (aG _)];unfold JN
        (repeat' split)<;>first|rfl|omega
      . intro j hj hjn;rw[yO _ _ hjn]
     case done =>
      rintro D W hD ⟨TF,NV,hB8⟩ hK;have cB:W.cell? ⟨w.heap.size+1+1,0,none⟩=some (.pointer (some ⟨w.heap.size+1,0,none⟩)):=NV.cell 0;have lB:=NV.lt
      gi_wp2
      refine⟨by simp,.inl ⟨_,_,rfl,run_takeDeferred hK,?_⟩⟩;exact⟨_,results_tmp rfl _ _ _,⟨w.heap.size+1,w.heap.size,rfl,aG _,⟨(TF.turn aj aj _).1,(TF.turn aj aj _).2.same (yP _ _ _)⟩⟩,Below.turn hB8 aj hK _⟩
end Go.Proofs.YtmidaiklolmkcaaGreat.Fix
