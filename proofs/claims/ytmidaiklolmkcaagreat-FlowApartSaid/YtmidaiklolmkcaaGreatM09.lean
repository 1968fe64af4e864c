/- What functions of the program do, in plain numbers, part 9; no conditions. -/
import Derived.Test.YtmidaiklolmkcaaGreatM06
import Derived.Test.YtmidaiklolmkcaaGreatM08
set_option linter.unusedVariables false
set_option linter.unusedSimpArgs false
set_option linter.unusedSectionVars false
set_option maxRecDepth 100000
set_option maxHeartbeats 16000000
namespace Go.Proofs.YtmidaiklolmkcaaGreat.Fix
open Go.ChangeShapes Go.WideShapes Go.ChangeAt Go.RowKit
def YG(mine:Nat->Prop)(bs bw:Nat):Nat->Prop:=λc=>mine c\/c=bs\/c=bw
theorem Out.trans'{M M':Nat->Prop}{X Y Z:World}(h:Out M X Y)(k:Out M' Y Z)(hm:∀b,b<X.heap.size->M' b->M b):Out M X Z:=⟨h.1.trans k.1,λb hb hn=>(k.2 b (aV hb h.size) (λq=>hn (hm b hb q))).trans (h.2 b hb hn)⟩
theorem Fa{F:FuncId}{caps:Array Value}{f:Nat->Int->Int}{mine:Nat->Prop}{I:List Int->World->Prop}(hA:jF F caps f mine I){bs bw k:Nat}{t:Re.St}{wr:Bool}{w:World}(h:On F caps f I bw bs t k wr w)(hp:dI mine bs bw)(hm:∀b,w.heap.size<=b->¬ mine b)(hk:k<55)(hb:Re.sO k=true) :
  Calls Tryz.prog 120 #[.pointer (some ⟨bw,0,none⟩),.pointer (some ⟨bs,k,none⟩)] w λe w'=>e=.returned (.tuple #[])/\On F caps f I bw bs t (k+1) (wr || !Re.inn (f k (Re.num t k)) 0 1) w'/\Out (YG mine bs bw) w w':=by
 obtain⟨hI,a,aw⟩:=h;have ck:w.cell? ⟨bs,k,none⟩=some (.bool (t.b k)):=(a.cell k).trans (by rw[tH _ hk hb,Iq f t (aG k)]);have lb:=a.lt;have lw:=aw.lt;have hn:Re.num t k=if t.b k=true then 1 else 0:=by unfold Re.num;rw[if_pos hb]
 have HN:=ah hn;obtain⟨y,hy⟩:∃y,y=f k (Re.num t k):=⟨_,rfl⟩;have HY:=ah hy;obtain⟨q,hq⟩:∃q,q=t.b k:=⟨_,rfl⟩;rw[<-hq]at ck hn;have HQ:=ah hq;clear hy hn hq;have HK:=ah hk;have HB:=ah hb;clear hk hb;have hp2:dI mine w.heap.size bw:=⟨hm _ aD,hp.nw,by omega⟩;have hne:bs≠w.heap.size:=by omega
 cases q
 . have hx:Re.num t k=0:=by rw[HN.out,<-HQ.out];rfl
   have HX:=ah hx;clear hx;go_enter Tryz.func120,Tryz.ntmps120
   go_wp2_with (go_at_call 117;(with_reducible refine(vD (y:=y) hA (⟨hA.keep _ _ _ hI (Below.alloc' aF _),At.new _ _,aw.alloc _⟩:Here F caps I bw w.heap.size 3 #[.int .i64 0] wr (ins t k) _) hp2 (by rw[sZ];exact HK.out) rfl (by rw[sZ,<-HX.out];exact HY.out)).mono ?_);rintro e w2 ⟨rfl,h2,hO2⟩;have a2:=At.out (a.alloc _) (λq=>q.elim hp.nb λq=>q.elim hne hp.ne) hO2;have c2:w2.cell? ⟨w.heap.size,0,none⟩=some (.int .i64 y):=(h2.a.cell 0).trans rfl;have ck2:w2.cell? ⟨bs,k,none⟩=some (.bool false):=(a2.cell k).trans (by rw[tH _ HK.out HB.out,Iq f t (aG k),<-HQ.out]);have z2:=a2.thaw k)
   exact Z1p
 . have hx:Re.num t k=1:=by rw[HN.out,<-HQ.out];rfl
   have HX:=ah hx;clear hx;go_enter Tryz.func120,Tryz.ntmps120
   go_wp2_with (go_at_call 117;(with_reducible refine(vD (y:=y) hA (⟨hA.keep _ _ _ hI (Below.alloc' aF _),At.new _ _,aw.alloc _⟩:Here F caps I bw w.heap.size 3 #[.int .i64 1] wr (ins t k) _) hp2 (by rw[sZ];exact HK.out) rfl (by rw[sZ,<-HX.out];exact HY.out)).mono ?_);rintro e w2 ⟨rfl,h2,hO2⟩;have a2:=At.out (a.alloc _) (λq=>q.elim hp.nb λq=>q.elim hne hp.ne) hO2;have c2:w2.cell? ⟨w.heap.size,0,none⟩=some (.int .i64 y):=(h2.a.cell 0).trans rfl;have ck2:w2.cell? ⟨bs,k,none⟩=some (.bool true):=(a2.cell k).trans (by rw[tH _ HK.out HB.out,Iq f t (aG k),<-HQ.out]);have z2:=a2.thaw k)
   exact Z1p
theorem DK{F:FuncId}{caps:Array Value}{f:Nat->Int->Int}{mine:Nat->Prop}{I:List Int->World->Prop}(hA:jF F caps f mine I){bs bw:Nat}{t:Re.St}{wr:Bool}{w:World}(h:On F caps f I bw bs t 15 wr w)(hp:dI mine bs bw) :
  Calls Tryz.prog 115 #[.pointer (some ⟨bw,0,none⟩),.pointer (some ⟨bs,15,none⟩)] w λe w'=>e=.returned (.tuple #[])/\On F caps f I bw bs t (15+8) ((((wr || !Fx.valid (f 15 (Re.num t 15)) (f (15+1) (Re.num t (15+1)))) || !Fx.valid (f (15+2) (Re.num t (15+2))) (f (15+3) (Re.num t (15+3)))) || !Fx.valid (f (15+4) (Re.num t (15+4))) (f (15+5) (Re.num t (15+5)))) || !Fx.valid (f (15+6) (Re.num t (15+6))) (f (15+7) (Re.num t (15+7)))) w'/\Out (YG mine bs bw) w w':=by
 exact Z15
theorem DL{F:FuncId}{caps:Array Value}{f:Nat->Int->Int}{mine:Nat->Prop}{I:List Int->World->Prop}(hA:jF F caps f mine I){bs bw:Nat}{t:Re.St}{wr:Bool}{w:World}(h:On F caps f I bw bs t 23 wr w)(hp:dI mine bs bw) :
  Calls Tryz.prog 115 #[.pointer (some ⟨bw,0,none⟩),.pointer (some ⟨bs,23,none⟩)] w λe w'=>e=.returned (.tuple #[])/\On F caps f I bw bs t (23+8) ((((wr || !Fx.valid (f 23 (Re.num t 23)) (f (23+1) (Re.num t (23+1)))) || !Fx.valid (f (23+2) (Re.num t (23+2))) (f (23+3) (Re.num t (23+3)))) || !Fx.valid (f (23+4) (Re.num t (23+4))) (f (23+5) (Re.num t (23+5)))) || !Fx.valid (f (23+6) (Re.num t (23+6))) (f (23+7) (Re.num t (23+7)))) w'/\Out (YG mine bs bw) w w':=by
 exact Z15
theorem BG{F:FuncId}{caps:Array Value}{f:Nat->Int->Int}{mine:Nat->Prop}{I:List Int->World->Prop}(hA:jF F caps f mine I){bs bw:Nat}{t:Re.St}{wr:Bool}{w:World}(h:On F caps f I bw bs t 31 wr w)(hp:dI mine bs bw) :
  Calls Tryz.prog 116 #[.pointer (some ⟨bw,0,none⟩),.pointer (some ⟨bs,31,none⟩)] w λe w'=>e=.returned (.tuple #[])/\On F caps f I bw bs t (31+4) ((((wr || !Re.inn (f 31 (Re.num t 31)) 0 1048576) || !Re.inn (f (31+1) (Re.num t (31+1))) 0 1048576) || !Re.inn (f (31+2) (Re.num t (31+2))) 0 1048576) || !Re.inn (f (31+3) (Re.num t (31+3))) 0 1048576) w'/\Out (YG mine bs bw) w w':=by
 exact Z17
theorem BH{F:FuncId}{caps:Array Value}{f:Nat->Int->Int}{mine:Nat->Prop}{I:List Int->World->Prop}(hA:jF F caps f mine I){bs bw:Nat}{t:Re.St}{wr:Bool}{w:World}(h:On F caps f I bw bs t 35 wr w)(hp:dI mine bs bw) :
  Calls Tryz.prog 116 #[.pointer (some ⟨bw,0,none⟩),.pointer (some ⟨bs,35,none⟩)] w λe w'=>e=.returned (.tuple #[])/\On F caps f I bw bs t (35+4) ((((wr || !Re.inn (f 35 (Re.num t 35)) 0 1048576) || !Re.inn (f (35+1) (Re.num t (35+1))) 0 1048576) || !Re.inn (f (35+2) (Re.num t (35+2))) 0 1048576) || !Re.inn (f (35+3) (Re.num t (35+3))) 0 1048576) w'/\Out (YG mine bs bw) w w':=by
 exact Z17
def zS(n:Nat->Int):Bool:=((((((((((((((((((((((((((((((((((((((((false || !Re.inn (n 0) 0 3) || !Re.inn (n 1) 0 4) || !Re.inn (n 2) 0 2) || !Fx.valid (n 3) (n 4)) || !Fx.valid (n 5) (n 6)) || !Fx.valid (n 7) (n 8)) || !Fx.valid (n 9) (n 10)) || !Fx.valid (n 11) (n 12)) || !Fx.valid (n 13) (n 14)) || !Fx.valid (n 15) (n 16)) || !Fx.valid (n 17) (n 18)) || !Fx.valid (n 19) (n 20)) || !Fx.valid (n 21) (n 22)) || !Fx.valid (n 23) (n 24)) || !Fx.valid (n 25) (n 26)) || !Fx.valid (n 27) (n 28)) || !Fx.valid (n 29) (n 30)) || !Re.inn (n 31) 0 1048576) || !Re.inn (n 32) 0 1048576) || !Re.inn (n 33) 0 1048576) || !Re.inn (n 34) 0 1048576) || !Re.inn (n 35) 0 1048576) || !Re.inn (n 36) 0 1048576) || !Re.inn (n 37) 0 1048576) || !Re.inn (n 38) 0 1048576) || !Re.inn (n 39) 0 1000) || !Re.inn (n 40) 0 1000) || !Fx.valid (n 41) (n 42)) || !Re.inn (n 43) 0 5) || !Re.inn (n 44) 0 3) || !Re.inn (n 45) 0 1) || !Re.inn (n 46) 0 1048576) || !Re.inn (n 47) 0 1) || !Re.inn (n 48) (-1048576) 1048576) || !Re.inn (n 49) 0 2) || !Re.inn (n 50) 0 3) || !Re.inn (n 51) 0 1) || !Re.inn (n 52) 0 1) || !Re.inn (n 53) 0 1048576) || !Re.inn (n 54) 0 1048576)
theorem IE(n:Nat->Int)(b:Nat->Bool):(!zS n)=(Re.valid ⟨n,b⟩&&(Re.inn (n 45) 0 1&&Re.inn (n 47) 0 1&&Re.inn (n 51) 0 1&&Re.inn (n 52) 0 1)):=by
 unfold zS Re.valid Re.gD Re.CW Re.xD Re.lens Re.sizes;simp only[Bool.not_or,Bool.not_not,Bool.not_false,Bool.true_and,List.all_cons,List.all_nil,Bool.and_true,Nat.reduceAdd]
 ac_rfl
theorem Fg{F:FuncId}{caps:Array Value}{f:Nat->Int->Int}{mine:Nat->Prop}{I:List Int->World->Prop}(hA:jF F caps f mine I){bs bw:Nat}{t:Re.St}{w:World}(hS:On F caps f I bw bs t 0 false w)(hp:dI mine bs bw)(hm:∀b,w.heap.size<=b->¬ mine b) :
  Calls Tryz.prog 80 #[.pointer (some ⟨bw,0,none⟩),.pointer (some ⟨bs,0,none⟩)] w λe w'=>e=.returned (.tuple #[])/\On F caps f I bw bs t 55 (zS λi=>f i (Re.num t i)) w'/\Out (YG mine bs bw) w w':=by
 have hO:Out (YG mine bs bw) w w:=Out.refl _ _;go_enter Tryz.func80,Tryz.ntmps80
 go_wp2_with (first|(go_at_call 111;(with_reducible refine(ZP hA hS hp aH rfl).mono ?_);rintro e w1 ⟨rfl,h1,iA⟩;replace hO:=hO.trans iA;replace hS:=h1;clear h1 iA;simp only[Nat.reduceAdd]at hS)|(go_at_call 112;(with_reducible refine(ZQ hA hS hp aH rfl).mono ?_);rintro e w1 ⟨rfl,h1,iA⟩;replace hO:=hO.trans iA;replace hS:=h1;clear h1 iA;simp only[Nat.reduceAdd]at hS)|(go_at_call 113;(with_reducible refine(ZR hA hS hp aH rfl).mono ?_);rintro e w1 ⟨rfl,h1,iA⟩;replace hO:=hO.trans iA;replace hS:=h1;clear h1 iA;simp only[Nat.reduceAdd]at hS)|(go_at_call 114;(with_reducible refine(rM hA hS hp aH rfl rfl).mono ?_);rintro e w1 ⟨rfl,h1,iA⟩;replace hO:=hO.trans iA;replace hS:=h1;clear h1 iA;simp only[Nat.reduceAdd]at hS)|(go_at_call 115;(with_reducible refine(DK hA hS hp).mono ?_);rintro e w1 ⟨rfl,h1,iA⟩;replace hO:=hO.trans iA;replace hS:=h1;clear h1 iA;simp only[Nat.reduceAdd]at hS)|(go_at_call 115;(with_reducible refine(DL hA hS hp).mono ?_);rintro e w1 ⟨rfl,h1,iA⟩;replace hO:=hO.trans iA;replace hS:=h1;clear h1 iA;simp only[Nat.reduceAdd]at hS)|(go_at_call 116;(with_reducible refine(BG hA hS hp).mono ?_);rintro e w1 ⟨rfl,h1,iA⟩;replace hO:=hO.trans iA;replace hS:=h1;clear h1 iA;simp only[Nat.reduceAdd]at hS)|(go_at_call 116;(with_reducible refine(BH hA hS hp).mono ?_);rintro e w1 ⟨rfl,h1,iA⟩;replace hO:=hO.trans iA;replace hS:=h1;clear h1 iA;simp only[Nat.reduceAdd]at hS)|(go_at_call 117;(with_reducible refine(yg hA hS hp aH rfl).mono ?_);rintro e w1 ⟨rfl,h1,iA⟩;replace hO:=hO.trans iA;replace hS:=h1;clear h1 iA;simp only[Nat.reduceAdd]at hS)|(go_at_call 118;(with_reducible refine(ZT hA hS hp aH rfl).mono ?_);rintro e w1 ⟨rfl,h1,iA⟩;replace hO:=hO.trans iA;replace hS:=h1;clear h1 iA;simp only[Nat.reduceAdd]at hS)|(go_at_call 119;(with_reducible refine(ZU hA hS hp aH rfl).mono ?_);rintro e w1 ⟨rfl,h1,iA⟩;replace hO:=hO.trans iA;replace hS:=h1;clear h1 iA;simp only[Nat.reduceAdd]at hS)|(go_at_call 120;(with_reducible refine(Fa hA hS hp (λb hb=>hm b (aJ hO.size hb)) aH rfl).mono ?_);rintro e w1 ⟨rfl,h1,iA⟩;replace hO:=hO.trans iA;replace hS:=h1;clear h1 iA;simp only[Nat.reduceAdd]at hS)|(go_at_call 121;(with_reducible refine(ZV hA hS hp aH rfl).mono ?_);rintro e w1 ⟨rfl,h1,iA⟩;replace hO:=hO.trans iA;replace hS:=h1;clear h1 iA;simp only[Nat.reduceAdd]at hS)|(go_at_call 122;(with_reducible refine(ZW hA hS hp aH rfl).mono ?_);rintro e w1 ⟨rfl,h1,iA⟩;replace hO:=hO.trans iA;replace hS:=h1;clear h1 iA;simp only[Nat.reduceAdd]at hS))
 go_end0
 exact⟨rfl,hS,hO⟩
theorem KQ{F:FuncId}{caps:Array Value}{f:Nat->Int->Int}{mine:Nat->Prop}{I:List Int->World->Prop}(hA:jF F caps f mine I){bs:Nat}{t:Re.St}{w:World}(hI:I [] w)(a:At w bs (.cells (cells t) 46))(hb:¬ mine bs)(hm:∀b,w.heap.size<=b->¬ mine b) :
  Calls Tryz.prog 55 #[.pointer (some ⟨bs,0,none⟩),.func (.func F) #[] caps] w λe w'=>e=.returned (.bool (!zS λi=>f i (Re.num t i)))/\I (ins t 55) w'/\At w' bs (.cells (cells (mix f t 55)) 46)/\Out (λc=>mine c\/c=bs) w w':=by
 have lb:=a.lt;have hp:dI mine bs w.heap.size:=⟨hb,hm _ aD,by omega⟩;have hS0:On F caps f I w.heap.size bs t 0 false (w.alloc (.cells #[.func (.func F) #[] caps,.bool false] 150)):=⟨hA.keep _ _ _ hI (Below.alloc' aF _),by rw[UH];exact a.alloc _,At.new _ _⟩;generalize hr:(zS λi=>f i (Re.num t i))=r;go_enter Tryz.func55,Tryz.ntmps55
 go_wp2_with (go_at_call 80;(with_reducible refine(Fg hA hS0 hp (λb hb=>hm b (by simp at hb;omega))).mono ?_);rintro e w2 ⟨rfl,hS,hO⟩;rw[hr]at hS;have c1:=hS.w.cell 1;simp at c1)
 go_ret
 exact⟨rfl,hS.i,hS.a,Out.trans' (Out.of_below (Below.alloc' aF _)) hO λb hb q=>q.elim .inl λq=>q.elim .inr λq=>absurd q (dB hb)⟩
theorem NW:jF 56 #[] (λ_ x=>x) (λ_=>False) (λ_ _=>True) where
 keep:=λ_ _ _ _ _=>trivial
 set:=λ_ _ _ _ _ _ _=>trivial
 enters:=λ_ _=>rfl
 call:=λxs x W _ _=>by
  show Calls Tryz.prog 56 #[.int .i64 x] W _;go_enter Tryz.func56,Tryz.ntmps56
  go_wp2
  go_ret
  exact⟨rfl,trivial,Out.refl _ _⟩
theorem IG(t:Re.St):(!zS λi=>Re.num t i)=Re.valid t:=by
 rw[IE _ t.b]
 have hb:∀i,Re.sO i=true->Re.inn (Re.num t i) 0 1=true:=λi hi=>by
  rw[Re.Hy];unfold Re.num;rw[if_pos hi];split<;>omega
 rw[hb 45 rfl,hb 47 rfl,hb 51 rfl,hb 52 rfl];simp only[Bool.and_true]
 exact Re.Nb λi hi=>by
  by_cases e:Re.sO i=true
  . rw[if_pos e]
  . rw[if_neg e];exact Re.JI (by simpa using e)
theorem II(t:Re.St)(w:World):Calls Tryz.prog 32 #[.agg (cells t)] w λe w'=>e=.returned (.bool (Re.valid t))/\Below w.heap.size w w':=by
 generalize hr:Re.valid t=r;rw[<-IG]at hr;go_enter Tryz.func32,Tryz.ntmps32
 go_wp2_with (go_at_call 55;(with_reducible refine(KQ NW trivial (At.new _ _) (λq=>q) (λ_ _ q=>q)).mono ?_);rintro e w2 ⟨rfl,_,_,hO⟩;rw[hr])
 go_ret
 exact⟨rfl,(Below.alloc' aF _).trans (hO.below eZ λb hb q=>q.elim id (dB hb))⟩
end Go.Proofs.YtmidaiklolmkcaaGreat.Fix
namespace Go.Proofs.YtmidaiklolmkcaaGreat.Fix
open Go.ChangeShapes Go.WideShapes Go.ChangeAt Go.RowKit Go.Shelf
theorem wpList_build{ops:Array Oper}{rest:List Oper}{o:Oper}{a:Act}{w:World}{Q:Exit->Act->World->Prop}(hw:Region.wanted o (yielded ops a.tmps)=true)(t:TypeId)(ps:Array (Nat×Operand))(ho:o.op=.build t ps){v:Value}(qs:Array (Nat×Value))(hq:(ps.map λp=>(p.1,a.eval p.2))=qs)
  (hrun:(Instr.build t qs).run Tryz.prog w=.ok v w) (h:wpList Tryz.prog ops Q rest (a.put o.dst v) w):wpList Tryz.prog ops Q (o::rest) a w :=
 eu hw (by unfold execOp;simp only[ho,hq,Sem.run_bind,hrun,Result.andThen_ok,Sem.run_pure]) h
def T0:Tr.T:=λz=>if z=0 then some ⟨-1,[],Re.zero⟩else none
theorem Vd(w:World):Calls Tryz.prog 14 #[] w λe w'=>(∃t,e=.returned (.pointer (some ⟨t,0,none⟩))/\∃L,fV w' t L T0 1/\∀b,owned t L T0 b->w.heap.size<=b)/\Below w.heap.size w w':=by
 have hmm:=@run_makeMap Tryz.prog;have p0:=(PM.made w).out (M:=λ_=>False) (λq=>q) (Out.of_below (Below.alloc' aF (.cells (cu (-1) (.slice none 0 0) Re.zero) 90)));have hb0:At ((w.alloc (.map #[] 0)).alloc (.cells (cu (-1) (.slice none 0 0) Re.zero) 90)) (w.heap.size+1) (.cells (cu (-1) (.slice none 0 0) Re.zero) 90):=At.new' _ eZ;have hB0:Below w.heap.size w ((w.alloc (.map #[] 0)).alloc (.cells (cu (-1) (.slice none 0 0) Re.zero) 90)):=Below.alloc' (Below.alloc' aF _) _;obtain⟨W2,hmu,p2,ho⟩:=p0.store (by simp[maxLen]) (z:=0) Z51 rfl (w.heap.size+1);have hlm:=p0.lt;have hA2:=hb0.out (M:=λx=>x=w.heap.size) eZ ho;have hB2:Below w.heap.size w W2:=hB0.trans (ho.below jM λb hb (q:b=_)=>by omega);have hs2:=ho.size;simp only[World.size_alloc]at hs2;have hB3:Below w.heap.size w (W2.alloc (.cells #[.map (some w.heap.size)] 94)):=Below.alloc' hB2 _
 have hR:Hid (fV (W2.alloc (.cells #[.map (some w.heap.size)] 94)) W2.heap.size ⟨w.heap.size,λ_=>w.heap.size+1,λ_ => .slice none 0 0⟩ T0 1/\∀b,owned W2.heap.size ⟨w.heap.size,λ_=>w.heap.size+1,λ_ => .slice none 0 0⟩ T0 b->w.heap.size<=b):=ah (by
  have live:∀z,T0 z≠none->z=0:=λz hz=>by
   unfold T0 at hz;split at hz
   . assumption
   . exact absurd rfl hz
  have some_:∀z nd,T0 z=some nd->z=0/\nd=⟨-1,[],Re.zero⟩:=λz nd hz=>by
   unfold T0 at hz;split at hz
   . injection hz with hz;exact⟨by assumption,hz.symm⟩
   . cases hz
  refine⟨⟨At.new _ _,(p2.out (M:=λ_=>False) (λq=>q) (Out.of_below (Below.alloc' aF _))).congr λz _ => ?_,λz nd hz => ?_,λz nd hz => ?_,λy z hy hz _=>by rw[live y hy,live z hz],λy z g hy hz h _=>(by cases h),λz nd hz => ?_⟩,λb hb => ?_⟩
  . unfold NK T0
    by_cases e:z=0<;>simp[e]
  . obtain⟨rfl,rfl⟩:=some_ z nd hz
    exact hA2.alloc _
  . obtain⟨rfl,rfl⟩:=some_ z nd hz
    exact KS.nil _
  . obtain⟨rfl,rfl⟩:=some_ z nd hz
    simp
  . rcases hb with rfl|rfl|⟨z,nd,hz,rfl|hb⟩
    . omega
    . exact aG _
    . simp
    . cases hb)
 clear p0 hb0 hB0 p2 ho hlm hA2 hB2 hs2;go_enter Tryz.func14,Tryz.ntmps14
 go_wp2_with (first|(refine wpList_build aX 90 _ rfl #[(0,.int .i64 (-1))] YD (IC _ _) ?_)|(refine wpList_build aX 94 _ rfl #[(0,.map (some w.heap.size))] YD (NP _ _) ?_))
 go_ret
 exact⟨⟨_,rfl,_,hR.out.1,hR.out.2⟩,hB3⟩
theorem Ru{W:World}{b:Nat}{u:Int}{v:Value}{s:Re.St}(h:At W b (.cells (cu u v s) 90))(t:Re.St):(Instr.storeAt 46 (.pointer (some ⟨b,2,none⟩)) (.agg (cells t))).run Tryz.prog W=.ok () (W.setRow b (cu u v t)):=by
 have hz:(sizeOf 46).run Tryz.prog W=.ok 55 W:=by kernel_rfl
 have hst:=run_storeCells_at Tryz.prog b 2 90 (cells t).toList 0 (cu u v s) W h (by rw[AA,Array.length_toList,bI];omega) (λx hx=>by
  have:=Array.all_eq_true_iff_forall_mem.1 (cells_one t) x (by simpa using hx);exact this)
 have e:((cu u v s).toList.take (2+0)++(cells t).toList++(cu u v s).toList.drop (2+0+(cells t).toList.length)).toArray=cu u v t:=by
  apply Array.ext';rw[Array.length_toList,bI];have h1:(cu u v s).toList.drop (2+0+55)=[]:=List.drop_of_length_le (by rw[Array.length_toList,AA];omega);rw[h1];simp[cu]
 rw[e]at hst;have hc:(Value.agg (cells t)).cells=cells t:=rfl;simp only[Instr.storeAt,Instr.sureAddr,storeVar,Sem.run_bind,Sem.run_pure,Result.andThen_ok,hz,hc,bI,ne_eq,not_true_eq_false,if_false,hst]
theorem sS{w w':World}{o:Oper}{a:Act}{t:TypeId}(x y:Operand)(ho:o.op=.store t x y){p v:Value}(hx:a.eval x=p)(hy:a.eval y=v)(hrun:(Instr.storeAt t p v).run Tryz.prog w=.ok () w'):(execOp a.eval o).run Tryz.prog w=.ok .skip w':=by
 unfold execOp;simp only[ho,hx,hy,Sem.run_bind,hrun,Result.andThen_ok,Sem.run_pure]
theorem kI{ops:Array Oper}{S:World->Prop}{o:Oper}{a:Act}(hw:Region.wanted o (yielded ops a.tmps)=true)(x:Operand)(ho:o.op=.load 46 x){b:Nat}(hx:a.eval x=.pointer (some ⟨b,0,none⟩)){s:Re.St}(hs:∀w,S w->At w b (.cells (cells s) 46)):ak.Reads Tryz.prog ops S o (.agg (cells s)) a :=
 .inl ⟨hw,λw h=>by unfold execOp;simp only[ho,hx,Sem.run_bind,Dl (hs w h),Result.andThen_ok,Sem.run_pure]⟩
def qp(T:Tr.T)(z:Int)(s:Re.St):Int:=if (T z).isSome=false then 2 else if Re.valid s=false then 1 else 0
def jv(T:Tr.T)(z:Int)(s:Re.St):Tr.T:=if qp T z s=0 then Tr.yE T z s else T
theorem Ve{w:World}{t n:Nat}{L:Lay}{T:Tr.T}(h:fV w t L T n){z:Int}(hz:Wf z)(s:Re.St):Calls Tryz.prog 13 #[.pointer (some ⟨t,0,none⟩),.int .i64 z,.agg (cells s)] w λe w'=>e=.returned (.int .i64 (qp T z s))/\fV w' t L (jv T z s) n/\Grow t L L T (jv T z s) w w':=by
 have hB:Below w.heap.size w (w.alloc (.cells (cells s) 46)):=Below.alloc' aF _;have h1:=h.after hB;have hA:At (w.alloc (.cells (cells s) 46)) w.heap.size (.cells (cells s) 46):=At.new _ _;generalize hW:w.alloc (.cells (cells s) 46)=w1 at *;have key:=gP h1 hz;cases hT:T z with
 | none =>
   have hE:qp T z s=2:=by unfold qp;rw[hT];rfl
   have hS:jv T z s=T:=by unfold jv;rw[hE];rfl
   rw[hT]at key;rw[hE,hS];have HR:=ah h1;have HB:=ah hB;clear h h1 hB hE hS;go_enter Tryz.func13,Tryz.ntmps13
   go_wp2_with (go_at_call 12;(with_reducible refine key.mono ?_);rintro e w' ⟨rfl,rfl⟩)
   go_ret
   exact⟨rfl,HR.out,Grow.of_below HB.out⟩
 | some nd =>
   rw[hT]at key;have key2:=II s w1;cases hv:Re.valid s with
   | false =>
     have hE:qp T z s=1:=by unfold qp;rw[hT,hv];rfl
     have hS:jv T z s=T:=by unfold jv;rw[hE];rfl
     rw[hv]at key2;rw[hE,hS];have HR:=ah h1;have HB:=ah hB;clear h h1 hB hE hS;go_enter Tryz.func13,Tryz.ntmps13
     go_wp2_with (first|(refine bq aX _ rfl rfl hA ?_)|(go_at_call 12;(with_reducible refine key.mono ?_);rintro e w' ⟨rfl,rfl⟩)|(go_at_call 32;(with_reducible refine key2.mono ?_);rintro e w2 ⟨rfl,hb2⟩))
     go_ret
     exact⟨rfl,HR.out.after hb2,Grow.of_below (HB.out.trans (hb2.mono HB.out.size))⟩
   | true =>
     have hE:qp T z s=0:=by unfold qp;rw[hT,hv];rfl
     have hS:jv T z s=Tr.set T z { nd with sty:=s }:=by unfold jv Tr.yE;rw[hE,hT];rfl
     rw[hv]at key2;rw[hE,hS];have HR:=ah h1;have HB:=ah hB;have HA:=ah hA;clear h h1 hB hE hS;go_enter Tryz.func13,Tryz.ntmps13
     go_upto_region 5 with(first|(refine bq aX _ rfl rfl hA ?_)|(go_at_call 12;(with_reducible refine key.mono ?_);rintro e w' ⟨rfl,rfl⟩)|(go_at_call 32;(with_reducible refine key2.mono ?_);rintro e w2 ⟨rfl,hb2⟩))
     have hR2:=(HR.out.after hb2).after (Below.refl _ w2).drew;have hA2:At w2.drew w.heap.size (.cells (cells s) 46):=(hA.keep hb2).drew;have hO2:Below w.heap.size w w2.drew:=(HB.out.trans (hb2.mono HB.out.size)).drew;have hne:L.bl z≠w.heap.size:=λe=>by have:=(hR2.box z nd hT).uniq (e▸hA2);injection this with _ e2;exact absurd e2 aH
     obtain⟨EW,hG3⟩:=hR2.NQ (s:=s) hT;have hst:=Ru (hR2.box z nd hT) s;have hA3:=hA2.nG hne.symm (cu nd.up (L.sl z) s);generalize hW2:w2.drew=W2 at *;have hS0:W2.cell? ⟨t,0,none⟩=some (.map (some L.mb))/\(Instr.lookup 92 (.map (some L.mb)) (.int .i64 z) false).run Tryz.prog W2=.ok (.pointer (some ⟨L.bl z,0,none⟩)) W2/\At W2 w.heap.size (.cells (cells s) 46):=⟨hR2.cT,hR2.gN hT,hA2⟩;have uN:=ah (show _/\_/\At (W2.setRow (L.bl z) (cu nd.up (L.sl z) s)) w.heap.size (.cells (cells s) 46)from⟨EW.cT,EW.gN (Tr.aN _ _ _),hA3⟩);have HST:=ah hst;have HR3:=ah EW;have HG3:=ah ((Grow.of_below hO2).trans hG3);clear hR2 hA2 hO2 EW hG3 hst hA3 HR HB hA hb2;generalize W2.setRow (L.bl z) (cu nd.up (L.sl z) s)=W3 at *;refine ak.qX (S:=(λW'=>W'.cell? ⟨t,0,none⟩=some (.map (some L.mb))/\(Instr.lookup 92 (.map (some L.mb)) (.int .i64 z) false).run Tryz.prog W'=.ok (.pointer (some ⟨L.bl z,0,none⟩)) W'/\At W' w.heap.size (.cells (cells s) 46))) 10 jD ?_ ?_
     . rw[hW2];exact hS0
     intro hS1;rw[hW2];clear hS1 hW2;refine aW 0 ?_;refine aW 1 ?_;refine aW 2 ?_;refine aW 3 ?_;refine aW 4 ?_;refine rO 5 rfl (eB aX rfl rfl rfl (λW h=>h.2.1)) ?_;refine rO 6 rfl (kI aX (.tmp 5) rfl rfl (λW h=>h.2.2)) ?_;refine aW 7 ?_;refine aW 8 ?_;refine tk1 9 ?_;refine ak.Step.skip (sS (.tmp 24) (.tmp 22) rfl rfl rfl HST.out) ?_;refine⟨λ_=>uN.out,?_⟩
     (try simp only[bL,bM,bN,tks])
     refine ko ?_;go_wp2
     go_ret
     exact⟨rfl,HR3.out,HG3.out⟩
theorem DN{w:World}{t n:Nat}{L:Lay}{T:Tr.T}(h:fV w t L T n){x:Int}{nd p:Tr.Nd}(hx:T x=some nd)(hp:T nd.up=some p){i:Nat}(hi:p.kids[i]? = some x)(hn:p.kids.Nodup) :
  Calls Tryz.prog 58 #[.pointer (some ⟨t,0,none⟩),.int .i64 x] w λe w'=>(∃v,e=.returned v)/\∃L',fV w' t L' (Tr.leave T x) n/\Grow t L L' T (Tr.leave T x) w w':=by
 obtain⟨hlt,hie⟩:=List.getElem?_eq_some_iff.1 hi;have hpk:=(h.small nd.up p hp).2.2.2.2;have hw:Wf x:=h.wf hx;have hwu:Wf nd.up:=h.wf hp;have hrow:=h.row nd.up p hp
 have hf:∀j,j<i->p.kids[j]? ≠ some x:=λj hj e=>by
  obtain⟨hj2,he⟩:=List.getElem?_eq_some_iff.1 e;have:=(List.getElem_inj hn).1 (he.trans hie.symm);omega
 have key2:=λW (hb:KS W (L.sl nd.up) p.kids)=>Rl hb hi hf;have hleave:Tr.leave T x=Tr.set T nd.up { p with kids:=Tr.wo p.kids x }:=by unfold Tr.leave;rw[hx];simp only[hp]
 have hwo:=Tr.Ux hn hi;rw[hleave];rcases hrow.cases with⟨_,h0⟩|⟨g,c,hsl,hrw⟩
 . rw[h0]at hlt;simp at hlt
 rw[hsl]at key2;have aew:=λW (hb:Rw W g c p.kids)=>NH (w:=W) hb (i:=i) (j:=i+1) aj aj;clear hie;generalize hlen:p.kids.length=m at *;have hup:Hid (rY T x=nd.up):=ah (by unfold rY;rw[hx]);have key1:=λW (hr:fV W t L T n)=>Ck hr hw;rw[hup.out]at key1;generalize hu:nd.up=u at *;have HP:=ah hp;have HR:=ah h;have ZX:=ah key2;have HK3:=ah aew;have HSL:=ah hsl;have HWO:=ah hwo;have HLEN:=ah hlen;have hw1:IntKind.i64.wrap ((i:Int)+1)=((i+1:Nat):Int):=by rw[IntWalk.i64_in _ aj];omega
 have hS0:fV w.drew t L T n:=h.after (Below.refl _ w).drew;clear h key2 aew hsl hwo hrow hf hleave hi hn hp hx hrw hlen;go_enter Tryz.func58,Tryz.ntmps58
 go_upto_region 0 with(fail)
 refine lF (S:=(λW'=>W'.cell? ⟨t,0,none⟩=some (.map (some L.mb))/\fV W' t L T n/\W'=w.drew)) 9 ?_ ?_
 . exact⟨hS0.cT,hS0,rfl⟩
 intro hS1;refine aW 0 ?_;refine aW 1 ?_;refine aW 2 ?_;refine aW 3 ?_;refine aW 4 ?_;refine aW 5 ?_;refine tk1 6 ?_;refine ak.Step.call dV (key1 _ hS1.2.1) ?_;rintro e w4 ⟨rfl,rfl⟩;refine⟨_,rfl,λ_=>hS1,?_⟩
 (try simp only[bL,bM,bN,tks])
 refine rO 7 rfl (eB aX rfl rfl rfl (λW h=>h.2.1.gN HP.out)) ?_;refine aW 8 ?_;refine ko ?_;clear hS1;generalize hW:w.drew=w1 at *;have hD:Below w.heap.size w w1:=hW▸(Below.refl _ _).drew;have c1:=hS0.lZ HP.out;rw[HSL.out]at c1;have k2:=ZX.out w1 (HSL.out▸hS0.row u p HP.out)
 have k3:=HK3.out w1 (by
  have:=hS0.row u p HP.out;rw[HSL.out]at this;rcases this.cases with⟨e,_⟩|⟨g',c',e,hr⟩
  . cases e
  . injection e with e1 e2 e3;injection e1 with e1;injection e1 with e1;subst e1;subst e3;exact hr)
 rw[show((i+1:Nat):Int)=(i:Int)+1 by omega]at k3;have hne:g≠L.bl u:=λe=>hS0.DJ HP.out HP.out (by rw[HSL.out];exact congrArg some e);clear hW key1
 go_wp2_with (first|(go_at_call 83;(with_reducible refine k2.mono ?_);rintro e w' ⟨rfl,rfl⟩)|(go_at_call 84;(with_reducible refine k3.mono ?_);rintro e w2 ⟨rfl,hrw2,hO2⟩;have c2:w2.cell? ⟨L.bl u,1,none⟩=some (.slice (some ⟨g,0,none⟩) m c):=(by rw[((hS0.box u p HP.out).out (λe=>hne e.symm) hO2).cell,vC,HSL.out]);have z2:=((hS0.box u p HP.out).out (λe=>hne e.symm) hO2).thaw 1))
 refine bodyPost_end (results_none rfl _ _ _) rfl ?_;refine⟨⟨_,rfl⟩,?_⟩;rw[HWO.out];have hm:=HLEN.out;have hl:(List.take i p.kids++List.drop (i+1) p.kids).length=i+(m-(i+1)):=by simp only[List.length_append,List.length_take,List.length_drop];omega
 have hks:=hrw2.ks;rw[hl]at hks;obtain⟨r1,r2⟩:=hS0.sU HP.out (hO2.mono λb _ (q:b=g)=>by rw[HSL.out,q];rfl) hks (by rw[HSL.out];exact .inl rfl) aj;exact⟨_,r1,(Grow.of_below hD).trans r2⟩
theorem DR{w:World}{t n:Nat}{L:Lay}{T:Tr.T}(h:fV w t L T n){x u:Int}{nd p:Tr.Nd}(hx:T x=some nd)(hu:T u=some p)(hne:u≠x){i:Nat}(hi:i<=p.kids.length)(hl:p.kids.length+1<=4096) :
  Calls Tryz.prog 36 #[.pointer (some ⟨t,0,none⟩),.int .i64 x,.int .i64 u,.int .i64 (i:Int)] w λe w'=>(∃v,e=.returned v)/\∃L',fV w' t L' (Tr.enter T x u i) n/\Grow t L L' T (Tr.enter T x u i) w w':=by
 have hent:Tr.enter T x u i=Tr.set (Tr.set T u { p with kids:=Tr.wi p.kids i x }) x { nd with up:=u }:=by unfold Tr.enter;rw[hx,hu]
 rw[hent];have Fh:(Tr.wi p.kids i x).length<=4096:=by simp only[Tr.wi,List.length_append,List.length_take,List.length_cons,List.length_drop];omega
 have hur:=h.small u p hu;have hl1:=h.gN hu;have c0:=h.cT;have c1:=h.lZ hu;have hB:Below w.heap.size w (w.alloc (.cells #[.int .i64 x] 3)):=Below.alloc' aF _;have h1:=h.after hB;have hA:At (w.alloc (.cells #[.int .i64 x] 3)) w.heap.size (.cells #[.int .i64 x] 3):=At.new _ _;have hvb:(L.sl u).ownBlock≠some w.heap.size:=λe=>by have:=h.lt (.inr (.inr ⟨u,p,hu,.inr e⟩));omega
 have key2:=NJ (h1.row u p hu) hi aj hA hvb;have HR1:=ah h1;have HB:=ah hB;have HU:=ah hu;have HX:=ah hx;have HLW:=ah Fh;have HUR:=ah hur;have HNE:=ah hne;clear h h1 hB hu hx Fh hur hA hvb hi hl hent hne;go_enter Tryz.func36,Tryz.ntmps36
 go_upto_region 2 with(first|(go_at_call 57;(with_reducible refine key2.mono ?_);rintro e w2 ⟨v2,rfl,hks,hO,hloc⟩;obtain⟨A,c,hs,_⟩:=hks.ints;subst hs;generalize hm:(Tr.wi p.kids i x).length=m at *;have HM:=ah hm;have HKS:=ah hks;have HO:=ah hO;have HLOC:=ah hloc;clear hm hks hO hloc;have b2:=((HR1.out.box u p HU.out).out (HR1.out.DJ HU.out HU.out) HO.out).thaw 1;have c2:w2.cell? ⟨L.bl u,1,none⟩=some (L.sl u):=(by rw[((HR1.out.box u p HU.out).out (HR1.out.DJ HU.out HU.out) HO.out).cell,vC])))
 obtain⟨r2,g2⟩:=HR1.out.sU HU.out HO.out HKS.out (HLOC.out.elim .inl λe => .inr (.inr ⟨_,e,aG _⟩)) (by rw[HM.out];exact HLW.out);have hx2:Tr.set T u { p with kids:=Tr.wi p.kids i x } x=some nd:=by rw[Tr.aK _ _ (λe=>HNE.out e.symm)];exact HX.out
 have l2:=r2.gN hx2;have t2:=r2.cT;have u2:=r2.cUp hx2;have z2:=(r2.box x nd hx2).thaw 0;obtain⟨r3,g3⟩:=r2.U4 (u:=u) hx2 (by have:=HUR.out;omega);have R3:=ah (show∃L',fV ((w2.setCell ⟨L.bl u,1,none⟩ (.slice A m c)).setCell ⟨L.bl x,0,none⟩ (.int .i64 u)) t L' _ n/\Grow t L L' T _ w ((w2.setCell ⟨L.bl u,1,none⟩ (.slice A m c)).setCell ⟨L.bl x,0,none⟩ (.int .i64 u))from⟨_,r3,(Grow.of_below HB.out).trans (g2.trans g3)⟩);clear r2 g2 hx2 r3 g3 HM HLW HLOC HO HKS HB HR1 HU HX HUR HNE b2 c2 c0 c1 hl1 key2;dsimp only at l2 t2 u2 z2;generalize w2.setCell ⟨L.bl u,1,none⟩ (.slice A m c)=w3 at *;go_wp2;refine bodyPost_end (results_none rfl _ _ _) rfl ?_;exact⟨⟨_,rfl⟩,R3.out⟩
structure Inv(W:World)(t:Nat)(L:Lay)(T:Tr.T)(n:Nat):Prop where
 rep:fV W t L T n
 wf:Tr.WF T
 num:(Tr.ord T).length=n
theorem Vf{w:World}{t n:Nat}{L:Lay}{T:Tr.T}(h:Inv w t L T n)(hn:n<4096){u a:Int}(hu:Wf u):Calls Tryz.prog 15 #[.pointer (some ⟨t,0,none⟩),.int .i64 u,.int .i64 a] w λe w'=>e=.returned (.tuple #[.int .i64 (Tr.tF T u a),.int .i64 (Tr.nD T u a)])/\∃L' n',Inv w' t L' (Tr.jE T u a) n'/\n'<=n+1/\Grow t L L' T (Tr.jE T u a) w w':=by
 obtain⟨h,HW,Fj⟩:=h;have P8:=HW.jE u a aj;have key:=gP h hu;cases hT:T u with
 | none =>
   have hE:Tr.nD T u a=2:=by unfold Tr.nD;rw[hT]
   have hI:Tr.tF T u a = -1:=by unfold Tr.tF;rw[hE];rfl
   have hR:Tr.jE T u a=T:=by unfold Tr.jE;rw[hE];rfl
   rw[hE,hI,hR];rw[hT]at key;have HR:=ah (Inv.mk h HW Fj);clear h HW Fj P8 hE hI hR;exact Z23
 | some p =>
   rw[hT]at key;have hl:=h.gN hT;have c0:=h.cT;have c1:=h.lZ hT;have hs:=(h.small u p hT).2.2.2.2;obtain⟨A,c,hv,_⟩:=(h.row u p hT).ints;by_cases hr:a<0\/(p.kids.length:Int)<a
   . have hE:Tr.nD T u a=1:=by unfold Tr.nD;rw[hT];dsimp only;rw[if_pos hr]
     have hI:Tr.tF T u a = -1:=by unfold Tr.tF;rw[hE];rfl
     have hR:Tr.jE T u a=T:=by unfold Tr.jE;rw[hE];rfl
     rw[hE,hI,hR];have HR:=ah (Inv.mk h HW Fj);rw[hv]at c1;clear h HW Fj P8 hE hI hR hv;generalize p.kids.length=m at *;rcases hr with hr|hr
     . exact Z23
     . have hr0:¬ a<0:=by omega
       exact Z23
   . have hr0:¬ a<0:=λe=>hr (.inl e)
     have hr1:¬ (p.kids.length:Int)<a:=λe=>hr (.inr e);have nU:=U5 h;obtain⟨d,hd1,hd2,hd3⟩:=HW.iZ hT;have NY:=AF h (λ_ h=>HW.tC h) hd2 aj;have hnn:¬ (4096:Int)<=(n:Int):=by omega
     by_cases hdd:63<=d
     . have Vg:(63:Int)<=(d:Int):=by omega
       have hE:Tr.nD T u a=5:=by unfold Tr.nD;rw[hT];dsimp only;rw[if_neg hr,hd3,if_pos Vg]
       have hI:Tr.tF T u a = -1:=by unfold Tr.tF;rw[hE];rfl
       have hR:Tr.jE T u a=T:=by unfold Tr.jE;rw[hE];rfl
       rw[hE,hI,hR];have HR:=ah (Inv.mk h HW Fj);rw[hv]at c1;clear h HW Fj P8 hE hI hR hv hd2 hd3 hr;generalize p.kids.length=m at *;go_enter Tryz.func15,Tryz.ntmps15
       go_wp2_with (first|(go_at_call 12;(with_reducible refine key.mono ?_);rintro e w' ⟨rfl,rfl⟩)|(go_at_call 33;(with_reducible refine nU.mono ?_);rintro e w' ⟨rfl,rfl⟩)|(go_at_call 34;(with_reducible refine NY.mono ?_);rintro e w' ⟨rfl,rfl⟩))
       go_ret2
       exact⟨rfl,L,n,HR.out,by omega,Grow.refl _ _ _ _⟩
     . have Vg:¬ (63:Int)<=(d:Int):=by omega
       have hE:Tr.nD T u a=0:=by unfold Tr.nD;rw[hT];dsimp only;rw[if_neg hr,hd3,if_neg Vg]
       have hI:Tr.tF T u a=Tr.free T:=by unfold Tr.tF;rw[hE];rfl
       have hR:Tr.jE T u a=Tr.pK T (Tr.free T) u a.toNat:=by unfold Tr.jE;rw[hE];rfl
       rw[hE,hR,if_pos rfl]at P8;rw[hE,hI,hR];obtain⟨hfree,hfl⟩:=HW.Ch;have ZY:=Rp h;have hB:Below w.heap.size w (w.alloc (.cells (cu 0 (.slice none 0 0) Re.zero) 90)):=Below.alloc' aF _;have h1:=h.after hB;have hA:At (w.alloc (.cells (cu 0 (.slice none 0 0) Re.zero) 90)) w.heap.size (.cells (cu 0 (.slice none 0 0) Re.zero) 90):=At.new _ _;have hfw:Wf (Tr.free T):=by rw[iX];have:=hfree.1;omega
       obtain⟨W2,hmu,p2,ho⟩:=h1.map.store (by simp[maxLen];omega) (z:=Tr.free T) hfw (by rw[hfree.2.1];rfl) w.heap.size;have hnw:¬ owned t L T w.heap.size:=λe=>absurd (h.lt e) aj;obtain⟨r2,o2,g2⟩:=h1.add hfree.2.1 ⟨hfree.1,by omega⟩ aj hA hnw ho p2;have hne:u≠Tr.free T:=λe=>by rw[e,hfree.2.1]at hT;cases hT
       have G2:Grow t L _ T _ w W2:=⟨((Out.of_below hB).trans ⟨o2.1,o2.2⟩),λb hb=>(g2 b hb).imp id λe=>by omega⟩;have hkl:=HW.qK hT;have Rv:=DR r2 (Tr.aN _ _ _) ((Tr.aK _ _ hne).trans hT) hne (i:=a.toNat) aj aj;rw[Int.toNat_of_nonneg aj]at Rv;have HG2:=ah G2;have HI:=ah P8;have HN:=ah Fj;have HF:=ah hfree;rw[hv]at c1;clear h HW Fj P8 hE hI hR hv hd2 hd3 hr hfree hfl hB h1 hA p2 ho hnw r2 o2 g2 G2 hT hkl;unfold Tr.pK;generalize p.kids.length=m at *;generalize Tr.free T=z at *;go_enter Tryz.func15,Tryz.ntmps15
       go_wp2_with (first|(go_at_call 12;(with_reducible refine key.mono ?_);rintro e w' ⟨rfl,rfl⟩)|(go_at_call 33;(with_reducible refine nU.mono ?_);rintro e w' ⟨rfl,rfl⟩)|(go_at_call 34;(with_reducible refine NY.mono ?_);rintro e w' ⟨rfl,rfl⟩)|(go_at_call 35;(with_reducible refine ZY.mono ?_);rintro e w' ⟨⟨y,rfl,hy⟩,rfl⟩;obtain rfl:y=z:=(Tr.free_eq hy).symm.trans (Tr.free_eq HF.out))|(refine wpList_build aX 90 _ rfl #[] eZ (DI _) ?_)|(go_at_call 36;(with_reducible refine Rv.mono ?_);rintro e w' ⟨⟨v,rfl⟩,L',hr',hg'⟩))
       go_ret2
       exact⟨rfl,L',n+1,⟨hr',HI.out.1,by rw[<-HN.out];exact HI.out.2⟩,aG _,HG2.out.trans hg'⟩
section
variable {T:Tr.T} (H:Tr.WF T) {x u:Int} {nd p:Tr.Nd} (hx:T x=some nd) (h0:x≠0) (hu:T u=some p) (hun:u ∉ Tr.sub T 64 x)
include H hx h0 hu hun
theorem acn:Tr.leave T x u=some { p with kids:=Tr.wo p.kids x }:=by
 obtain⟨q,hq,hm⟩:=H.up x nd hx h0;rw[Tr.qg hx hq];by_cases e:u=nd.up
 . rw[if_pos e];rw[<-e,hu]at hq;cases hq;rfl
 . rw[if_neg e,hu,Tr.uW (λhm=>e (H.J3 hx h0 hu hm))]
theorem aco:Tr.leave T x x=some nd:=by
 obtain⟨q,hq,hm⟩:=H.up x nd hx h0;rw[Tr.qg hx hq,if_neg (λe:x=nd.up=>H.qh hx h0 (H.rU hx h0 e.symm)),hx]
theorem Vh:(Tr.wo p.kids x).length+1<=(Tr.ord T).length:=by
 have hn:(x::Tr.wo p.kids x).Nodup:=List.nodup_cons.2 ⟨λhm=>(Tr.xF.1 hm).2 rfl,Tr.Dc (H.nodup u p hu) x⟩
 have:=hn.length_le_of_subset (l₂:=Tr.ord T) λy hy=>by
  rcases List.mem_cons.1 hy with rfl|hy
  . exact H.iV.2 ⟨nd,hx⟩
  . obtain⟨_,q,h2,_⟩:=H.kid u p y hu (Tr.xF.1 hy).1
    exact H.iV.2 ⟨q,h2⟩
 simpa using this
end
theorem Rx{w:World}{t n:Nat}{L:Lay}{T:Tr.T}(h:Inv w t L T n){x u a:Int}(hxw:Wf x)(hu:Wf u):Calls Tryz.prog 39 #[.pointer (some ⟨t,0,none⟩),.int .i64 x,.int .i64 u,.int .i64 a] w λe w'=>e=.returned (.int .i64 (Tr.jI T x u a))/\∃L',Inv w' t L' (Tr.mD T x u a) n/\Grow t L L' T (Tr.mD T x u a) w w':=by
 have key:=gP h.rep hxw;have uT:=gP h.rep hu;have same:∀e,Tr.jI T x u a=e->e≠0->Tr.mD T x u a=T:=λe he hne=>by unfold Tr.mD;rw[he,if_neg hne]
 cases hX:T x with
 | none =>
   have hE:Tr.jI T x u a=2:=by unfold Tr.jI;rw[hX]
   rw[hE,same _ hE aH];rw[hX]at key;have HR:=ah h;clear h uT same hE;exact Z1r
 | some nd =>
 rw[hX]at key;cases hU:T u with
 | none =>
   have hE:Tr.jI T x u a=2:=by unfold Tr.jI;rw[hX,hU]
   rw[hE,same _ hE aH];rw[hU]at uT;have HR:=ah h;clear h same hE;exact Z1r
 | some p =>
 rw[hU]at uT;have hE0:Tr.jI T x u a=if x=0 then 1 else if u∈Tr.sub T 64 x then 3 else if a<0\/((Tr.wo p.kids x).length:Int)<a then 1 else if 63<Tr.dep T u+1+Tr.hgt T 64 x then 5 else 0:=by unfold Tr.jI;rw[hX,hU]
 by_cases h0:x=0
 . have hE:Tr.jI T x u a=1:=by rw[hE0,if_pos h0]
   rw[hE,same _ hE aH];have HR:=ah h;clear h same hE hE0;subst h0;exact Z1r
 rw[if_neg h0]at hE0;have h0b:(x==0)=false:=by simpa using h0
 have xB:=NU (y:=u) h.rep (h.wf.iF hX);by_cases hm:u∈Tr.sub T 64 x
 . have hE:Tr.jI T x u a=3:=by rw[hE0,if_pos hm]
   rw[hE,same _ hE aH];have hd:decide (u∈Tr.sub T 64 x)=true:=by simpa using hm
   rw[hd]at xB;have HR:=ah h;clear h same hE hE0 hm hd;exact Z21
 rw[if_neg hm]at hE0;have hd:decide (u∈Tr.sub T 64 x)=false:=by simpa using hm
 rw[hd]at xB;have KO:=ah λW (hb:Below w.heap.size w W)=>Kv (h.rep.after hb) hU hxw;have hup:rY T x=nd.up:=by unfold rY;rw[hX]
 rw[hup,<-h.wf.others hX hU h0]at KO;by_cases hr:a<0\/((Tr.wo p.kids x).length:Int)<a
 . have hE:Tr.jI T x u a=1:=by rw[hE0,if_pos hr]
   rw[hE,same _ hE aH];have HR:=ah h;clear h same hE hE0 hm hd hup;generalize (Tr.wo p.kids x).length=m at *;rcases hr with hr|hr
   . exact Z21
   . have hr0:¬ a<0:=by omega
     go_enter Tryz.func39,Tryz.ntmps39
     go_wp2_with (first|(go_at_call 12;first|((with_reducible refine key.mono ?_);rintro e w' ⟨rfl,rfl⟩)|((with_reducible refine uT.mono ?_);rintro e w' ⟨rfl,rfl⟩))|(go_at_call 60;(with_reducible refine xB.mono ?_);rintro e w1 ⟨rfl,hb1⟩)|(go_at_call 61;(with_reducible refine(KO.out _ hb1).mono ?_);rintro e w' ⟨rfl,rfl⟩))
     exact Z3h
 rw[if_neg hr]at hE0;have hr0:¬ a<0:=λe=>hr (.inl e);have hr1:¬ ((Tr.wo p.kids x).length:Int)<a:=λe=>hr (.inr e);obtain⟨d,hd1,hd2,hd3⟩:=h.wf.iZ hU;have KD:=ah λW (hb:Below w.heap.size w W)=>AF (h.rep.after hb) (λ_ q=>h.wf.tC q) hd2 aj;have KH:=ah λW (hb:Below w.heap.size w W)=>Kw 64 x aj (h.rep.after hb) (h.wf.iF hX);have aiQ:=U6 (h.wf.iF hX);rw[hd3]at hE0;have hw1:IntKind.i64.wrap ((d:Int)+1)=(d:Int)+1:=by rw[IntWalk.i64_in _ aj]
 have hw2:IntKind.i64.wrap ((d:Int)+1+(Tr.hgt T 64 x:Int))=(d:Int)+1+(Tr.hgt T 64 x:Int):=by rw[IntWalk.i64_in _ aj]
 by_cases hdd:63<(d:Int)+1+(Tr.hgt T 64 x:Int)
 . have hE:Tr.jI T x u a=5:=by rw[hE0,if_pos hdd]
   rw[hE,same _ hE aH];have HR:=ah h;clear h same hE hE0 hm hd hup hd2 hd3 hr;generalize (Tr.wo p.kids x).length=m at *;generalize Tr.hgt T 64 x=g at *;go_enter Tryz.func39,Tryz.ntmps39
   go_wp2_with (first|(go_at_call 12;first|((with_reducible refine key.mono ?_);rintro e w' ⟨rfl,rfl⟩)|((with_reducible refine uT.mono ?_);rintro e w' ⟨rfl,rfl⟩))|(go_at_call 60;(with_reducible refine xB.mono ?_);rintro e w1 ⟨rfl,hb1⟩)|(go_at_call 61;(with_reducible refine(KO.out _ hb1).mono ?_);rintro e w' ⟨rfl,rfl⟩)|(go_at_call 34;(with_reducible refine(KD.out _ hb1).mono ?_);rintro e w' ⟨rfl,rfl⟩)|(go_at_call 62;(with_reducible refine(KH.out _ hb1).mono ?_);rintro e w' ⟨rfl,rfl⟩))
   exact Z3h
 . rw[if_neg hdd]at hE0
   have hR:Tr.mD T x u a=Tr.mq T x u a.toNat:=by unfold Tr.mD;rw[hE0,if_pos rfl]
   have P8:=h.wf.mD x u a;rw[hE0,hR];rw[hR]at P8;obtain⟨q,hq,hqm⟩:=h.wf.up x nd hX h0;obtain⟨i,hi⟩:=List.mem_iff_getElem?.1 hqm;have hxu:u≠x:=λe=>hm (h.wf.rU hX h0 e);have KL:=ah λW (hb:Below w.heap.size w W)=>DN (h.rep.after hb) hX hq hi (h.wf.nodup _ _ hq);have hll:=Vh h.wf hX h0 hU hm;have hos:=h.wf.jB;have KE:=ah λW L' (hb:fV W t L' (Tr.leave T x) n)=>DR hb (aco h.wf hX h0 hU hm) (acn h.wf hX h0 hU hm) hxu (i:=a.toNat) (by simp only;omega) (by simp only;omega);rw[Int.toNat_of_nonneg aj]at KE;have Vi:=ah P8;have HN:=ah h.num;clear h same hE0 hm hd hup hd2 hd3 hr hR P8 hq hqm hi hll hos hX hU;unfold Tr.mq;generalize (Tr.wo p.kids x).length=m at *;generalize Tr.hgt T 64 x=g at *;go_enter Tryz.func39,Tryz.ntmps39
   go_wp2_with (first|(go_at_call 12;first|((with_reducible refine key.mono ?_);rintro e w' ⟨rfl,rfl⟩)|((with_reducible refine uT.mono ?_);rintro e w' ⟨rfl,rfl⟩))|(go_at_call 60;(with_reducible refine xB.mono ?_);rintro e w1 ⟨rfl,hb1⟩)|(go_at_call 61;(with_reducible refine(KO.out _ hb1).mono ?_);rintro e w' ⟨rfl,rfl⟩)|(go_at_call 34;(with_reducible refine(KD.out _ hb1).mono ?_);rintro e w' ⟨rfl,rfl⟩)|(go_at_call 62;(with_reducible refine(KH.out _ hb1).mono ?_);rintro e w' ⟨rfl,rfl⟩)|(go_at_call 58;(with_reducible refine(KL.out _ hb1).mono ?_);rintro e w2 ⟨⟨v,rfl⟩,L2,hr2,hg2⟩)|(go_at_call 36;(with_reducible refine(KE.out _ _ hr2).mono ?_);rintro e w3 ⟨⟨v,rfl⟩,L3,hr3,hg3⟩))
   go_ret
   exact⟨rfl,L3,⟨hr3,Vi.out.1,Vi.out.2.trans HN.out⟩,(Grow.of_below hb1).trans (hg2.trans hg3)⟩
theorem P9(T:Tr.T)(l:List Int){k:Nat}{z:Int}(hz:l[k]? = some z):Tr.del (Tr.del T (l.take k)) [z]=Tr.del T (l.take (k+1)):=by
 funext y;have:y∈l.take (k+1)↔y∈l.take k\/y=z:=by rw[List.take_add_one,hz];simp
 simp only[Tr.del,List.mem_singleton,this];by_cases h1:y=z<;>by_cases h2:y∈l.take k<;>simp[h1,h2]
theorem Cm(T:Tr.T):Tr.del T []=T:=by funext y;simp[Tr.del]
theorem Ry{t:Nat}{L:Lay}{T:Tr.T}{l:List Int}{b:Nat}(h:owned t L (Tr.del T l) b):owned t L T b:=by
 rcases h with h|h|⟨z,nd,hz,h⟩
 . exact .inl h
 . exact .inr (.inl h)
 . refine .inr (.inr ⟨z,nd,?_,h⟩)
   unfold Tr.del at hz;split at hz
   . cases hz
   . exact hz
structure Kept(W:World)(t:Nat)(L:Lay)(T:Tr.T)(v:Value)(l:List Int):Prop where
 row:KS W v l
 own:∀g,v.ownBlock=some g->¬ owned t L T g
theorem Kept.grow{W W':World}{t:Nat}{L L':Lay}{T T':Tr.T}{v:Value}{l:List Int}(h:Kept W t L T v l)(k:Grow t L L' T T' W W'):Kept W' t L' T' v l :=
 ⟨h.row.out h.own k.1,λg hg ho=>(k.2 g ho).elim (h.own g hg) λq=>absurd (h.row.lt hg) aj⟩
theorem Kept.after{W W':World}{t:Nat}{L:Lay}{T:Tr.T}{v:Value}{l:List Int}(h:Kept W t L T v l)(hb:Below W.heap.size W W'):Kept W' t L T v l:=⟨h.row.after hb,h.own⟩
theorem Kept.new{W W':World}{t n base:Nat}{L:Lay}{T:Tr.T}{v:Value}{l:List Int}(hR:fV W t L T n)(h:W'.ownsRow base 3 1 v l.length (l.map (Value.int .i64)))(hb:W.heap.size<=base):Kept W' t L T v l :=
 ⟨fH h sQ,λg hg ho=>by have h1:=(World.ownsRow.lt h g hg).1;have h2:=hR.lt ho;omega⟩
theorem KR{w:World}{t n:Nat}{L:Lay}{T:Tr.T}(h:Inv w t L T n){x:Int}(hxw:Wf x):Calls Tryz.prog 37 #[.pointer (some ⟨t,0,none⟩),.int .i64 x] w λe w'=>e=.returned (.tuple #[.int .i64 (Tr.wK T x),.int .i64 (Tr.qV T x)])/\∃L' n',Inv w' t L' (Tr.nT T x) n'/\n'<=n/\Grow t L L' T (Tr.nT T x) w w':=by
 have key:=gP h.rep hxw;have same:∀e,Tr.qV T x=e->e≠0->Tr.nT T x=T/\Tr.wK T x=0:=λe he hne=>by unfold Tr.nT Tr.wK;rw[he,if_neg hne,if_neg hne];exact⟨rfl,rfl⟩
 cases hX:T x with
 | none =>
   have hE:Tr.qV T x=2:=by unfold Tr.qV;rw[hX]
   rw[hE,(same _ hE aH).1,(same _ hE aH).2];rw[hX]at key;have HR:=ah h;clear h same hE;exact Z3c
 | some nd =>
 rw[hX]at key;by_cases h0:x=0
 . have hE:Tr.qV T x=1:=by unfold Tr.qV;rw[hX];dsimp only;rw[if_pos h0]
   rw[hE,(same _ hE aH).1,(same _ hE aH).2];have HR:=ah h;clear h same hE;subst h0;exact Z3c
 have h0b:(x==0)=false:=by simpa using h0
 have hE:Tr.qV T x=0:=by unfold Tr.qV;rw[hX];dsimp only;rw[if_neg h0]
 have hI:Tr.wK T x=(Tr.sub T 64 x).length:=by unfold Tr.wK;rw[hE,if_pos rfl]
 have hR:Tr.nT T x=Tr.del (Tr.leave T x) (Tr.sub T 64 x):=by unfold Tr.nT;rw[hE,if_pos rfl];rfl
 have P8:=h.wf.nT x;rw[hE,hI,hR];rw[hI,hR]at P8;obtain⟨q,hq,hqm⟩:=h.wf.up x nd hX h0;obtain⟨i,hi⟩:=List.mem_iff_getElem?.1 hqm;have nU:=DN h.rep hX hq hi (h.wf.nodup _ _ hq);obtain⟨hfit,hsub,_⟩:=h.wf.Q0 hX h0;have hnd:=h.wf.vZ (h.wf.iF hX)
 have hlive:∀z,z∈Tr.sub T 64 x->Tr.leave T x z≠none:=λz hz=>by
  obtain⟨zd,hzd⟩:=((h.wf.gF (h.wf.iF hX)).1 hz).live;rw[Tr.qg hX hq];split
  . simp
  . rw[hzd];simp
 have hlen:(Tr.sub T 64 x).length<=n:=by have:=h.wf.Cg hX h0;have:=h.num;omega
 have hos:=h.wf.jB;have hn:=h.num;have KC:=ah λW L' tb ib (hb:fV W t L' (Tr.leave T x) n) htb hib=>AJ (tb:=tb) (ib:=ib) hb hfit (by rw[hsub];omega) htb hib;rw[hsub]at KC;have HN:=ah hn;have Vi:=ah P8;have HND:=ah hnd;have aex:=ah hlive;have hn4:n<=4096:=by omega
 clear h same hE hI hR P8 hq hqm hi hX hfit hsub hnd hos hn hlive h0;generalize Tr.sub T 64 x=l at *;generalize Tr.leave T x=T1 at *;generalize hm:l.length=m at *;have HM:=ah hm;clear hm;go_enter Tryz.func37,Tryz.ntmps37
 go_upto_region 7 with(first|(go_at_call 12;(with_reducible refine key.mono ?_);rintro e w' ⟨rfl,rfl⟩)|(go_at_call 58;(with_reducible refine nU.mono ?_);rintro e w1 ⟨⟨v,rfl⟩,L1,hr1,hg1⟩;have HR1:=ah hr1;have HG1:=ah hg1;clear hr1 hg1)|(go_at_call 28;(with_reducible refine(wm _ _ _).mono ?_);rintro e w2 ⟨rfl,rfl⟩)|(go_at_call 27;(with_reducible refine(KC.out _ _ _ _ (HR1.out.after (Below.alloc' (Below.alloc' aF _) _)) ((At.new w1 _).alloc _) (At.new' (b:=w1.heap.size+1) _ eZ)).mono ?_);rintro e w3 ⟨⟨v3,rfl,ho⟩,hb3⟩))
 have qw:=(Below.alloc' (Below.alloc' (Below.refl w1.heap.size w1) (.cells #[.pointer (some ⟨t,0,none⟩)] 24)) (.cells #[.int .i64 x] 3)).trans (hb3.mono jM);have hr3:=HR1.out.after qw;have hK:Kept w3 t L1 T1 v3 l:=Kept.new HR1.out (by rw[HM.out];exact ho) jM;have HG3:=ah (HG1.out.trans (Grow.of_below qw));have HR3:=ah hr3;have HK3:=ah hK;obtain⟨A,c,hv,_⟩:=hK.row.ints;rw[HM.out]at hv;subst hv;clear HG1 HR1 ho hb3 qw hr3 hK KC key nU;go_wp2
 go_loopw [26] (λi wr=>∃k:Nat,k<=m/\i=.int .i64 k/\fV wr t L1 (Tr.del T1 (l.take k)) (n-k)/\Kept wr t L1 T1 (.slice A m c) l/\Grow t L1 L1 T1 (Tr.del T1 (l.take k)) w3 wr) (λi _=>m-(intOf i).toNat)
 case atStart=>exact⟨0,by omega,rfl,by rw[List.take_zero,Cm];exact HR3.out,HK3.out,by rw[List.take_zero,Cm];exact Grow.refl _ _ _ _⟩
 case round =>
  obtain⟨k,hk,rfl,hRr,hKr,Z'⟩:=hrel;by_cases hlt:k<m
  . have hltz:(k:Int)<(m:Int):=by omega
    obtain⟨b,o,rfl,lb,hcell⟩:=(KS.wu hKr.row).1.at_ (k:=k) YK;have hgk:l[k]? = some (l.getD k 0):=by rw[List.getD,List.getElem?_eq_getElem YK];rfl
    have hzl:l.getD k 0∈l:=List.mem_iff_getElem?.2 ⟨k,hgk⟩;have hlv:Tr.del T1 (l.take k) (l.getD k 0)≠none:=by
     have hnt:l.getD k 0 ∉ l.take k:=λhm=>by
      obtain⟨j,hj⟩:=List.mem_iff_getElem?.1 hm;have hjk:j<k:=by
       obtain⟨hj2,_⟩:=List.getElem?_eq_some_iff.1 hj;simp at hj2;omega
      rw[List.getElem?_take,if_pos hjk]at hj;obtain⟨h1,h2⟩:=List.getElem?_eq_some_iff.1 hj;obtain⟨h3,h4⟩:=List.getElem?_eq_some_iff.1 hgk;have:=(List.getElem_inj HND.out).1 (h2.trans h4.symm);omega
     unfold Tr.del;rw[if_neg hnt];exact aex.out _ hzl
    have hdd:=P9 T1 l hgk;generalize l.getD k 0=z at *;obtain⟨zd,hzd⟩:=Option.ne_none_iff_exists'.1 hlv;obtain⟨W',hdel,hp,hO,_⟩:=hRr.map.drop (hRr.wf hzd) (by rw[hzd];rfl) 0;obtain⟨hr2,hg2⟩:=hRr.drop hO hp;rw[hdd]at hr2 hg2;have c0:=hRr.cT;have hR2:=ah hr2;have hG2:=ah (Z'.trans hg2);have hK2:=ah (hKr.grow (T':=T1) (L':=L1) ⟨hg2.1.mono λb _ ho=>Ry ho,λb ho => .inl ho⟩);clear hRr hKr Z' hr2 hg2 hdd hp hO hzd hlv hzl hgk;go_wp2
    go_round
    case rel=>exact⟨k+1,by omega,by go_num,by rw[show n-(k+1)=n-k-1 by omega];exact hR2.out,hK2.out,hG2.out⟩
    case measure=>simp[intOf];omega
  . obtain rfl:k=m:=by omega
    go_wp2
    go_ret2
    rw[List.take_of_length_le (by rw[HM.out];exact aG _)]at hRr Z';refine⟨rfl,L1,n-k,⟨hRr,Vi.out.1,?_⟩,by omega,HG3.out.trans Z'⟩;have h1:=Vi.out.2;have h2:=HN.out;omega
def DT(L:Lay)(T:Tr.T)(b:Nat):Prop:=b=L.mb\/∃z nd,T z=some nd/\(b=L.bl z\/(L.sl z).ownBlock=some b)
structure NZ(W:World)(L:Lay)(T:Tr.T)(n0 m:Nat):Prop where
 map:PM W L.mb m (λz=>(T z).map λ_=>L.bl z)
 box:∀z nd,T z=some nd->At W (L.bl z) (.cells (cu nd.up (L.sl z) nd.sty) 90)
 row:∀z nd,T z=some nd->KS W (L.sl z) nd.kids
 inj:∀y z,T y≠none->T z≠none->L.bl y=L.bl z->y=z
 apart:∀y z g,T y≠none->T z≠none->(L.sl y).ownBlock=some g->(L.sl z).ownBlock=some g->y=z
 new:∀b,DT L T b->n0<=b
section
variable {W W':World} {L:Lay} {T:Tr.T} {n0 m:Nat}
theorem NZ.out{M:Nat->Prop}(h:NZ W L T n0 m)(hm:∀b,DT L T b->¬ M b)(k:Out M W W'):NZ W' L T n0 m where
 map:=h.map.out (hm _ (.inl rfl)) k
 box:=λz nd hz=>(h.box z nd hz).out (hm _ (.inr ⟨z,nd,hz,.inl rfl⟩)) k
 row:=λz nd hz=>(h.row z nd hz).out (λg hg=>hm _ (.inr ⟨z,nd,hz,.inr hg⟩)) k
 inj:=h.inj
 apart:=h.apart
 new:=h.new
theorem NZ.after(h:NZ W L T n0 m)(hb:Below W.heap.size W W'):NZ W' L T n0 m:=h.out (M:=λ_=>False) (λ_ _ q=>q) (Out.of_below hb)
theorem NZ.lt(h:NZ W L T n0 m){b:Nat}(hb:DT L T b):b<W.heap.size:=by
 rcases hb with rfl|⟨z,nd,hz,rfl|hg⟩
 . exact h.map.lt
 . exact(h.box z nd hz).lt
 . exact(h.row z nd hz).lt hg
theorem NZ.F7(h:NZ W L T n0 m){z:Int}{nd:Tr.Nd}(hz:T z=some nd):L.bl z≠L.mb:=λe=>by
 obtain⟨es,clock,hm⟩:=h.map.obj;have:=(h.box z nd hz).uniq (e▸hm);cases this
theorem NZ.PZ(h:NZ W L T n0 m){z:Int}{nd:Tr.Nd}(hz:T z=some nd):(L.sl z).ownBlock≠some L.mb:=λe=>by
 obtain⟨es,clock,hm⟩:=h.map.obj;obtain⟨cur,hc⟩:=(h.row z nd hz).rowAt e;have:=hc.uniq hm;cases this
theorem NZ.add(h:NZ W L T n0 m){z:Int}{b:Nat}{u:Int}{v:Value}{l:List Int}{s:Re.St}(hz:T z=none)(hb:At W b (.cells (cu u v s) 90))(hv:KS W v l)
  (hb0:n0<=b) (hv0:∀g,v.ownBlock=some g->n0<=g) (hnew:¬ DT L T b) (Vj:∀g,v.ownBlock=some g->¬ DT L T g) (hO:Out (λx=>x=L.mb) W W') (hm:PM W' L.mb (m+1) (NK (λz=>(T z).map λ_=>L.bl z) z b)) :
  NZ W' { L with bl:=λy=>if y=z then b else L.bl y,sl:=λy=>if y=z then v else L.sl y } (Tr.set T z ⟨u,l,s⟩) n0 (m+1):=by
 have hne:∀y yd,T y=some yd->y≠z:=λy yd hy e=>by rw[e,hz]at hy;cases hy
 have hbm:b≠L.mb:=λe=>hnew (.inl e);have old:∀y,y≠z->(Tr.set T z ⟨u,l,s⟩ y≠none->T y≠none):=λy e=>by rw[Tr.aK _ _ e];exact id
 refine⟨hm.congr λy _ => ?_,λy yd hy => ?_,λy yd hy => ?_,λx y hx hy => ?_,λx y g hx hy => ?_,λx hx => ?_⟩
 . unfold NK
   by_cases e:y=z
   . subst e;simp[Tr.aN]
   . simp[e,Tr.aK _ _ e]
 . exact Z36
 . by_cases e:y=z
   . subst e;rw[Tr.aN]at hy;cases hy
     simp only[if_true];exact hv.out (λg hg (q:g=L.mb)=>Vj g hg (.inl q)) hO
   . rw[Tr.aK _ _ e]at hy
     simp only[if_neg e];exact(h.row y yd hy).out (λg hg (q:g=L.mb)=>h.PZ hy (by rw[hg,q])) hO
 . by_cases ex:x=z<;>by_cases ey:y=z
   . intro _;rw[ex,ey]
   . simp only[if_pos ex,if_neg ey]
     obtain⟨yd,P6⟩:=Option.ne_none_iff_exists'.1 (old y ey hy);exact λe=>(hnew (.inr ⟨y,yd,P6,.inl e⟩)).elim
   . simp only[if_neg ex,if_pos ey]
     obtain⟨xd,hxd⟩:=Option.ne_none_iff_exists'.1 (old x ex hx);exact λe=>(hnew (.inr ⟨x,xd,hxd,.inl e.symm⟩)).elim
   . simp only[if_neg ex,if_neg ey]
     exact h.inj x y (old x ex hx) (old y ey hy)
 . by_cases ex:x=z<;>by_cases ey:y=z
   . intro _ _;rw[ex,ey]
   . simp only[if_pos ex,if_neg ey]
     obtain⟨yd,P6⟩:=Option.ne_none_iff_exists'.1 (old y ey hy);exact λe1 e2=>(Vj g e1 (.inr ⟨y,yd,P6,.inr e2⟩)).elim
   . simp only[if_neg ex,if_pos ey]
     obtain⟨xd,hxd⟩:=Option.ne_none_iff_exists'.1 (old x ex hx);exact λe1 e2=>(Vj g e2 (.inr ⟨x,xd,hxd,.inr e1⟩)).elim
   . simp only[if_neg ex,if_neg ey]
     exact h.apart x y g (old x ex hx) (old y ey hy)
 . rcases hx with e|⟨y,yd,hy,e⟩
   . exact h.new x (.inl e)
   . by_cases e2:y=z
     . subst e2
       simp only[if_true]at e;rcases e with rfl|e
       . exact hb0
       . exact hv0 x e
     . rw[Tr.aK _ _ e2]at hy
       simp only[if_neg e2]at e;exact h.new x (.inr ⟨y,yd,hy,e⟩)
end
theorem jd{ops:Array Oper}{S:World->Prop}{o:Oper}{a:Act}(hw:Region.wanted o (yielded ops a.tmps)=true)(x:Operand)(ho:o.op=.load 46 x){b k:Nat}(hx:a.eval x=.pointer (some ⟨b,k,none⟩)){s:Re.St}(hs:∀w,S w->uz w b k s):ak.Reads Tryz.prog ops S o (.agg (cells s)) a :=
 .inl ⟨hw,λw h=>by unfold execOp;simp only[ho,hx,Sem.run_bind,Ku (hs w h),Result.andThen_ok,Sem.run_pure]⟩
end Go.Proofs.YtmidaiklolmkcaaGreat.Fix
namespace Go.Proofs.YtmidaiklolmkcaaGreat.Fix
open Go.ChangeShapes Go.WideShapes Go.ChangeAt Go.RowKit
section
variable {W:World} {b:Nat} {s:Re.St} {fl ap:Value} {ib:Bool}
theorem At.bxi(h:aL W b s fl ap ib):b<W.heap.size/\W.cell? ⟨b,23,none⟩=some (.int .i64 (s.c 23))/\W.cell? ⟨b,24,none⟩=some (.int .i64 (s.c 24))/\W.cell? ⟨b,25,none⟩=some (.int .i64 (s.c 25))/\W.cell? ⟨b,26,none⟩=some (.int .i64 (s.c 26))/\W.cell? ⟨b,27,none⟩=some (.int .i64 (s.c 27))/\W.cell? ⟨b,28,none⟩=some (.int .i64 (s.c 28))/\W.cell? ⟨b,29,none⟩=some (.int .i64 (s.c 29))/\W.cell? ⟨b,30,none⟩=some (.int .i64 (s.c 30)) :=
 ⟨h.lt,h.int 23 aH rfl,h.int 24 aH rfl,h.int 25 aH rfl,h.int 26 aH rfl,h.int 27 aH rfl,h.int 28 aH rfl,h.int 29 aH rfl,h.int 30 aH rfl⟩
theorem aL.style(h:aL W b s fl ap ib):uz W b 0 s:=λj hj=>by rw[Nat.zero_add];exact(At.cell h j).trans (Iz _ _ _ _ hj)
theorem Below.cell_{X Y:World}(h:Below X.heap.size X Y){b:Nat}(hb:b<X.heap.size)(i:Nat):Y.cell? ⟨b,i,none⟩=X.cell? ⟨b,i,none⟩:=(kY h).1 _ _ hb
end
theorem KT(b:Nat)(s:Re.St)(fl ap:Value)(ib:Bool)(r0 r1:Int)(w:World)(h:aL w b s fl ap ib):Calls Tryz.prog 74 #[.pointer (some ⟨b,0,none⟩),.agg #[.int .i64 r0,.int .i64 r1]] w λe w'=>e=.returned (.int .i64 (Fw.JR s r0))/\Below w.heap.size w w':=by
 go_enter Tryz.func74,Tryz.ntmps74
 go_upto_region 1 with(fail)
 generalize hW:World.alloc _ _=W0;have A0:At W0 w.heap.size (.cells #[.int .i64 r0,.int .i64 r1] 71):=hW▸At.new _ _;have A2:aL W0 b s fl ap ib:=hW▸aL.alloc h _;have hB:Below w.heap.size w W0:=hW▸Below.alloc' aF _;clear hW h;obtain⟨l0,aB,aC⟩:=A0.two;obtain⟨l2,aR,aS,aT,aU,bC,bD,bA,bB⟩:=At.bx0 A2;have d0:=A2.int 53 aH rfl;refine xW ?_
 (repeat (first|refine nW ?_ | refine nX ?_ (hc:=by intro w2 hS;first|with_reducible exact nR hS (rX _ _ _ _ _ _ _ _ _)|with_reducible exact nR hS (dX _ _ _))|refine nY ?_))
 exact Z3y
theorem vE(b:Nat)(s:Re.St)(fl ap:Value)(ib:Bool)(r0 r1:Int)(w:World)(h:aL w b s fl ap ib):Calls Tryz.prog 105 #[.pointer (some ⟨b,0,none⟩),.int .i64 0,.int .i64 0,.agg #[.int .i64 r0,.int .i64 r1]] w λx w'=>x=.returned (.tuple #[.int .i64 (Fw.ins s 0 0 r0),.bool (Fw.BU s 0 0 r0)])/\Below w.heap.size w w':=by
 exact Z4
theorem yN(b:Nat)(s:Re.St)(fl ap:Value)(ib:Bool)(r0 r1:Int)(w:World)(h:aL w b s fl ap ib):Calls Tryz.prog 105 #[.pointer (some ⟨b,0,none⟩),.int .i64 0,.int .i64 1,.agg #[.int .i64 r0,.int .i64 r1]] w λx w'=>x=.returned (.tuple #[.int .i64 (Fw.ins s 0 1 r0),.bool (Fw.BU s 0 1 r0)])/\Below w.heap.size w w':=by
 exact Z4
theorem uQ(b:Nat)(s:Re.St)(fl ap:Value)(ib:Bool)(r0 r1:Int)(w:World)(h:aL w b s fl ap ib):Calls Tryz.prog 105 #[.pointer (some ⟨b,0,none⟩),.int .i64 1,.int .i64 0,.agg #[.int .i64 r0,.int .i64 r1]] w λx w'=>x=.returned (.tuple #[.int .i64 (Fw.ins s 1 0 r1),.bool (Fw.BU s 1 0 r1)])/\Below w.heap.size w w':=by
 exact Z4
theorem x8(b:Nat)(s:Re.St)(fl ap:Value)(ib:Bool)(r0 r1:Int)(w:World)(h:aL w b s fl ap ib):Calls Tryz.prog 105 #[.pointer (some ⟨b,0,none⟩),.int .i64 1,.int .i64 1,.agg #[.int .i64 r0,.int .i64 r1]] w λx w'=>x=.returned (.tuple #[.int .i64 (Fw.ins s 1 1 r1),.bool (Fw.BU s 1 1 r1)])/\Below w.heap.size w w':=by
 exact Z4
end Go.Proofs.YtmidaiklolmkcaaGreat.Fix
namespace Go.Proofs.YtmidaiklolmkcaaGreat.Fix
open Go.ChangeShapes Go.WideShapes Go.ChangeAt Go.RowKit Go.Shelf
attribute [local go_sem] Oper.semAt_some
def JN(s:Fe.St)(j:Nat):Value :=
 if j=0 then .int .i64 s.x.b else if j=1 then .int .i64 s.x.lo else if j=2 then .int .i64 s.x.hi else if j=3 then .int .i64 s.x.g else if j=4 then .int .i64 s.x.s
 else if j=5 then .int .i64 s.z else if j=6 then .int .i64 s.m else .bool s.f
def sP(W:World)(I n:Nat)(S:Nat->Fe.St):Prop :=
 ∃vs:Array Value,At W I (.cells vs 249)/\vs.size=n*8/\∀i j,i<n->j<8->vs[i*8+j]? = some (JN (S i) j)
theorem sP.lt{W:World}{I n:Nat}{S:Nat->Fe.St}(h:sP W I n S):I<W.heap.size:=by obtain⟨_,h,_⟩:=h;exact h.lt
theorem sP.cell{W:World}{I n:Nat}{S:Nat->Fe.St}(h:sP W I n S){i:Nat}(hi:i<n)(j:Nat)(hj:j<8):W.cell? ⟨I,i*8+j,none⟩=some (JN (S i) j):=by
 obtain⟨vs,h,_,hc⟩:=h;rw[h.cell];exact hc i j hi hj
theorem sP.thaw{W:World}{I n:Nat}{S:Nat->Fe.St}(h:sP W I n S)(k:Nat):W.frozen? ⟨I,k,none⟩=false:=by
 obtain⟨vs,h,_⟩:=h;exact h.thaw k
theorem sP.keep{W W':World}{I n:Nat}{S:Nat->Fe.St}(h:sP W I n S)(hb:Below W.heap.size W W'):sP W' I n S:=by
 obtain⟨vs,h,r⟩:=h;exact⟨vs,h.keep hb,r⟩
theorem sP.alloc{W:World}{I n:Nat}{S:Nat->Fe.St}(h:sP W I n S)(o:Obj):sP (W.alloc o) I n S:=by
 obtain⟨vs,h,r⟩:=h;exact⟨vs,h.alloc o,r⟩
theorem sP.off{W:World}{I n b k:Nat}{S:Nat->Fe.St}(h:sP W I n S)(hne:I≠b)(v:Value):sP (W.setCell ⟨b,k,none⟩ v) I n S:=by
 obtain⟨vs,h,r⟩:=h;exact⟨vs,h.off hne k v,r⟩
theorem sP.same{W:World}{I n:Nat}{S T:Nat->Fe.St}(h:sP W I n S)(hs:∀i,i<n->S i=T i):sP W I n T:=by
 obtain⟨vs,h,hz,hc⟩:=h;exact⟨vs,h,hz,λi j hi hj=>by rw[hc i j hi hj,hs i hi]⟩
theorem sP.put{W:World}{I n:Nat}{S T:Nat->Fe.St}{i j:Nat}{v:Value}(h:sP W I n S)(hi:i<n)(hj:j<8)(hv:JN (T i) j=v)(ho:∀q,q<8->q≠j->JN (T i) q=JN (S i) q)(hs:∀k,k<n->k≠i->T k=S k) :
  sP (W.setCell ⟨I,i*8+j,none⟩ v) I n T:=by
 obtain⟨vs,h,hz,hc⟩:=h;refine⟨_,h.set (i*8+j) v,by simpa using hz,λk q hk hq => ?_⟩;rw[Array.getElem?_setIfInBounds];by_cases e:i*8+j=k*8+q
 . obtain rfl:i=k:=by omega
   obtain rfl:j=q:=by omega
   rw[if_pos rfl,if_pos aj,hv]
 . rw[if_neg e,hc k q hk hq]
   by_cases hik:k=i
   . subst hik
     rw[ho q hq aj]
   . rw[hs k hk hik]
theorem sP.turn{W:World}{I n r:Nat}{S:Nat->Fe.St}(h:sP W I n S)(hne:I≠r)(o:Obj):sP (W.putObj r o) I n S:=by
 obtain⟨vs,h,r⟩:=h;exact⟨vs,(World.putObj_heap_other hne).trans h,r⟩
theorem At.turn{W:World}{b r:Nat}{x:Obj}(h:At W b x)(hne:b≠r)(o:Obj):At (W.putObj r o) b x:=(World.putObj_heap_other hne).trans h
def N7(I n:Nat)(room way:Int):Obj:=.cells #[.slice (some ⟨I,0,none⟩) n n,.int .i64 room,.int .i64 way] 247
def acp(R I n:Nat)(room way:Int)(S:Nat->Fe.St)(i:Nat)(W:World):Prop :=
 At W R (N7 I n room way)/\I<W.heap.size/\∀k,i<=k->k<n->W.cell? ⟨I,k*8+7,none⟩=some (.bool (S k).f)
set_option maxRecDepth 100000 in
theorem rZ(n R I N:Nat)(room way:Int)(S:Nat->Fe.St)(hN:N<=64)(lp:Nat)(J:Nat->World->Prop)(Jx:World->Prop)(W:World)
  (hV:∀i W,J i W->acp R I N room way S i W) (PW:∀i W,i<N->(S i).f=true->J i W->J (i+1) W)
  (hY:∀i W,i<N->(S i).f=false->J i W->YieldAt Fence.wide (n-1) Tryz.prog lp #[.int .i64 (Fe.pl S i:Nat),.pointer (some ⟨I,i*8,none⟩)] W λe W'=>(e=.returned (.bool true)/\J (i+1) W')\/(e=.returned (.bool false)/\Jx W')) (h0:J 0 W) :
  CallsIn Fence.wide n Tryz.prog 167 (#[.pointer (some ⟨R,0,none⟩)] ++ #[.func (.yield lp) #[] #[]] ++ #[]) W λe W'=>(∃v,e=.returned v)/\(J N W'\/Jx W'):=by
 have HY:=ah hY;have HV:=ah hV;have HS:=ah PW;obtain⟨a0,_,_⟩:=hV 0 W h0;have l0:=a0.lt;have c0:=a0.cell 0;replace c0:W.cell? ⟨R,0,none⟩=some (.slice (some ⟨I,0,none⟩) N N):=c0;have H0:=ah h0;clear hY hV PW a0 h0;refine callsIn_of_wp Tryz.func167 rfl trivial ?_ rfl;simp only[Tryz.ntmps167,List.size_toArray,List.length_cons,List.length_nil,Nat.reduceAdd,Nat.reduceSub,Array.replicate_succ,Array.replicate_zero,List.push_toArray,List.append_toArray,List.nil_append,List.cons_append]
 gi_wp2
 gi_loopw [4,12] (λp i wr=>∃k:Nat,k<=N/\i=.int .i64 k/\p=.int .i64 (Fe.pl S k:Nat)/\J k wr) (λ_ i _=>N-(intOf i).toNat)
 case atStart=>exact⟨0,by omega,rfl,rfl,H0.out⟩
 case round =>
  obtain⟨k,hk,rfl,rfl,hJ⟩:=hrel;obtain⟨a1,li,cs⟩:=HV.out k wr hJ;have l1:=a1.lt;have c1:=a1.cell 0;replace c1:wr.cell? ⟨R,0,none⟩=some (.slice (some ⟨I,0,none⟩) N N):=c1;by_cases hlt:k<N
  . have hltz:(k:Int)<(N:Int):=by omega
    have cf:=cs k aD hlt;have hpl:=Fe.PN S k;cases hf:(S k).f with
    | true =>
      rw[hf]at cf;have hJ2:=HS.out k wr hlt hf hJ;have HP:Hid (Fe.pl S (k+1)=Fe.pl S k):=ah (by simp[Fe.pl,hf]);clear cs
      gi_wp2
      go_roundw
      case rel=>exact⟨k+1,by omega,by go_num,by rw[HP.out],hJ2⟩
      case measure=>simp[intOf];omega
    | false =>
      rw[hf]at cf;have HP:Hid (Fe.pl S (k+1)=Fe.pl S k+1):=ah (by simp[Fe.pl,hf]);obtain⟨fn,tmps,assign,body,hy,hR⟩:=HY.out k wr hlt hf hJ;clear cs
      gi_wp2
      refine⟨λhd=>Z58,hR.mono ?_⟩;rintro e W3 (⟨rfl,hJ3⟩|⟨rfl,hJx3⟩)
      . gi_wp2
        go_roundw
        case rel=>exact⟨k+1,by omega,by go_num,by rw[HP.out];go_num,hJ3⟩
        case measure=>simp[intOf];omega
      . gi_wp2
        refine bodyPost_ret (results_none rfl _ _ _) rfl ?_;exact⟨⟨_,rfl⟩,.inr hJx3⟩
  . have hltz:¬ (k:Int)<(N:Int):=by omega
    obtain rfl:k=N:=by omega
    gi_wp2
    go_end0
    exact⟨⟨_,rfl⟩,.inl hJ⟩
end Go.Proofs.YtmidaiklolmkcaaGreat.Fix
namespace Go.Proofs.YtmidaiklolmkcaaGreat.Fix
open Go.ChangeShapes Go.WideShapes Go.ChangeAt Go.RowKit
def fA(W:World)(R I n:Nat)(room:Int)(gr:Bool)(S:Nat->Fe.St):Prop:=At W R (N7 I n room (Fe.sg gr))/\sP W I n S
theorem fA.keep{W W':World}{R I n:Nat}{room:Int}{gr:Bool}{S:Nat->Fe.St}(h:fA W R I n room gr S)(hb:Below W.heap.size W W'):fA W' R I n room gr S:=⟨h.1.keep hb,h.2.keep hb⟩
theorem fA.drew{W:World}{R I n:Nat}{room:Int}{gr:Bool}{S:Nat->Fe.St}(h:fA W R I n room gr S):fA W.drew R I n room gr S:=h.keep (Below.refl _ _).drew
theorem fA.cells{W:World}{R I n:Nat}{room:Int}{gr:Bool}{S:Nat->Fe.St}(h:fA W R I n room gr S) :
 R<W.heap.size/\W.cell? ⟨R,0,none⟩=some (.slice (some ⟨I,0,none⟩) n n)/\W.cell? ⟨R,1,none⟩=some (.int .i64 room)/\W.cell? ⟨R,2,none⟩=some (.int .i64 (Fe.sg gr)):=⟨h.1.lt,h.1.cell 0,h.1.cell 1,h.1.cell 2⟩
theorem sP.fields{W:World}{I n:Nat}{S:Nat->Fe.St}(h:sP W I n S){i:Nat}(hi:i<n) :
  I<W.heap.size/\W.cell? ⟨I,i*8,none⟩=some (.int .i64 (S i).x.b)/\W.cell? ⟨I,i*8+1,none⟩=some (.int .i64 (S i).x.lo)/\W.cell? ⟨I,i*8+2,none⟩=some (.int .i64 (S i).x.hi)/\W.cell? ⟨I,i*8+3,none⟩=some (.int .i64 (S i).x.g)/\W.cell? ⟨I,i*8+4,none⟩=some (.int .i64 (S i).x.s) /\
   W.cell? ⟨I,i*8+5,none⟩=some (.int .i64 (S i).z)/\W.cell? ⟨I,i*8+6,none⟩=some (.int .i64 (S i).m)/\W.cell? ⟨I,i*8+7,none⟩=some (.bool (S i).f) :=
 ⟨h.lt,h.cell hi 0 aj,h.cell hi 1 aj,h.cell hi 2 aj,h.cell hi 3 aj,h.cell hi 4 aj,h.cell hi 5 aj,h.cell hi 6 aj,h.cell hi 7 aj⟩
theorem tL(R I n i:Nat)(room:Int)(gr:Bool)(S:Nat->Fe.St)(w:World)(h:fA w R I n room gr S)(hi:i<n) :
  Calls Tryz.prog 172 #[.pointer (some ⟨R,0,none⟩),.pointer (some ⟨I,i*8,none⟩)] w λe w'=>e=.returned (.int .i64 (Fe.fac gr (S i).x))/\w=w':=by
 obtain⟨l0,c0,c1,c2⟩:=h.cells;obtain⟨l1,d0,d1,d2,d3,d4,d5,d6,d7⟩:=h.2.fields hi;clear h c0 c1 d0 d1 d2 d5 d6 d7;cases gr
 . simp only[Fe.fac,Fe.sg,Bool.false_eq_true,if_false]at *
   go_enter Tryz.func172,Tryz.ntmps172
   go_wp2;exact EL
 . simp only[Fe.fac,Fe.sg,if_true]at *
   go_enter Tryz.func172,Tryz.ntmps172
   go_wp2;exact EL
theorem N8(R I n i:Nat)(room:Int)(gr:Bool)(S:Nat->Fe.St)(w:World)(h:fA w R I n room gr S)(hi:i<n)(hb:(0<=(S i).x.b/\(S i).x.b<=1048576)/\0<=(S i).x.s/\(S i).x.s<=1000) :
  Calls Tryz.prog 169 #[.pointer (some ⟨R,0,none⟩),.pointer (some ⟨I,i*8,none⟩)] w λe w'=>e=.returned (.int .i64 (Fe.wt gr (S i).x))/\Below w.heap.size w w':=by
 obtain⟨l0,c0,c1,c2⟩:=h.cells;obtain⟨l1,d0,d1,d2,d3,d4,d5,d6,d7⟩:=h.2.fields hi;clear h c0 c1 d1 d2 d5 d6 d7;cases gr
 . simp only[Fe.wt,Fe.sg,Bool.false_eq_true,if_false]at *
   obtain⟨⟨b1,b2⟩,b3,b4⟩:=hb;have hp:=Fe.PK b3 b4 b1 b2;have hw:IntKind.i64.wrap ((S i).x.s*(S i).x.b)=(S i).x.s*(S i).x.b:=IntWalk.i64_in _ aj;have hw2:wrap64 ((S i).x.s*(S i).x.b)=(S i).x.s*(S i).x.b:=IntWalk.wrap64_in _ aj;generalize (S i).x.s=s at *;generalize (S i).x.b=b at *;have HW:=ah hw2;clear hw2;go_enter Tryz.func169,Tryz.ntmps169
   go_upto_region 3 with(fail)
   refine xW ?_
   (repeat (first|refine nW ?_ | refine nX ?_ (hc:=by intro w2 hS;first|with_reducible exact J9 hS (fI _ _))|refine nY ?_))
   refine ak.cK ?_;intro w2 hS;go_wp2
   go_ret
   exact⟨bO (by first|rfl|exact HW.out),by(repeat (first|exact Below.refl _ _ | assumption|refine Below.drew ?_ | refine Below.drewN ?_ _ | refine Below.alloc' ?_ _ | refine Below.setCell ?_ Z4x _ | refine Below.ay ?_ aD (by assumption)))⟩
 . simp only[Fe.wt,Fe.sg,if_true]at *
   clear hb;go_enter Tryz.func169,Tryz.ntmps169
   go_wp2
   go_ret
   exact⟨rfl,Below.refl _ _⟩
theorem Rz(R I n i:Nat)(room:Int)(gr:Bool)(S:Nat->Fe.St)(w:World)(h:fA w R I n room gr S)(hi:i<n)(hb:(0<=(S i).x.b/\(S i).x.b<=1048576)/\0<=(S i).z/\(S i).z<=1048576) :
  Calls Tryz.prog 168 #[.pointer (some ⟨R,0,none⟩),.pointer (some ⟨I,i*8,none⟩)] w λe w'=>e=.returned (.bool (Fe.stay gr (S i).x (S i).z))/\Below w.heap.size w w':=by
 obtain⟨l0,c0,c1,c2⟩:=h.cells;obtain⟨l1,d0,d1,d2,d3,d4,d5,d6,d7⟩:=h.2.fields hi;have HR:=ah h;have Hi:=ah hi;clear h c0 c1 d1 d2 d3 d4 d6 d7 hi;unfold Fe.stay;obtain⟨⟨b1,b2⟩,b3,b4⟩:=hb;generalize hfc:Fe.fac gr (S i).x=fc;have HFC:=ah hfc;clear hfc;generalize (S i).x.b=b at *;generalize (S i).z=z at *;have W1:Hid (IntKind.i64.wrap (Fe.sg gr*b)=Fe.sg gr*b):=ah (IntWalk.i64_in _ (by cases gr<;>simp only[Fe.sg,Bool.false_eq_true,if_false,if_true]<;>omega));have W2:Hid (IntKind.i64.wrap (Fe.sg gr*z)=Fe.sg gr*z):=ah (IntWalk.i64_in _ (by cases gr<;>simp only[Fe.sg,Bool.false_eq_true,if_false,if_true]<;>omega));generalize Fe.sg gr=way at *;by_cases h0:fc=0
 . have k0:(Fe.fac gr (S i).x==0)=true:=by rw[HFC.out];simpa using h0
   subst h0;clear HFC;go_enter Tryz.func168,Tryz.ntmps168
   go_wp2;refine ak.vk aF jD jD jD ?_
   (repeat (first|refine nW ?_ | refine nX ?_ (hc:=by intro w2 hS;first|with_reducible exact J9 hS (tL _ _ _ _ _ _ _ _ (HR.out.keep hS) Hi.out))|refine nY ?_))
   try simp only[k0]
   (repeat (first|refine nW ?_ | refine nX ?_ (hc:=by intro w2 hS;first|with_reducible exact J9 hS (tL _ _ _ _ _ _ _ _ (HR.out.keep hS) Hi.out))|refine nY ?_))
   refine ak.cK ?_;intro w2 hS;go_wp2
   go_ret
   exact⟨rfl,by(repeat (first|exact Below.refl _ _ | assumption|refine Below.drew ?_ | refine Below.drewN ?_ _ | refine Below.alloc' ?_ _ | refine Below.setCell ?_ Z4x _ | refine Below.ay ?_ aD (by assumption)))⟩
 . have k0:(Fe.fac gr (S i).x==0)=false:=by rw[HFC.out];simpa using h0
   go_enter Tryz.func168,Tryz.ntmps168
   go_wp2;refine ak.vk aF jD jD jD ?_
   (repeat (first|refine nW ?_ | refine nX ?_ (hc:=by intro w2 hS;first|with_reducible exact J9 hS (tL _ _ _ _ _ _ _ _ (HR.out.keep hS) Hi.out))|refine nY ?_))
   try simp only[k0]
   (repeat (first|refine nW ?_ | refine nX ?_ (hc:=by intro w2 hS;first|with_reducible exact J9 hS (tL _ _ _ _ _ _ _ _ (HR.out.keep hS) Hi.out))|refine nY ?_))
   refine ak.cK ?_;intro w2 hS;go_wp2
   go_ret
   exact⟨fT (by rw[W1.out,W2.out];simp[h0]),by(repeat (first|exact Below.refl _ _ | assumption|refine Below.drew ?_ | refine Below.drewN ?_ _ | refine Below.alloc' ?_ _ | refine Below.setCell ?_ Z4x _ | refine Below.ay ?_ aD (by assumption)))⟩
def Sound(S:Nat->Fe.St)(n:Nat):Prop:=∀i,i<n->((0<=(S i).x.b/\(S i).x.b<=1048576)/\0<=(S i).x.s/\(S i).x.s<=1000)/\0<=(S i).z/\(S i).z<=1048576
theorem Ie{room:Int}{S:Nat->Fe.St}{n:Nat}(h:Sound S n)(k:Nat)(hk:k<=n):room-1048576*k<=Fe.left room S k/\Fe.left room S k<=room:=by
 induction k with
 | zero=>simp[Fe.left]
 | succ k ih =>
   obtain⟨h1,h2⟩:=ih aj;obtain⟨⟨⟨b1,b2⟩,_⟩,z1,z2⟩:=h k aj;simp only[Fe.left];split<;>constructor<;>omega
theorem KV(R I n:Nat)(room:Int)(gr:Bool)(S:Nat->Fe.St)(w:World)(h:fA w R I n room gr S)(hs:Sound S n)(hn:n<=64)(hr:0<=room/\room<=67108864) :
  Calls Tryz.prog 171 #[.pointer (some ⟨R,0,none⟩)] w λe w'=>e=.returned (.int .i64 (Fe.free gr room S n))/\Below w.heap.size w w':=by
 have HR:=ah h;have HS:=ah hs;obtain⟨l0,c0,c1,c2⟩:=h.cells;clear h hs c2;go_enter Tryz.func171,Tryz.ntmps171
 go_wp2;clear c0 c1
 go_loopw [3,15] (λl i wr=>∃k:Nat,k<=n/\i=.int .i64 k/\l=.int .i64 (Fe.left room S k)/\Below w.heap.size w wr) (λ_ i _=>n-(intOf i).toNat)
 case atStart=>exact⟨0,by omega,rfl,rfl,Below.refl _ _⟩
 case round =>
  obtain⟨k,hk,rfl,rfl,hB⟩:=hrel;obtain⟨l0,c0,c1,c2⟩:=(HR.out.keep hB).cells;by_cases hlt:k<n
  . obtain⟨l1,d0,d1,d2,d3,d4,d5,d6,d7⟩:=(HR.out.keep hB).2.fields hlt
    obtain⟨g1,g2⟩:=Ie (room:=room) HS.out k aj;obtain⟨⟨⟨b1,b2⟩,_⟩,z1,z2⟩:=HS.out k hlt;cases hf:(S k).f with
    | true =>
      have HL:Hid (Fe.left room S (k+1)=Fe.left room S k-(S k).z):=ah (by simp[Fe.left,hf]);exact Z1i
    | false =>
      have HL:Hid (Fe.left room S (k+1)=Fe.left room S k-(S k).x.b):=ah (by simp[Fe.left,hf]);exact Z1i
  . obtain rfl:k=n:=by omega
    obtain⟨g1,g2⟩:=Ie (room:=room) HS.out k aj;obtain⟨q,hq,HQ⟩:∃q,q=(if Fe.sg gr*Fe.left room S k<0 then 0 else Fe.sg gr*Fe.left room S k)/\Fe.free gr room S k=q:=⟨_,rfl,rfl⟩;replace HQ:=ah HQ;generalize Fe.left room S k=u at *;cases gr
    . simp only[Fe.sg,Bool.false_eq_true,if_false]at *
      go_wp2
      all_goals
       go_ret
       exact⟨bO (by rw[HQ.out,hq];(repeat' split)<;>omega),hB⟩
    . simp only[Fe.sg,if_true]at *
      go_wp2
      all_goals
       go_ret
       exact⟨bO (by rw[HQ.out,hq];(repeat' split)<;>omega),hB⟩
end Go.Proofs.YtmidaiklolmkcaaGreat.Fix
