/- Proved here: what functions of the program do, in plain numbers (part 14); no conditions but those in sight. -/
import Derived.Test.YtcbcfdihofclkaaGreatQK
import Derived.Test.YtcbcfdihofclkaaGreatQ03
import Derived.Test.YtcbcfdihofclkaaGreatQ12
import Derived.Test.YtcbcfdihofclkaaGreatQ13
set_option linter.unusedVariables false
set_option linter.unusedSimpArgs false
set_option linter.unusedSectionVars false
set_option maxRecDepth 100000
namespace Go.Proofs.YtcbcfdihofclkaaGreat.Fix
open Go.ChangeShapes Go.WideShapes Go.ChangeAt Go.RowKit
theorem Ih(t:Re.St):(!Nu λi=>Re.num t i)=Re.valid t:=by
 rw[Ig _ t.b]
 have hb:∀i,Re.sJ i=true->Re.inn (Re.num t i) 0 1=true:=λi hi=>by
  rw[Re.O4];unfold Re.num;rw[if_pos hi];split<;>omega
 rw[hb 45 rfl,hb 47 rfl,hb 51 rfl,hb 52 rfl];simp only[Bool.and_true]
 exact Re.MJ λi hi=>by
  by_cases e:Re.sJ i=true
  . rw[if_pos e]
  . rw[if_neg e];exact Re.Js (by simpa using e)
theorem Ii(t:Re.St)(w:World):Calls Tryz.prog 69 #[.agg (cells t)] w λe w'=>e=.returned (.bool (Re.valid t))/\Below w.heap.size w w':=by
 generalize hr:Re.valid t=r;rw[<-Ih]at hr;go_enter Tryz.func69,Tryz.ntmps69
 go_wp2_with (go_at_call 127;(with_reducible refine(Ko Nv trivial (At.new _ _) (λq=>q) (λ_ _ q=>q)).mono ?_);rintro e w2 ⟨rfl,_,_,hO⟩;rw[hr])
 go_ret
 exact⟨rfl,(Below.alloc' (Below.refl _ _) _).trans (hO.below eY λb hb q=>q.elim id (dh hb))⟩
end Go.Proofs.YtcbcfdihofclkaaGreat.Fix
namespace Go.Proofs.YtcbcfdihofclkaaGreat.Fix
open Go.ChangeShapes Go.WideShapes Go.ChangeAt Go.RowKit Go.Shelf
theorem wpList_build{ops:Array Oper}{rest:List Oper}{o:Oper}{a:Act}{w:World}{Q:Exit->Act->World->Prop}(hw:Region.wanted o (yielded ops a.tmps)=true)(t:TypeId)(ps:Array (Nat×Operand))(ho:o.op=.build t ps){v:Value}(qs:Array (Nat×Value))(hq:(ps.map λp=>(p.1,a.eval p.2))=qs)
  (hrun:(Instr.build t qs).run Tryz.prog w=.ok v w) (h:wpList Tryz.prog ops Q rest (a.put o.dst v) w):wpList Tryz.prog ops Q (o::rest) a w :=
 dY hw (by unfold execOp;simp only[ho,hq,Sem.run_bind,hrun,Result.andThen_ok,Sem.run_pure]) h
def T0:Tr.T:=λz=>if z=0 then some ⟨-1,[],Re.zero⟩else none
theorem UA(w:World):Calls Tryz.prog 53 #[] w λe w'=>(∃t,e=.returned (.pointer (some ⟨t,0,none⟩))/\∃L,fQ w' t L T0 1/\∀b,owned t L T0 b->w.heap.size<=b)/\Below w.heap.size w w':=by
 have hmm:=@run_makeMap Tryz.prog;have p0:=(PM.made w).out (M:=λ_=>False) (λq=>q) (Out.of_below (Below.alloc' (Below.refl _ _) (.cells (bY (-1) (.slice none 0 0) Re.zero) 127)));have hb0:At ((w.alloc (.map #[] 0)).alloc (.cells (bY (-1) (.slice none 0 0) Re.zero) 127)) (w.heap.size+1) (.cells (bY (-1) (.slice none 0 0) Re.zero) 127):=At.new' _ eY;have hB0:Below w.heap.size w ((w.alloc (.map #[] 0)).alloc (.cells (bY (-1) (.slice none 0 0) Re.zero) 127)):=Below.alloc' (Below.alloc' (Below.refl _ _) _) _;obtain⟨W2,hmu,p2,ho⟩:=p0.store (by simp[maxLen]) (z:=0) Z57 rfl (w.heap.size+1);have hlm:=p0.lt;have hA2:=hb0.out (M:=λx=>x=w.heap.size) eY ho;have hB2:Below w.heap.size w W2:=hB0.trans (ho.below jH λb hb (q:b=_)=>by omega);have hs2:=ho.size;simp only[World.size_alloc]at hs2;have hB3:Below w.heap.size w (W2.alloc (.cells #[.map (some w.heap.size)] 131)):=Below.alloc' hB2 _
 have hR:Hid (fQ (W2.alloc (.cells #[.map (some w.heap.size)] 131)) W2.heap.size ⟨w.heap.size,λ_=>w.heap.size+1,λ_ => .slice none 0 0⟩ T0 1/\∀b,owned W2.heap.size ⟨w.heap.size,λ_=>w.heap.size+1,λ_ => .slice none 0 0⟩ T0 b->w.heap.size<=b):=Lib.hid (by
  have live:∀z,T0 z≠none->z=0:=λz hz=>by
   unfold T0 at hz;split at hz
   . assumption
   . exact absurd rfl hz
  have some_:∀z nd,T0 z=some nd->z=0/\nd=⟨-1,[],Re.zero⟩:=λz nd hz=>by
   unfold T0 at hz;split at hz
   . injection hz with hz;exact⟨by assumption,hz.symm⟩
   . cases hz
  refine⟨⟨At.new _ _,(p2.out (M:=λ_=>False) (λq=>q) (Out.of_below (Below.alloc' (Below.refl _ _) _))).congr λz _ => ?_,λz nd hz => ?_,λz nd hz => ?_,λy z hy hz _=>by rw[live y hy,live z hz],λy z g hy hz h _=>(by cases h),λz nd hz => ?_⟩,λb hb => ?_⟩
  . unfold Nj T0
    by_cases e:z=0<;>simp[e]
  . obtain⟨rfl,rfl⟩:=some_ z nd hz
    exact hA2.alloc _
  . obtain⟨rfl,rfl⟩:=some_ z nd hz
    exact KS.nil _
  . obtain⟨rfl,rfl⟩:=some_ z nd hz
    simp
  . rcases hb with rfl|rfl|⟨z,nd,hz,rfl|hb⟩
    . omega
    . exact ah _
    . simp
    . cases hb)
 clear p0 hb0 hB0 p2 ho hlm hA2 hB2 hs2;go_enter Tryz.func53,Tryz.ntmps53
 go_wp2_with (first|(refine wpList_build aU 127 _ rfl #[(0,.int .i64 (-1))] XO (Ie _ _) ?_)|(refine wpList_build aU 131 _ rfl #[(0,.map (some w.heap.size))] XO (Nl _ _) ?_))
 go_ret
 exact⟨⟨_,rfl,_,hR.out.1,hR.out.2⟩,hB3⟩
theorem QY{W:World}{b:Nat}{u:Int}{v:Value}{s:Re.St}(h:At W b (.cells (bY u v s) 127))(t:Re.St):(Instr.storeAt 51 (.pointer (some ⟨b,2,none⟩)) (.agg (cells t))).run Tryz.prog W=.ok () (W.setRow b (bY u v t)):=by
 have hz:(sizeOf 51).run Tryz.prog W=.ok 55 W:=by kernel_rfl
 have hst:=run_storeCells_at Tryz.prog b 2 127 (cells t).toList 0 (bY u v s) W h (by rw[Ae,Array.length_toList,bC];omega) (λx hx=>by
  have:=Array.all_eq_true_iff_forall_mem.1 (cells_one t) x (by simpa using hx);exact this)
 have e:((bY u v s).toList.take (2+0)++(cells t).toList++(bY u v s).toList.drop (2+0+(cells t).toList.length)).toArray=bY u v t:=by
  apply Array.ext';rw[Array.length_toList,bC];have h1:(bY u v s).toList.drop (2+0+55)=[]:=List.drop_of_length_le (by rw[Array.length_toList,Ae];omega);rw[h1];simp[bY]
 rw[e]at hst;have hc:(Value.agg (cells t)).cells=cells t:=rfl;simp only[Instr.storeAt,Instr.sureAddr,storeVar,Sem.run_bind,Sem.run_pure,Result.andThen_ok,hz,hc,bC,ne_eq,not_true_eq_false,if_false,hst]
theorem sM{w w':World}{o:Oper}{a:Act}{t:TypeId}(x y:Operand)(ho:o.op=.store t x y){p v:Value}(hx:a.eval x=p)(hy:a.eval y=v)(hrun:(Instr.storeAt t p v).run Tryz.prog w=.ok () w'):(execOp a.eval o).run Tryz.prog w=.ok .skip w':=by
 unfold execOp;simp only[ho,hx,hy,Sem.run_bind,hrun,Result.andThen_ok,Sem.run_pure]
theorem ko{ops:Array Oper}{S:World->Prop}{o:Oper}{a:Act}(hw:Region.wanted o (yielded ops a.tmps)=true)(x:Operand)(ho:o.op=.load 51 x){b:Nat}(hx:a.eval x=.pointer (some ⟨b,0,none⟩)){s:Re.St}(hs:∀w,S w->At w b (.cells (cells s) 51)):aj.Reads Tryz.prog ops S o (.agg (cells s)) a :=
 .inl ⟨hw,λw h=>by unfold execOp;simp only[ho,hx,Sem.run_bind,CX (hs w h),Result.andThen_ok,Sem.run_pure]⟩
def oI(T:Tr.T)(z:Int)(s:Re.St):Int:=if (T z).isSome=false then 2 else if Re.valid s=false then 1 else 0
def dG(T:Tr.T)(z:Int)(s:Re.St):Tr.T:=if oI T z s=0 then Tr.wD T z s else T
set_option maxHeartbeats 4000000 in
theorem UC{w:World}{t n:Nat}{L:Lay}{T:Tr.T}(h:fQ w t L T n){z:Int}(hz:Wf z)(s:Re.St):Calls Tryz.prog 24 #[.pointer (some ⟨t,0,none⟩),.int .i64 z,.agg (cells s)] w λe w'=>e=.returned (.int .i64 (oI T z s))/\fQ w' t L (dG T z s) n/\Grow t L L T (dG T z s) w w':=by
 have hB:Below w.heap.size w (w.alloc (.cells (cells s) 51)):=Below.alloc' (Below.refl _ _) _;have h1:=h.after hB;have hA:At (w.alloc (.cells (cells s) 51)) w.heap.size (.cells (cells s) 51):=At.new _ _;generalize hW:w.alloc (.cells (cells s) 51)=w1 at *;have key:=gN h1 hz;cases hT:T z with
 | none =>
   have hE:oI T z s=2:=by unfold oI;rw[hT];rfl
   have hS:dG T z s=T:=by unfold dG;rw[hE];rfl
   rw[hT]at key;rw[hE,hS];have HR:=Lib.hid h1;have HB:=Lib.hid hB;clear h h1 hB hE hS;go_enter Tryz.func24,Tryz.ntmps24
   go_wp2_with (go_at_call 25;(with_reducible refine key.mono ?_);rintro e w' ⟨rfl,rfl⟩)
   go_ret
   exact⟨rfl,HR.out,Grow.of_below HB.out⟩
 | some nd =>
   rw[hT]at key;have key2:=Ii s w1;cases hv:Re.valid s with
   | false =>
     have hE:oI T z s=1:=by unfold oI;rw[hT,hv];rfl
     have hS:dG T z s=T:=by unfold dG;rw[hE];rfl
     rw[hv]at key2;rw[hE,hS];have HR:=Lib.hid h1;have HB:=Lib.hid hB;clear h h1 hB hE hS;go_enter Tryz.func24,Tryz.ntmps24
     go_wp2_with (first|(refine aS aU _ rfl rfl hA ?_)|(go_at_call 25;(with_reducible refine key.mono ?_);rintro e w' ⟨rfl,rfl⟩)|(go_at_call 69;(with_reducible refine key2.mono ?_);rintro e w2 ⟨rfl,hb2⟩))
     go_ret
     exact⟨rfl,HR.out.after hb2,Grow.of_below (HB.out.trans (hb2.mono HB.out.size))⟩
   | true =>
     have hE:oI T z s=0:=by unfold oI;rw[hT,hv];rfl
     have hS:dG T z s=Tr.set T z { nd with sty:=s }:=by unfold dG Tr.wD;rw[hE,hT];rfl
     rw[hv]at key2;rw[hE,hS];have HR:=Lib.hid h1;have HB:=Lib.hid hB;have HA:=Lib.hid hA;clear h h1 hB hE hS;go_enter Tryz.func24,Tryz.ntmps24
     go_upto_region 5 with(first|(refine aS aU _ rfl rfl hA ?_)|(go_at_call 25;(with_reducible refine key.mono ?_);rintro e w' ⟨rfl,rfl⟩)|(go_at_call 69;(with_reducible refine key2.mono ?_);rintro e w2 ⟨rfl,hb2⟩))
     have hR2:=(HR.out.after hb2).after (Below.refl _ w2).drew;have hA2:At w2.drew w.heap.size (.cells (cells s) 51):=(hA.keep hb2).drew;have hO2:Below w.heap.size w w2.drew:=(HB.out.trans (hb2.mono HB.out.size)).drew;have hne:L.bl z≠w.heap.size:=λe=>by have:=(hR2.box z nd hT).uniq (e▸hA2);injection this with _ e2;exact absurd e2 aG
     obtain⟨BK,hG3⟩:=hR2.Nn (s:=s) hT;have hst:=QY (hR2.box z nd hT) s;have hA3:=hA2.mY hne.symm (bY nd.up (L.sl z) s);generalize hW2:w2.drew=W2 at *;have hS0:W2.cell? ⟨t,0,none⟩=some (.map (some L.mb))/\(Instr.lookup 129 (.map (some L.mb)) (.int .i64 z) false).run Tryz.prog W2=.ok (.pointer (some ⟨L.bl z,0,none⟩)) W2/\At W2 w.heap.size (.cells (cells s) 51):=⟨hR2.cT,hR2.gJ hT,hA2⟩;have uG:=Lib.hid (show _/\_/\At (W2.setRow (L.bl z) (bY nd.up (L.sl z) s)) w.heap.size (.cells (cells s) 51)from⟨BK.cT,BK.gJ (Tr.aJ _ _ _),hA3⟩);have HST:=Lib.hid hst;have HR3:=Lib.hid BK;have Ij:=Lib.hid ((Grow.of_below hO2).trans hG3);clear hR2 hA2 hO2 BK hG3 hst hA3 HR HB hA hb2;generalize W2.setRow (L.bl z) (bY nd.up (L.sl z) s)=W3 at *;refine aj.qP (S:=(λW'=>W'.cell? ⟨t,0,none⟩=some (.map (some L.mb))/\(Instr.lookup 129 (.map (some L.mb)) (.int .i64 z) false).run Tryz.prog W'=.ok (.pointer (some ⟨L.bl z,0,none⟩)) W'/\At W' w.heap.size (.cells (cells s) 51))) 10 fV ?_ ?_
     . rw[hW2];exact hS0
     intro hS1;rw[hW2];clear hS1 hW2;refine aT 0 ?_;refine aT 1 ?_;refine aT 2 ?_;refine aT 3 ?_;refine aT 4 ?_;refine rD 5 rfl (dZ aU rfl rfl rfl (λW h=>h.2.1)) ?_;refine rD 6 rfl (ko aU (.tmp 5) rfl rfl (λW h=>h.2.2)) ?_;refine aT 7 ?_;refine aT 8 ?_;refine tk1 9 ?_;refine aj.Step.skip (sM (.tmp 24) (.tmp 22) rfl rfl rfl HST.out) ?_;refine⟨λ_=>uG.out,?_⟩
     (try simp only[bF,bG,bH,tks])
     refine jY ?_;go_wp2
     go_ret
     exact⟨rfl,HR3.out,Ij.out⟩
theorem Dt{w:World}{t n:Nat}{L:Lay}{T:Tr.T}(h:fQ w t L T n){x:Int}{nd p:Tr.Nd}(hx:T x=some nd)(hp:T nd.up=some p){i:Nat}(hi:p.kids[i]? = some x)(hn:p.kids.Nodup) :
  Calls Tryz.prog 163 #[.pointer (some ⟨t,0,none⟩),.int .i64 x] w λe w'=>(∃v,e=.returned v)/\∃L',fQ w' t L' (Tr.leave T x) n/\Grow t L L' T (Tr.leave T x) w w':=by
 obtain⟨hlt,hie⟩:=List.getElem?_eq_some_iff.1 hi;have hpk:=(h.small nd.up p hp).2.2.2.2;have hw:Wf x:=h.wf hx;have hwu:Wf nd.up:=h.wf hp;have hrow:=h.row nd.up p hp
 have hf:∀j,j<i->p.kids[j]? ≠ some x:=λj hj e=>by
  obtain⟨hj2,he⟩:=List.getElem?_eq_some_iff.1 e;have:=(List.getElem_inj hn).1 (he.trans hie.symm);omega
 have key2:=λW (hb:KS W (L.sl nd.up) p.kids)=>QN hb hi hf;have hleave:Tr.leave T x=Tr.set T nd.up { p with kids:=Tr.wo p.kids x }:=by unfold Tr.leave;rw[hx];simp only[hp]
 have hwo:=Tr.TT hn hi;rw[hleave];rcases hrow.cases with⟨_,h0⟩|⟨g,c,hsl,hrw⟩
 . rw[h0]at hlt;simp at hlt
 rw[hsl]at key2;have adM:=λW (hb:Rw W g c p.kids)=>Ng (w:=W) hb (i:=i) (j:=i+1) ak ak;clear hie;generalize hlen:p.kids.length=m at *;have hup:Hid (rT T x=nd.up):=Lib.hid (by unfold rT;rw[hx]);have key1:=λW (hr:fQ W t L T n)=>BQ hr hw;rw[hup.out]at key1;generalize hu:nd.up=u at *;have HP:=Lib.hid hp;have HR:=Lib.hid h;have YK:=Lib.hid key2;have HK3:=Lib.hid adM;have HSL:=Lib.hid hsl;have HWO:=Lib.hid hwo;have HLEN:=Lib.hid hlen;have hw1:IntKind.i64.wrap ((i:Int)+1)=((i+1:Nat):Int):=by rw[IntWalk.i64_in _ ak];omega
 have hS0:fQ w.drew t L T n:=h.after (Below.refl _ w).drew;clear h key2 adM hsl hwo hrow hf hleave hi hn hp hx hrw hlen;go_enter Tryz.func163,Tryz.ntmps163
 go_upto_region 0 with(fail)
 refine kQ (S:=(λW'=>W'.cell? ⟨t,0,none⟩=some (.map (some L.mb))/\fQ W' t L T n/\W'=w.drew)) 9 ?_ ?_
 . exact⟨hS0.cT,hS0,rfl⟩
 intro hS1;refine aT 0 ?_;refine aT 1 ?_;refine aT 2 ?_;refine aT 3 ?_;refine aT 4 ?_;refine aT 5 ?_;refine tk1 6 ?_;refine aj.Step.call dQ (key1 _ hS1.2.1) ?_;rintro e w4 ⟨rfl,rfl⟩;refine⟨_,rfl,λ_=>hS1,?_⟩
 (try simp only[bF,bG,bH,tks])
 refine rD 7 rfl (dZ aU rfl rfl rfl (λW h=>h.2.1.gJ HP.out)) ?_;refine aT 8 ?_;refine jY ?_;clear hS1;generalize hW:w.drew=w1 at *;have hD:Below w.heap.size w w1:=hW▸(Below.refl _ _).drew;have c1:=hS0.lF HP.out;rw[HSL.out]at c1;have k2:=YK.out w1 (HSL.out▸hS0.row u p HP.out)
 have k3:=HK3.out w1 (by
  have:=hS0.row u p HP.out;rw[HSL.out]at this;rcases this.cases with⟨e,_⟩|⟨g',c',e,hr⟩
  . cases e
  . injection e with e1 e2 e3;injection e1 with e1;injection e1 with e1;subst e1;subst e3;exact hr)
 rw[show((i+1:Nat):Int)=(i:Int)+1 by omega]at k3;have hne:g≠L.bl u:=λe=>hS0.Dn HP.out HP.out (by rw[HSL.out];exact congrArg some e);clear hW key1
 go_wp2_with (first|(go_at_call 217;(with_reducible refine k2.mono ?_);rintro e w' ⟨rfl,rfl⟩)|(go_at_call 218;(with_reducible refine k3.mono ?_);rintro e w2 ⟨rfl,hrw2,hO2⟩;have c2:w2.cell? ⟨L.bl u,1,none⟩=some (.slice (some ⟨g,0,none⟩) m c):=(by rw[((hS0.box u p HP.out).out (λe=>hne e.symm) hO2).cell,vk,HSL.out]);have z2:=((hS0.box u p HP.out).out (λe=>hne e.symm) hO2).thaw 1))
 refine bodyPost_end (results_none rfl _ _ _) rfl ?_;refine⟨⟨_,rfl⟩,?_⟩;rw[HWO.out];have hm:=HLEN.out;have hl:(List.take i p.kids++List.drop (i+1) p.kids).length=i+(m-(i+1)):=by simp only[List.length_append,List.length_take,List.length_drop];omega
 have hks:=hrw2.ks;rw[hl]at hks;obtain⟨r1,r2⟩:=hS0.sN HP.out (hO2.mono λb _ (q:b=g)=>by rw[HSL.out,q];rfl) hks (by rw[HSL.out];exact .inl rfl) ak;exact⟨_,r1,(Grow.of_below hD).trans r2⟩
theorem Du{w:World}{t n:Nat}{L:Lay}{T:Tr.T}(h:fQ w t L T n){x u:Int}{nd p:Tr.Nd}(hx:T x=some nd)(hu:T u=some p)(hne:u≠x){i:Nat}(hi:i<=p.kids.length)(hl:p.kids.length+1<=4096) :
  Calls Tryz.prog 68 #[.pointer (some ⟨t,0,none⟩),.int .i64 x,.int .i64 u,.int .i64 (i:Int)] w λe w'=>(∃v,e=.returned v)/\∃L',fQ w' t L' (Tr.enter T x u i) n/\Grow t L L' T (Tr.enter T x u i) w w':=by
 have hent:Tr.enter T x u i=Tr.set (Tr.set T u { p with kids:=Tr.wi p.kids i x }) x { nd with up:=u }:=by unfold Tr.enter;rw[hx,hu]
 rw[hent];have EP:(Tr.wi p.kids i x).length<=4096:=by simp only[Tr.wi,List.length_append,List.length_take,List.length_cons,List.length_drop];omega
 have hur:=h.small u p hu;have hl1:=h.gJ hu;have c0:=h.cT;have c1:=h.lF hu;have hB:Below w.heap.size w (w.alloc (.cells #[.int .i64 x] 3)):=Below.alloc' (Below.refl _ _) _;have h1:=h.after hB;have hA:At (w.alloc (.cells #[.int .i64 x] 3)) w.heap.size (.cells #[.int .i64 x] 3):=At.new _ _;have hvb:(L.sl u).ownBlock≠some w.heap.size:=λe=>by have:=h.lt (.inr (.inr ⟨u,p,hu,.inr e⟩));omega
 have key2:=Ni (h1.row u p hu) hi ak hA hvb;have HR1:=Lib.hid h1;have HB:=Lib.hid hB;have HU:=Lib.hid hu;have HX:=Lib.hid hx;have HLW:=Lib.hid EP;have HUR:=Lib.hid hur;have HNE:=Lib.hid hne;clear h h1 hB hu hx EP hur hA hvb hi hl hent hne;go_enter Tryz.func68,Tryz.ntmps68
 go_upto_region 2 with(first|(go_at_call 126;(with_reducible refine key2.mono ?_);rintro e w2 ⟨v2,rfl,hks,hO,hloc⟩;obtain⟨A,c,hs,_⟩:=hks.ints;subst hs;generalize hm:(Tr.wi p.kids i x).length=m at *;have HM:=Lib.hid hm;have HKS:=Lib.hid hks;have HO:=Lib.hid hO;have HLOC:=Lib.hid hloc;clear hm hks hO hloc;have b2:=((HR1.out.box u p HU.out).out (HR1.out.Dn HU.out HU.out) HO.out).thaw 1;have c2:w2.cell? ⟨L.bl u,1,none⟩=some (L.sl u):=(by rw[((HR1.out.box u p HU.out).out (HR1.out.Dn HU.out HU.out) HO.out).cell,vk])))
 obtain⟨r2,g2⟩:=HR1.out.sN HU.out HO.out HKS.out (HLOC.out.elim .inl λe => .inr (.inr ⟨_,e,ah _⟩)) (by rw[HM.out];exact HLW.out);have hx2:Tr.set T u { p with kids:=Tr.wi p.kids i x } x=some nd:=by rw[Tr.aD _ _ (λe=>HNE.out e.symm)];exact HX.out
 have l2:=r2.gJ hx2;have t2:=r2.cT;have u2:=r2.cUp hx2;have z2:=(r2.box x nd hx2).thaw 0;obtain⟨r3,g3⟩:=r2.Ut (u:=u) hx2 (by have:=HUR.out;omega);have R3:=Lib.hid (show∃L',fQ ((w2.setCell ⟨L.bl u,1,none⟩ (.slice A m c)).setCell ⟨L.bl x,0,none⟩ (.int .i64 u)) t L' _ n/\Grow t L L' T _ w ((w2.setCell ⟨L.bl u,1,none⟩ (.slice A m c)).setCell ⟨L.bl x,0,none⟩ (.int .i64 u))from⟨_,r3,(Grow.of_below HB.out).trans (g2.trans g3)⟩);clear r2 g2 hx2 r3 g3 HM HLW HLOC HO HKS HB HR1 HU HX HUR HNE b2 c2 c0 c1 hl1 key2;dsimp only at l2 t2 u2 z2;generalize w2.setCell ⟨L.bl u,1,none⟩ (.slice A m c)=w3 at *;go_wp2;refine bodyPost_end (results_none rfl _ _ _) rfl ?_;exact⟨⟨_,rfl⟩,R3.out⟩
structure Inv(W:World)(t:Nat)(L:Lay)(T:Tr.T)(n:Nat):Prop where
 rep:fQ W t L T n
 wf:Tr.WF T
 num:(Tr.ord T).length=n
set_option maxHeartbeats 4000000 in
theorem UD{w:World}{t n:Nat}{L:Lay}{T:Tr.T}(h:Inv w t L T n)(hn:n<4096){u a:Int}(hu:Wf u):Calls Tryz.prog 23 #[.pointer (some ⟨t,0,none⟩),.int .i64 u,.int .i64 a] w λe w'=>e=.returned (.tuple #[.int .i64 (Tr.og T u a),.int .i64 (Tr.iW T u a)])/\∃L' n',Inv w' t L' (Tr.bU T u a) n'/\n'<=n+1/\Grow t L L' T (Tr.bU T u a) w w':=by
 obtain⟨h,HW,ER⟩:=h;have Pw:=HW.bU u a ak;have key:=gN h hu;cases hT:T u with
 | none =>
   have hE:Tr.iW T u a=2:=by unfold Tr.iW;rw[hT]
   have hI:Tr.og T u a = -1:=by unfold Tr.og;rw[hE];rfl
   have hR:Tr.bU T u a=T:=by unfold Tr.bU;rw[hE];rfl
   rw[hE,hI,hR];rw[hT]at key;have HR:=Lib.hid (Inv.mk h HW ER);clear h HW ER Pw hE hI hR;exact Z23
 | some p =>
   rw[hT]at key;have hl:=h.gJ hT;have c0:=h.cT;have c1:=h.lF hT;have hs:=(h.small u p hT).2.2.2.2;obtain⟨A,c,hv,_⟩:=(h.row u p hT).ints;by_cases hr:a<0\/(p.kids.length:Int)<a
   . have hE:Tr.iW T u a=1:=by unfold Tr.iW;rw[hT];dsimp only;rw[if_pos hr]
     have hI:Tr.og T u a = -1:=by unfold Tr.og;rw[hE];rfl
     have hR:Tr.bU T u a=T:=by unfold Tr.bU;rw[hE];rfl
     rw[hE,hI,hR];have HR:=Lib.hid (Inv.mk h HW ER);rw[hv]at c1;clear h HW ER Pw hE hI hR hv;generalize p.kids.length=m at *;rcases hr with hr|hr
     . exact Z23
     . have hr0:¬ a<0:=by omega
       exact Z23
   . have hr0:¬ a<0:=λe=>hr (.inl e)
     have hr1:¬ (p.kids.length:Int)<a:=λe=>hr (.inr e);have nL:=Uu h;obtain⟨d,hd1,hd2,hd3⟩:=HW.iD hT;have Nw:=vo h (λ_ h=>HW.o9 h) hd2 ak;have hnn:¬ (4096:Int)<=(n:Int):=by omega
     by_cases hdd:63<=d
     . have UE:(63:Int)<=(d:Int):=by omega
       have hE:Tr.iW T u a=5:=by unfold Tr.iW;rw[hT];dsimp only;rw[if_neg hr,hd3,if_pos UE]
       have hI:Tr.og T u a = -1:=by unfold Tr.og;rw[hE];rfl
       have hR:Tr.bU T u a=T:=by unfold Tr.bU;rw[hE];rfl
       rw[hE,hI,hR];have HR:=Lib.hid (Inv.mk h HW ER);rw[hv]at c1;clear h HW ER Pw hE hI hR hv hd2 hd3 hr;generalize p.kids.length=m at *;go_enter Tryz.func23,Tryz.ntmps23
       go_wp2_with (first|(go_at_call 25;(with_reducible refine key.mono ?_);rintro e w' ⟨rfl,rfl⟩)|(go_at_call 66;(with_reducible refine nL.mono ?_);rintro e w' ⟨rfl,rfl⟩)|(go_at_call 26;(with_reducible refine Nw.mono ?_);rintro e w' ⟨rfl,rfl⟩))
       go_ret2
       exact⟨rfl,L,n,HR.out,by omega,Grow.refl _ _ _ _⟩
     . have UE:¬ (63:Int)<=(d:Int):=by omega
       have hE:Tr.iW T u a=0:=by unfold Tr.iW;rw[hT];dsimp only;rw[if_neg hr,hd3,if_neg UE]
       have hI:Tr.og T u a=Tr.free T:=by unfold Tr.og;rw[hE];rfl
       have hR:Tr.bU T u a=Tr.nZ T (Tr.free T) u a.toNat:=by unfold Tr.bU;rw[hE];rfl
       rw[hE,hR,if_pos rfl]at Pw;rw[hE,hI,hR];obtain⟨hfree,hfl⟩:=HW.j5;have YL:=QU h;have hB:Below w.heap.size w (w.alloc (.cells (bY 0 (.slice none 0 0) Re.zero) 127)):=Below.alloc' (Below.refl _ _) _;have h1:=h.after hB;have hA:At (w.alloc (.cells (bY 0 (.slice none 0 0) Re.zero) 127)) w.heap.size (.cells (bY 0 (.slice none 0 0) Re.zero) 127):=At.new _ _;have hfw:Wf (Tr.free T):=by rw[eT];have:=hfree.1;omega
       obtain⟨W2,hmu,p2,ho⟩:=h1.map.store (by simp[maxLen];omega) (z:=Tr.free T) hfw (by rw[hfree.2.1];rfl) w.heap.size;have hnw:¬ owned t L T w.heap.size:=λe=>absurd (h.lt e) ak;obtain⟨r2,o2,g2⟩:=h1.add hfree.2.1 ⟨hfree.1,by omega⟩ ak hA hnw ho p2;have hne:u≠Tr.free T:=λe=>by rw[e,hfree.2.1]at hT;cases hT
       have G2:Grow t L _ T _ w W2:=⟨((Out.of_below hB).trans ⟨o2.1,o2.2⟩),λb hb=>(g2 b hb).imp id λe=>by omega⟩;have hkl:=HW.qE hT;have QZ:=Du r2 (Tr.aJ _ _ _) ((Tr.aD _ _ hne).trans hT) hne (i:=a.toNat) ak ak;rw[Int.toNat_of_nonneg ak]at QZ;have HG2:=Lib.hid G2;have HI:=Lib.hid Pw;have HN:=Lib.hid ER;have HF:=Lib.hid hfree;rw[hv]at c1;clear h HW ER Pw hE hI hR hv hd2 hd3 hr hfree hfl hB h1 hA p2 ho hnw r2 o2 g2 G2 hT hkl;unfold Tr.nZ;generalize p.kids.length=m at *;generalize Tr.free T=z at *;go_enter Tryz.func23,Tryz.ntmps23
       go_wp2_with (first|(go_at_call 25;(with_reducible refine key.mono ?_);rintro e w' ⟨rfl,rfl⟩)|(go_at_call 66;(with_reducible refine nL.mono ?_);rintro e w' ⟨rfl,rfl⟩)|(go_at_call 26;(with_reducible refine Nw.mono ?_);rintro e w' ⟨rfl,rfl⟩)|(go_at_call 67;(with_reducible refine YL.mono ?_);rintro e w' ⟨⟨y,rfl,hy⟩,rfl⟩;obtain rfl:y=z:=(Tr.free_eq hy).symm.trans (Tr.free_eq HF.out))|(refine wpList_build aU 127 _ rfl #[] eY (Dm _) ?_)|(go_at_call 68;(with_reducible refine QZ.mono ?_);rintro e w' ⟨⟨v,rfl⟩,L',hr',hg'⟩))
       go_ret2
       exact⟨rfl,L',n+1,⟨hr',HI.out.1,by rw[<-HN.out];exact HI.out.2⟩,ah _,HG2.out.trans hg'⟩
section
variable {T:Tr.T} (H:Tr.WF T) {x u:Int} {nd p:Tr.Nd} (hx:T x=some nd) (h0:x≠0) (hu:T u=some p) (hun:u ∉ Tr.sub T 64 x)
include H hx h0 hu hun
theorem abD:Tr.leave T x u=some { p with kids:=Tr.wo p.kids x }:=by
 obtain⟨q,hq,hm⟩:=H.up x nd hx h0;rw[Tr.pW hx hq];by_cases e:u=nd.up
 . rw[if_pos e];rw[<-e,hu]at hq;cases hq;rfl
 . rw[if_neg e,hu,Tr.uQ (λhm=>e (H.JI hx h0 hu hm))]
theorem abE:Tr.leave T x x=some nd:=by
 obtain⟨q,hq,hm⟩:=H.up x nd hx h0;rw[Tr.pW hx hq,if_neg (λe:x=nd.up=>H.pX hx h0 (H.rO hx h0 e.symm)),hx]
theorem UF:(Tr.wo p.kids x).length+1<=(Tr.ord T).length:=by
 have hn:(x::Tr.wo p.kids x).Nodup:=List.nodup_cons.2 ⟨λhm=>(Tr.wY.1 hm).2 rfl,Tr.CG (H.nodup u p hu) x⟩
 have:=hn.length_le_of_subset (l₂:=Tr.ord T) λy hy=>by
  rcases List.mem_cons.1 hy with rfl|hy
  . exact H.gy.2 ⟨nd,hx⟩
  . obtain⟨_,q,h2,_⟩:=H.kid u p y hu (Tr.wY.1 hy).1
    exact H.gy.2 ⟨q,h2⟩
 simpa using this
end
set_option maxHeartbeats 4000000 in
theorem Q0{w:World}{t n:Nat}{L:Lay}{T:Tr.T}(h:Inv w t L T n){x u a:Int}(hxw:Wf x)(hu:Wf u):Calls Tryz.prog 113 #[.pointer (some ⟨t,0,none⟩),.int .i64 x,.int .i64 u,.int .i64 a] w λe w'=>e=.returned (.int .i64 (Tr.jC T x u a))/\∃L',Inv w' t L' (Tr.lJ T x u a) n/\Grow t L L' T (Tr.lJ T x u a) w w':=by
 have key:=gN h.rep hxw;have uL:=gN h.rep hu;have same:∀e,Tr.jC T x u a=e->e≠0->Tr.lJ T x u a=T:=λe he hne=>by unfold Tr.lJ;rw[he,if_neg hne]
 cases hX:T x with
 | none =>
   have hE:Tr.jC T x u a=2:=by unfold Tr.jC;rw[hX]
   rw[hE,same _ hE aG];rw[hX]at key;have HR:=Lib.hid h;clear h uL same hE;exact Z1s
 | some nd =>
 rw[hX]at key;cases hU:T u with
 | none =>
   have hE:Tr.jC T x u a=2:=by unfold Tr.jC;rw[hX,hU]
   rw[hE,same _ hE aG];rw[hU]at uL;have HR:=Lib.hid h;clear h same hE;exact Z1s
 | some p =>
 rw[hU]at uL;have hE0:Tr.jC T x u a=if x=0 then 1 else if u∈Tr.sub T 64 x then 3 else if a<0\/((Tr.wo p.kids x).length:Int)<a then 1 else if 63<Tr.dep T u+1+Tr.hgt T 64 x then 5 else 0:=by unfold Tr.jC;rw[hX,hU]
 by_cases h0:x=0
 . have hE:Tr.jC T x u a=1:=by rw[hE0,if_pos h0]
   rw[hE,same _ hE aG];have HR:=Lib.hid h;clear h same hE hE0;subst h0;exact Z1s
 rw[if_neg h0]at hE0;have h0b:(x==0)=false:=by simpa using h0
 have wX:=Ns (y:=u) h.rep (h.wf.iU hX);by_cases hm:u∈Tr.sub T 64 x
 . have hE:Tr.jC T x u a=3:=by rw[hE0,if_pos hm]
   rw[hE,same _ hE aG];have hd:decide (u∈Tr.sub T 64 x)=true:=by simpa using hm
   rw[hd]at wX;have HR:=Lib.hid h;clear h same hE hE0 hm hd;exact Z21
 rw[if_neg hm]at hE0;have hd:decide (u∈Tr.sub T 64 x)=false:=by simpa using hm
 rw[hd]at wX;have KO:=Lib.hid λW (hb:Below w.heap.size w W)=>J9 (h.rep.after hb) hU hxw;have hup:rT T x=nd.up:=by unfold rT;rw[hX]
 rw[hup,<-h.wf.others hX hU h0]at KO;by_cases hr:a<0\/((Tr.wo p.kids x).length:Int)<a
 . have hE:Tr.jC T x u a=1:=by rw[hE0,if_pos hr]
   rw[hE,same _ hE aG];have HR:=Lib.hid h;clear h same hE hE0 hm hd hup;generalize (Tr.wo p.kids x).length=m at *;rcases hr with hr|hr
   . exact Z21
   . have hr0:¬ a<0:=by omega
     go_enter Tryz.func113,Tryz.ntmps113
     go_wp2_with (first|(go_at_call 25;first|((with_reducible refine key.mono ?_);rintro e w' ⟨rfl,rfl⟩)|((with_reducible refine uL.mono ?_);rintro e w' ⟨rfl,rfl⟩))|(go_at_call 165;(with_reducible refine wX.mono ?_);rintro e w1 ⟨rfl,hb1⟩)|(go_at_call 166;(with_reducible refine(KO.out _ hb1).mono ?_);rintro e w' ⟨rfl,rfl⟩))
     exact Z3l
 rw[if_neg hr]at hE0;have hr0:¬ a<0:=λe=>hr (.inl e);have hr1:¬ ((Tr.wo p.kids x).length:Int)<a:=λe=>hr (.inr e);obtain⟨d,hd1,hd2,hd3⟩:=h.wf.iD hU;have KD:=Lib.hid λW (hb:Below w.heap.size w W)=>vo (h.rep.after hb) (λ_ q=>h.wf.o9 q) hd2 ak;have KH:=Lib.hid λW (hb:Below w.heap.size w W)=>Kc 64 x ak (h.rep.after hb) (h.wf.iU hX);have ahp:=Uv (h.wf.iU hX);rw[hd3]at hE0;have hw1:IntKind.i64.wrap ((d:Int)+1)=(d:Int)+1:=by rw[IntWalk.i64_in _ ak]
 have hw2:IntKind.i64.wrap ((d:Int)+1+(Tr.hgt T 64 x:Int))=(d:Int)+1+(Tr.hgt T 64 x:Int):=by rw[IntWalk.i64_in _ ak]
 by_cases hdd:63<(d:Int)+1+(Tr.hgt T 64 x:Int)
 . have hE:Tr.jC T x u a=5:=by rw[hE0,if_pos hdd]
   rw[hE,same _ hE aG];have HR:=Lib.hid h;clear h same hE hE0 hm hd hup hd2 hd3 hr;generalize (Tr.wo p.kids x).length=m at *;generalize Tr.hgt T 64 x=g at *;go_enter Tryz.func113,Tryz.ntmps113
   go_wp2_with (first|(go_at_call 25;first|((with_reducible refine key.mono ?_);rintro e w' ⟨rfl,rfl⟩)|((with_reducible refine uL.mono ?_);rintro e w' ⟨rfl,rfl⟩))|(go_at_call 165;(with_reducible refine wX.mono ?_);rintro e w1 ⟨rfl,hb1⟩)|(go_at_call 166;(with_reducible refine(KO.out _ hb1).mono ?_);rintro e w' ⟨rfl,rfl⟩)|(go_at_call 26;(with_reducible refine(KD.out _ hb1).mono ?_);rintro e w' ⟨rfl,rfl⟩)|(go_at_call 167;(with_reducible refine(KH.out _ hb1).mono ?_);rintro e w' ⟨rfl,rfl⟩))
   exact Z3l
 . rw[if_neg hdd]at hE0
   have hR:Tr.lJ T x u a=Tr.lI T x u a.toNat:=by unfold Tr.lJ;rw[hE0,if_pos rfl]
   have Pw:=h.wf.lJ x u a;rw[hE0,hR];rw[hR]at Pw;obtain⟨q,hq,hqm⟩:=h.wf.up x nd hX h0;obtain⟨i,hi⟩:=List.mem_iff_getElem?.1 hqm;have hxu:u≠x:=λe=>hm (h.wf.rO hX h0 e);have KL:=Lib.hid λW (hb:Below w.heap.size w W)=>Dt (h.rep.after hb) hX hq hi (h.wf.nodup _ _ hq);have hll:=UF h.wf hX h0 hU hm;have hos:=h.wf.jo;have KE:=Lib.hid λW L' (hb:fQ W t L' (Tr.leave T x) n)=>Du hb (abE h.wf hX h0 hU hm) (abD h.wf hX h0 hU hm) hxu (i:=a.toNat) (by simp only;omega) (by simp only;omega);rw[Int.toNat_of_nonneg ak]at KE;have UG:=Lib.hid Pw;have HN:=Lib.hid h.num;clear h same hE0 hm hd hup hd2 hd3 hr hR Pw hq hqm hi hll hos hX hU;unfold Tr.lI;generalize (Tr.wo p.kids x).length=m at *;generalize Tr.hgt T 64 x=g at *;go_enter Tryz.func113,Tryz.ntmps113
   go_wp2_with (first|(go_at_call 25;first|((with_reducible refine key.mono ?_);rintro e w' ⟨rfl,rfl⟩)|((with_reducible refine uL.mono ?_);rintro e w' ⟨rfl,rfl⟩))|(go_at_call 165;(with_reducible refine wX.mono ?_);rintro e w1 ⟨rfl,hb1⟩)|(go_at_call 166;(with_reducible refine(KO.out _ hb1).mono ?_);rintro e w' ⟨rfl,rfl⟩)|(go_at_call 26;(with_reducible refine(KD.out _ hb1).mono ?_);rintro e w' ⟨rfl,rfl⟩)|(go_at_call 167;(with_reducible refine(KH.out _ hb1).mono ?_);rintro e w' ⟨rfl,rfl⟩)|(go_at_call 163;(with_reducible refine(KL.out _ hb1).mono ?_);rintro e w2 ⟨⟨v,rfl⟩,L2,hr2,hg2⟩)|(go_at_call 68;(with_reducible refine(KE.out _ _ hr2).mono ?_);rintro e w3 ⟨⟨v,rfl⟩,L3,hr3,hg3⟩))
   go_ret
   exact⟨rfl,L3,⟨hr3,UG.out.1,UG.out.2.trans HN.out⟩,(Grow.of_below hb1).trans (hg2.trans hg3)⟩
theorem Px(T:Tr.T)(l:List Int){k:Nat}{z:Int}(hz:l[k]? = some z):Tr.del (Tr.del T (l.take k)) [z]=Tr.del T (l.take (k+1)):=by
 funext y;have:y∈l.take (k+1)↔y∈l.take k\/y=z:=by rw[List.take_add_one,hz];simp
 simp only[Tr.del,List.mem_singleton,this];by_cases h1:y=z<;>by_cases h2:y∈l.take k<;>simp[h1,h2]
theorem BS(T:Tr.T):Tr.del T []=T:=by funext y;simp[Tr.del]
theorem Q5{t:Nat}{L:Lay}{T:Tr.T}{l:List Int}{b:Nat}(h:owned t L (Tr.del T l) b):owned t L T b:=by
 rcases h with h|h|⟨z,nd,hz,h⟩
 . exact .inl h
 . exact .inr (.inl h)
 . refine .inr (.inr ⟨z,nd,?_,h⟩)
   unfold Tr.del at hz;split at hz
   . cases hz
   . exact hz
structure Kept(W:World)(t:Nat)(L:Lay)(T:Tr.T)(v:Value)(l:List Int):Prop where
 row:KS W v l
 own:∀g,v.ownBlock=some g->¬ owned t L T g
theorem Kept.grow{W W':World}{t:Nat}{L L':Lay}{T T':Tr.T}{v:Value}{l:List Int}(h:Kept W t L T v l)(k:Grow t L L' T T' W W'):Kept W' t L' T' v l :=
 ⟨h.row.out h.own k.1,λg hg ho=>(k.2 g ho).elim (h.own g hg) λq=>absurd (h.row.lt hg) ak⟩
theorem Kept.after{W W':World}{t:Nat}{L:Lay}{T:Tr.T}{v:Value}{l:List Int}(h:Kept W t L T v l)(hb:Below W.heap.size W W'):Kept W' t L T v l:=⟨h.row.after hb,h.own⟩
theorem Kept.new{W W':World}{t n base:Nat}{L:Lay}{T:Tr.T}{v:Value}{l:List Int}(hR:fQ W t L T n)(h:W'.ownsRow base 3 1 v l.length (l.map (Value.int .i64)))(hb:W.heap.size<=base):Kept W' t L T v l :=
 ⟨fE h (bJ _),λg hg ho=>by have h1:=(World.ownsRow.lt h g hg).1;have h2:=hR.lt ho;omega⟩
set_option maxHeartbeats 4000000 in
theorem Kq{w:World}{t n:Nat}{L:Lay}{T:Tr.T}(h:Inv w t L T n){x:Int}(hxw:Wf x):Calls Tryz.prog 111 #[.pointer (some ⟨t,0,none⟩),.int .i64 x] w λe w'=>e=.returned (.tuple #[.int .i64 (Tr.wE T x),.int .i64 (Tr.qN T x)])/\∃L' n',Inv w' t L' (Tr.nK T x) n'/\n'<=n/\Grow t L L' T (Tr.nK T x) w w':=by
 have key:=gN h.rep hxw;have same:∀e,Tr.qN T x=e->e≠0->Tr.nK T x=T/\Tr.wE T x=0:=λe he hne=>by unfold Tr.nK Tr.wE;rw[he,if_neg hne,if_neg hne];exact⟨rfl,rfl⟩
 cases hX:T x with
 | none =>
   have hE:Tr.qN T x=2:=by unfold Tr.qN;rw[hX]
   rw[hE,(same _ hE aG).1,(same _ hE aG).2];rw[hX]at key;have HR:=Lib.hid h;clear h same hE;exact Z3g
 | some nd =>
 rw[hX]at key;by_cases h0:x=0
 . have hE:Tr.qN T x=1:=by unfold Tr.qN;rw[hX];dsimp only;rw[if_pos h0]
   rw[hE,(same _ hE aG).1,(same _ hE aG).2];have HR:=Lib.hid h;clear h same hE;subst h0;exact Z3g
 have h0b:(x==0)=false:=by simpa using h0
 have hE:Tr.qN T x=0:=by unfold Tr.qN;rw[hX];dsimp only;rw[if_neg h0]
 have hI:Tr.wE T x=(Tr.sub T 64 x).length:=by unfold Tr.wE;rw[hE,if_pos rfl]
 have hR:Tr.nK T x=Tr.del (Tr.leave T x) (Tr.sub T 64 x):=by unfold Tr.nK;rw[hE,if_pos rfl];rfl
 have Pw:=h.wf.nK x;rw[hE,hI,hR];rw[hI,hR]at Pw;obtain⟨q,hq,hqm⟩:=h.wf.up x nd hX h0;obtain⟨i,hi⟩:=List.mem_iff_getElem?.1 hqm;have nL:=Dt h.rep hX hq hi (h.wf.nodup _ _ hq);obtain⟨hfit,hsub,_⟩:=h.wf.QA hX h0;have hnd:=h.wf.zy (h.wf.iU hX)
 have hlive:∀z,z∈Tr.sub T 64 x->Tr.leave T x z≠none:=λz hz=>by
  obtain⟨zd,hzd⟩:=((h.wf.gP (h.wf.iU hX)).1 hz).live;rw[Tr.pW hX hq];split
  . simp
  . rw[hzd];simp
 have hlen:(Tr.sub T 64 x).length<=n:=by have:=h.wf.BN hX h0;have:=h.num;omega
 have hos:=h.wf.jo;have hn:=h.num;have KC:=Lib.hid λW L' tb ib (hb:fQ W t L' (Tr.leave T x) n) htb hib=>Af (tb:=tb) (ib:=ib) hb hfit (by rw[hsub];omega) htb hib;rw[hsub]at KC;have HN:=Lib.hid hn;have UG:=Lib.hid Pw;have HND:=Lib.hid hnd;have adN:=Lib.hid hlive;have hn4:n<=4096:=by omega
 clear h same hE hI hR Pw hq hqm hi hX hfit hsub hnd hos hn hlive h0;generalize Tr.sub T 64 x=l at *;generalize Tr.leave T x=T1 at *;generalize hm:l.length=m at *;have HM:=Lib.hid hm;clear hm;go_enter Tryz.func111,Tryz.ntmps111
 go_upto_region 7 with(first|(go_at_call 25;(with_reducible refine key.mono ?_);rintro e w' ⟨rfl,rfl⟩)|(go_at_call 163;(with_reducible refine nL.mono ?_);rintro e w1 ⟨⟨v,rfl⟩,L1,hr1,hg1⟩;have HR1:=Lib.hid hr1;have HG1:=Lib.hid hg1;clear hr1 hg1)|(go_at_call 65;(with_reducible refine(vW _ _ _).mono ?_);rintro e w2 ⟨rfl,rfl⟩)|(go_at_call 64;(with_reducible refine(KC.out _ _ _ _ (HR1.out.after (Below.alloc' (Below.alloc' (Below.refl _ _) _) _)) ((At.new w1 _).alloc _) (At.new' (b:=w1.heap.size+1) _ eY)).mono ?_);rintro e w3 ⟨⟨v3,rfl,ho⟩,hb3⟩))
 have sZ:=(Below.alloc' (Below.alloc' (Below.refl w1.heap.size w1) (.cells #[.pointer (some ⟨t,0,none⟩)] 24)) (.cells #[.int .i64 x] 3)).trans (hb3.mono jH);have hr3:=HR1.out.after sZ;have hK:Kept w3 t L1 T1 v3 l:=Kept.new HR1.out (by rw[HM.out];exact ho) jH;have Ij:=Lib.hid (HG1.out.trans (Grow.of_below sZ));have HR3:=Lib.hid hr3;have HK3:=Lib.hid hK;obtain⟨A,c,hv,_⟩:=hK.row.ints;rw[HM.out]at hv;subst hv;clear HG1 HR1 ho hb3 sZ hr3 hK KC key nL;go_wp2
 go_loopw [26] (λi wr=>∃k:Nat,k<=m/\i=.int .i64 k/\fQ wr t L1 (Tr.del T1 (l.take k)) (n-k)/\Kept wr t L1 T1 (.slice A m c) l/\Grow t L1 L1 T1 (Tr.del T1 (l.take k)) w3 wr) (λi _=>m-(intOf i).toNat)
 case atStart=>exact⟨0,by omega,rfl,by rw[List.take_zero,BS];exact HR3.out,HK3.out,by rw[List.take_zero,BS];exact Grow.refl _ _ _ _⟩
 case round =>
  obtain⟨k,hk,rfl,hRr,hKr,YM⟩:=hrel;by_cases hlt:k<m
  . have hltz:(k:Int)<(m:Int):=by omega
    obtain⟨b,o,rfl,lb,hcell⟩:=(KS.vX hKr.row).1.at_ (k:=k) XY;have hgk:l[k]? = some (l.getD k 0):=by rw[List.getD,List.getElem?_eq_getElem XY];rfl
    have hzl:l.getD k 0∈l:=List.mem_iff_getElem?.2 ⟨k,hgk⟩;have hlv:Tr.del T1 (l.take k) (l.getD k 0)≠none:=by
     have hnt:l.getD k 0 ∉ l.take k:=λhm=>by
      obtain⟨j,hj⟩:=List.mem_iff_getElem?.1 hm;have hjk:j<k:=by
       obtain⟨hj2,_⟩:=List.getElem?_eq_some_iff.1 hj;simp at hj2;omega
      rw[List.getElem?_take,if_pos hjk]at hj;obtain⟨h1,h2⟩:=List.getElem?_eq_some_iff.1 hj;obtain⟨h3,h4⟩:=List.getElem?_eq_some_iff.1 hgk;have:=(List.getElem_inj HND.out).1 (h2.trans h4.symm);omega
     unfold Tr.del;rw[if_neg hnt];exact adN.out _ hzl
    have hdd:=Px T1 l hgk;generalize l.getD k 0=z at *;obtain⟨zd,hzd⟩:=Option.ne_none_iff_exists'.1 hlv;obtain⟨W',hdel,hp,hO,_⟩:=hRr.map.drop (hRr.wf hzd) (by rw[hzd];rfl) 0;obtain⟨hr2,hg2⟩:=hRr.drop hO hp;rw[hdd]at hr2 hg2;have c0:=hRr.cT;have hR2:=Lib.hid hr2;have hG2:=Lib.hid (YM.trans hg2);have hK2:=Lib.hid (hKr.grow (T':=T1) (L':=L1) ⟨hg2.1.mono λb _ ho=>Q5 ho,λb ho => .inl ho⟩);clear hRr hKr YM hr2 hg2 hdd hp hO hzd hlv hzl hgk;go_wp2
    go_round
    case rel=>exact⟨k+1,by omega,by go_num,by rw[show n-(k+1)=n-k-1 by omega];exact hR2.out,hK2.out,hG2.out⟩
    case measure=>simp[intOf];omega
  . obtain rfl:k=m:=by omega
    go_wp2
    go_ret2
    rw[List.take_of_length_le (by rw[HM.out];exact ah _)]at hRr YM;refine⟨rfl,L1,n-k,⟨hRr,UG.out.1,?_⟩,by omega,Ij.out.trans YM⟩;have h1:=UG.out.2;have h2:=HN.out;omega
def Dv(L:Lay)(T:Tr.T)(b:Nat):Prop:=b=L.mb\/∃z nd,T z=some nd/\(b=L.bl z\/(L.sl z).ownBlock=some b)
structure Ny(W:World)(L:Lay)(T:Tr.T)(n0 m:Nat):Prop where
 map:PM W L.mb m (λz=>(T z).map λ_=>L.bl z)
 box:∀z nd,T z=some nd->At W (L.bl z) (.cells (bY nd.up (L.sl z) nd.sty) 127)
 row:∀z nd,T z=some nd->KS W (L.sl z) nd.kids
 inj:∀y z,T y≠none->T z≠none->L.bl y=L.bl z->y=z
 apart:∀y z g,T y≠none->T z≠none->(L.sl y).ownBlock=some g->(L.sl z).ownBlock=some g->y=z
 new:∀b,Dv L T b->n0<=b
section
variable {W W':World} {L:Lay} {T:Tr.T} {n0 m:Nat}
theorem Ny.out{M:Nat->Prop}(h:Ny W L T n0 m)(hm:∀b,Dv L T b->¬ M b)(k:Out M W W'):Ny W' L T n0 m where
 map:=h.map.out (hm _ (.inl rfl)) k
 box:=λz nd hz=>(h.box z nd hz).out (hm _ (.inr ⟨z,nd,hz,.inl rfl⟩)) k
 row:=λz nd hz=>(h.row z nd hz).out (λg hg=>hm _ (.inr ⟨z,nd,hz,.inr hg⟩)) k
 inj:=h.inj
 apart:=h.apart
 new:=h.new
theorem Ny.after(h:Ny W L T n0 m)(hb:Below W.heap.size W W'):Ny W' L T n0 m:=h.out (M:=λ_=>False) (λ_ _ q=>q) (Out.of_below hb)
theorem Ny.lt(h:Ny W L T n0 m){b:Nat}(hb:Dv L T b):b<W.heap.size:=by
 rcases hb with rfl|⟨z,nd,hz,rfl|hg⟩
 . exact h.map.lt
 . exact(h.box z nd hz).lt
 . exact(h.row z nd hz).lt hg
theorem Ny.FM(h:Ny W L T n0 m){z:Int}{nd:Tr.Nd}(hz:T z=some nd):L.bl z≠L.mb:=λe=>by
 obtain⟨es,clock,hm⟩:=h.map.obj;have:=(h.box z nd hz).uniq (e▸hm);cases this
theorem Ny.Po(h:Ny W L T n0 m){z:Int}{nd:Tr.Nd}(hz:T z=some nd):(L.sl z).ownBlock≠some L.mb:=λe=>by
 obtain⟨es,clock,hm⟩:=h.map.obj;obtain⟨cur,hc⟩:=(h.row z nd hz).rowAt e;have:=hc.uniq hm;cases this
theorem Ny.add(h:Ny W L T n0 m){z:Int}{b:Nat}{u:Int}{v:Value}{l:List Int}{s:Re.St}(hz:T z=none)(hb:At W b (.cells (bY u v s) 127))(hv:KS W v l)
  (hb0:n0<=b) (hv0:∀g,v.ownBlock=some g->n0<=g) (hnew:¬ Dv L T b) (UH:∀g,v.ownBlock=some g->¬ Dv L T g) (hO:Out (λx=>x=L.mb) W W') (hm:PM W' L.mb (m+1) (Nj (λz=>(T z).map λ_=>L.bl z) z b)) :
  Ny W' { L with bl:=λy=>if y=z then b else L.bl y,sl:=λy=>if y=z then v else L.sl y } (Tr.set T z ⟨u,l,s⟩) n0 (m+1):=by
 have hne:∀y yd,T y=some yd->y≠z:=λy yd hy e=>by rw[e,hz]at hy;cases hy
 have hbm:b≠L.mb:=λe=>hnew (.inl e);have old:∀y,y≠z->(Tr.set T z ⟨u,l,s⟩ y≠none->T y≠none):=λy e=>by rw[Tr.aD _ _ e];exact id
 refine⟨hm.congr λy _ => ?_,λy yd hy => ?_,λy yd hy => ?_,λx y hx hy => ?_,λx y g hx hy => ?_,λx hx => ?_⟩
 . unfold Nj
   by_cases e:y=z
   . subst e;simp[Tr.aJ]
   . simp[e,Tr.aD _ _ e]
 . exact Z38
 . by_cases e:y=z
   . subst e;rw[Tr.aJ]at hy;cases hy
     simp only[if_true];exact hv.out (λg hg (q:g=L.mb)=>UH g hg (.inl q)) hO
   . rw[Tr.aD _ _ e]at hy
     simp only[if_neg e];exact(h.row y yd hy).out (λg hg (q:g=L.mb)=>h.Po hy (by rw[hg,q])) hO
 . by_cases ex:x=z<;>by_cases ey:y=z
   . intro _;rw[ex,ey]
   . simp only[if_pos ex,if_neg ey]
     obtain⟨yd,Pp⟩:=Option.ne_none_iff_exists'.1 (old y ey hy);exact λe=>(hnew (.inr ⟨y,yd,Pp,.inl e⟩)).elim
   . simp only[if_neg ex,if_pos ey]
     obtain⟨xd,hxd⟩:=Option.ne_none_iff_exists'.1 (old x ex hx);exact λe=>(hnew (.inr ⟨x,xd,hxd,.inl e.symm⟩)).elim
   . simp only[if_neg ex,if_neg ey]
     exact h.inj x y (old x ex hx) (old y ey hy)
 . by_cases ex:x=z<;>by_cases ey:y=z
   . intro _ _;rw[ex,ey]
   . simp only[if_pos ex,if_neg ey]
     obtain⟨yd,Pp⟩:=Option.ne_none_iff_exists'.1 (old y ey hy);exact λe1 e2=>(UH g e1 (.inr ⟨y,yd,Pp,.inr e2⟩)).elim
   . simp only[if_neg ex,if_pos ey]
     obtain⟨xd,hxd⟩:=Option.ne_none_iff_exists'.1 (old x ex hx);exact λe1 e2=>(UH g e2 (.inr ⟨x,xd,hxd,.inr e1⟩)).elim
   . simp only[if_neg ex,if_neg ey]
     exact h.apart x y g (old x ex hx) (old y ey hy)
 . rcases hx with e|⟨y,yd,hy,e⟩
   . exact h.new x (.inl e)
   . by_cases e2:y=z
     . subst e2
       simp only[if_true]at e;rcases e with rfl|e
       . exact hb0
       . exact hv0 x e
     . rw[Tr.aD _ _ e2]at hy
       simp only[if_neg e2]at e;exact h.new x (.inr ⟨y,yd,hy,e⟩)
end
theorem PM.count:∀(l:List Int) {W:World} {b m:Nat} {f:Int->Option Nat},PM W b m f->l.Nodup->(∀z,z∈l->Wf z)->(∀z,Wf z->(z∈l↔f z≠none))->m=l.length
 | [],W,b,m,f,h,_,_,hl=>by
   obtain⟨D,h1,h2,h3⟩:=h;obtain⟨w',_,hr,_,_⟩:=h1.range jr Tryz.underlying129;rcases hr.next jr 0 with⟨h0,_⟩|⟨key,v,kl,y,w2,cnt',hk,hlk,_⟩
   . simpa[h2]using h0
   . obtain⟨x,_,rfl,hx⟩:=Maps.keyOf_int_inv Tryz.underlying3 hk
     rw[(h3 x hx).2]at hlk;have:=(hl x hx).2 (by intro e;rw[e]at hlk;cases hlk);simp at this
 | z::l,W,b,m,f,h,hn,hw,hl=>by
   have hz:=hw z (List.mem_cons_self);have hfz:f z≠none:=(hl z hz).1 List.mem_cons_self;obtain⟨W',_,h',_,h1⟩:=h.drop hz (by cases e:f z with|none=>exact absurd e hfz|some _=>rfl) 0;obtain⟨hn1,hn2⟩:=List.nodup_cons.1 hn
   have:=PM.count l h' hn2 (λy hy=>hw y (List.mem_cons_of_mem _ hy)) (λy hy=>by
    unfold Ur;by_cases e:y=z
    . subst e;simp[hn1]
    . rw[if_neg e,<-hl y hy,List.mem_cons];simp[e])
   simp only[List.length_cons];omega
theorem iY{ops:Array Oper}{S:World->Prop}{o:Oper}{a:Act}(hw:Region.wanted o (yielded ops a.tmps)=true)(x:Operand)(ho:o.op=.load 51 x){b k:Nat}(hx:a.eval x=.pointer (some ⟨b,k,none⟩)){s:Re.St}(hs:∀w,S w->uh w b k s):aj.Reads Tryz.prog ops S o (.agg (cells s)) a :=
 .inl ⟨hw,λw h=>by unfold execOp;simp only[ho,hx,Sem.run_bind,J8 (hs w h),Result.andThen_ok,Sem.run_pure]⟩
end Go.Proofs.YtcbcfdihofclkaaGreat.Fix
