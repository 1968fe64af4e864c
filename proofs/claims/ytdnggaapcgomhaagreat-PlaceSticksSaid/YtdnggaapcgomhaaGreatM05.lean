/- Steps of the program (5); no conditions. -/
import Derived.Test.YtdnggaapcgomhaaGreatM04
set_option linter.all false
set_option maxRecDepth 100000
set_option maxHeartbeats 16000000
namespace Go.Proofs.YtdnggaapcgomhaaGreat.Fix
open Go.ChangeShapes Go.WideShapes Go.ChangeAt Go.RowKit
open Go.Proofs.Tryz renaming prog → ja0
section
open Go.Shelf
open List renaming getElem?_eq_getElem → ja6,length_append → ja7,length_take → jc9
variable {L:Lay}{w W W':World}{l:List Int}{v:Value}{t n b:Nat}{ops:Array Oper}{z:Int}{s:Re.St}{o:Oper}{a:Act}
theorem wpList_build{rest:List Oper}{Q:Exit->Act->World->Prop}(hw:Region.wanted o (yielded ops a.tmps)=true)(t:TypeId)(ps:Array (Nat×Operand))(ho:o.op=.build t ps)(qs:Array (Nat×Value))(hq:(ps.map λp=>(p.1,a.eval p.2))=qs)
  (hrun:(Instr.build t qs).run ja0 w=.ok v w) (h:wpList ja0 ops Q rest (a.put o.dst v) w):wpList ja0 ops Q (o::rest) a w :=
 dL hw (by unfold execOp;simp only[ho,hq,Sem.run_bind,hrun,Result.andThen_ok,Sem.run_pure]) h
def T0:Tr.T:=λz=>if z=0 then some ⟨-1,[],Re.zero⟩else none
theorem XA(w:World):Calls ja0 32 #[] w λe w'=>(∃t,e=.returned (.pointer (some ⟨t,0,none⟩))/\∃L,dQ w' t L T0 1/\∀b,owned t L T0 b->w.heap.size<=b)/\Below w w w':=by
 have hmm:=@run_makeMap ja0;have p0:=(PM.made w).out (M:=λ_=>False) (λq=>q) (Out.of_below (aB aD (.cells (cZ (-1) (.slice none 0 0) Re.zero) 132)));have hb0:At ((w.alloc (.map #[] 0)).alloc (.cells (cZ (-1) (.slice none 0 0) Re.zero) 132)) (w.heap.size+1) (.cells (cZ (-1) (.slice none 0 0) Re.zero) 132):=At.new' _ aW;have hB0:Below w w ((w.alloc (.map #[] 0)).alloc (.cells (cZ (-1) (.slice none 0 0) Re.zero) 132)):=aB (aB aD _) _;obtain⟨W2,hmu,p2,ho⟩:=p0.store (by simp[maxLen]) (z:=0) Z4e rfl (w.heap.size+1);have hlm:=p0.lt;have hA2:=hb0.out (M:=λx=>x=w.heap.size) aW ho;have hB2:Below w w W2:=hB0.trans (ho.below iJ λb hb (q:b=_)=>by omega);have hs2:=ho.size;simp only[World.size_alloc]at hs2;have hB3:Below w w (W2.alloc (.cells #[.map (some w.heap.size)] 136)):=aB hB2 _
 have hR:Hid (dQ (W2.alloc (.cells #[.map (some w.heap.size)] 136)) W2.heap.size ⟨w.heap.size,λ_=>w.heap.size+1,λ_ => .slice none 0 0⟩ T0 1/\∀b,owned W2.heap.size ⟨w.heap.size,λ_=>w.heap.size+1,λ_ => .slice none 0 0⟩ T0 b->w.heap.size<=b):=ah (by
  have live:∀z,T0 z≠none->z=0:=λz hz=>by
   unfold T0 at hz;split at hz
   . assumption
   . exact absurd rfl hz
  have some_:∀z nd,T0 z=some nd->z=0/\nd=⟨-1,[],Re.zero⟩:=λz nd hz=>by
   unfold T0 at hz;split at hz
   . injection hz with hz;exact⟨by assumption,hz.symm⟩
   . cases hz
  refine⟨⟨At.new _ _,(p2.out (M:=λ_=>False) (λq=>q) (Out.of_below (aB aD _))).congr λz _ => ?_,λz nd hz => ?_,λz nd hz => ?_,λy z hy hz _=>by rw[live y hy,live z hz],λy z g hy hz h _=>(by cases h),λz nd hz => ?_⟩,λb hb => ?_⟩
  . unfold Pf T0
    by_cases e:z=0<;>simp[e]
  . obtain⟨rfl,rfl⟩:=some_ z nd hz
    exact hA2.alloc _
  . obtain⟨rfl,rfl⟩:=some_ z nd hz
    exact KS.nil _
  . obtain⟨rfl,rfl⟩:=some_ z nd hz
    simp
  . rcases hb with rfl|rfl|⟨z,nd,hz,rfl|hb⟩
    . omega
    . exact aH _
    . simp
    . cases hb)
 clear p0 hb0 hB0 p2 ho hlm hA2 hB2 hs2;go_enter Tryz.func32,Tryz.ntmps32
 go_wp2_with (first|(refine wpList_build aR 132 _ rfl #[(0,.int .i64 (-1))] Wy (Js _ _) ?_)|(refine wpList_build aR 136 _ rfl #[(0,.map (some w.heap.size))] Wy (Ph _ _) ?_))
 go_ret
 exact⟨⟨_,rfl,_,hR.out.1,hR.out.2⟩,hB3⟩
theorem Un{W:World}{u:Int}(h:At W b (.cells (cZ u v s) 132))(t:Re.St):(Instr.storeAt 68 (.pointer (some ⟨b,2,none⟩)) (.agg (cells t))).run ja0 W=.ok () (W.setRow b (cZ u v t)):=by
 have hz:(sizeOf 68).run ja0 W=.ok 55 W:=by kernel_rfl
 have hst:=run_storeCells_at ja0 b 2 132 (cells t).toList 0 (cZ u v s) W h (by rw[AF,Array.length_toList,bI];omega) (λx hx=>by
  have:=Array.all_eq_true_iff_forall_mem.1 (cells_one t) x (by simpa using hx);exact this)
 have e:((cZ u v s).toList.take (2+0)++(cells t).toList++(cZ u v s).toList.drop (2+0+(cells t).toList.length)).toArray=cZ u v t:=by
  apply Array.ext';rw[Array.length_toList,bI];have h1:(cZ u v s).toList.drop (2+0+55)=[]:=List.drop_of_length_le (by rw[Array.length_toList,AF];omega);rw[h1];simp[cZ]
 rw[e]at hst;have hc:(Value.agg (cells t)).cells=cells t:=rfl;simp only[Instr.storeAt,Instr.sureAddr,storeVar,Sem.run_bind,Sem.run_pure,Result.andThen_ok,hz,hc,bI,ne_eq,not_true_eq_false,if_false,hst]
theorem sj{w w':World}{t:TypeId}(x y:Operand)(ho:o.op=.store t x y){p v:Value}(hx:a.eval x=p)(hy:a.eval y=v)(hrun:(Instr.storeAt t p v).run ja0 w=.ok () w'):(execOp a.eval o).run ja0 w=.ok .skip w':=by
 unfold execOp;simp only[ho,hx,hy,Sem.run_bind,hrun,Result.andThen_ok,Sem.run_pure]
theorem eP{S:World->Prop}(hw:Region.wanted o (yielded ops a.tmps)=true)(x:Operand)(ho:o.op=.load 68 x)(hx:a.eval x=.pointer b)(hs:∀w,S w->At w b (.cells (cells s) 68)):aj.Reads ja0 ops S o (.agg (cells s)) a :=
 .inl ⟨hw,λw h=>by unfold execOp;simp only[ho,hx,Sem.run_bind,Dz (hs w h),Result.andThen_ok,Sem.run_pure]⟩
def rz(T:Tr.T)(z:Int)(s:Re.St):Int:=if (T z).isSome=false then 2 else if Re.valid s=false then 1 else 0
def jI(T:Tr.T)(z:Int)(s:Re.St):Tr.T:=if rz T z s=0 then Tr.FT T z s else T
theorem XB{T:Tr.T}(h:dQ w t L T n)(hz:Wf z)(s:Re.St):Calls ja0 33 #[t,z,.agg (cells s)] w λe w'=>e=.returned (.int .i64 (rz T z s))/\dQ w' t L (jI T z s) n/\Grow t L L T (jI T z s) w w':=by
 have hB:Below w w (w.alloc (.cells (cells s) 68)):=aB aD _;have h1:=h.after hB;have hA:At (w.alloc (.cells (cells s) 68)) w.heap.size (.cells (cells s) 68):=At.new _ _;generalize hW:w.alloc (.cells (cells s) 68)=w1 at *;have key:=eZ h1 hz;cases hT:T z with
 | none =>
   have hE:rz T z s=2:=by unfold rz;rw[hT];rfl
   have hS:jI T z s=T:=by unfold jI;rw[hE];rfl
   rw[hT]at key;rw[hE,hS];have HR:=ah h1;have HB:=ah hB;clear h h1 hB hE hS;go_enter Tryz.func33,Tryz.ntmps33
   go_wp2_with (go_at_call 59;(with_reducible refine key.mono ?_);rintro e w' ⟨rfl,rfl⟩)
   go_ret
   exact⟨rfl,HR.out,Grow.of_below HB.out⟩
 | some nd =>
   rw[hT]at key;have key2:=Jy s w1;cases hv:Re.valid s with
   | false =>
     have hE:rz T z s=1:=by unfold rz;rw[hT,hv];rfl
     have hS:jI T z s=T:=by unfold jI;rw[hE];rfl
     rw[hv]at key2;rw[hE,hS];have HR:=ah h1;have HB:=ah hB;clear h h1 hB hE hS;go_enter Tryz.func33,Tryz.ntmps33
     go_wp2_with (first|(refine aQ aR _ rfl rfl hA ?_)|(go_at_call 59;(with_reducible refine key.mono ?_);rintro e w' ⟨rfl,rfl⟩)|(go_at_call 68;(with_reducible refine key2.mono ?_);rintro e w2 ⟨rfl,hb2⟩))
     go_ret
     exact⟨rfl,HR.out.after hb2,Grow.of_below (HB.out.trans (hb2.mono HB.out.size))⟩
   | true =>
     have hE:rz T z s=0:=by unfold rz;rw[hT,hv];rfl
     have hS:jI T z s=Tr.set T z { nd with sty:=s }:=by unfold jI Tr.FT;rw[hE,hT];rfl
     rw[hv]at key2;rw[hE,hS];have HR:=ah h1;have HB:=ah hB;have HA:=ah hA;clear h h1 hB hE hS;go_enter Tryz.func33,Tryz.ntmps33
     go_upto_region 5 with(first|(refine aQ aR _ rfl rfl hA ?_)|(go_at_call 59;(with_reducible refine key.mono ?_);rintro e w' ⟨rfl,rfl⟩)|(go_at_call 68;(with_reducible refine key2.mono ?_);rintro e w2 ⟨rfl,hb2⟩))
     have hR2:=(HR.out.after hb2).after (Below.refl _ w2).drew;have hA2:At w2.drew w (.cells (cells s) 68):=(hA.keep hb2).drew;have hO2:Below w w w2.drew:=(HB.out.trans (hb2.mono HB.out.size)).drew;have hne:L.bl z≠w.heap.size:=λe=>by have:=(hR2.box z nd hT).uniq (e▸hA2);injection this with _ e2;exact absurd e2 aG
     obtain⟨FQ,hG3⟩:=hR2.Pj (s:=s) hT;have hst:=Un (hR2.box z nd hT) s;have hA3:=hA2.gF hne.symm (cZ nd.up (L.sl z) s);generalize hW2:w2.drew=W2 at *;have hS0:W2.cell? ⟨t,0,none⟩=some (.map (some L.mb))/\(Instr.lookup 134 (.map (some L.mb)) (.int .i64 z) false).run ja0 W2=.ok (.pointer (some ⟨L.bl z,0,none⟩)) W2/\At W2 w (.cells (cells s) 68):=⟨hR2.cT,hR2.fT hT,hA2⟩;have qz:=ah (show _/\_/\At (W2.setRow (L.bl z) (cZ nd.up (L.sl z) s)) w.heap.size (.cells (cells s) 68)from⟨FQ.cT,FQ.fT (Tr.aP _ _ _),hA3⟩);have HST:=ah hst;have HR3:=ah FQ;have HG3:=ah ((Grow.of_below hO2).trans hG3);clear hR2 hA2 hO2 FQ hG3 hst hA3 HR HB hA hb2;generalize W2.setRow (L.bl z) (cZ nd.up (L.sl z) s)=W3 at *;refine aj.qx (S:=(λW'=>W'.cell? ⟨t,0,none⟩=some (.map (some L.mb))/\(Instr.lookup 134 (.map (some L.mb)) (.int .i64 z) false).run ja0 W'=.ok (.pointer (some ⟨L.bl z,0,none⟩)) W'/\At W' w (.cells (cells s) 68))) 10 aV ?_ ?_
     . rw[hW2];exact hS0
     intro hS1;rw[hW2];clear hS1 hW2;refine aO 0 ?_;refine aO 1 ?_;refine aO 2 ?_;refine aO 3 ?_;refine aO 4 ?_;refine jh 5 rfl (aZ aR rfl rfl rfl (λW h=>h.2.1)) ?_;refine jh 6 rfl (eP aR (.tmp 5) rfl rfl (λW h=>h.2.2)) ?_;refine aO 7 ?_;refine aO 8 ?_;refine tk1 9 ?_;refine aj.Step.skip (sj (.tmp 24) (.tmp 22) rfl rfl rfl HST.out) ?_;refine⟨λ_=>qz.out,?_⟩
     (try simp only[bM,bN,bO,tks])
     refine gZ ?_;go_wp2
     go_ret
     exact⟨rfl,HR3.out,HG3.out⟩
theorem D5{T:Tr.T}(h:dQ w t L T n){x:Int}{nd p:Tr.Nd}(hx:T x=some nd)(hp:T nd.up=some p){i:Nat}(hi:p.kids[i]? = some x)(hn:p.kids.Nodup) :
  Calls ja0 103 #[t,x] w λe w'=>(∃v,e=.returned v)/\∃L',dQ w' t L' (Tr.leave T x) n/\Grow t L L' T (Tr.leave T x) w w':=by
 obtain⟨hlt,hie⟩:=List.getElem?_eq_some_iff.1 hi;have hpk:=(h.small nd.up p hp).2.2.2.2;have hw:Wf x:=h.wf hx;have hwu:Wf nd.up:=h.wf hp;have hrow:=h.row nd.up p hp
 have hf:∀j,j<i->p.kids[j]? ≠ some x:=λj hj e=>by
  obtain⟨hj2,he⟩:=List.getElem?_eq_some_iff.1 e;have:=(List.getElem_inj hn).1 (he.trans hie.symm);omega
 have key2:=λW (hb:KS W (L.sl nd.up) p.kids)=>TY hb hi hf;have hleave:Tr.leave T x=Tr.set T nd.up { p with kids:=Tr.wo p.kids x }:=by unfold Tr.leave;rw[hx];simp only[hp]
 have hwo:=Tr.WX hn hi;rw[hleave];rcases hrow.cases with⟨_,h0⟩|⟨g,c,hsl,hrw⟩
 . rw[h0]at hlt;simp at hlt
 rw[hsl]at key2;have afZ:=λW (hb:Rw W g c p.kids)=>O8 (w:=W) hb (i:=i) (j:=i+1) ak ak;clear hie;generalize hlen:p.kids.length=m at *;have hup:Hid (iX T x=nd.up):=ah (by unfold iX;rw[hx]);have key1:=λW (hr:dQ W t L T n)=>nZ hr hw;rw[hup.out]at key1;generalize hu:nd.up=u at *;have HP:=ah hp;have HR:=ah h;have HK2:=ah key2;have HK3:=ah afZ;have HSL:=ah hsl;have HWO:=ah hwo;have HLEN:=ah hlen;have hw1:IntKind.i64.wrap ((i:Int)+1)=((i+1:Nat):Int):=by rw[IntWalk.i64_in _ ak];omega
 have hS0:dQ w.drew t L T n:=h.after (Below.refl _ w).drew;clear h key2 afZ hsl hwo hrow hf hleave hi hn hp hx hrw hlen;go_enter Tryz.func103,Tryz.ntmps103
 go_upto_region 0 with(fail)
 refine iC (S:=(λW'=>W'.cell? ⟨t,0,none⟩=some (.map (some L.mb))/\dQ W' t L T n/\W'=w.drew)) 9 ?_ ?_
 . exact⟨hS0.cT,hS0,rfl⟩
 intro hS1;refine aO 0 ?_;refine aO 1 ?_;refine aO 2 ?_;refine aO 3 ?_;refine aO 4 ?_;refine aO 5 ?_;refine tk1 6 ?_;refine aj.Step.call eD (key1 _ hS1.2.1) ?_;rintro e w4 ⟨rfl,rfl⟩;refine⟨_,rfl,λ_=>hS1,?_⟩
 (try simp only[bM,bN,bO,tks])
 refine jh 7 rfl (aZ aR rfl rfl rfl (λW h=>h.2.1.fT HP.out)) ?_;refine aO 8 ?_;refine gZ ?_;clear hS1;generalize hW:w.drew=w1 at *;have hD:Below w w w1:=hW▸(Below.refl _ _).drew;have c1:=hS0.jX HP.out;rw[HSL.out]at c1;have k2:=HK2.out w1 (HSL.out▸hS0.row u p HP.out)
 have k3:=HK3.out w1 (by
  have:=hS0.row u p HP.out;rw[HSL.out]at this;rcases this.cases with⟨e,_⟩|⟨g',c',e,hr⟩
  . cases e
  . injection e with e1 e2 e3;injection e1 with e1;injection e1 with e1;subst e1;subst e3;exact hr)
 rw[show((i+1:Nat):Int)=(i:Int)+1 by omega]at k3;have hne:g≠L.bl u:=λe=>hS0.DW HP.out HP.out (by rw[HSL.out];exact congrArg some e);clear hW key1
 go_wp2_with (first|(go_at_call 136;(with_reducible refine k2.mono ?_);rintro e w' ⟨rfl,rfl⟩)|(go_at_call 137;(with_reducible refine k3.mono ?_);rintro e w2 ⟨rfl,hrw2,hO2⟩;have c2:w2.cell? ⟨L.bl u,1,none⟩=some (.slice g m c):=(by rw[((hS0.box u p HP.out).out (λe=>hne e.symm) hO2).cell,vD,HSL.out]);have z2:=((hS0.box u p HP.out).out (λe=>hne e.symm) hO2).thaw 1))
 refine bodyPost_end (results_none rfl _ _ _) rfl ?_;refine⟨⟨_,rfl⟩,?_⟩;rw[HWO.out];have hm:=HLEN.out;have hl:(List.take i p.kids++List.drop (i+1) p.kids).length=i+(m-(i+1)):=by simp only[ja7,jc9,List.length_drop];omega
 have hks:=hrw2.ks;rw[hl]at hks;obtain⟨r1,r2⟩:=hS0.sw HP.out (hO2.mono λb _ (q:b=g)=>by rw[HSL.out,q];rfl) hks (by rw[HSL.out];exact .inl rfl) ak;exact⟨_,r1,(Grow.of_below hD).trans r2⟩
theorem D7{T:Tr.T}(h:dQ w t L T n){x u:Int}{nd p:Tr.Nd}(hx:T x=some nd)(hu:T u=some p)(hne:u≠x){i:Nat}(hi:i<=p.kids.length)(hl:p.kids.length+1<=4096) :
  Calls ja0 72 #[t,x,u,.int .i64 (i:Int)] w λe w'=>(∃v,e=.returned v)/\∃L',dQ w' t L' (Tr.enter T x u i) n/\Grow t L L' T (Tr.enter T x u i) w w':=by
 have hent:Tr.enter T x u i=Tr.set (Tr.set T u { p with kids:=Tr.wi p.kids i x }) x { nd with up:=u }:=by unfold Tr.enter;rw[hx,hu]
 rw[hent];have F4:(Tr.wi p.kids i x).length<=4096:=by simp only[Tr.wi,ja7,jc9,List.length_cons,List.length_drop];omega
 have hur:=h.small u p hu;have hl1:=h.fT hu;have c0:=h.cT;have c1:=h.jX hu;have hB:Below w w (w.alloc (.cells #[x] 3)):=aB aD _;have h1:=h.after hB;have hA:At (w.alloc (.cells #[x] 3)) w.heap.size (.cells #[x] 3):=At.new _ _;have hvb:(L.sl u).ownBlock≠some w.heap.size:=λe=>by have:=h.lt (.inr (.inr ⟨u,p,hu,.inr e⟩));omega
 have key2:=Pb (h1.row u p hu) hi ak hA hvb;have HR1:=ah h1;have HB:=ah hB;have HU:=ah hu;have HX:=ah hx;have HLW:=ah F4;have HUR:=ah hur;have HNE:=ah hne;clear h h1 hB hu hx F4 hur hA hvb hi hl hent hne;go_enter Tryz.func72,Tryz.ntmps72
 go_upto_region 2 with(first|(go_at_call 102;(with_reducible refine key2.mono ?_);rintro e w2 ⟨v2,rfl,hks,hO,hloc⟩;obtain⟨A,c,hs,_⟩:=hks.ints;subst hs;generalize hm:(Tr.wi p.kids i x).length=m at *;have HM:=ah hm;have Uo:=ah hks;have HO:=ah hO;have HLOC:=ah hloc;clear hm hks hO hloc;have b2:=((HR1.out.box u p HU.out).out (HR1.out.DW HU.out HU.out) HO.out).thaw 1;have c2:w2.cell? ⟨L.bl u,1,none⟩=some (L.sl u):=(by rw[((HR1.out.box u p HU.out).out (HR1.out.DW HU.out HU.out) HO.out).cell,vD])))
 obtain⟨r2,g2⟩:=HR1.out.sw HU.out HO.out Uo.out (HLOC.out.elim .inl λe => .inr (.inr ⟨_,e,aH _⟩)) (by rw[HM.out];exact HLW.out);have hx2:Tr.set T u { p with kids:=Tr.wi p.kids i x } x=some nd:=by rw[Tr.aK _ _ (λe=>HNE.out e.symm)];exact HX.out
 have l2:=r2.fT hx2;have t2:=r2.cT;have u2:=r2.cUp hx2;have z2:=(r2.box x nd hx2).thaw 0;obtain⟨r3,g3⟩:=r2.Xt (u:=u) hx2 (by have:=HUR.out;omega);have R3:=ah (show∃L',dQ ((w2.setCell ⟨L.bl u,1,none⟩ (.slice A m c)).setCell ⟨L.bl x,0,none⟩ (.int .i64 u)) t L' _ n/\Grow t L L' T _ w ((w2.setCell ⟨L.bl u,1,none⟩ (.slice A m c)).setCell ⟨L.bl x,0,none⟩ (.int .i64 u))from⟨_,r3,(Grow.of_below HB.out).trans (g2.trans g3)⟩);clear r2 g2 hx2 r3 g3 HM HLW HLOC HO Uo HB HR1 HU HX HUR HNE b2 c2 c0 c1 hl1 key2;dsimp only at l2 t2 u2 z2;generalize w2.setCell ⟨L.bl u,1,none⟩ (.slice A m c)=w3 at *;go_wp2;refine bodyPost_end (results_none rfl _ _ _) rfl ?_;exact⟨⟨_,rfl⟩,R3.out⟩
structure Inv(W:World)(t:Nat)(L:Lay)(T:Tr.T)(n:Nat):Prop where
 rep:dQ W t L T n
 wf:Tr.WF T
 num:(Tr.ord T).length=n
theorem XC{T:Tr.T}(h:Inv w t L T n)(hn:n<4096){u a:Int}(hu:Wf u):Calls ja0 34 #[t,u,a] w λe w'=>e=.returned (.tuple #[Tr.sM T u a,Tr.lI T u a])/\∃L' n',Inv w' t L' (Tr.jG T u a) n'/\n'<=n+1/\Grow t L L' T (Tr.jG T u a) w w':=by
 obtain⟨h,HW,F5⟩:=h;have RG:=HW.jG u a ak;have key:=eZ h hu;cases hT:T u with
 | none =>
   have hE:Tr.lI T u a=2:=by unfold Tr.lI;rw[hT]
   have hI:Tr.sM T u a = -1:=by unfold Tr.sM;rw[hE];rfl
   have hR:Tr.jG T u a=T:=by unfold Tr.jG;rw[hE];rfl
   rw[hE,hI,hR];rw[hT]at key;have HR:=ah (Inv.mk h HW F5);clear h HW F5 RG hE hI hR;exact Z1h
 | some p =>
   rw[hT]at key;have hl:=h.fT hT;have c0:=h.cT;have c1:=h.jX hT;have hs:=(h.small u p hT).2.2.2.2;obtain⟨A,c,hv,_⟩:=(h.row u p hT).ints;by_cases hr:a<0\/(p.kids.length:Int)<a
   . have hE:Tr.lI T u a=1:=by unfold Tr.lI;rw[hT];dsimp only;rw[if_pos hr]
     have hI:Tr.sM T u a = -1:=by unfold Tr.sM;rw[hE];rfl
     have hR:Tr.jG T u a=T:=by unfold Tr.jG;rw[hE];rfl
     rw[hE,hI,hR];have HR:=ah (Inv.mk h HW F5);rw[hv]at c1;clear h HW F5 RG hE hI hR hv;generalize p.kids.length=m at *;rcases hr with hr|hr
     . exact Z1h
     . have hr0:¬ a<0:=by omega
       exact Z1h
   . have hr0:¬ a<0:=λe=>hr (.inl e)
     have hr1:¬ (p.kids.length:Int)<a:=λe=>hr (.inr e);have mD:=Xu h;obtain⟨d,hd1,hd2,hd3⟩:=HW.iF hT;have Pv:=AJ h (λ_ h=>HW.eU h) hd2 ak;have hnn:¬ (4096:Int)<=(n:Int):=by omega
     by_cases hdd:63<=d
     . have XD:(63:Int)<=(d:Int):=by omega
       have hE:Tr.lI T u a=5:=by unfold Tr.lI;rw[hT];dsimp only;rw[if_neg hr,hd3,if_pos XD]
       have hI:Tr.sM T u a = -1:=by unfold Tr.sM;rw[hE];rfl
       have hR:Tr.jG T u a=T:=by unfold Tr.jG;rw[hE];rfl
       rw[hE,hI,hR];have HR:=ah (Inv.mk h HW F5);rw[hv]at c1;clear h HW F5 RG hE hI hR hv hd2 hd3 hr;generalize p.kids.length=m at *;go_enter Tryz.func34,Tryz.ntmps34
       go_wp2_with (first|(go_at_call 59;(with_reducible refine key.mono ?_);rintro e w' ⟨rfl,rfl⟩)|(go_at_call 69;(with_reducible refine mD.mono ?_);rintro e w' ⟨rfl,rfl⟩)|(go_at_call 70;(with_reducible refine Pv.mono ?_);rintro e w' ⟨rfl,rfl⟩))
       go_ret2
       exact⟨rfl,L,n,HR.out,by omega,Grow.refl _ _ _ _⟩
     . have XD:¬ (63:Int)<=(d:Int):=by omega
       have hE:Tr.lI T u a=0:=by unfold Tr.lI;rw[hT];dsimp only;rw[if_neg hr,hd3,if_neg XD]
       have hI:Tr.sM T u a=Tr.free T:=by unfold Tr.sM;rw[hE];rfl
       have hR:Tr.jG T u a=Tr.nX T (Tr.free T) u a.toNat:=by unfold Tr.jG;rw[hE];rfl
       rw[hE,hR,if_pos rfl]at RG;rw[hE,hI,hR];obtain⟨hfree,hfl⟩:=HW.I9;have abz:=Ub h;have hB:Below w w (w.alloc (.cells (cZ 0 (.slice none 0 0) Re.zero) 132)):=aB aD _;have h1:=h.after hB;have hA:At (w.alloc (.cells (cZ 0 (.slice none 0 0) Re.zero) 132)) w.heap.size (.cells (cZ 0 (.slice none 0 0) Re.zero) 132):=At.new _ _;have hfw:Wf (Tr.free T):=by rw[iQ];have:=hfree.1;omega
       obtain⟨W2,hmu,p2,ho⟩:=h1.map.store (by simp[maxLen];omega) (z:=Tr.free T) hfw (by rw[hfree.2.1];rfl) w.heap.size;have hnw:¬ owned t L T w.heap.size:=λe=>absurd (h.lt e) ak;obtain⟨r2,o2,g2⟩:=h1.add hfree.2.1 ⟨hfree.1,by omega⟩ ak hA hnw ho p2;have hne:u≠Tr.free T:=λe=>by rw[e,hfree.2.1]at hT;cases hT
       have G2:Grow t L _ T _ w W2:=⟨((Out.of_below hB).trans ⟨o2.1,o2.2⟩),λb hb=>(g2 b hb).imp id λe=>by omega⟩;have hkl:=HW.pR hT;have Uq:=D7 r2 (Tr.aP _ _ _) ((Tr.aK _ _ hne).trans hT) hne (i:=a.toNat) ak ak;rw[Int.toNat_of_nonneg ak]at Uq;have HG2:=ah G2;have HI:=ah RG;have HN:=ah F5;have HF:=ah hfree;rw[hv]at c1;clear h HW F5 RG hE hI hR hv hd2 hd3 hr hfree hfl hB h1 hA p2 ho hnw r2 o2 g2 G2 hT hkl;unfold Tr.nX;generalize p.kids.length=m at *;generalize Tr.free T=z at *;go_enter Tryz.func34,Tryz.ntmps34
       go_wp2_with (first|(go_at_call 59;(with_reducible refine key.mono ?_);rintro e w' ⟨rfl,rfl⟩)|(go_at_call 69;(with_reducible refine mD.mono ?_);rintro e w' ⟨rfl,rfl⟩)|(go_at_call 70;(with_reducible refine Pv.mono ?_);rintro e w' ⟨rfl,rfl⟩)|(go_at_call 71;(with_reducible refine abz.mono ?_);rintro e w' ⟨⟨y,rfl,hy⟩,rfl⟩;obtain rfl:y=z:=(Tr.free_eq hy).symm.trans (Tr.free_eq HF.out))|(refine wpList_build aR 132 _ rfl #[] aW (DV _) ?_)|(go_at_call 72;(with_reducible refine Uq.mono ?_);rintro e w' ⟨⟨v,rfl⟩,L',hr',hg'⟩))
       go_ret2
       exact⟨rfl,L',n+1,⟨hr',HI.out.1,by rw[<-HN.out];exact HI.out.2⟩,aH _,HG2.out.trans hg'⟩
section
variable {T:Tr.T} (H:Tr.WF T) {x u:Int} {nd p:Tr.Nd} (hx:T x=some nd) (h0:x≠0) (hu:T u=some p) (hun:u ∉ Tr.sub T 64 x)
include H hx h0 hu hun
theorem adS:Tr.leave T x u=some { p with kids:=Tr.wo p.kids x }:=by
 obtain⟨q,hq,hm⟩:=H.up x nd hx h0;rw[Tr.oM hx hq];by_cases e:u=nd.up
 . rw[if_pos e];rw[<-e,hu]at hq;cases hq;rfl
 . rw[if_neg e,hu,Tr.uX (λhm=>e (H.La hx h0 hu hm))]
theorem adT:Tr.leave T x x=some nd:=by
 obtain⟨q,hq,hm⟩:=H.up x nd hx h0;rw[Tr.oM hx hq,if_neg (λe:x=nd.up=>H.oN hx h0 (H.qU hx h0 e.symm)),hx]
theorem XE:(Tr.wo p.kids x).length+1<=(Tr.ord T).length:=by
 have hn:(x::Tr.wo p.kids x).Nodup:=List.nodup_cons.2 ⟨λhm=>(Tr.xG.1 hm).2 rfl,Tr.Dl (H.nodup u p hu) x⟩
 have:=hn.length_le_of_subset (l₂:=Tr.ord T) λy hy=>by
  rcases List.mem_cons.1 hy with rfl|hy
  . exact H.fB.2 ⟨nd,hx⟩
  . obtain⟨_,q,h2,_⟩:=H.kid u p y hu (Tr.xG.1 hy).1
    exact H.fB.2 ⟨q,h2⟩
 simpa using this
end
theorem Ur{T:Tr.T}(h:Inv w t L T n){x u a:Int}(hxw:Wf x)(hu:Wf u):Calls ja0 75 #[t,x,u,a] w λe w'=>e=.returned (.int .i64 (Tr.jf T x u a))/\∃L',Inv w' t L' (Tr.j4 T x u a) n/\Grow t L L' T (Tr.j4 T x u a) w w':=by
 have key:=eZ h.rep hxw;have ql:=eZ h.rep hu;have same:∀e,Tr.jf T x u a=e->e≠0->Tr.j4 T x u a=T:=λe he hne=>by unfold Tr.j4;rw[he,if_neg hne]
 cases hX:T x with
 | none =>
   have hE:Tr.jf T x u a=2:=by unfold Tr.jf;rw[hX]
   rw[hE,same _ hE aG];rw[hX]at key;have HR:=ah h;clear h ql same hE;exact Z17
 | some nd =>
 rw[hX]at key;cases hU:T u with
 | none =>
   have hE:Tr.jf T x u a=2:=by unfold Tr.jf;rw[hX,hU]
   rw[hE,same _ hE aG];rw[hU]at ql;have HR:=ah h;clear h same hE;exact Z17
 | some p =>
 rw[hU]at ql;have hE0:Tr.jf T x u a=if x=0 then 1 else if u∈Tr.sub T 64 x then 3 else if a<0\/((Tr.wo p.kids x).length:Int)<a then 1 else if 63<Tr.dep T u+1+Tr.hgt T 64 x then 5 else 0:=by unfold Tr.jf;rw[hX,hU]
 by_cases h0:x=0
 . have hE:Tr.jf T x u a=1:=by rw[hE0,if_pos h0]
   rw[hE,same _ hE aG];have HR:=ah h;clear h same hE hE0;subst h0;exact Z17
 rw[if_neg h0]at hE0;have h0b:(x==0)=false:=by simpa using h0
 have xE:=Pn (y:=u) h.rep (h.wf.gD hX);by_cases hm:u∈Tr.sub T 64 x
 . have hE:Tr.jf T x u a=3:=by rw[hE0,if_pos hm]
   rw[hE,same _ hE aG];have hd:decide (u∈Tr.sub T 64 x)=true:=by simpa using hm
   rw[hd]at xE;have HR:=ah h;clear h same hE hE0 hm hd;exact Z1e
 rw[if_neg hm]at hE0;have hd:decide (u∈Tr.sub T 64 x)=false:=by simpa using hm
 rw[hd]at xE;have KO:=ah λW (hb:Below w w W)=>LV (h.rep.after hb) hU hxw;have hup:iX T x=nd.up:=by unfold iX;rw[hX]
 rw[hup,<-h.wf.others hX hU h0]at KO;by_cases hr:a<0\/((Tr.wo p.kids x).length:Int)<a
 . have hE:Tr.jf T x u a=1:=by rw[hE0,if_pos hr]
   rw[hE,same _ hE aG];have HR:=ah h;clear h same hE hE0 hm hd hup;generalize (Tr.wo p.kids x).length=m at *;rcases hr with hr|hr
   . exact Z1e
   . have hr0:¬ a<0:=by omega
     go_enter Tryz.func75,Tryz.ntmps75
     go_wp2_with (first|(go_at_call 59;first|((with_reducible refine key.mono ?_);rintro e w' ⟨rfl,rfl⟩)|((with_reducible refine ql.mono ?_);rintro e w' ⟨rfl,rfl⟩))|(go_at_call 105;(with_reducible refine xE.mono ?_);rintro e w1 ⟨rfl,hb1⟩)|(go_at_call 106;(with_reducible refine(KO.out _ hb1).mono ?_);rintro e w' ⟨rfl,rfl⟩))
     exact Z2r
 rw[if_neg hr]at hE0;have hr0:¬ a<0:=λe=>hr (.inl e);have hr1:¬ ((Tr.wo p.kids x).length:Int)<a:=λe=>hr (.inr e);obtain⟨d,hd1,hd2,hd3⟩:=h.wf.iF hU;have KD:=ah λW (hb:Below w w W)=>AJ (h.rep.after hb) (λ_ q=>h.wf.eU q) hd2 ak;have KH:=ah λW (hb:Below w w W)=>LW 64 x ak (h.rep.after hb) (h.wf.gD hX);have akz:=Xv (h.wf.gD hX);rw[hd3]at hE0;have hw1:IntKind.i64.wrap ((d:Int)+1)=(d:Int)+1:=by rw[IntWalk.i64_in _ ak]
 have hw2:IntKind.i64.wrap ((d:Int)+1+(Tr.hgt T 64 x:Int))=(d:Int)+1+(Tr.hgt T 64 x:Int):=by rw[IntWalk.i64_in _ ak]
 by_cases hdd:63<(d:Int)+1+(Tr.hgt T 64 x:Int)
 . have hE:Tr.jf T x u a=5:=by rw[hE0,if_pos hdd]
   rw[hE,same _ hE aG];have HR:=ah h;clear h same hE hE0 hm hd hup hd2 hd3 hr;generalize (Tr.wo p.kids x).length=m at *;generalize Tr.hgt T 64 x=g at *;go_enter Tryz.func75,Tryz.ntmps75
   go_wp2_with (first|(go_at_call 59;first|((with_reducible refine key.mono ?_);rintro e w' ⟨rfl,rfl⟩)|((with_reducible refine ql.mono ?_);rintro e w' ⟨rfl,rfl⟩))|(go_at_call 105;(with_reducible refine xE.mono ?_);rintro e w1 ⟨rfl,hb1⟩)|(go_at_call 106;(with_reducible refine(KO.out _ hb1).mono ?_);rintro e w' ⟨rfl,rfl⟩)|(go_at_call 70;(with_reducible refine(KD.out _ hb1).mono ?_);rintro e w' ⟨rfl,rfl⟩)|(go_at_call 107;(with_reducible refine(KH.out _ hb1).mono ?_);rintro e w' ⟨rfl,rfl⟩))
   exact Z2r
 . rw[if_neg hdd]at hE0
   have hR:Tr.j4 T x u a=Tr.j3 T x u a.toNat:=by unfold Tr.j4;rw[hE0,if_pos rfl]
   have RG:=h.wf.j4 x u a;rw[hE0,hR];rw[hR]at RG;obtain⟨q,hq,hqm⟩:=h.wf.up x nd hX h0;obtain⟨i,hi⟩:=List.mem_iff_getElem?.1 hqm;have hxu:u≠x:=λe=>hm (h.wf.qU hX h0 e);have KL:=ah λW (hb:Below w w W)=>D5 (h.rep.after hb) hX hq hi (h.wf.nodup _ _ hq);have hll:=XE h.wf hX h0 hU hm;have hos:=h.wf.iE;have KE:=ah λW L' (hb:dQ W t L' (Tr.leave T x) n)=>D7 hb (adT h.wf hX h0 hU hm) (adS h.wf hX h0 hU hm) hxu (i:=a.toNat) (by simp only;omega) (by simp only;omega);rw[Int.toNat_of_nonneg ak]at KE;have XF:=ah RG;have HN:=ah h.num;clear h same hE0 hm hd hup hd2 hd3 hr hR RG hq hqm hi hll hos hX hU;unfold Tr.j3;generalize (Tr.wo p.kids x).length=m at *;generalize Tr.hgt T 64 x=g at *;go_enter Tryz.func75,Tryz.ntmps75
   go_wp2_with (first|(go_at_call 59;first|((with_reducible refine key.mono ?_);rintro e w' ⟨rfl,rfl⟩)|((with_reducible refine ql.mono ?_);rintro e w' ⟨rfl,rfl⟩))|(go_at_call 105;(with_reducible refine xE.mono ?_);rintro e w1 ⟨rfl,hb1⟩)|(go_at_call 106;(with_reducible refine(KO.out _ hb1).mono ?_);rintro e w' ⟨rfl,rfl⟩)|(go_at_call 70;(with_reducible refine(KD.out _ hb1).mono ?_);rintro e w' ⟨rfl,rfl⟩)|(go_at_call 107;(with_reducible refine(KH.out _ hb1).mono ?_);rintro e w' ⟨rfl,rfl⟩)|(go_at_call 103;(with_reducible refine(KL.out _ hb1).mono ?_);rintro e w2 ⟨⟨v,rfl⟩,L2,hr2,hg2⟩)|(go_at_call 72;(with_reducible refine(KE.out _ _ hr2).mono ?_);rintro e w3 ⟨⟨v,rfl⟩,L3,hr3,hg3⟩))
   go_ret
   exact⟨rfl,L3,⟨hr3,XF.out.1,XF.out.2.trans HN.out⟩,(Grow.of_below hb1).trans (hg2.trans hg3)⟩
theorem RH(T:Tr.T)(l:List Int){k:Nat}(hz:l[k]? = some z):Tr.del (Tr.del T (l.take k)) [z]=Tr.del T (l.take (k+1)):=by
 funext y;have:y∈l.take (k+1)↔y∈l.take k\/y=z:=by rw[List.take_add_one,hz];simp
 simp only[Tr.del,List.mem_singleton,this];by_cases h1:y=z<;>by_cases h2:y∈l.take k<;>simp[h1,h2]
theorem CB(T:Tr.T):Tr.del T []=T:=by funext y;simp[Tr.del]
theorem Us{t:Nat}{T:Tr.T}(h:owned t L (Tr.del T l) b):owned t L T b:=by
 rcases h with h|h|⟨z,nd,hz,h⟩
 . exact .inl h
 . exact .inr (.inl h)
 . refine .inr (.inr ⟨z,nd,?_,h⟩)
   unfold Tr.del at hz;split at hz
   . cases hz
   . exact hz
structure Kept(W:World)(t:Nat)(L:Lay)(T:Tr.T)(v:Value)(l:List Int):Prop where
 row:KS W v l
 own:∀g,v.ownBlock=some g->¬ owned t L T g
theorem Kept.grow{t:Nat}{L L':Lay}{T T':Tr.T}(h:Kept W t L T v l)(k:Grow t L L' T T' W W'):Kept W' t L' T' v l :=
 ⟨h.row.out h.own k.1,λg hg ho=>(k.2 g ho).elim (h.own g hg) λq=>absurd (h.row.lt hg) ak⟩
theorem Kept.after{t:Nat}{T:Tr.T}(h:Kept W t L T v l)(hb:Below W W W'):Kept W' t L T v l:=⟨h.row.after hb,h.own⟩
theorem Kept.new{t n base:Nat}{T:Tr.T}(hR:dQ W t L T n)(h:W'.ownsRow base 3 1 v l.length (l.map (Value.int .i64)))(hb:W.heap.size<=base):Kept W' t L T v l :=
 ⟨dP h oI,λg hg ho=>by have h1:=(World.ownsRow.lt h g hg).1;have h2:=hR.lt ho;omega⟩
theorem Mf{T:Tr.T}(h:Inv w t L T n){x:Int}(hxw:Wf x):Calls ja0 73 #[t,x] w λe w'=>e=.returned (.tuple #[Tr.wQ T x,Tr.qw T x])/\∃L' n',Inv w' t L' (Tr.mq T x) n'/\n'<=n/\Grow t L L' T (Tr.mq T x) w w':=by
 have key:=eZ h.rep hxw;have same:∀e,Tr.qw T x=e->e≠0->Tr.mq T x=T/\Tr.wQ T x=0:=λe he hne=>by unfold Tr.mq Tr.wQ;rw[he,if_neg hne,if_neg hne];exact⟨rfl,rfl⟩
 cases hX:T x with
 | none =>
   have hE:Tr.qw T x=2:=by unfold Tr.qw;rw[hX]
   rw[hE,(same _ hE aG).1,(same _ hE aG).2];rw[hX]at key;have HR:=ah h;clear h same hE;exact Z2n
 | some nd =>
 rw[hX]at key;by_cases h0:x=0
 . have hE:Tr.qw T x=1:=by unfold Tr.qw;rw[hX];dsimp only;rw[if_pos h0]
   rw[hE,(same _ hE aG).1,(same _ hE aG).2];have HR:=ah h;clear h same hE;subst h0;exact Z2n
 have h0b:(x==0)=false:=by simpa using h0
 have hE:Tr.qw T x=0:=by unfold Tr.qw;rw[hX];dsimp only;rw[if_neg h0]
 have hI:Tr.wQ T x=(Tr.sub T 64 x).length:=by unfold Tr.wQ;rw[hE,if_pos rfl]
 have hR:Tr.mq T x=Tr.del (Tr.leave T x) (Tr.sub T 64 x):=by unfold Tr.mq;rw[hE,if_pos rfl];rfl
 have RG:=h.wf.mq x;rw[hE,hI,hR];rw[hI,hR]at RG;obtain⟨q,hq,hqm⟩:=h.wf.up x nd hX h0;obtain⟨i,hi⟩:=List.mem_iff_getElem?.1 hqm;have mD:=D5 h.rep hX hq hi (h.wf.nodup _ _ hq);obtain⟨hfit,hsub,_⟩:=h.wf.Tk hX h0;have hnd:=h.wf.zK (h.wf.gD hX)
 have hlive:∀z,z∈Tr.sub T 64 x->Tr.leave T x z≠none:=λz hz=>by
  obtain⟨zd,hzd⟩:=((h.wf.fZ (h.wf.gD hX)).1 hz).live;rw[Tr.oM hX hq];split
  . simp
  . rw[hzd];simp
 have hlen:(Tr.sub T 64 x).length<=n:=by have:=h.wf.Cx hX h0;have:=h.num;omega
 have hos:=h.wf.iE;have hn:=h.num;have KC:=ah λW L' tb ib (hb:dQ W t L' (Tr.leave T x) n) htb hib=>AO (tb:=tb) (ib:=ib) hb hfit (by rw[hsub];omega) htb hib;rw[hsub]at KC;have HN:=ah hn;have XF:=ah RG;have HND:=ah hnd;have af0:=ah hlive;have hn4:n<=4096:=by omega
 clear h same hE hI hR RG hq hqm hi hX hfit hsub hnd hos hn hlive h0;generalize Tr.sub T 64 x=l at *;generalize Tr.leave T x=T1 at *;generalize hm:l.length=m at *;have HM:=ah hm;clear hm;go_enter Tryz.func73,Tryz.ntmps73
 go_upto_region 7 with(first|(go_at_call 59;(with_reducible refine key.mono ?_);rintro e w' ⟨rfl,rfl⟩)|(go_at_call 103;(with_reducible refine mD.mono ?_);rintro e w1 ⟨⟨v,rfl⟩,L1,hr1,hg1⟩;have HR1:=ah hr1;have HG1:=ah hg1;clear hr1 hg1)|(go_at_call 58;(with_reducible refine(wF _ _ _).mono ?_);rintro e w2 ⟨rfl,rfl⟩)|(go_at_call 57;(with_reducible refine(KC.out _ _ _ _ (HR1.out.after (aB (aB aD _) _)) ((At.new w1 _).alloc _) (At.new' (b:=w1.heap.size+1) _ aW)).mono ?_);rintro e w3 ⟨⟨v3,rfl,ho⟩,hb3⟩))
 have sV:=(aB (aB (Below.refl w1.heap.size w1) (.cells #[t] 24)) (.cells #[x] 3)).trans (hb3.mono iJ);have hr3:=HR1.out.after sV;have hK:Kept w3 t L1 T1 v3 l:=Kept.new HR1.out (by rw[HM.out];exact ho) iJ;have HG3:=ah (HG1.out.trans (Grow.of_below sV));have HR3:=ah hr3;have HK3:=ah hK;obtain⟨A,c,hv,_⟩:=hK.row.ints;rw[HM.out]at hv;subst hv;clear HG1 HR1 ho hb3 sV hr3 hK KC key mD;go_wp2
 go_loopw [26] (λi wr=>∃k:Nat,k<=m/\i=.int .i64 k/\dQ wr t L1 (Tr.del T1 (l.take k)) (n-k)/\Kept wr t L1 T1 (.slice A m c) l/\Grow t L1 L1 T1 (Tr.del T1 (l.take k)) w3 wr) (λi _=>m-(intOf i).toNat)
 case atStart=>exact⟨0,by omega,rfl,by rw[List.take_zero,CB];exact HR3.out,HK3.out,by rw[List.take_zero,CB];exact Grow.refl _ _ _ _⟩
 case round =>
  obtain⟨k,hk,rfl,hRr,hKr,hGr⟩:=hrel;by_cases hlt:k<m
  . have hltz:(k:Int)<(m:Int):=by omega
    obtain⟨b,o,rfl,lb,hcell⟩:=(KS.wG hKr.row).1.at_ (k:=k) Z4a;have hgk:l[k]? = some (l.getD k 0):=by rw[List.getD,ja6 Z4a];rfl
    have hzl:l.getD k 0∈l:=List.mem_iff_getElem?.2 ⟨k,hgk⟩;have hlv:Tr.del T1 (l.take k) (l.getD k 0)≠none:=by
     have hnt:l.getD k 0 ∉ l.take k:=λhm=>by
      obtain⟨j,hj⟩:=List.mem_iff_getElem?.1 hm;have hjk:j<k:=by
       obtain⟨hj2,_⟩:=List.getElem?_eq_some_iff.1 hj;simp at hj2;omega
      rw[List.getElem?_take,if_pos hjk]at hj;obtain⟨h1,h2⟩:=List.getElem?_eq_some_iff.1 hj;obtain⟨h3,h4⟩:=List.getElem?_eq_some_iff.1 hgk;have:=(List.getElem_inj HND.out).1 (h2.trans h4.symm);omega
     unfold Tr.del;rw[if_neg hnt];exact af0.out _ hzl
    have hdd:=RH T1 l hgk;generalize l.getD k 0=z at *;obtain⟨zd,hzd⟩:=Option.ne_none_iff_exists'.1 hlv;obtain⟨W',hdel,hp,hO,_⟩:=hRr.map.drop (hRr.wf hzd) (by rw[hzd];rfl) 0;obtain⟨hr2,hg2⟩:=hRr.drop hO hp;rw[hdd]at hr2 hg2;have c0:=hRr.cT;have hR2:=ah hr2;have hG2:=ah (hGr.trans hg2);have hK2:=ah (hKr.grow (T':=T1) (L':=L1) ⟨hg2.1.mono λb _ ho=>Us ho,λb ho => .inl ho⟩);clear hRr hKr hGr hr2 hg2 hdd hp hO hzd hlv hzl hgk;go_wp2
    go_round
    case rel=>exact⟨k+1,by omega,by go_num,by rw[show n-(k+1)=n-k-1 by omega];exact hR2.out,hK2.out,hG2.out⟩
    case measure=>simp[intOf];omega
  . obtain rfl:k=m:=by omega
    go_wp2
    go_ret2
    rw[List.take_of_length_le (by rw[HM.out];exact aH _)]at hRr hGr;refine⟨rfl,L1,n-k,⟨hRr,XF.out.1,?_⟩,by omega,HG3.out.trans hGr⟩;have h1:=XF.out.2;have h2:=HN.out;omega
def D8(L:Lay)(T:Tr.T)(b:Nat):Prop:=b=L.mb\/∃z nd,T z=some nd/\(b=L.bl z\/(L.sl z).ownBlock=some b)
structure Pw(W:World)(L:Lay)(T:Tr.T)(n0 m:Nat):Prop where
 map:PM W L.mb m (λz=>(T z).map λ_=>L.bl z)
 box:∀z nd,T z=some nd->At W (L.bl z) (.cells (cZ nd.up (L.sl z) nd.sty) 132)
 row:∀z nd,T z=some nd->KS W (L.sl z) nd.kids
 inj:∀y z,T y≠none->T z≠none->L.bl y=L.bl z->y=z
 apart:∀y z g,T y≠none->T z≠none->(L.sl y).ownBlock=some g->(L.sl z).ownBlock=some g->y=z
 new:∀b,D8 L T b->n0<=b
section
variable {W W':World} {L:Lay} {T:Tr.T} {n0 m:Nat}
theorem Pw.out{M:Nat->Prop}(h:Pw W L T n0 m)(hm:∀b,D8 L T b->¬ M b)(k:Out M W W'):Pw W' L T n0 m where
 map:=h.map.out (hm _ (.inl rfl)) k
 box:=λz nd hz=>(h.box z nd hz).out (hm _ (.inr ⟨z,nd,hz,.inl rfl⟩)) k
 row:=λz nd hz=>(h.row z nd hz).out (λg hg=>hm _ (.inr ⟨z,nd,hz,.inr hg⟩)) k
 inj:=h.inj
 apart:=h.apart
 new:=h.new
theorem Pw.after(h:Pw W L T n0 m)(hb:Below W W W'):Pw W' L T n0 m:=h.out (M:=λ_=>False) (λ_ _ q=>q) (Out.of_below hb)
theorem Pw.lt(h:Pw W L T n0 m)(hb:D8 L T b):b<W.heap.size:=by
 rcases hb with rfl|⟨z,nd,hz,rfl|hg⟩
 . exact h.map.lt
 . exact(h.box z nd hz).lt
 . exact(h.row z nd hz).lt hg
theorem Pw.GL(h:Pw W L T n0 m){nd:Tr.Nd}(hz:T z=some nd):L.bl z≠L.mb:=λe=>by
 obtain⟨es,clock,hm⟩:=h.map.obj;have:=(h.box z nd hz).uniq (e▸hm);cases this
theorem Pw.RB(h:Pw W L T n0 m){nd:Tr.Nd}(hz:T z=some nd):(L.sl z).ownBlock≠some L.mb:=λe=>by
 obtain⟨es,clock,hm⟩:=h.map.obj;obtain⟨cur,hc⟩:=(h.row z nd hz).rowAt e;have:=hc.uniq hm;cases this
theorem Pw.add(h:Pw W L T n0 m){u:Int}(hz:T z=none)(hb:At W b (.cells (cZ u v s) 132))(hv:KS W v l)
  (hb0:n0<=b) (hv0:∀g,v.ownBlock=some g->n0<=g) (hnew:¬ D8 L T b) (XG:∀g,v.ownBlock=some g->¬ D8 L T g) (hO:Out (λx=>x=L.mb) W W') (hm:PM W' L.mb (m+1) (Pf (λz=>(T z).map λ_=>L.bl z) z b)) :
  Pw W' { L with bl:=λy=>if y=z then b else L.bl y,sl:=λy=>if y=z then v else L.sl y } (Tr.set T z ⟨u,l,s⟩) n0 (m+1):=by
 have hne:∀y yd,T y=some yd->y≠z:=λy yd hy e=>by rw[e,hz]at hy;cases hy
 have hbm:b≠L.mb:=λe=>hnew (.inl e);have old:∀y,y≠z->(Tr.set T z ⟨u,l,s⟩ y≠none->T y≠none):=λy e=>by rw[Tr.aK _ _ e];exact id
 refine⟨hm.congr λy _ => ?_,λy yd hy => ?_,λy yd hy => ?_,λx y hx hy => ?_,λx y g hx hy => ?_,λx hx => ?_⟩
 . unfold Pf
   by_cases e:y=z
   . subst e;simp[Tr.aP]
   . simp[e,Tr.aK _ _ e]
 . exact Z2h
 . by_cases e:y=z
   . subst e;rw[Tr.aP]at hy;cases hy
     simp only[if_true];exact hv.out (λg hg (q:g=L.mb)=>XG g hg (.inl q)) hO
   . rw[Tr.aK _ _ e]at hy
     simp only[if_neg e];exact(h.row y yd hy).out (λg hg (q:g=L.mb)=>h.RB hy (by rw[hg,q])) hO
 . by_cases ex:x=z<;>by_cases ey:y=z
   . intro _;rw[ex,ey]
   . simp only[if_pos ex,if_neg ey]
     obtain⟨yd,RD⟩:=Option.ne_none_iff_exists'.1 (old y ey hy);exact λe=>(hnew (.inr ⟨y,yd,RD,.inl e⟩)).elim
   . simp only[if_neg ex,if_pos ey]
     obtain⟨xd,hxd⟩:=Option.ne_none_iff_exists'.1 (old x ex hx);exact λe=>(hnew (.inr ⟨x,xd,hxd,.inl e.symm⟩)).elim
   . simp only[if_neg ex,if_neg ey]
     exact h.inj x y (old x ex hx) (old y ey hy)
 . by_cases ex:x=z<;>by_cases ey:y=z
   . intro _ _;rw[ex,ey]
   . simp only[if_pos ex,if_neg ey]
     obtain⟨yd,RD⟩:=Option.ne_none_iff_exists'.1 (old y ey hy);exact λe1 e2=>(XG g e1 (.inr ⟨y,yd,RD,.inr e2⟩)).elim
   . simp only[if_neg ex,if_pos ey]
     obtain⟨xd,hxd⟩:=Option.ne_none_iff_exists'.1 (old x ex hx);exact λe1 e2=>(XG g e2 (.inr ⟨x,xd,hxd,.inr e1⟩)).elim
   . simp only[if_neg ex,if_neg ey]
     exact h.apart x y g (old x ex hx) (old y ey hy)
 . rcases hx with e|⟨y,yd,hy,e⟩
   . exact h.new x (.inl e)
   . by_cases e2:y=z
     . subst e2
       simp only[if_true]at e;rcases e with rfl|e
       . exact hb0
       . exact hv0 x e
     . rw[Tr.aK _ _ e2]at hy
       simp only[if_neg e2]at e;exact h.new x (.inr ⟨y,yd,hy,e⟩)
end
theorem iH{S:World->Prop}(hw:Region.wanted o (yielded ops a.tmps)=true)(x:Operand)(ho:o.op=.load 68 x){b k:Nat}(hx:a.eval x=.pointer (some ⟨b,k,none⟩))(hs:∀w,S w->uy w b k s):aj.Reads ja0 ops S o (.agg (cells s)) a :=
 .inl ⟨hw,λw h=>by unfold execOp;simp only[ho,hx,Sem.run_bind,LQ (hs w h),Result.andThen_ok,Sem.run_pure]⟩
end
section
open World renaming alloc → ja4,setCell → ja5
theorem yH{a b c d a' b' c' d':Int}(h1:a=a')(h2:b=b')(h3:c=c')(h4:d=d'):Ending.returned (.agg #[.int .i64 a,.int .i64 b,.int .i64 c,.int .i64 d])=.returned (.agg #[a',b',c',d']):=by rw[h1,h2,h3,h4]
theorem Px(k0 n0 k1 n1 k2 n2 k3 n3 base:Int)(w:World):Calls ja0 161 #[.agg #[k0,n0,k1,n1,k2,n2,k3,n3],base] w λe w'=>e=.returned (.agg #[Fx.len k0 n0 base 0,Fx.len k1 n1 base 0,Fx.len k2 n2 base 0,Fx.len k3 n3 base 0])/\Below w w w':=by
 have i0:∀w:World,(Instr.index 60 (.agg #[k0,n0,k1,n1,k2,n2,k3,n3]) (.int .i64 0)).run ja0 w=.ok (.agg #[k0,n0]) w:=λ_=>by kernel_rfl
 have i1:∀w:World,(Instr.index 60 (.agg #[k0,n0,k1,n1,k2,n2,k3,n3]) (.int .i64 1)).run ja0 w=.ok (.agg #[k1,n1]) w:=λ_=>by kernel_rfl
 have i2:∀w:World,(Instr.index 60 (.agg #[k0,n0,k1,n1,k2,n2,k3,n3]) (.int .i64 2)).run ja0 w=.ok (.agg #[k2,n2]) w:=λ_=>by kernel_rfl
 have i3:∀w:World,(Instr.index 60 (.agg #[k0,n0,k1,n1,k2,n2,k3,n3]) (.int .i64 3)).run ja0 w=.ok (.agg #[k3,n3]) w:=λ_=>by kernel_rfl
 go_enter Tryz.func161,Tryz.ntmps161
 go_upto_region 2 with(fail)
 (generalize hW:ja4 (ja4 (ja4 w _) _) _=W0;have A0:At W0 (w.heap.size) (.cells #[k0,n0,k1,n1,k2,n2,k3,n3] 60):=WE;have A1:At W0 (w.heap.size+1) (.cells #[(),(),(),()] 61):=Tc;have A2:At W0 (w.heap.size+1+1) (.cells #[(),(),(),()] 61):=Td;have hB:Below w w W0:=Z3w;clear hW;have c0:=A0.lc;have c1:=A1.lc;have z1:=A1.thaw;have c2:=A2.lc;have z2:=A2.thaw)
 go_wp2;clear c0 A0;refine wp_loop_rounds 5 ?_;rw[rounds_succ]
 go_upto_region 5 with(fail)
 (generalize hW:ja4 _ _=W1;clear c1 z1 c2 z2;have A3:At W1 _ _:=hW▸At.new _ _;replace A1:At W1 _ _:=hW▸At.alloc A1 _;replace A2:At W1 _ _:=hW▸At.alloc A2 _;replace hB:Below w w W1:=hW▸aB hB _;clear hW;have c1:=A1.lc;have z1:=A1.thaw;have c2:=A2.lc;have z2:=A2.thaw;have c3:=A3.lc)
 go_upto_region 6 with(first|(go_at_call 121;(with_reducible refine(iP _ _ _ _ _).mono ?_);rintro e w' ⟨rfl,hb⟩;(clear c1 z1 c2 z2 c3);(replace hB:=Below.ay qN aC hb);replace A1:=At.keep sH hb;replace A2:=At.keep uh hb;replace A3:=At.keep zG hb;clear hb;have c1:=A1.lc;have z1:=A1.thaw;have c2:=A2.lc;have z2:=A2.thaw;have c3:=A3.lc))
 generalize hW:ja5 _ _ _=W2;clear c1 z1 c2 z2 c3 A3;replace A2:At W2 (w.heap.size+1+1) (.cells #[Fx.len k0 n0 base 0,(),(),()] 61):=hW▸At.set A2 0 _;replace A1:At W2 (w.heap.size+1) _:=hW▸At.off A1 ak 0 _;replace hB:Below w w W2:=hW▸Below.setCell hB iJ _;clear hW;have c1:=A1.lc;have c2:=A2.lc;have z1:=A1.thaw;have z2:=A2.thaw;go_wp2;rw[rounds_succ]
 go_upto_region 5 with(fail)
 (generalize hW:ja4 _ _=W1;clear c1 z1 c2 z2;have A3:At W1 _ _:=hW▸At.new _ _;replace A1:At W1 _ _:=hW▸At.alloc A1 _;replace A2:At W1 _ _:=hW▸At.alloc A2 _;replace hB:Below w w W1:=hW▸aB hB _;clear hW;have c1:=A1.lc;have z1:=A1.thaw;have c2:=A2.lc;have z2:=A2.thaw;have c3:=A3.lc)
 go_upto_region 6 with(first|(go_at_call 121;(with_reducible refine(iP _ _ _ _ _).mono ?_);rintro e w' ⟨rfl,hb⟩;(clear c1 z1 c2 z2 c3);(replace hB:=Below.ay qN aC hb);replace A1:=At.keep sH hb;replace A2:=At.keep uh hb;replace A3:=At.keep zG hb;clear hb;have c1:=A1.lc;have z1:=A1.thaw;have c2:=A2.lc;have z2:=A2.thaw;have c3:=A3.lc))
 generalize hW:ja5 _ _ _=W2;clear c1 z1 c2 z2 c3 A3;replace A2:At W2 (w.heap.size+1+1) (.cells #[Fx.len k0 n0 base 0,Fx.len k1 n1 base 0,(),()] 61):=hW▸At.set A2 1 _;replace A1:At W2 (w.heap.size+1) _:=hW▸At.off A1 ak 1 _;replace hB:Below w w W2:=hW▸Below.setCell hB iJ _;clear hW;have c1:=A1.lc;have c2:=A2.lc;have z1:=A1.thaw;have z2:=A2.thaw;go_wp2;rw[rounds_succ]
 go_upto_region 5 with(fail)
 (generalize hW:ja4 _ _=W1;clear c1 z1 c2 z2;have A3:At W1 _ _:=hW▸At.new _ _;replace A1:At W1 _ _:=hW▸At.alloc A1 _;replace A2:At W1 _ _:=hW▸At.alloc A2 _;replace hB:Below w w W1:=hW▸aB hB _;clear hW;have c1:=A1.lc;have z1:=A1.thaw;have c2:=A2.lc;have z2:=A2.thaw;have c3:=A3.lc)
 go_upto_region 6 with(first|(go_at_call 121;(with_reducible refine(iP _ _ _ _ _).mono ?_);rintro e w' ⟨rfl,hb⟩;(clear c1 z1 c2 z2 c3);(replace hB:=Below.ay qN aC hb);replace A1:=At.keep sH hb;replace A2:=At.keep uh hb;replace A3:=At.keep zG hb;clear hb;have c1:=A1.lc;have z1:=A1.thaw;have c2:=A2.lc;have z2:=A2.thaw;have c3:=A3.lc))
 generalize hW:ja5 _ _ _=W2;clear c1 z1 c2 z2 c3 A3;replace A2:At W2 (w.heap.size+1+1) (.cells #[Fx.len k0 n0 base 0,Fx.len k1 n1 base 0,Fx.len k2 n2 base 0,()] 61):=hW▸At.set A2 2 _;replace A1:At W2 (w.heap.size+1) _:=hW▸At.off A1 ak 2 _;replace hB:Below w w W2:=hW▸Below.setCell hB iJ _;clear hW;have c1:=A1.lc;have c2:=A2.lc;have z1:=A1.thaw;have z2:=A2.thaw;go_wp2;rw[rounds_succ]
 go_upto_region 5 with(fail)
 (generalize hW:ja4 _ _=W1;clear c1 z1 c2 z2;have A3:At W1 _ _:=hW▸At.new _ _;replace A1:At W1 _ _:=hW▸At.alloc A1 _;replace A2:At W1 _ _:=hW▸At.alloc A2 _;replace hB:Below w w W1:=hW▸aB hB _;clear hW;have c1:=A1.lc;have z1:=A1.thaw;have c2:=A2.lc;have z2:=A2.thaw;have c3:=A3.lc)
 go_upto_region 6 with(first|(go_at_call 121;(with_reducible refine(iP _ _ _ _ _).mono ?_);rintro e w' ⟨rfl,hb⟩;(clear c1 z1 c2 z2 c3);(replace hB:=Below.ay qN aC hb);replace A1:=At.keep sH hb;replace A2:=At.keep uh hb;replace A3:=At.keep zG hb;clear hb;have c1:=A1.lc;have z1:=A1.thaw;have c2:=A2.lc;have z2:=A2.thaw;have c3:=A3.lc))
 generalize hW:ja5 _ _ _=W2;clear c1 z1 c2 z2 c3 A3;replace A2:At W2 (w.heap.size+1+1) (.cells #[Fx.len k0 n0 base 0,Fx.len k1 n1 base 0,Fx.len k2 n2 base 0,Fx.len k3 n3 base 0] 61):=hW▸At.set A2 3 _;replace A1:At W2 (w.heap.size+1) _:=hW▸At.off A1 ak 3 _;replace hB:Below w w W2:=hW▸Below.setCell hB iJ _;clear hW;have c1:=A1.lc;have c2:=A2.lc;have z1:=A1.thaw;have z2:=A2.thaw;go_wp2;rw[rounds_succ];go_wp2;refine bodyPost_ret (v:=.agg #[_,_,_,_]) (by simp[results,Tryz.results161,go_sem, *];first|done|exact⟨rfl,rfl⟩|exact⟨rfl,rfl,rfl,rfl⟩|rfl) rfl ⟨yH rfl rfl rfl rfl,?_⟩;exact Z0
end
section
open Go.Joins
open List renaming getElem?_eq_getElem → ja6
variable {cs:List Value}{o n:Nat}
def xL(i:Nat)(v:Value):Prop:=if Re.rW i=true then ∃b,v=.bool b else ∃n:Int,v=.int .i64 n/\(Lit.int .i64 n).wf=true
def Fits(s:Re.St):Prop:=∀i,i<55->Re.rW i=false->(Lit.int .i64 (s.c i)).wf=true
theorem XH{i:Nat}{n:Int}(hb:Re.rW i=false)(h:(Lit.int .i64 n).wf=true):xL i (.int .i64 n):=by
 unfold xL;rw[if_neg (by simp[hb])];exact⟨n,rfl,h⟩
theorem Ut{i:Nat}{b:Bool}(hb:Re.rW i=true):xL i (.bool b):=by
 unfold xL;rw[if_pos hb];exact⟨b,rfl⟩
theorem xM:Tryz.prog.cellsOf 3=1:=by kernel_rfl
theorem CF:Tryz.prog.cellsOf 4=1:=by kernel_rfl
theorem Jz:Tryz.prog.cellsOf 63=1:=by kernel_rfl
theorem D9:Tryz.prog.cellsOf 54=1:=by kernel_rfl
theorem Ea:Tryz.prog.cellsOf 62=1:=by kernel_rfl
theorem Eb:Tryz.prog.cellsOf 57=1:=by kernel_rfl
theorem BQ:Tryz.prog.cellsOf 56=1:=by kernel_rfl
theorem BR:Tryz.prog.cellsOf 55=1:=by kernel_rfl
theorem zV:Tryz.prog.cellsOf 65=1:=by kernel_rfl
theorem BS:Tryz.prog.cellsOf 64=1:=by kernel_rfl
theorem jq:Tryz.prog.cellsOf 59=2:=by kernel_rfl
theorem AV:Tryz.prog.cellsOf 60=8:=by kernel_rfl
theorem RI:Tryz.prog.cellsOf 61=4:=by kernel_rfl
theorem abA:Tryz.prog.cellsOf 66=2:=by kernel_rfl
theorem yI:Tryz.prog.cellsOf 68=55:=by kernel_rfl
theorem Mg{v:Value}(h:(cs.drop o).take 1=[v]):cs[o]? = some v:=by
 have:=congrArg (λl:List Value=>l[0]?) h;simpa[List.getElem?_take,List.getElem?_drop]using this
theorem yJ{o n j m:Nat}(h:j+m<=n):(((cs.drop o).take n).drop j).take m=(cs.drop (o+j)).take m:=by
 rw[List.drop_take,List.take_take,Nat.min_eq_left ak,List.drop_drop]
section
variable {H:Type} {enc:TypeId×Value->H} {w:World} {base:Nat} {spare:Nat->Bool} {held:Bool}
theorem dI{t:TypeId}{y:DataW H×List MemPlace}(ht:Tryz.prog.underlying t=some (.int .i64))(hb:Re.rW o=false)(h:DataW.trod enc ja0 w base spare held n t ((cs.drop o).take 1)=some y):∃v,cs[o]? = some v/\xL o v:=by
 obtain⟨a,e,_,wf⟩:=DataW.trod_int ht h;exact⟨_,Mg e,XH hb wf⟩
theorem og{y:DataW H×List MemPlace}(hb:Re.rW o=true)(h:DataW.trod enc ja0 w base spare held n 4 ((cs.drop o).take 1)=some y):∃v,cs[o]? = some v/\xL o v:=by
 obtain⟨a,e,_⟩:=DataW.trod_bool Tryz.underlying4 h;exact⟨_,Mg e,Ut hb⟩
theorem gV{y:DataW H×List MemPlace}(h0:Re.rW o=false)(h1:Re.rW (o+1)=false)(h:DataW.trod enc ja0 w base spare held n 59 ((cs.drop o).take 2)=some y):(∃v,cs[o]? = some v/\xL o v)/\∃v,cs[o+1]? = some v/\xL (o+1) v:=by
 obtain⟨xs,k,rfl,_,_,hxl,hf⟩:=DataW.trod_struct Tryz.underlying59 h
 match xs,hxl with
 | [y0,y1],_ =>
   have g0:DataW.trod enc ja0 w base spare held k 57 ((((cs.drop o).take 2).drop 0).take (Tryz.prog.cellsOf 57))=some y0:=hf 0 _ rfl;have g1:DataW.trod enc ja0 w base spare held k 3 ((((cs.drop o).take 2).drop 1).take (Tryz.prog.cellsOf 3))=some y1:=hf 1 _ rfl;rw[Eb,yJ ak]at g0;rw[xM,yJ ak]at g1;exact⟨dI Tryz.underlying57 h0 g0,dI Tryz.underlying3 h1 g1⟩
theorem wZ{y:DataW H×List MemPlace}(hb:∀j,j<8->Re.rW (o+j)=false)(h:DataW.trod enc ja0 w base spare held n 60 ((cs.drop o).take 8)=some y):∀j,j<8->∃v,cs[o+j]? = some v/\xL (o+j) v:=by
 obtain⟨xs,k,rfl,_,_,hxl,hf⟩:=DataW.trod_array Tryz.underlying60 h;have key:∀i,i<4->(∃v,cs[o+i*2]? = some v/\xL (o+i*2) v)/\∃v,cs[o+i*2+1]? = some v/\xL (o+i*2+1) v:=by
  intro i hi;have g:=hf i hi;rw[jq,yJ ak,ja6 ak]at g;exact gV (hb (i*2) ak) (hb (i*2+1) ak) g
 intro j hj;have:j=j/2*2\/j=j/2*2+1:=by omega
 rcases this with e|e
 . rw[e];exact(key (j/2) ak).1
 . rw[e];exact(key (j/2) ak).2
theorem qA{n m sz:Nat}{t:TypeId}{y:DataW H×List MemPlace}(ht:Tryz.prog.underlying t=some (.array m 3))(hb:∀j,j<m->Re.rW (o+j)=false)(h:DataW.trod enc ja0 w base spare held n t ((cs.drop o).take m)=some y):∀j,j<m->∃v,cs[o+j]? = some v/\xL (o+j) v:=by
 obtain⟨xs,k,rfl,_,_,hxl,hf⟩:=DataW.trod_array ht h;intro i hi;have g:=hf i hi;rw[xM,yJ ak,ja6 ak,Nat.mul_one]at g;exact dI Tryz.underlying3 (hb i hi) g
set_option maxRecDepth 10000 in
theorem Py{y:DataW H×List MemPlace}(h:DataW.trod enc ja0 w base spare held n 68 cs=some y):cs.length=55/\∀i,i<55->∃v,cs[i]? = some v/\xL i v:=by
 obtain⟨xs,k,rfl,_,hl,hxl,hf⟩:=DataW.trod_struct Tryz.underlying68 h;rw[yI]at hl;refine⟨hl,?_⟩;have ex:∀i,i<27->∃y,xs[i]? = some y:=λi hi=>⟨_,ja6 (by rw[hxl];exact hi)⟩;obtain⟨y0,q0⟩:=ex 0 aG;have g0:DataW.trod enc ja0 w base spare held k 54 ((cs.drop 0).take (Tryz.prog.cellsOf 54))=some y0:=(hf 0 _ rfl).trans q0;rw[D9]at g0;have r0:=dI (o:=0) Tryz.underlying54 rfl g0;obtain⟨y1,q1⟩:=ex 1 aG;have g1:DataW.trod enc ja0 w base spare held k 55 ((cs.drop 1).take (Tryz.prog.cellsOf 55))=some y1:=(hf 1 _ rfl).trans q1;rw[BR]at g1;have r1:=dI (o:=1) Tryz.underlying55 rfl g1;obtain⟨y2,q2⟩:=ex 2 aG;have g2:DataW.trod enc ja0 w base spare held k 56 ((cs.drop 2).take (Tryz.prog.cellsOf 56))=some y2:=(hf 2 _ rfl).trans q2;rw[BQ]at g2;have r2:=dI (o:=2) Tryz.underlying56 rfl g2;obtain⟨y3,q3⟩:=ex 3 aG;have g3:DataW.trod enc ja0 w base spare held k 59 ((cs.drop 3).take (Tryz.prog.cellsOf 59))=some y3:=(hf 3 _ rfl).trans q3;rw[jq]at g3;have r3:=gV (o:=3) rfl rfl g3;obtain⟨y4,q4⟩:=ex 4 aG;have g4:DataW.trod enc ja0 w base spare held k 59 ((cs.drop 5).take (Tryz.prog.cellsOf 59))=some y4:=(hf 4 _ rfl).trans q4;rw[jq]at g4;have r4:=gV (o:=5) rfl rfl g4;obtain⟨y5,q5⟩:=ex 5 aG;have g5:DataW.trod enc ja0 w base spare held k 59 ((cs.drop 7).take (Tryz.prog.cellsOf 59))=some y5:=(hf 5 _ rfl).trans q5;rw[jq]at g5;have r5:=gV (o:=7) rfl rfl g5;obtain⟨y6,q6⟩:=ex 6 aG;have g6:DataW.trod enc ja0 w base spare held k 59 ((cs.drop 9).take (Tryz.prog.cellsOf 59))=some y6:=(hf 6 _ rfl).trans q6;rw[jq]at g6;have r6:=gV (o:=9) rfl rfl g6;obtain⟨y7,q7⟩:=ex 7 aG;have g7:DataW.trod enc ja0 w base spare held k 59 ((cs.drop 11).take (Tryz.prog.cellsOf 59))=some y7:=(hf 7 _ rfl).trans q7;rw[jq]at g7;have r7:=gV (o:=11) rfl rfl g7;obtain⟨y8,q8⟩:=ex 8 aG;have g8:DataW.trod enc ja0 w base spare held k 59 ((cs.drop 13).take (Tryz.prog.cellsOf 59))=some y8:=(hf 8 _ rfl).trans q8;rw[jq]at g8;have r8:=gV (o:=13) rfl rfl g8;obtain⟨y9,q9⟩:=ex 9 aG;have g9:DataW.trod enc ja0 w base spare held k 60 ((cs.drop 15).take (Tryz.prog.cellsOf 60))=some y9:=(hf 9 _ rfl).trans q9;rw[AV]at g9;have r9:=wZ (o:=15) aG g9;obtain⟨y10,q10⟩:=ex 10 aG;have g10:DataW.trod enc ja0 w base spare held k 60 ((cs.drop 23).take (Tryz.prog.cellsOf 60))=some y10:=(hf 10 _ rfl).trans q10;rw[AV]at g10;have r10:=wZ (o:=23) aG g10;obtain⟨y11,q11⟩:=ex 11 aG;have g11:DataW.trod enc ja0 w base spare held k 61 ((cs.drop 31).take (Tryz.prog.cellsOf 61))=some y11:=(hf 11 _ rfl).trans q11;rw[RI]at g11;have r11:=qA (o:=31) (m:=4) (sz:=1) Tryz.underlying61 aG g11;obtain⟨y12,q12⟩:=ex 12 aG;have g12:DataW.trod enc ja0 w base spare held k 61 ((cs.drop 35).take (Tryz.prog.cellsOf 61))=some y12:=(hf 12 _ rfl).trans q12;rw[RI]at g12;have r12:=qA (o:=35) (m:=4) (sz:=1) Tryz.underlying61 aG g12;obtain⟨y13,q13⟩:=ex 13 aG;have g13:DataW.trod enc ja0 w base spare held k 3 ((cs.drop 39).take (Tryz.prog.cellsOf 3))=some y13:=(hf 13 _ rfl).trans q13;rw[xM]at g13;have r13:=dI (o:=39) Tryz.underlying3 rfl g13;obtain⟨y14,q14⟩:=ex 14 aG;have g14:DataW.trod enc ja0 w base spare held k 3 ((cs.drop 40).take (Tryz.prog.cellsOf 3))=some y14:=(hf 14 _ rfl).trans q14;rw[xM]at g14;have r14:=dI (o:=40) Tryz.underlying3 rfl g14;obtain⟨y15,q15⟩:=ex 15 aG;have g15:DataW.trod enc ja0 w base spare held k 59 ((cs.drop 41).take (Tryz.prog.cellsOf 59))=some y15:=(hf 15 _ rfl).trans q15;rw[jq]at g15;have r15:=gV (o:=41) rfl rfl g15;obtain⟨y16,q16⟩:=ex 16 aG;have g16:DataW.trod enc ja0 w base spare held k 62 ((cs.drop 43).take (Tryz.prog.cellsOf 62))=some y16:=(hf 16 _ rfl).trans q16;rw[Ea]at g16;have r16:=dI (o:=43) Tryz.underlying62 rfl g16;obtain⟨y17,q17⟩:=ex 17 aG;have g17:DataW.trod enc ja0 w base spare held k 63 ((cs.drop 44).take (Tryz.prog.cellsOf 63))=some y17:=(hf 17 _ rfl).trans q17;rw[Jz]at g17;have r17:=dI (o:=44) Tryz.underlying63 rfl g17;obtain⟨y18,q18⟩:=ex 18 aG;have g18:DataW.trod enc ja0 w base spare held k 4 ((cs.drop 45).take (Tryz.prog.cellsOf 4))=some y18:=(hf 18 _ rfl).trans q18;rw[CF]at g18;have r18:=og (o:=45) rfl g18;obtain⟨y19,q19⟩:=ex 19 aG;have g19:DataW.trod enc ja0 w base spare held k 3 ((cs.drop 46).take (Tryz.prog.cellsOf 3))=some y19:=(hf 19 _ rfl).trans q19;rw[xM]at g19;have r19:=dI (o:=46) Tryz.underlying3 rfl g19;obtain⟨y20,q20⟩:=ex 20 aG;have g20:DataW.trod enc ja0 w base spare held k 4 ((cs.drop 47).take (Tryz.prog.cellsOf 4))=some y20:=(hf 20 _ rfl).trans q20;rw[CF]at g20;have r20:=og (o:=47) rfl g20;obtain⟨y21,q21⟩:=ex 21 aG;have g21:DataW.trod enc ja0 w base spare held k 3 ((cs.drop 48).take (Tryz.prog.cellsOf 3))=some y21:=(hf 21 _ rfl).trans q21;rw[xM]at g21;have r21:=dI (o:=48) Tryz.underlying3 rfl g21;obtain⟨y22,q22⟩:=ex 22 aG;have g22:DataW.trod enc ja0 w base spare held k 64 ((cs.drop 49).take (Tryz.prog.cellsOf 64))=some y22:=(hf 22 _ rfl).trans q22;rw[BS]at g22;have r22:=dI (o:=49) Tryz.underlying64 rfl g22;obtain⟨y23,q23⟩:=ex 23 aG;have g23:DataW.trod enc ja0 w base spare held k 65 ((cs.drop 50).take (Tryz.prog.cellsOf 65))=some y23:=(hf 23 _ rfl).trans q23;rw[zV]at g23;have r23:=dI (o:=50) Tryz.underlying65 rfl g23;obtain⟨y24,q24⟩:=ex 24 aG;have g24:DataW.trod enc ja0 w base spare held k 4 ((cs.drop 51).take (Tryz.prog.cellsOf 4))=some y24:=(hf 24 _ rfl).trans q24;rw[CF]at g24;have r24:=og (o:=51) rfl g24;obtain⟨y25,q25⟩:=ex 25 aG;have g25:DataW.trod enc ja0 w base spare held k 4 ((cs.drop 52).take (Tryz.prog.cellsOf 4))=some y25:=(hf 25 _ rfl).trans q25;rw[CF]at g25;have r25:=og (o:=52) rfl g25;obtain⟨y26,q26⟩:=ex 26 aG;have g26:DataW.trod enc ja0 w base spare held k 66 ((cs.drop 53).take (Tryz.prog.cellsOf 66))=some y26:=(hf 26 _ rfl).trans q26;rw[abA]at g26;have r26:=qA (o:=53) (m:=2) (sz:=1) Tryz.underlying66 aG g26;intro i hi
 match i,hi with
 | 0,_=>exact r0
 | 1,_=>exact r1
 | 2,_=>exact r2
 | 3,_=>exact r3.1
 | 4,_=>exact r3.2
 | 5,_=>exact r4.1
 | 6,_=>exact r4.2
 | 7,_=>exact r5.1
 | 8,_=>exact r5.2
 | 9,_=>exact r6.1
 | 10,_=>exact r6.2
 | 11,_=>exact r7.1
 | 12,_=>exact r7.2
 | 13,_=>exact r8.1
 | 14,_=>exact r8.2
 | 15,_=>exact r9 0 aG
 | 16,_=>exact r9 1 aG
 | 17,_=>exact r9 2 aG
 | 18,_=>exact r9 3 aG
 | 19,_=>exact r9 4 aG
 | 20,_=>exact r9 5 aG
 | 21,_=>exact r9 6 aG
 | 22,_=>exact r9 7 aG
 | 23,_=>exact r10 0 aG
 | 24,_=>exact r10 1 aG
 | 25,_=>exact r10 2 aG
 | 26,_=>exact r10 3 aG
 | 27,_=>exact r10 4 aG
 | 28,_=>exact r10 5 aG
 | 29,_=>exact r10 6 aG
 | 30,_=>exact r10 7 aG
 | 31,_=>exact r11 0 aG
 | 32,_=>exact r11 1 aG
 | 33,_=>exact r11 2 aG
 | 34,_=>exact r11 3 aG
 | 35,_=>exact r12 0 aG
 | 36,_=>exact r12 1 aG
 | 37,_=>exact r12 2 aG
 | 38,_=>exact r12 3 aG
 | 39,_=>exact r13
 | 40,_=>exact r14
 | 41,_=>exact r15.1
 | 42,_=>exact r15.2
 | 43,_=>exact r16
 | 44,_=>exact r17
 | 45,_=>exact r18
 | 46,_=>exact r19
 | 47,_=>exact r20
 | 48,_=>exact r21
 | 49,_=>exact r22
 | 50,_=>exact r23
 | 51,_=>exact r24
 | 52,_=>exact r25
 | 53,_=>exact r26 0 aG
 | 54,_=>exact r26 1 aG
 | n+55,h=>exact absurd h ak
theorem Pz{cs:Array Value}{d:DataW H}{p:List MemPlace}(h:DataW.Trod enc ja0 w base spare held 68 (.agg cs) d p):∃s:Re.St,Value.agg cs=.agg (cells s)/\Fits s:=by
 obtain⟨fuel,hf⟩:=h;obtain⟨hl,hc⟩:=Py hf;simp only[Value.cells]at hl hc;refine⟨⟨λi=>match cs[i]? with|some (.int _ n)=>n | _=>0,λi=>match cs[i]? with|some (.bool b)=>b | _=>false⟩,?_,?_⟩
 . congr 1
   apply Array.ext_getElem?;intro i;by_cases hi:i<55
   . obtain⟨v,hv,ok⟩:=hc i hi
     rw[Array.getElem?_toList]at hv;rw[gM _ hi,hv];unfold xL at ok;unfold cell;by_cases hb:Re.rW i=true
     . rw[if_pos hb]at ok ⊢
       obtain⟨b,rfl⟩:=ok;simp[hv]
     . rw[if_neg hb]at ok ⊢
       obtain⟨b,rfl,_⟩:=ok;simp[hv]
   . rw[Array.getElem?_eq_none (by rw[<-Array.length_toList,hl];omega),Array.getElem?_eq_none Z4j]
 . intro i hi hb
   obtain⟨v,hv,ok⟩:=hc i hi;rw[Array.getElem?_toList]at hv;unfold xL at ok;rw[if_neg (by simp[hb])]at ok;obtain⟨n,rfl,hw⟩:=ok;simp only[hv];exact hw
end
end
open World renaming alloc → ja4,setCell → ja5
open List renaming getElem?_eq_getElem → ja6
variable {W:World}{xs:List Value}{e:TypeId}
theorem zD(n lo hi:Int)(w:World):Calls ja0 138 #[n,lo,hi] w λe w'=>e=.returned (.bool (Re.inn n lo hi))/\w=w':=by
 by_cases h1:lo<=n
 . have e1:decide (lo<=n)=true:=decide_eq_true h1
   by_cases h2:n<=hi
   . have e2:decide (n<=hi)=true:=decide_eq_true h2
     have HIN:=ah (show Re.inn n lo hi=true by unfold Re.inn;rw[e1,e2];rfl);exact Z2x
   . have e2:decide (n<=hi)=false:=decide_eq_false h2
     have HIN:=ah (show Re.inn n lo hi=false by unfold Re.inn;rw[e1,e2];rfl);exact Z2x
 . have e1:decide (lo<=n)=false:=decide_eq_false h1
   have HIN:=ah (show Re.inn n lo hi=false by unfold Re.inn;rw[e1];rfl);exact Z2x
theorem dG{P:Program}{w w':World}{o:Oper}{a:Act}(s x:Operand)(t:TypeId)(ho:o.op=.call { callee:=.builtin .append,args:=#[s,x],argTypes:=#[t,t] }){v u v':Value}(hs:a.eval s=v)(hx:a.eval x=u)
  (hrun:(Builtin.append_ #[t,t] o.type #[v,u]).run P w=.ok v' w'):(execOp a.eval o).run P w=.ok (.value v') w':=by
 exact Z1a
def qB(v u:Value):Prop:=v.ownBlock=none\/u.ownBlock=none\/v.ownBlock≠u.ownBlock
theorem qB.symm{v u:Value}(h:qB v u):qB u v:=by
 rcases h with h|h|h
 . exact .inr (.inl h)
 . exact .inl h
 . exact .inr (.inr (Ne.symm h))
theorem dY{base:Nat}{sz k:Nat}{v:Value}(h:W.ownsRow base e sz v k xs):∃A c,v=.slice A k c:=by
 rcases h.2 with⟨rfl,h0⟩|⟨g,cap,cur,rfl,_⟩
 . exact⟨none,0,by rw[h0]⟩
 . exact⟨_,_,rfl⟩
theorem iN{t e T T2:TypeId}{i0:TypeInfo}{z:Value}{sz pE:Nat}(ht:Tryz.prog.underlying t=some (.slice e))(hi:Tryz.prog.info? e=some i0)(hz0:i0.zero=some z)(hz1:i0.size=sz)(hz2:i0.bytes=pE)(hzc:z.cells.size=sz)(hsz:0<sz)(hby:pE<=100)
   {base k m m2 sz2:Nat} {v u:Value} {xs ys news:List Value} (hu:W.ownsRow base e sz u k xs) (hv:W.ownsRow base T2 sz2 v m2 ys) (ha:qB v u) (hbase:base<=W.heap.size) (hnl:news.length=m*sz) (h1:∀x∈news,x.oneCell'=true) (hk:k+m<=1000) :
  ∃A' c' w',(Builtin.append_ #[t,t] t #[u,.slice W m m]).run ja0 (W.alloc (.cells news.toArray T))=.ok (.slice A' (k+m) c') w' /\
   w'.ownsRow base e sz (.slice A' (k+m) c') (k+m) (xs++news)/\w'.ownsRow base T2 sz2 v m2 ys/\qB v (.slice A' (k+m) c')/\Below base W w'/\base<=w'.heap.size:=by
 have hA:=At.new W (.cells news.toArray T)
 obtain⟨v',w',hr,ho,hg,_,hblk⟩:=run_append_own_at (P:=ja0) (w:=W.alloc (.cells news.toArray T)) base t t e i0 z sz pE ht hi hz0 hz1 hz2 hzc hsz u k _ (hu.alloc _) ⟨W,0,none⟩ m m news hnl
  (by intro j x hj
      have e:(⟨W,0,none⟩:Addr).add j=⟨W,0+j,none⟩:=Addr.add_mid _ _ _;rw[e,Nat.zero_add,hA.cell,<-hj]
      simp)
  h1 Oi (aJ (Nat.mul_le_mul hk hby) aG) iJ
 obtain⟨A',c',rfl⟩:=dY ho;have hvb:v.ownBlock=none\/v.ownBlock≠u.ownBlock:=by
  exact Z34
 refine⟨A',c',w',hr,ho,(hv.alloc _).kept hg hvb,?_,(Below.alloc (Below.refl base W) hbase _).grown hg iJ (λj ej=>(hu.lt j ej).1),?_⟩
 . exact Z2i
 . have:=hg.size
   simp at this;omega
theorem yK{base sz n:Nat}(hb:base<=W.heap.size)(hl:xs.length=n*sz)(hn:n<=1000):(W.alloc (.cells xs.toArray e)).ownsRow base e sz (.slice W n n) n xs:=by
 refine⟨hl,.inr ⟨W.heap.size,n,xs.toArray,rfl,hb,At.new W _,aH _,by unfold maxLen;omega,by simpa using hl,?_⟩⟩;simp[<-hl]
theorem Uu{base sz n g:Nat}(hg:g=W.heap.size)(hb:base<=W.heap.size)(hl:xs.length=n*sz)(hn:n<=1000):(W.alloc (.cells xs.toArray e)).ownsRow base e sz (.slice g n n) n xs:=by
 subst hg;exact yK hb hl hn
theorem zW{base sz n c:Nat}{A:Option Addr}(h:W.ownsRow base e sz (.slice A n c) n xs)(h0:0<n):∃g,A=some ⟨g,0,none⟩/\base<=g/\g<W.heap.size/\∀(j:Nat) (v:Value),xs[j]? = some v->W.cell? ⟨g,j,none⟩=some v:=by
 rcases h.2 with⟨e1,h1⟩|⟨g,cap,cur,e1,hb,hg,_,_,_,hx⟩
 . omega
 . injection e1 with e1
   refine⟨g,e1,hb,(Array.getElem?_eq_some_iff.1 hg).1,λj v hj => ?_⟩;rw[cell_of_row W g j cur e (0,0) hg];rw[<-hx,List.getElem?_take]at hj;split at hj
   . simpa using hj
   . cases hj
theorem At.st{b:Nat}{t:Re.St}{T:TypeId}(h:At W b (.cells (cells t) T))(i:Nat)(hi:i<55)(hb:Re.rW i=false):W.cell? ⟨b,i,none⟩=some (.int .i64 (t.c i)):=(h.cell i).trans (bJ t hi hb)
theorem At.bt{b:Nat}{t:Re.St}{T:TypeId}(h:At W b (.cells (cells t) T))(i:Nat)(hi:i<55)(hb:Re.rW i=true):W.cell? ⟨b,i,none⟩=some (.bool (t.b i)):=(h.cell i).trans (sO t hi hb)
def lp(k:Nat):List Nat:=[3,5,7,9,11,13,41]++(List.range k).flatMap λj=>[15+2*j,23+2*j]
def sp(k:Nat):List Nat:=[46,53,54]++(List.range k).flatMap λj=>[31+j,35+j]
def iB(t:Re.St)(l:List Nat):List Value:=l.flatMap λp=>[.int .i64 (t.c p),.int .i64 (t.c (p+1))]
def nC(t:Re.St)(l:List Nat):List Value:=l.map λp => .int .i64 (t.c p)
theorem vF(t:Re.St):∀{l:List Nat} {k p:Nat},l[k]? = some p->(iB t l)[k*2]? = some (.int .i64 (t.c p))/\(iB t l)[k*2+1]? = some (.int .i64 (t.c (p+1)))
 | [],_,_,h=>by simp at h
 | a::l,0,p,h=>by
   simp at h;subst h;exact⟨rfl,rfl⟩
 | a::l,k+1,p,h=>by
   have ih:=vF t (l:=l) (k:=k) (p:=p) (by simpa using h);have e:iB t (a::l)=.int .i64 (t.c a) :: .int .i64 (t.c (a+1))::iB t l:=rfl;rw[e,show(k+1)*2=k*2+1+1 by omega];simpa using ih
theorem RJ:(Tryz.prog.info? 59).map (λi=>(i.zero,i.size,i.bytes))=some (some (.agg #[(),()]),2,16):=by kernel_rfl
theorem bB{W W':World}{b base:Nat}{o:Obj}(h:At W b o)(hl:b<base)(hb:Below base W W'):At W' b o:=(hb.block b hl).trans h
theorem F6(t:Re.St)(w:World):Calls ja0 109 #[.agg (cells t)] w λe w'=>e=.returned (.bool (Re.valid t))/\Below w w w':=by
 go_enter Tryz.func109,Tryz.ntmps109
 go_upto_region 1 with(fail)
 have hA:At (w.alloc (.cells (cells t) 68)) w.heap.size (.cells (cells t) 68):=At.new _ _;have hB:Below w w (w.alloc (.cells (cells t) 68)):=aB aD _;generalize w.alloc (.cells (cells t) 68)=W1 at *;generalize XI:w.heap.size=bx at *;have lb:=hA.lt;have aaS:=ah XI;clear XI;have d0:=hA.st 0 aG rfl;have d1:=hA.st 1 aG rfl;have d2:=hA.st 2 aG rfl;have d43:=hA.st 43 aG rfl;have d44:=hA.st 44 aG rfl;have d49:=hA.st 49 aG rfl;have d50:=hA.st 50 aG rfl;go_cut [3]from 9 (λv w2=>v=.bool (Re.fV t)/\w2=W1)
 case first =>
  cases e0:Re.inn (t.c 0) 0 3
  . have HK:=ah (show Re.fV t=false by unfold Re.fV;simp only[e0,Bool.false_and])
    exact Zj
  . skip
    cases e1:Re.inn (t.c 1) 0 4
    . have HK:=ah (show Re.fV t=false by unfold Re.fV;simp only[e0,e1,Bool.false_and,Bool.and_false])
      exact Zj
    . skip
      cases e2:Re.inn (t.c 2) 0 2
      . have HK:=ah (show Re.fV t=false by unfold Re.fV;simp only[e0,e1,e2,Bool.false_and,Bool.and_false])
        exact Zj
      . skip
        cases e3:Re.inn (t.c 43) 0 5
        . have HK:=ah (show Re.fV t=false by unfold Re.fV;simp only[e0,e1,e2,e3,Bool.false_and,Bool.and_false])
          exact Zj
        . skip
          cases e4:Re.inn (t.c 44) 0 3
          . have HK:=ah (show Re.fV t=false by unfold Re.fV;simp only[e0,e1,e2,e3,e4,Bool.false_and,Bool.and_false])
            exact Zj
          . skip
            cases e5:Re.inn (t.c 49) 0 2
            . have HK:=ah (show Re.fV t=false by unfold Re.fV;simp only[e0,e1,e2,e3,e4,e5,Bool.false_and,Bool.and_false])
              exact Zj
            . skip
              cases e6:Re.inn (t.c 50) 0 3
              . have HK:=ah (show Re.fV t=false by unfold Re.fV;simp only[e0,e1,e2,e3,e4,e5,e6,Bool.and_false])
                exact Zj
              . have HK:=ah (show Re.fV t=true by unfold Re.fV;simp only[e0,e1,e2,e3,e4,e5,e6,Bool.and_true])
                exact Zj
 case rest =>
  obtain⟨rfl,rfl⟩:=hcut;clear d0 d1 d2 d43 d44 d49 d50;generalize hkq:Re.fV t=q at *;have HQ:=ah hkq;clear hkq;have d3:=hA.st 3 aG rfl;have d4:=hA.st 4 aG rfl;have d5:=hA.st 5 aG rfl;have d6:=hA.st 6 aG rfl;have d7:=hA.st 7 aG rfl;have d8:=hA.st 8 aG rfl;have d9:=hA.st 9 aG rfl;have d10:=hA.st 10 aG rfl;have d11:=hA.st 11 aG rfl;have d12:=hA.st 12 aG rfl;have d13:=hA.st 13 aG rfl;have d14:=hA.st 14 aG rfl;have d41:=hA.st 41 aG rfl;have d42:=hA.st 42 aG rfl;have d46:=hA.st 46 aG rfl;have d53:=hA.st 53 aG rfl;have d54:=hA.st 54 aG rfl;have n1:(wc.alloc (.cells #[t.c 3,t.c 4,t.c 5,t.c 6,t.c 7,t.c 8,t.c 9,t.c 10,t.c 11,t.c 12,t.c 13,t.c 14,t.c 41,t.c 42] 59)).ownsRow wc.heap.size 59 2 (.slice wc 7 7) 7 (iB t (lp 0)):=yK aC rfl aG;have n2:((wc.alloc (.cells #[t.c 3,t.c 4,t.c 5,t.c 6,t.c 7,t.c 8,t.c 9,t.c 10,t.c 11,t.c 12,t.c 13,t.c 14,t.c 41,t.c 42] 59)).alloc (.cells #[t.c 46,t.c 53,t.c 54] 3)).ownsRow wc.heap.size 3 1 (.slice (some ⟨wc.heap.size+1,0,none⟩) 3 3) 3 (nC t (sp 0)):=Uu aW aW rfl aG;have N1:=ah (n1.alloc (.cells #[t.c 46,t.c 53,t.c 54] 3));have N2:=ah n2;clear n1 n2;obtain⟨i0,hi0,hz0,hz1,hz2⟩:=info_parts RJ;obtain⟨g0,gi0,gz0,gz1,gz2⟩:=info_parts intZero
  go_upto_region 4 with(fail)
  have hA2:At ((wc.alloc (.cells #[t.c 3,t.c 4,t.c 5,t.c 6,t.c 7,t.c 8,t.c 9,t.c 10,t.c 11,t.c 12,t.c 13,t.c 14,t.c 41,t.c 42] 59)).alloc (.cells #[t.c 46,t.c 53,t.c 54] 3)) bx (.cells (cells t) 68):=(hA.alloc _).alloc _;have hB2:Below wc wc ((wc.alloc (.cells #[t.c 3,t.c 4,t.c 5,t.c 6,t.c 7,t.c 8,t.c 9,t.c 10,t.c 11,t.c 12,t.c 13,t.c 14,t.c 41,t.c 42] 59)).alloc (.cells #[t.c 46,t.c 53,t.c 54] 3)):=aB (aB aD _) _;generalize hbase:wc.heap.size=base at *;have aku:=ah hbase;generalize ja4 (ja4 _ _) _=W2 at *;have lbx:=ah (show bx<base from hbase▸lb);have hsz2:base<=W2.heap.size:=hbase▸hB2.size;clear hbase;go_wp2
  go_loopw [4,5,6] (λv u i wr=>∃(k n m:Nat) (A:Option Addr) (c:Nat) (B:Option Addr) (e:Nat),k<=4/\i=.int .i64 k/\v=.slice A n c/\u=.slice B m e/\Hid (n=7+2*k)/\Hid (m=3+2*k)/\Hid (wr.ownsRow base 59 2 (.slice A n c) n (iB t (lp k)))/\Hid (wr.ownsRow base 3 1 (.slice B m e) m (nC t (sp k)))/\Hid (qB (.slice B m e) (.slice A n c))/\At wr bx (.cells (cells t) 68)/\Below base wc wr/\base<=wr.heap.size) (λ_ _ i _=>4-(intOf i).toNat)
  case atStart=>exact⟨0,7,3,_,_,_,_,by omega,rfl,rfl,rfl,ah rfl,ah rfl,N1,N2,ah (.inr (.inr (by simp[Value.ownBlock]))),hA2,hB2,hsz2⟩
  case round =>
   obtain⟨k,n,m,A,c,B,e,hk,rfl,rfl,rfl,HN,HM,O1,O2,AP,a,hB3,hsz⟩:=hrel;obtain rfl|rfl|rfl|rfl|rfl:k=0\/k=1\/k=2\/k=3\/k=4:=by omega
   . obtain rfl:n=7:=by have:=HN.out;omega
     obtain rfl:m=3:=by have:=HM.out;omega
     obtain⟨A',c',w1,jr,s1,s2,s3,s4,s5⟩:=iN (t:=150) (T:=59) (W:=wr.drew) (m:=2) (news:=[.int .i64 (t.c 15),.int .i64 (t.c 16),.int .i64 (t.c 23),.int .i64 (t.c 24)]) Tryz.underlying150 hi0 hz0 hz1 hz2 rfl aG aG O1.out O2.out AP.out hsz rfl Kv aG;have a1:At w1 bx _:=bB (W:=wr.drew) a lbx.out s4;obtain⟨B',e',w2,vG,t1,t2,t3,t4,t5⟩:=iN (t:=37) (T:=3) (W:=w1.drew) (m:=2) (news:=[.int .i64 (t.c 31),.int .i64 (t.c 35)]) Tryz.underlying37 gi0 gz0 gz1 gz2 rfl aG aG s2 s1 s3.symm s5 rfl Kv aG;have a2:At w2 bx _:=bB (W:=w1.drew) a1 lbx.out t4;have B1:Below base wr w1:=(Below.drew (Below.refl base wr)).trans s4;have B2:Below base w1 w2:=(Below.drew (Below.refl base w1)).trans t4;have jv:∀W',Below base wr W'->W'.cell? ⟨bx,15,none⟩=some (.int .i64 (t.c 15))/\W'.cell? ⟨bx,16,none⟩=some (.int .i64 (t.c 16))/\W'.cell? ⟨bx,23,none⟩=some (.int .i64 (t.c 23))/\W'.cell? ⟨bx,24,none⟩=some (.int .i64 (t.c 24)):=λW' h=>⟨(bB a lbx.out h).st 15 aG rfl,(bB a lbx.out h).st 16 aG rfl,(bB a lbx.out h).st 23 aG rfl,(bB a lbx.out h).st 24 aG rfl⟩;have vH:∀W',Below base w1 W'->W'.cell? ⟨bx,31,none⟩=some (.int .i64 (t.c 31))/\W'.cell? ⟨bx,35,none⟩=some (.int .i64 (t.c 35)):=λW' h=>⟨(bB a1 lbx.out h).st 31 aG rfl,(bB a1 lbx.out h).st 35 aG rfl⟩;have E1:Hid (w2.ownsRow base 59 2 (.slice A' 9 c') 9 (iB t (lp 1))):=ah t2;have E2:Hid (w2.ownsRow base 3 1 (.slice B' 5 e') 5 (nC t (sp 1))):=ah t1;have E3:Hid (qB (.slice B' 5 e') (.slice A' 9 c')):=ah t3.symm;have hB4:Below base wc w2:=hB3.trans (B1.trans B2);have hs2:base<=w2.heap.size:=t5;have HA2:=ah a2;have K1:=ah jv;have K2:=ah vH;have R1:=ah jr;have R2:=ah vG;have hsd:base<=w1.heap.size:=s5;clear t1 t2 t3 t4 t5 s1 s2 s3 s4 s5 a1 a2 a jv vH jr vG
     go_upto_region 7 with(fail)
     refine iC (S:=(λW'=>W'.cell? ⟨bx,15,none⟩=some (.int .i64 (t.c 15))/\W'.cell? ⟨bx,16,none⟩=some (.int .i64 (t.c 16))/\W'.cell? ⟨bx,23,none⟩=some (.int .i64 (t.c 23))/\W'.cell? ⟨bx,24,none⟩=some (.int .i64 (t.c 24)))) 11 ?_ ?_
     . exact Z23
     intro hS0;refine aO 0 ?_;refine aO 1 ?_;refine aO 2 ?_;refine aO 3 ?_;refine aO 4 ?_;refine aO 5 ?_;refine aO 6 ?_;refine aO 7 ?_;refine aO 8 ?_;refine tk1 9 ?_;refine uG ?_ (hS:=by first|(intro hlt;exact absurd hlt aG)|(intro _;exact K1.out _ (Below.alloc (Below.drew aD) hsz _)));refine tk1 10 ?_;refine aj.Step.value (dG (.tmp 70) (.tmp 79) 150 rfl rfl rfl R1.out) ⟨λ_=>K1.out _ (by assumption),?_⟩
     (try simp only[bM,bN,bO,tks])
     refine tk1 11 ?_;refine uG ?_ (hS:=by first|(intro hlt;exact absurd hlt aG)|(intro _;omega));refine gZ ?_
     go_upto_region 8 with(fail)
     refine iC (S:=(λW'=>W'.cell? ⟨bx,31,none⟩=some (.int .i64 (t.c 31))/\W'.cell? ⟨bx,35,none⟩=some (.int .i64 (t.c 35)))) 11 ?_ ?_
     . exact K2.out _ (Below.drew aD)
     intro hS0;refine aO 0 ?_;refine aO 1 ?_;refine aO 2 ?_;refine aO 3 ?_;refine aO 4 ?_;refine aO 5 ?_;refine aO 6 ?_;refine aO 7 ?_;refine aO 8 ?_;refine tk1 9 ?_;refine uG ?_ (hS:=by first|(intro hlt;exact absurd hlt aG)|(intro _;exact K2.out _ (Below.alloc (Below.drew aD) hsd _)));refine tk1 10 ?_;refine aj.Step.value (dG (.tmp 81) (.tmp 90) 37 rfl rfl rfl R2.out) ⟨λ_=>K2.out _ (by assumption),?_⟩
     (try simp only[bM,bN,bO,tks])
     refine tk1 11 ?_;refine uG ?_ (hS:=by first|(intro hlt;exact absurd hlt aG)|(intro _;omega));refine gZ ?_;go_wp2
     go_roundw
     case rel=>exact⟨1,9,5,_,_,_,_,by omega,by go_num,rfl,rfl,ah rfl,ah rfl,E1,E2,E3,HA2.out,hB4,hs2⟩
     case measure=>simp[intOf]
   . obtain rfl:n=9:=by have:=HN.out;omega
     obtain rfl:m=5:=by have:=HM.out;omega
     obtain⟨A',c',w1,jr,s1,s2,s3,s4,s5⟩:=iN (t:=150) (T:=59) (W:=wr.drew) (m:=2) (news:=[.int .i64 (t.c 17),.int .i64 (t.c 18),.int .i64 (t.c 25),.int .i64 (t.c 26)]) Tryz.underlying150 hi0 hz0 hz1 hz2 rfl aG aG O1.out O2.out AP.out hsz rfl Kv aG;have a1:At w1 bx _:=bB (W:=wr.drew) a lbx.out s4;obtain⟨B',e',w2,vG,t1,t2,t3,t4,t5⟩:=iN (t:=37) (T:=3) (W:=w1.drew) (m:=2) (news:=[.int .i64 (t.c 32),.int .i64 (t.c 36)]) Tryz.underlying37 gi0 gz0 gz1 gz2 rfl aG aG s2 s1 s3.symm s5 rfl Kv aG;have a2:At w2 bx _:=bB (W:=w1.drew) a1 lbx.out t4;have B1:Below base wr w1:=(Below.drew (Below.refl base wr)).trans s4;have B2:Below base w1 w2:=(Below.drew (Below.refl base w1)).trans t4;have jv:∀W',Below base wr W'->W'.cell? ⟨bx,17,none⟩=some (.int .i64 (t.c 17))/\W'.cell? ⟨bx,18,none⟩=some (.int .i64 (t.c 18))/\W'.cell? ⟨bx,25,none⟩=some (.int .i64 (t.c 25))/\W'.cell? ⟨bx,26,none⟩=some (.int .i64 (t.c 26)):=λW' h=>⟨(bB a lbx.out h).st 17 aG rfl,(bB a lbx.out h).st 18 aG rfl,(bB a lbx.out h).st 25 aG rfl,(bB a lbx.out h).st 26 aG rfl⟩;have vH:∀W',Below base w1 W'->W'.cell? ⟨bx,32,none⟩=some (.int .i64 (t.c 32))/\W'.cell? ⟨bx,36,none⟩=some (.int .i64 (t.c 36)):=λW' h=>⟨(bB a1 lbx.out h).st 32 aG rfl,(bB a1 lbx.out h).st 36 aG rfl⟩;have E1:Hid (w2.ownsRow base 59 2 (.slice A' 11 c') 11 (iB t (lp 2))):=ah t2;have E2:Hid (w2.ownsRow base 3 1 (.slice B' 7 e') 7 (nC t (sp 2))):=ah t1;have E3:Hid (qB (.slice B' 7 e') (.slice A' 11 c')):=ah t3.symm;have hB4:Below base wc w2:=hB3.trans (B1.trans B2);have hs2:base<=w2.heap.size:=t5;have HA2:=ah a2;have K1:=ah jv;have K2:=ah vH;have R1:=ah jr;have R2:=ah vG;have hsd:base<=w1.heap.size:=s5;clear t1 t2 t3 t4 t5 s1 s2 s3 s4 s5 a1 a2 a jv vH jr vG
     go_upto_region 7 with(fail)
     refine iC (S:=(λW'=>W'.cell? ⟨bx,17,none⟩=some (.int .i64 (t.c 17))/\W'.cell? ⟨bx,18,none⟩=some (.int .i64 (t.c 18))/\W'.cell? ⟨bx,25,none⟩=some (.int .i64 (t.c 25))/\W'.cell? ⟨bx,26,none⟩=some (.int .i64 (t.c 26)))) 11 ?_ ?_
     . exact Z23
     intro hS0;refine aO 0 ?_;refine aO 1 ?_;refine aO 2 ?_;refine aO 3 ?_;refine aO 4 ?_;refine aO 5 ?_;refine aO 6 ?_;refine aO 7 ?_;refine aO 8 ?_;refine tk1 9 ?_;refine uG ?_ (hS:=by first|(intro hlt;exact absurd hlt aG)|(intro _;exact K1.out _ (Below.alloc (Below.drew aD) hsz _)));refine tk1 10 ?_;refine aj.Step.value (dG (.tmp 70) (.tmp 79) 150 rfl rfl rfl R1.out) ⟨λ_=>K1.out _ (by assumption),?_⟩
     (try simp only[bM,bN,bO,tks])
     refine tk1 11 ?_;refine uG ?_ (hS:=by first|(intro hlt;exact absurd hlt aG)|(intro _;omega));refine gZ ?_
     go_upto_region 8 with(fail)
     refine iC (S:=(λW'=>W'.cell? ⟨bx,32,none⟩=some (.int .i64 (t.c 32))/\W'.cell? ⟨bx,36,none⟩=some (.int .i64 (t.c 36)))) 11 ?_ ?_
     . exact K2.out _ (Below.drew aD)
     intro hS0;refine aO 0 ?_;refine aO 1 ?_;refine aO 2 ?_;refine aO 3 ?_;refine aO 4 ?_;refine aO 5 ?_;refine aO 6 ?_;refine aO 7 ?_;refine aO 8 ?_;refine tk1 9 ?_;refine uG ?_ (hS:=by first|(intro hlt;exact absurd hlt aG)|(intro _;exact K2.out _ (Below.alloc (Below.drew aD) hsd _)));refine tk1 10 ?_;refine aj.Step.value (dG (.tmp 81) (.tmp 90) 37 rfl rfl rfl R2.out) ⟨λ_=>K2.out _ (by assumption),?_⟩
     (try simp only[bM,bN,bO,tks])
     refine tk1 11 ?_;refine uG ?_ (hS:=by first|(intro hlt;exact absurd hlt aG)|(intro _;omega));refine gZ ?_;go_wp2
     go_roundw
     case rel=>exact⟨2,11,7,_,_,_,_,by omega,by go_num,rfl,rfl,ah rfl,ah rfl,E1,E2,E3,HA2.out,hB4,hs2⟩
     case measure=>simp[intOf]
   . obtain rfl:n=11:=by have:=HN.out;omega
     obtain rfl:m=7:=by have:=HM.out;omega
     obtain⟨A',c',w1,jr,s1,s2,s3,s4,s5⟩:=iN (t:=150) (T:=59) (W:=wr.drew) (m:=2) (news:=[.int .i64 (t.c 19),.int .i64 (t.c 20),.int .i64 (t.c 27),.int .i64 (t.c 28)]) Tryz.underlying150 hi0 hz0 hz1 hz2 rfl aG aG O1.out O2.out AP.out hsz rfl Kv aG;have a1:At w1 bx _:=bB (W:=wr.drew) a lbx.out s4;obtain⟨B',e',w2,vG,t1,t2,t3,t4,t5⟩:=iN (t:=37) (T:=3) (W:=w1.drew) (m:=2) (news:=[.int .i64 (t.c 33),.int .i64 (t.c 37)]) Tryz.underlying37 gi0 gz0 gz1 gz2 rfl aG aG s2 s1 s3.symm s5 rfl Kv aG;have a2:At w2 bx _:=bB (W:=w1.drew) a1 lbx.out t4;have B1:Below base wr w1:=(Below.drew (Below.refl base wr)).trans s4;have B2:Below base w1 w2:=(Below.drew (Below.refl base w1)).trans t4;have jv:∀W',Below base wr W'->W'.cell? ⟨bx,19,none⟩=some (.int .i64 (t.c 19))/\W'.cell? ⟨bx,20,none⟩=some (.int .i64 (t.c 20))/\W'.cell? ⟨bx,27,none⟩=some (.int .i64 (t.c 27))/\W'.cell? ⟨bx,28,none⟩=some (.int .i64 (t.c 28)):=λW' h=>⟨(bB a lbx.out h).st 19 aG rfl,(bB a lbx.out h).st 20 aG rfl,(bB a lbx.out h).st 27 aG rfl,(bB a lbx.out h).st 28 aG rfl⟩;have vH:∀W',Below base w1 W'->W'.cell? ⟨bx,33,none⟩=some (.int .i64 (t.c 33))/\W'.cell? ⟨bx,37,none⟩=some (.int .i64 (t.c 37)):=λW' h=>⟨(bB a1 lbx.out h).st 33 aG rfl,(bB a1 lbx.out h).st 37 aG rfl⟩;have E1:Hid (w2.ownsRow base 59 2 (.slice A' 13 c') 13 (iB t (lp 3))):=ah t2;have E2:Hid (w2.ownsRow base 3 1 (.slice B' 9 e') 9 (nC t (sp 3))):=ah t1;have E3:Hid (qB (.slice B' 9 e') (.slice A' 13 c')):=ah t3.symm;have hB4:Below base wc w2:=hB3.trans (B1.trans B2);have hs2:base<=w2.heap.size:=t5;have HA2:=ah a2;have K1:=ah jv;have K2:=ah vH;have R1:=ah jr;have R2:=ah vG;have hsd:base<=w1.heap.size:=s5;clear t1 t2 t3 t4 t5 s1 s2 s3 s4 s5 a1 a2 a jv vH jr vG
     go_upto_region 7 with(fail)
     refine iC (S:=(λW'=>W'.cell? ⟨bx,19,none⟩=some (.int .i64 (t.c 19))/\W'.cell? ⟨bx,20,none⟩=some (.int .i64 (t.c 20))/\W'.cell? ⟨bx,27,none⟩=some (.int .i64 (t.c 27))/\W'.cell? ⟨bx,28,none⟩=some (.int .i64 (t.c 28)))) 11 ?_ ?_
     . exact Z23
     intro hS0;refine aO 0 ?_;refine aO 1 ?_;refine aO 2 ?_;refine aO 3 ?_;refine aO 4 ?_;refine aO 5 ?_;refine aO 6 ?_;refine aO 7 ?_;refine aO 8 ?_;refine tk1 9 ?_;refine uG ?_ (hS:=by first|(intro hlt;exact absurd hlt aG)|(intro _;exact K1.out _ (Below.alloc (Below.drew aD) hsz _)));refine tk1 10 ?_;refine aj.Step.value (dG (.tmp 70) (.tmp 79) 150 rfl rfl rfl R1.out) ⟨λ_=>K1.out _ (by assumption),?_⟩
     (try simp only[bM,bN,bO,tks])
     refine tk1 11 ?_;refine uG ?_ (hS:=by first|(intro hlt;exact absurd hlt aG)|(intro _;omega));refine gZ ?_
     go_upto_region 8 with(fail)
     refine iC (S:=(λW'=>W'.cell? ⟨bx,33,none⟩=some (.int .i64 (t.c 33))/\W'.cell? ⟨bx,37,none⟩=some (.int .i64 (t.c 37)))) 11 ?_ ?_
     . exact K2.out _ (Below.drew aD)
     intro hS0;refine aO 0 ?_;refine aO 1 ?_;refine aO 2 ?_;refine aO 3 ?_;refine aO 4 ?_;refine aO 5 ?_;refine aO 6 ?_;refine aO 7 ?_;refine aO 8 ?_;refine tk1 9 ?_;refine uG ?_ (hS:=by first|(intro hlt;exact absurd hlt aG)|(intro _;exact K2.out _ (Below.alloc (Below.drew aD) hsd _)));refine tk1 10 ?_;refine aj.Step.value (dG (.tmp 81) (.tmp 90) 37 rfl rfl rfl R2.out) ⟨λ_=>K2.out _ (by assumption),?_⟩
     (try simp only[bM,bN,bO,tks])
     refine tk1 11 ?_;refine uG ?_ (hS:=by first|(intro hlt;exact absurd hlt aG)|(intro _;omega));refine gZ ?_;go_wp2
     go_roundw
     case rel=>exact⟨3,13,9,_,_,_,_,by omega,by go_num,rfl,rfl,ah rfl,ah rfl,E1,E2,E3,HA2.out,hB4,hs2⟩
     case measure=>simp[intOf]
   . obtain rfl:n=13:=by have:=HN.out;omega
     obtain rfl:m=9:=by have:=HM.out;omega
     obtain⟨A',c',w1,jr,s1,s2,s3,s4,s5⟩:=iN (t:=150) (T:=59) (W:=wr.drew) (m:=2) (news:=[.int .i64 (t.c 21),.int .i64 (t.c 22),.int .i64 (t.c 29),.int .i64 (t.c 30)]) Tryz.underlying150 hi0 hz0 hz1 hz2 rfl aG aG O1.out O2.out AP.out hsz rfl Kv aG;have a1:At w1 bx _:=bB (W:=wr.drew) a lbx.out s4;obtain⟨B',e',w2,vG,t1,t2,t3,t4,t5⟩:=iN (t:=37) (T:=3) (W:=w1.drew) (m:=2) (news:=[.int .i64 (t.c 34),.int .i64 (t.c 38)]) Tryz.underlying37 gi0 gz0 gz1 gz2 rfl aG aG s2 s1 s3.symm s5 rfl Kv aG;have a2:At w2 bx _:=bB (W:=w1.drew) a1 lbx.out t4;have B1:Below base wr w1:=(Below.drew (Below.refl base wr)).trans s4;have B2:Below base w1 w2:=(Below.drew (Below.refl base w1)).trans t4;have jv:∀W',Below base wr W'->W'.cell? ⟨bx,21,none⟩=some (.int .i64 (t.c 21))/\W'.cell? ⟨bx,22,none⟩=some (.int .i64 (t.c 22))/\W'.cell? ⟨bx,29,none⟩=some (.int .i64 (t.c 29))/\W'.cell? ⟨bx,30,none⟩=some (.int .i64 (t.c 30)):=λW' h=>⟨(bB a lbx.out h).st 21 aG rfl,(bB a lbx.out h).st 22 aG rfl,(bB a lbx.out h).st 29 aG rfl,(bB a lbx.out h).st 30 aG rfl⟩;have vH:∀W',Below base w1 W'->W'.cell? ⟨bx,34,none⟩=some (.int .i64 (t.c 34))/\W'.cell? ⟨bx,38,none⟩=some (.int .i64 (t.c 38)):=λW' h=>⟨(bB a1 lbx.out h).st 34 aG rfl,(bB a1 lbx.out h).st 38 aG rfl⟩;have E1:Hid (w2.ownsRow base 59 2 (.slice A' 15 c') 15 (iB t (lp 4))):=ah t2;have E2:Hid (w2.ownsRow base 3 1 (.slice B' 11 e') 11 (nC t (sp 4))):=ah t1;have E3:Hid (qB (.slice B' 11 e') (.slice A' 15 c')):=ah t3.symm;have hB4:Below base wc w2:=hB3.trans (B1.trans B2);have hs2:base<=w2.heap.size:=t5;have HA2:=ah a2;have K1:=ah jv;have K2:=ah vH;have R1:=ah jr;have R2:=ah vG;have hsd:base<=w1.heap.size:=s5;clear t1 t2 t3 t4 t5 s1 s2 s3 s4 s5 a1 a2 a jv vH jr vG
     go_upto_region 7 with(fail)
     refine iC (S:=(λW'=>W'.cell? ⟨bx,21,none⟩=some (.int .i64 (t.c 21))/\W'.cell? ⟨bx,22,none⟩=some (.int .i64 (t.c 22))/\W'.cell? ⟨bx,29,none⟩=some (.int .i64 (t.c 29))/\W'.cell? ⟨bx,30,none⟩=some (.int .i64 (t.c 30)))) 11 ?_ ?_
     . exact Z23
     intro hS0;refine aO 0 ?_;refine aO 1 ?_;refine aO 2 ?_;refine aO 3 ?_;refine aO 4 ?_;refine aO 5 ?_;refine aO 6 ?_;refine aO 7 ?_;refine aO 8 ?_;refine tk1 9 ?_;refine uG ?_ (hS:=by first|(intro hlt;exact absurd hlt aG)|(intro _;exact K1.out _ (Below.alloc (Below.drew aD) hsz _)));refine tk1 10 ?_;refine aj.Step.value (dG (.tmp 70) (.tmp 79) 150 rfl rfl rfl R1.out) ⟨λ_=>K1.out _ (by assumption),?_⟩
     (try simp only[bM,bN,bO,tks])
     refine tk1 11 ?_;refine uG ?_ (hS:=by first|(intro hlt;exact absurd hlt aG)|(intro _;omega));refine gZ ?_
     go_upto_region 8 with(fail)
     refine iC (S:=(λW'=>W'.cell? ⟨bx,34,none⟩=some (.int .i64 (t.c 34))/\W'.cell? ⟨bx,38,none⟩=some (.int .i64 (t.c 38)))) 11 ?_ ?_
     . exact K2.out _ (Below.drew aD)
     intro hS0;refine aO 0 ?_;refine aO 1 ?_;refine aO 2 ?_;refine aO 3 ?_;refine aO 4 ?_;refine aO 5 ?_;refine aO 6 ?_;refine aO 7 ?_;refine aO 8 ?_;refine tk1 9 ?_;refine uG ?_ (hS:=by first|(intro hlt;exact absurd hlt aG)|(intro _;exact K2.out _ (Below.alloc (Below.drew aD) hsd _)));refine tk1 10 ?_;refine aj.Step.value (dG (.tmp 81) (.tmp 90) 37 rfl rfl rfl R2.out) ⟨λ_=>K2.out _ (by assumption),?_⟩
     (try simp only[bM,bN,bO,tks])
     refine tk1 11 ?_;refine uG ?_ (hS:=by first|(intro hlt;exact absurd hlt aG)|(intro _;omega));refine gZ ?_;go_wp2
     go_roundw
     case rel=>exact⟨4,15,11,_,_,_,_,by omega,by go_num,rfl,rfl,ah rfl,ah rfl,E1,E2,E3,HA2.out,hB4,hs2⟩
     case measure=>simp[intOf]
   . obtain rfl:n=15:=by have:=HN.out;omega
     obtain rfl:m=11:=by have:=HM.out;omega
     obtain⟨g,rfl,hg1,hg2,hgc⟩:=zW O1.out aG;obtain⟨g',rfl,hg1',af2,af3⟩:=zW O2.out aG
     have CL:Hid (∀W:World,Below wr wr W->∀(k p:Nat),Re.lens[k]? = some p->W.cell? ⟨g,k*2,none⟩=some (.int .i64 (t.c p))/\W.cell? ⟨g,k*2+1,none⟩=some (.int .i64 (t.c (p+1)))):=ah λW hb k p hp=>by
      obtain⟨q0,q1⟩:=vF t (l:=Re.lens) hp;exact⟨(hb.cell (p:=⟨g,k*2,none⟩) hg2).trans (hgc _ _ q0),(hb.cell (p:=⟨g,k*2+1,none⟩) hg2).trans (hgc _ _ q1)⟩
     have CS:Hid (∀W:World,Below wr wr W->∀(k p:Nat),Re.sizes[k]? = some p->W.cell? ⟨g',k,none⟩=some (.int .i64 (t.c p))):=ah λW hb k p hp=>(hb.cell (p:=⟨g',k,none⟩) af2).trans (af3 _ _ (by show(nC t Re.sizes)[k]? = _;simp[nC,hp]));have hBx:Below wr wr wr:=Below.refl _ _;have AX:=ah a;have HBW:=ah (hB.trans (hB3.mono (uO lbx.out)));clear O1 O2 AP N1 N2 hgc af3 hi0 hz0 hz1 hz2 gi0 gz0 gz1 gz2 hA hA2 hB2 hB a hB3 hg1 hg1';generalize wr=W5 at *;go_wp2
     go_loopw [3,7] (λf i wr=>∃(k:Nat) (fl:Bool),k<=15/\i=.int .i64 k/\f=.bool fl/\Hid (fl=(q&&(Re.lens.take k).all λi=>Fx.valid (t.c i) (t.c (i+1))))/\Below W5 W5 wr) (λ_ i _=>15-(intOf i).toNat)
     case atStart=>exact⟨0,q,by omega,rfl,rfl,ah aW,hBx⟩
     case round =>
      obtain⟨k,fl,hk,rfl,rfl,HF,kr⟩:=hrel;by_cases hlt:k<15
      . have hltz:(k:Int)<15:=by omega
        obtain⟨p,hp⟩:∃p,Re.lens[k]? = some p:=⟨_,ja6 (show k<Re.lens.length from hlt)⟩;obtain⟨c0,c1⟩:=CL.out wr kr k p hp;have HS:Hid ((Re.lens.take (k+1)).all (λi=>Fx.valid (t.c i) (t.c (i+1)))=((Re.lens.take k).all (λi=>Fx.valid (t.c i) (t.c (i+1)))&&Fx.valid (t.c p) (t.c (p+1)))):=ah (by rw[List.take_add_one,hp,List.all_append];simp);have hgl:g<wr.heap.size:=aT hg2 kr.size;clear hp;generalize t.c p=x at *;generalize t.c (p+1)=y at *;cases fl
        . go_wp2
          go_roundw
          case rel=>exact⟨k+1,false,by omega,by go_num,rfl,ah Z4d,kr⟩
          case measure=>simp[intOf];omega
        . go_wp2_with (go_at_call 139;(with_reducible refine(OT _ _ _).mono ?_);rintro e w2 ⟨rfl,hb⟩;have zm:=kr.trans (hb.mono kr.size))
          go_roundw
          case rel=>exact⟨k+1,Fx.valid x y,by omega,by go_num,rfl,ah Z4d,zm⟩
          case measure=>simp[intOf];omega
      . have hltz:¬ (k:Int)<15:=by omega
        have aiL:=ah (show k=15 by omega);have HF2:Hid (fl=(q&&Re.K6 t)):=ah (by rw[HF.out,aiL.out];rfl);clear HF CL;generalize k=k7 at *;have pG:=kr;have hg6:g'<wr.heap.size:=aT af2 kr.size
        rename_i W7
        go_wp2;generalize wr=W6 at *
        go_loopw [3,8] (λf i wr=>∃(k:Nat) (f2:Bool),k<=11/\i=.int .i64 k/\f=.bool f2/\Hid (f2=(fl&&(Re.sizes.take k).all λi=>Re.inn (t.c i) 0 1048576))/\Below W6 W6 wr) (λ_ i _=>11-(intOf i).toNat)
        case atStart=>exact⟨0,fl,by omega,rfl,rfl,ah aW,Below.refl _ _⟩
        case round =>
         obtain⟨k,f2,hk,rfl,rfl,HF,zm⟩:=hrel;have CG:=pG.trans (zm.mono pG.size);have hg7:g'<wr.heap.size:=aT hg6 zm.size;by_cases hlt:k<11
         . have hltz:(k:Int)<11:=by omega
           obtain⟨p,hp⟩:∃p,Re.sizes[k]? = some p:=⟨_,ja6 (show k<Re.sizes.length from hlt)⟩;have c0:=CS.out _ CG k p hp;have HS:Hid ((Re.sizes.take (k+1)).all (λi=>Re.inn (t.c i) 0 1048576)=((Re.sizes.take k).all (λi=>Re.inn (t.c i) 0 1048576)&&Re.inn (t.c p) 0 1048576)):=ah (by rw[List.take_add_one,hp,List.all_append];simp);clear hp;generalize t.c p=x at *;cases f2
           . go_wp2
             go_roundw
             case rel=>exact⟨k+1,false,by omega,by go_num,rfl,ah Z4d,zm⟩
             case measure=>simp[intOf];omega
           . go_wp2_with (first|(go_at_call 138;with_reducible refine mI (zD _ _ _ _) ?_))
             go_roundw
             case rel=>exact⟨k+1,Re.inn x 0 1048576,by omega,by go_num,rfl,ah Z4d,zm⟩
             case measure=>simp[intOf];omega
         . obtain rfl:k=11:=by omega
           have HF3:Hid (f2=(Re.fV t&&Re.K6 t&&Re.Dj t)):=ah (by rw[HF.out,HF2.out,HQ.out];rfl);have AY:=AX.out.keep CG;have d39:=AY.st 39 aG rfl;have d40:=AY.st 40 aG rfl;have d48:=AY.st 48 aG rfl;have HV:Hid (Re.valid t=(f2&&Re.inn (t.c 39) 0 1000&&Re.inn (t.c 40) 0 1000&&Re.inn (t.c 48) (-1048576) 1048576)):=ah (by rw[HF3.out];rfl);have HE:=ah (HBW.out.trans (CG.mono (aJ (uO lbx.out) hsz)));clear AY HF HF3 CS pG CG;cases f2
           . go_wp2
             go_ret
             exact⟨dF (by rw[HV.out];rfl),by rw[aaS.out];exact HE.out⟩
           . cases e1:Re.inn (t.c 39) 0 1000
             . rw[e1]at HV
               exact Z1o
             . rw[e1]at HV
               cases e2:Re.inn (t.c 40) 0 1000
               . rw[e2]at HV
                 exact Z1o
               . rw[e2]at HV
                 exact Z1o
theorem uQ(x:Int):wrap64 x=Fw.wr x:=by unfold Fw.wr wrap64;rfl
theorem eY(a b:Int)(w:World):Calls ja0 87 #[.agg #[a,b]] w λe w'=>e=.returned (.int .i64 (Fw.wr (a+b)))/\Below w w w':=by
 go_enter Tryz.func87,Tryz.ntmps87
 go_wp2
 go_ret
 refine⟨bA (uQ _),?_⟩;exact Z0
theorem iO(w:World):Calls ja0 157 #[(),()] w λx w'=>x=.returned (.int .i64 3)/\Below w w w':=by
 exact Z37
theorem IK(w:World):Calls ja0 157 #[(),.int .i64 1] w λx w'=>x=.returned (.int .i64 1)/\Below w w w':=by
 exact Z37
theorem IL(w:World):Calls ja0 157 #[.int .i64 1,()] w λx w'=>x=.returned (.int .i64 0)/\Below w w w':=by
 exact Z37
theorem IQ(w:World):Calls ja0 157 #[.int .i64 1,.int .i64 1] w λx w'=>x=.returned (.int .i64 2)/\Below w w w':=by
 exact Z37
theorem rA(k0 n0 k1 n1 k2 n2 n base:Int)(w:World):Calls ja0 86 #[.agg #[k0,n0,k1,n1,k2,n2],n,base] w λe w'=>e=.returned (.int .i64 (Fx.limit n k1 n1 k2 n2 base))/\Below w w w':=by
 go_enter Tryz.func86,Tryz.ntmps86
 go_wp2_with (first|(go_at_call 123;(with_reducible refine(He _ _ _ _ _ _ _).mono ?_);rintro e w' ⟨rfl,hb⟩;(try replace hb:=Below.after (by assumption) hb);obtain⟨hc,hf⟩:=fO hb;have hz:=hb.size;(try simp at hz)))
 exact Z1y
theorem jY(k0 n0 k1 n1 k2 n2 base:Int)(w:World):Calls ja0 118 #[.agg #[k0,n0,k1,n1,k2,n2],base] w λe w'=>e=.returned (.bool (Fx.dD k0 base))/\Below w w w':=by
 go_enter Tryz.func118,Tryz.ntmps118
 go_wp2_with (first|(go_at_call 159;(with_reducible refine(jD _ _ _ _).mono ?_);rintro e w' ⟨rfl,hb⟩;(try replace hb:=Below.after (by assumption) hb);obtain⟨hc,hf⟩:=fO hb;have hz:=hb.size;(try simp at hz)))
 exact Z1y
theorem Mh(a b c d:Int)(w:World):(Instr.index 61 (.agg #[a,b,c,d]) (.int .i64 0)).run ja0 w=.ok (.int .i64 a) w:=by kernel_rfl
theorem Mi(a b c d:Int)(w:World):(Instr.index 61 (.agg #[a,b,c,d]) (.int .i64 1)).run ja0 w=.ok (.int .i64 b) w:=by kernel_rfl
theorem Mj(a b c d:Int)(w:World):(Instr.index 61 (.agg #[a,b,c,d]) (.int .i64 2)).run ja0 w=.ok (.int .i64 c) w:=by kernel_rfl
theorem Mk(a b c d:Int)(w:World):(Instr.index 61 (.agg #[a,b,c,d]) (.int .i64 3)).run ja0 w=.ok (.int .i64 d) w:=by kernel_rfl
theorem Ec(s:Re.St)(w:World):Calls ja0 31 #[.agg (cells s)] w λe w'=>e=.returned (.agg #[Fw.ed s 0,Fw.ed s 1,Fw.ed s 2,Fw.ed s 3])/\Below w w w':=by
 go_enter Tryz.func31,Tryz.ntmps31
 go_upto_region 1 with(fail)
 generalize hW:ja4 _ _=W0;have A0:At W0 w (.cells (cells s) 68):=hW▸At.alloc (At.new _ _) _;have A1:At W0 (w.heap.size+1) (.cells #[(),(),(),()] 61):=hW▸At.new' _ aW;have hB:Below w w W0:=hW▸aB (aB aD _) _;clear hW;have l0:=A0.lt;have p0:W0.cell? ⟨w,31,none⟩=some (.int .i64 (s.c 31)):=A0.st 31 ak rfl;have p1:W0.cell? ⟨w,32,none⟩=some (.int .i64 (s.c 32)):=A0.st 32 ak rfl;have p2:W0.cell? ⟨w,33,none⟩=some (.int .i64 (s.c 33)):=A0.st 33 ak rfl;have p3:W0.cell? ⟨w,34,none⟩=some (.int .i64 (s.c 34)):=A0.st 34 ak rfl;have q0:W0.cell? ⟨w,35,none⟩=some (.int .i64 (s.c 35)):=A0.st 35 ak rfl;have q1:W0.cell? ⟨w,36,none⟩=some (.int .i64 (s.c 36)):=A0.st 36 ak rfl;have q2:W0.cell? ⟨w,37,none⟩=some (.int .i64 (s.c 37)):=A0.st 37 ak rfl;have q3:W0.cell? ⟨w,38,none⟩=some (.int .i64 (s.c 38)):=A0.st 38 ak rfl;clear A0;have i0:=Mh (s.c 35) (s.c 36) (s.c 37) (s.c 38);have i1:=Mi (s.c 35) (s.c 36) (s.c 37) (s.c 38);have i2:=Mj (s.c 35) (s.c 36) (s.c 37) (s.c 38);have i3:=Mk (s.c 35) (s.c 36) (s.c 37) (s.c 38);have c1:=A1.nM;go_wp2;refine wp_loop_rounds 5 ?_;rw[rounds_succ];go_wp2;rw[rounds_succ];go_wp2;rw[rounds_succ];go_wp2;rw[rounds_succ];go_wp2;rw[rounds_succ];go_wp2;refine bodyPost_ret (v:=.agg #[_,_,_,_]) (by simp[results,Tryz.results31,go_sem, *];first|done|exact⟨rfl,rfl⟩|exact⟨rfl,rfl,rfl,rfl⟩|rfl) rfl ⟨yH (uQ _) (uQ _) (uQ _) (uQ _),?_⟩;exact Z0
theorem sW(a b c d:Int)(w:World):Calls ja0 114 #[.agg #[a,b,c,d]] w λe w'=>e=.returned (.agg #[d,b,a,c])/\Below w w w':=by
 go_enter Tryz.func114,Tryz.ntmps114
 go_upto_region 3 with(fail)
 generalize hW:ja4 _ _=W0;have A0:At W0 w (.cells #[a,b,c,d] 61):=hW▸At.alloc (At.alloc (At.new _ _) _) _;have A1:At W0 (w.heap.size+1) (.cells #[(),(),(),()] 160):=hW▸At.alloc (At.new' _ aW) _;have A2:At W0 (w.heap.size+1+1) (.cells #[(),(),(),()] 160):=hW▸At.new' _ aW;have hB:Below w w W0:=hW▸aB (aB (aB aD _) _) _;clear hW;have g0:=hB.size;have c0:=A0.lc;have c1:=A1.nM;have c2:=A2.nM;refine wp_loop_rounds 3 ?_;rw[rounds_succ]
 go_upto_region 5 with(fail)
 refine yw 11 1 ?_
 (repeat (first|refine jc ?_ | refine jd ?_ (hc:=by intro w2 hS;first|with_reducible exact iq hS (iO _)|with_reducible exact iq hS (IK _)|with_reducible exact iq hS (IL _)|with_reducible exact iq hS (IQ _))|refine je ?_))
 refine aj.bL ?_;intro w2 hS
 (clear c0 c1 c2);(replace hB:=Below.ay qN aC hS);replace A0:=At.keep uL hS;replace A1:=At.keep sH hS;replace A2:=At.keep uh hS;clear hS;have c0:=A0.lc;have c1:=A1.nM;have c2:=A2.nM
 refine wz ?_;intro K hK;go_simp;refine hK _ _ (aj.bC ?_);clear hK K;generalize hW:ja5 _ _ _=W1;clear c0 c1 c2;replace A2:At W1 (w.heap.size+1+1) (.cells #[d,b,(),()] 160):=hW▸At.set (At.set (A2) 0 _) 1 _;replace A0:At W1 w (.cells #[a,b,c,d] 61):=hW▸At.off (At.off (A0) ak _ _) ak _ _;replace A1:At W1 (w.heap.size+1) (.cells #[(),(),(),()] 160):=hW▸At.off (At.off (A1) ak _ _) ak _ _;replace hB:Below w w W1:=hW▸Below.setCell (Below.setCell (hB) iJ _) iJ _;clear hW;have c2:=A2.nM;have c0:=A0.lc;have c1:=A1.nM;go_wp2;rw[rounds_succ]
 go_upto_region 5 with(fail)
 refine yw 11 1 ?_
 (repeat (first|refine jc ?_ | refine jd ?_ (hc:=by intro w2 hS;first|with_reducible exact iq hS (iO _)|with_reducible exact iq hS (IK _)|with_reducible exact iq hS (IL _)|with_reducible exact iq hS (IQ _))|refine je ?_))
 refine aj.bL ?_;intro w2 hS
 (clear c0 c1 c2);(replace hB:=Below.ay qN aC hS);replace A0:=At.keep uL hS;replace A1:=At.keep sH hS;replace A2:=At.keep uh hS;clear hS;have c0:=A0.lc;have c1:=A1.nM;have c2:=A2.nM
 refine wz ?_;intro K hK;go_simp;refine hK _ _ (aj.bC ?_);clear hK K;generalize hW:ja5 _ _ _=W1;clear c0 c1 c2;replace A2:At W1 (w.heap.size+1+1) (.cells #[d,b,a,c] 160):=hW▸At.set (At.set (A2) 2 _) 3 _;replace A0:At W1 w (.cells #[a,b,c,d] 61):=hW▸At.off (At.off (A0) ak _ _) ak _ _;replace A1:At W1 (w.heap.size+1) (.cells #[(),(),(),()] 160):=hW▸At.off (At.off (A1) ak _ _) ak _ _;replace hB:Below w w W1:=hW▸Below.setCell (Below.setCell (hB) iJ _) iJ _;clear hW;have c2:=A2.nM;have c0:=A0.lc;have c1:=A1.nM;go_wp2;rw[rounds_succ];go_wp2;refine bodyPost_ret (v:=.agg #[_,_,_,_]) (by simp[results,Tryz.results114,go_sem, *];first|done|exact⟨rfl,rfl⟩|exact⟨rfl,rfl,rfl,rfl⟩|rfl) rfl ⟨yH rfl rfl rfl rfl,?_⟩;exact Z0
end Go.Proofs.YtdnggaapcgomhaaGreat.Fix
