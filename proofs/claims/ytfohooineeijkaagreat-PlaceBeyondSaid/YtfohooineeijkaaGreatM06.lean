/- Steps of the program (6); no conditions. -/
import Derived.Test.YtfohooineeijkaaGreatM05
set_option linter.all false
set_option maxRecDepth 100000
set_option maxHeartbeats 16000000
namespace Go.Proofs.YtfohooineeijkaaGreat.Fix
open Go.ChangeShapes Go.WideShapes Go.ChangeAt Go.RowKit
open Go.Proofs.Tryz renaming prog → ja0
theorem MV{F:FuncId}{caps:Array Value}{f:Nat->Int->Int}{mine:Nat->Prop}{I:List Int->World->Prop}(hA:jO F caps f mine I){bs:Nat}{t:Re.St}{w:World}(hI:I [] w)(a:At w bs (.cells (cells t) 59))(hb:¬ mine bs)(hm:∀b,w.heap.size<=b->¬ mine b) :
  Calls ja0 83 #[bs,.func (.func F) #[] caps] w λe w'=>e=.returned (.bool (!Bw λi=>f i (Re.num t i)))/\I (ins t 55) w'/\At w' bs (.cells (cells (mix f t 55)) 59)/\Out (λc=>mine c\/c=bs) w w':=by
 have lb:=a.lt;have hp:dX mine bs w.heap.size:=⟨hb,hm _ aF,by omega⟩;have hS0:On F caps f I w.heap.size bs t 0 false (w.alloc (.cells #[.func (.func F) #[] caps,false] 199)):=⟨hA.keep _ _ _ hI (aD aG _),by rw[Xp];exact a.alloc _,At.new _ _⟩;generalize hr:(Bw λi=>f i (Re.num t i))=r;go_enter Tryz.func83,Tryz.ntmps83
 go_wp2_with (go_at_call 119;(with_reducible refine(GR hA hS0 hp (λb hb=>hm b (by simp at hb;omega))).mono ?_);rintro e w2 ⟨rfl,hS,hO⟩;rw[hr]at hS;have c1:=hS.w.cell 1;simp at c1)
 go_ret
 exact⟨rfl,hS.i,hS.a,Out.trans' (Out.of_below (aD aG _)) hO λb hb q=>q.elim .inl λq=>q.elim .inr λq=>absurd q (dK hb)⟩
theorem P6:jO 84 #[] (λ_ x=>x) (λ_=>False) (λ_ _=>True) where
 keep:=λ_ _ _ _ _=>trivial
 set:=λ_ _ _ _ _ _ _=>trivial
 enters:=λ_ _=>rfl
 call:=λxs x W _ _=>by
  show Calls ja0 84 #[x] W _;go_enter Tryz.func84,Tryz.ntmps84
  go_wp2
  go_ret
  exact⟨rfl,trivial,Out.refl _ _⟩
theorem Kj(t:Re.St):(!Bw λi=>Re.num t i)=Re.valid t:=by
 rw[Ki _ t.b]
 have hb:∀i,Re.uj i=true->Re.inn (Re.num t i) 0 1=true:=λi hi=>by
  rw[Re.RP];unfold Re.num;rw[if_pos hi];split<;>omega
 rw[hb 45 rfl,hb 47 rfl,hb 51 rfl,hb 52 rfl];simp only[Bool.and_true]
 exact Re.Pg λi hi=>by
  by_cases e:Re.uj i=true
  . rw[if_pos e]
  . rw[if_neg e];exact Re.LW (by simpa using e)
theorem Kk(t:Re.St)(w:World):Calls ja0 50 #[.agg (cells t)] w λe w'=>e=.returned (.bool (Re.valid t))/\Below w w w':=by
 generalize hr:Re.valid t=r;rw[<-Kj]at hr;go_enter Tryz.func50,Tryz.ntmps50
 go_wp2_with (go_at_call 83;(with_reducible refine(MV P6 trivial (At.new _ _) (λq=>q) (λ_ _ q=>q)).mono ?_);rintro e w2 ⟨rfl,_,_,hO⟩;rw[hr])
 go_ret
 exact⟨rfl,(aD aG _).trans (hO.below bI λb hb q=>q.elim id (dK hb))⟩
section
open Go.Shelf
open List renaming getElem?_eq_getElem → ja6,length_append → ja8,length_take → jc1
variable {L:Lay}{w W W':World}{l:List Int}{v:Value}{t n b:Nat}{ops:Array Oper}{z:Int}{s:Re.St}{o:Oper}{a:Act}
theorem wpList_build{rest:List Oper}{Q:Exit->Act->World->Prop}(hw:Region.wanted o (yielded ops a.tmps)=true)(t:TypeId)(ps:Array (Nat×Operand))(ho:o.op=.build t ps)(qs:Array (Nat×Value))(hq:(ps.map λp=>(p.1,a.eval p.2))=qs)
  (hrun:(Instr.build t qs).run ja0 w=.ok v w) (h:wpList ja0 ops Q rest (a.put o.dst v) w):wpList ja0 ops Q (o::rest) a w :=
 fq hw (by unfold execOp;simp only[ho,hq,Sem.run_bind,hrun,Result.andThen_ok,Sem.run_pure]) h
def T0:Tr.T:=λz=>if z=0 then some ⟨-1,[],Re.zero⟩else none
theorem XG(w:World):Calls ja0 17 #[] w λe w'=>(∃t,e=.returned (.pointer (some ⟨t,0,none⟩))/\∃L,fE w' t L T0 1/\∀b,owned t L T0 b->w.heap.size<=b)/\Below w w w':=by
 have hmm:=@run_makeMap ja0;have p0:=(PM.made w).out (M:=λ_=>False) (λq=>q) (Out.of_below (aD aG (.cells (dN (-1) (.slice none 0 0) Re.zero) 116)));have hb0:At ((w.alloc (.map #[] 0)).alloc (.cells (dN (-1) (.slice none 0 0) Re.zero) 116)) (w.heap.size+1) (.cells (dN (-1) (.slice none 0 0) Re.zero) 116):=At.new' _ bI;have hB0:Below w w ((w.alloc (.map #[] 0)).alloc (.cells (dN (-1) (.slice none 0 0) Re.zero) 116)):=aD (aD aG _) _;obtain⟨W2,hmu,p2,ho⟩:=p0.store (by simp[maxLen]) (z:=0) Z4n rfl (w.heap.size+1);have hlm:=p0.lt;have hA2:=hb0.out (M:=λx=>x=w.heap.size) bI ho;have hB2:Below w w W2:=hB0.trans (ho.below jB λb hb (q:b=_)=>by omega);have hs2:=ho.size;simp only[World.size_alloc]at hs2;have hB3:Below w w (W2.alloc (.cells #[.map (some w.heap.size)] 120)):=aD hB2 _
 have hR:Hid (fE (W2.alloc (.cells #[.map (some w.heap.size)] 120)) W2.heap.size ⟨w.heap.size,λ_=>w.heap.size+1,λ_ => .slice none 0 0⟩ T0 1/\∀b,owned W2.heap.size ⟨w.heap.size,λ_=>w.heap.size+1,λ_ => .slice none 0 0⟩ T0 b->w.heap.size<=b):=ah (by
  have live:∀z,T0 z≠none->z=0:=λz hz=>by
   unfold T0 at hz;split at hz
   . assumption
   . exact absurd rfl hz
  have some_:∀z nd,T0 z=some nd->z=0/\nd=⟨-1,[],Re.zero⟩:=λz nd hz=>by
   unfold T0 at hz;split at hz
   . injection hz with hz;exact⟨by assumption,hz.symm⟩
   . cases hz
  refine⟨⟨At.new _ _,(p2.out (M:=λ_=>False) (λq=>q) (Out.of_below (aD aG _))).congr λz _ => ?_,λz nd hz => ?_,λz nd hz => ?_,λy z hy hz _=>by rw[live y hy,live z hz],λy z g hy hz h _=>(by cases h),λz nd hz => ?_⟩,λb hb => ?_⟩
  . unfold PO T0
    by_cases e:z=0<;>simp[e]
  . obtain⟨rfl,rfl⟩:=some_ z nd hz
    exact hA2.alloc _
  . obtain⟨rfl,rfl⟩:=some_ z nd hz
    exact KS.nil _
  . obtain⟨rfl,rfl⟩:=some_ z nd hz
    simp
  . rcases hb with rfl|rfl|⟨z,nd,hz,rfl|hb⟩
    . omega
    . exact aO _
    . simp
    . cases hb)
 clear p0 hb0 hB0 p2 ho hlm hA2 hB2 hs2;go_enter Tryz.func17,Tryz.ntmps17
 go_wp2_with (first|(refine wpList_build bB 116 _ rfl #[(0,.int .i64 (-1))] Z40 (Kh _ _) ?_)|(refine wpList_build bB 120 _ rfl #[(0,.map (some w.heap.size))] Z40 (PU _ _) ?_))
 go_ret
 exact⟨⟨_,rfl,_,hR.out.1,hR.out.2⟩,hB3⟩
theorem UC{W:World}{u:Int}(h:At W b (.cells (dN u v s) 116))(t:Re.St):(Instr.storeAt 59 (.pointer (some ⟨b,2,none⟩)) (.agg (cells t))).run ja0 W=.ok () (W.setRow b (dN u v t)):=by
 have hz:(sizeOf 59).run ja0 W=.ok 55 W:=by kernel_rfl
 have hst:=run_storeCells_at ja0 b 2 116 (cells t).toList 0 (dN u v s) W h (by rw[Cc,Array.length_toList,dB];omega) (λx hx=>by
  have:=Array.all_eq_true_iff_forall_mem.1 (cells_one t) x (by simpa using hx);exact this)
 have e:((dN u v s).toList.take (2+0)++(cells t).toList++(dN u v s).toList.drop (2+0+(cells t).toList.length)).toArray=dN u v t:=by
  apply Array.ext';rw[Array.length_toList,dB];have h1:(dN u v s).toList.drop (2+0+55)=[]:=List.drop_of_length_le (by rw[Array.length_toList,Cc];omega);rw[h1];simp[dN]
 rw[e]at hst;have hc:(Value.agg (cells t)).cells=cells t:=rfl;simp only[Instr.storeAt,Instr.sureAddr,storeVar,Sem.run_bind,Sem.run_pure,Result.andThen_ok,hz,hc,dB,ne_eq,not_true_eq_false,if_false,hst]
theorem uq{w w':World}{t:TypeId}(x y:Operand)(ho:o.op=.store t x y){p v:Value}(hx:a.eval x=p)(hy:a.eval y=v)(hrun:(Instr.storeAt t p v).run ja0 w=.ok () w'):(execOp a.eval o).run ja0 w=.ok .skip w':=by
 unfold execOp;simp only[ho,hx,hy,Sem.run_bind,hrun,Result.andThen_ok,Sem.run_pure]
theorem gD{S:World->Prop}(hw:Region.wanted o (yielded ops a.tmps)=true)(x:Operand)(ho:o.op=.load 59 x)(hx:a.eval x=.pointer b)(hs:∀w,S w->At w b (.cells (cells s) 59)):aj.Reads ja0 ops S o (.agg (cells s)) a :=
 .inl ⟨hw,λw h=>by unfold execOp;simp only[ho,hx,Sem.run_bind,Eu (hs w h),Result.andThen_ok,Sem.run_pure]⟩
def tF(T:Tr.T)(z:Int)(s:Re.St):Int:=if (T z).isSome=false then 2 else if Re.valid s=false then 1 else 0
def lI(T:Tr.T)(z:Int)(s:Re.St):Tr.T:=if tF T z s=0 then Tr.GH T z s else T
theorem XH{T:Tr.T}(h:fE w t L T n)(hz:Wf z)(s:Re.St):Calls ja0 18 #[t,z,.agg (cells s)] w λe w'=>e=.returned (.int .i64 (tF T z s))/\fE w' t L (lI T z s) n/\Grow t L L T (lI T z s) w w':=by
 have hB:Below w w (w.alloc (.cells (cells s) 59)):=aD aG _;have h1:=h.after hB;have hA:At (w.alloc (.cells (cells s) 59)) w.heap.size (.cells (cells s) 59):=At.new _ _;generalize hW:w.alloc (.cells (cells s) 59)=w1 at *;have key:=gH h1 hz;cases hT:T z with
 | none =>
   have hE:tF T z s=2:=by unfold tF;rw[hT];rfl
   have hS:lI T z s=T:=by unfold lI;rw[hE];rfl
   rw[hT]at key;rw[hE,hS];have HR:=ah h1;have HB:=ah hB;clear h h1 hB hE hS;go_enter Tryz.func18,Tryz.ntmps18
   go_wp2_with (go_at_call 48;(with_reducible refine key.mono ?_);rintro e w' ⟨rfl,rfl⟩)
   go_ret
   exact⟨rfl,HR.out,Grow.of_below HB.out⟩
 | some nd =>
   rw[hT]at key;have key2:=Kk s w1;cases hv:Re.valid s with
   | false =>
     have hE:tF T z s=1:=by unfold tF;rw[hT,hv];rfl
     have hS:lI T z s=T:=by unfold lI;rw[hE];rfl
     rw[hv]at key2;rw[hE,hS];have HR:=ah h1;have HB:=ah hB;clear h h1 hB hE hS;go_enter Tryz.func18,Tryz.ntmps18
     go_wp2_with (first|(refine bC bB _ rfl rfl hA ?_)|(go_at_call 48;(with_reducible refine key.mono ?_);rintro e w' ⟨rfl,rfl⟩)|(go_at_call 50;(with_reducible refine key2.mono ?_);rintro e w2 ⟨rfl,hb2⟩))
     go_ret
     exact⟨rfl,HR.out.after hb2,Grow.of_below (HB.out.trans (hb2.mono HB.out.size))⟩
   | true =>
     have hE:tF T z s=0:=by unfold tF;rw[hT,hv];rfl
     have hS:lI T z s=Tr.set T z { nd with sty:=s }:=by unfold lI Tr.GH;rw[hE,hT];rfl
     rw[hv]at key2;rw[hE,hS];have HR:=ah h1;have HB:=ah hB;have HA:=ah hA;clear h h1 hB hE hS;go_enter Tryz.func18,Tryz.ntmps18
     go_upto_region 5 with(first|(refine bC bB _ rfl rfl hA ?_)|(go_at_call 48;(with_reducible refine key.mono ?_);rintro e w' ⟨rfl,rfl⟩)|(go_at_call 50;(with_reducible refine key2.mono ?_);rintro e w2 ⟨rfl,hb2⟩))
     have hR2:=(HR.out.after hb2).after (Below.refl _ w2).drew;have hA2:At w2.drew w (.cells (cells s) 59):=(hA.keep hb2).drew;have hO2:Below w w w2.drew:=(HB.out.trans (hb2.mono HB.out.size)).drew;have hne:L.bl z≠w.heap.size:=λe=>by have:=(hR2.box z nd hT).uniq (e▸hA2);injection this with _ e2;exact absurd e2 aN
     obtain⟨GA,hG3⟩:=hR2.PV (s:=s) hT;have hst:=UC (hR2.box z nd hT) s;have hA3:=hA2.iP hne.symm (dN nd.up (L.sl z) s);generalize hW2:w2.drew=W2 at *;have hS0:W2.cell? ⟨t,0,none⟩=some (.map (some L.mb))/\(Instr.lookup 118 (.map (some L.mb)) (.int .i64 z) false).run ja0 W2=.ok (.pointer (some ⟨L.bl z,0,none⟩)) W2/\At W2 w (.cells (cells s) 59):=⟨hR2.cT,hR2.iK hT,hA2⟩;have rY:=ah (show _/\_/\At (W2.setRow (L.bl z) (dN nd.up (L.sl z) s)) w.heap.size (.cells (cells s) 59)from⟨GA.cT,GA.iK (Tr.aX _ _ _),hA3⟩);have HST:=ah hst;have HR3:=ah GA;have HG3:=ah ((Grow.of_below hO2).trans hG3);clear hR2 hA2 hO2 GA hG3 hst hA3 HR HB hA hb2;generalize W2.setRow (L.bl z) (dN nd.up (L.sl z) s)=W3 at *;refine aj.rW (S:=(λW'=>W'.cell? ⟨t,0,none⟩=some (.map (some L.mb))/\(Instr.lookup 118 (.map (some L.mb)) (.int .i64 z) false).run ja0 W'=.ok (.pointer (some ⟨L.bl z,0,none⟩)) W'/\At W' w (.cells (cells s) 59))) 10 bE ?_ ?_
     . rw[hW2];exact hS0
     intro hS1;rw[hW2];clear hS1 hW2;refine aW 0 ?_;refine aW 1 ?_;refine aW 2 ?_;refine aW 3 ?_;refine aW 4 ?_;refine mG 5 rfl (bU bB rfl rfl rfl (λW h=>h.2.1)) ?_;refine mG 6 rfl (gD bB (.tmp 5) rfl rfl (λW h=>h.2.2)) ?_;refine aW 7 ?_;refine aW 8 ?_;refine tk1 9 ?_;refine aj.Step.skip (uq (.tmp 24) (.tmp 22) rfl rfl rfl HST.out) ?_;refine⟨λ_=>rY.out,?_⟩
     (try simp only[bV,bW,bX,tks])
     refine jk ?_;go_wp2
     go_ret
     exact⟨rfl,HR3.out,HG3.out⟩
theorem EM{T:Tr.T}(h:fE w t L T n){x:Int}{nd p:Tr.Nd}(hx:T x=some nd)(hp:T nd.up=some p){i:Nat}(hi:p.kids[i]? = some x)(hn:p.kids.Nodup) :
  Calls ja0 87 #[t,x] w λe w'=>(∃v,e=.returned v)/\∃L',fE w' t L' (Tr.leave T x) n/\Grow t L L' T (Tr.leave T x) w w':=by
 obtain⟨hlt,hie⟩:=List.getElem?_eq_some_iff.1 hi;have hpk:=(h.small nd.up p hp).2.2.2.2;have hw:Wf x:=h.wf hx;have hwu:Wf nd.up:=h.wf hp;have hrow:=h.row nd.up p hp
 have hf:∀j,j<i->p.kids[j]? ≠ some x:=λj hj e=>by
  obtain⟨hj2,he⟩:=List.getElem?_eq_some_iff.1 e;have:=(List.getElem_inj hn).1 (he.trans hie.symm);omega
 have key2:=λW (hb:KS W (L.sl nd.up) p.kids)=>Uu hb hi hf;have hleave:Tr.leave T x=Tr.set T nd.up { p with kids:=Tr.wo p.kids x }:=by unfold Tr.leave;rw[hx];simp only[hp]
 have hwo:=Tr.Xe hn hi;rw[hleave];rcases hrow.cases with⟨_,h0⟩|⟨g,c,hsl,hrw⟩
 . rw[h0]at hlt;simp at hlt
 rw[hsl]at key2;have afL:=λW (hb:Rw W g c p.kids)=>PK (w:=W) hb (i:=i) (j:=i+1) ak ak;clear hie;generalize hlen:p.kids.length=m at *;have hup:Hid (jP T x=nd.up):=ah (by unfold jP;rw[hx]);have key1:=λW (hr:fE W t L T n)=>rC hr hw;rw[hup.out]at key1;generalize hu:nd.up=u at *;have HP:=ah hp;have HR:=ah h;have HK2:=ah key2;have HK3:=ah afL;have HSL:=ah hsl;have HWO:=ah hwo;have HLEN:=ah hlen;have hw1:IntKind.i64.wrap ((i:Int)+1)=((i+1:Nat):Int):=by rw[IntWalk.i64_in _ ak];omega
 have hS0:fE w.drew t L T n:=h.after (Below.refl _ w).drew;clear h key2 afL hsl hwo hrow hf hleave hi hn hp hx hrw hlen;go_enter Tryz.func87,Tryz.ntmps87
 go_upto_region 0 with(fail)
 refine jy (S:=(λW'=>W'.cell? ⟨t,0,none⟩=some (.map (some L.mb))/\fE W' t L T n/\W'=w.drew)) 9 ?_ ?_
 . exact⟨hS0.cT,hS0,rfl⟩
 intro hS1;refine aW 0 ?_;refine aW 1 ?_;refine aW 2 ?_;refine aW 3 ?_;refine aW 4 ?_;refine aW 5 ?_;refine tk1 6 ?_;refine aj.Step.call eD (key1 _ hS1.2.1) ?_;rintro e w4 ⟨rfl,rfl⟩;refine⟨_,rfl,λ_=>hS1,?_⟩
 (try simp only[bV,bW,bX,tks])
 refine mG 7 rfl (bU bB rfl rfl rfl (λW h=>h.2.1.iK HP.out)) ?_;refine aW 8 ?_;refine jk ?_;clear hS1;generalize hW:w.drew=w1 at *;have hD:Below w w w1:=hW▸(Below.refl _ _).drew;have c1:=hS0.mM HP.out;rw[HSL.out]at c1;have k2:=HK2.out w1 (HSL.out▸hS0.row u p HP.out)
 have k3:=HK3.out w1 (by
  have:=hS0.row u p HP.out;rw[HSL.out]at this;rcases this.cases with⟨e,_⟩|⟨g',c',e,hr⟩
  . cases e
  . injection e with e1 e2 e3;injection e1 with e1;injection e1 with e1;subst e1;subst e3;exact hr)
 rw[show((i+1:Nat):Int)=(i:Int)+1 by omega]at k3;have hne:g≠L.bl u:=λe=>hS0.EI HP.out HP.out (by rw[HSL.out];exact congrArg some e);clear hW key1
 go_wp2_with (first|(go_at_call 122;(with_reducible refine k2.mono ?_);rintro e w' ⟨rfl,rfl⟩)|(go_at_call 123;(with_reducible refine k3.mono ?_);rintro e w2 ⟨rfl,hrw2,hO2⟩;have c2:w2.cell? ⟨L.bl u,1,none⟩=some (.slice g m c):=(by rw[((hS0.box u p HP.out).out (λe=>hne e.symm) hO2).cell,wP,HSL.out]);have z2:=((hS0.box u p HP.out).out (λe=>hne e.symm) hO2).thaw 1))
 refine bodyPost_end (results_none rfl _ _ _) rfl ?_;refine⟨⟨_,rfl⟩,?_⟩;rw[HWO.out];have hm:=HLEN.out;have hl:(List.take i p.kids++List.drop (i+1) p.kids).length=i+(m-(i+1)):=by simp only[ja8,jc1,List.length_drop];omega
 have hks:=hrw2.ks;rw[hl]at hks;obtain⟨r1,r2⟩:=hS0.uw HP.out (hO2.mono λb _ (q:b=g)=>by rw[HSL.out,q];rfl) hks (by rw[HSL.out];exact .inl rfl) ak;exact⟨_,r1,(Grow.of_below hD).trans r2⟩
theorem EN{T:Tr.T}(h:fE w t L T n){x u:Int}{nd p:Tr.Nd}(hx:T x=some nd)(hu:T u=some p)(hne:u≠x){i:Nat}(hi:i<=p.kids.length)(hl:p.kids.length+1<=4096) :
  Calls ja0 54 #[t,x,u,.int .i64 (i:Int)] w λe w'=>(∃v,e=.returned v)/\∃L',fE w' t L' (Tr.enter T x u i) n/\Grow t L L' T (Tr.enter T x u i) w w':=by
 have hent:Tr.enter T x u i=Tr.set (Tr.set T u { p with kids:=Tr.wi p.kids i x }) x { nd with up:=u }:=by unfold Tr.enter;rw[hx,hu]
 rw[hent];have GU:(Tr.wi p.kids i x).length<=4096:=by simp only[Tr.wi,ja8,jc1,List.length_cons,List.length_drop];omega
 have hur:=h.small u p hu;have hl1:=h.iK hu;have c0:=h.cT;have c1:=h.mM hu;have hB:Below w w (w.alloc (.cells #[x] 3)):=aD aG _;have h1:=h.after hB;have hA:At (w.alloc (.cells #[x] 3)) w.heap.size (.cells #[x] 3):=At.new _ _;have hvb:(L.sl u).ownBlock≠some w.heap.size:=λe=>by have:=h.lt (.inr (.inr ⟨u,p,hu,.inr e⟩));omega
 have key2:=PN (h1.row u p hu) hi ak hA hvb;have HR1:=ah h1;have HB:=ah hB;have HU:=ah hu;have HX:=ah hx;have HLW:=ah GU;have HUR:=ah hur;have HNE:=ah hne;clear h h1 hB hu hx GU hur hA hvb hi hl hent hne;go_enter Tryz.func54,Tryz.ntmps54
 go_upto_region 2 with(first|(go_at_call 85;(with_reducible refine key2.mono ?_);rintro e w2 ⟨v2,rfl,hks,hO,hloc⟩;obtain⟨A,c,hs,_⟩:=hks.ints;subst hs;generalize hm:(Tr.wi p.kids i x).length=m at *;have HM:=ah hm;have XI:=ah hks;have HO:=ah hO;have HLOC:=ah hloc;clear hm hks hO hloc;have b2:=((HR1.out.box u p HU.out).out (HR1.out.EI HU.out HU.out) HO.out).thaw 1;have c2:w2.cell? ⟨L.bl u,1,none⟩=some (L.sl u):=(by rw[((HR1.out.box u p HU.out).out (HR1.out.EI HU.out HU.out) HO.out).cell,wP])))
 obtain⟨r2,g2⟩:=HR1.out.uw HU.out HO.out XI.out (HLOC.out.elim .inl λe => .inr (.inr ⟨_,e,aO _⟩)) (by rw[HM.out];exact HLW.out);have hx2:Tr.set T u { p with kids:=Tr.wi p.kids i x } x=some nd:=by rw[Tr.aT _ _ (λe=>HNE.out e.symm)];exact HX.out
 have l2:=r2.iK hx2;have t2:=r2.cT;have u2:=r2.cUp hx2;have z2:=(r2.box x nd hx2).thaw 0;obtain⟨r3,g3⟩:=r2.Xz (u:=u) hx2 (by have:=HUR.out;omega);have R3:=ah (show∃L',fE ((w2.setCell ⟨L.bl u,1,none⟩ (.slice A m c)).setCell ⟨L.bl x,0,none⟩ (.int .i64 u)) t L' _ n/\Grow t L L' T _ w ((w2.setCell ⟨L.bl u,1,none⟩ (.slice A m c)).setCell ⟨L.bl x,0,none⟩ (.int .i64 u))from⟨_,r3,(Grow.of_below HB.out).trans (g2.trans g3)⟩);clear r2 g2 hx2 r3 g3 HM HLW HLOC HO XI HB HR1 HU HX HUR HNE b2 c2 c0 c1 hl1 key2;dsimp only at l2 t2 u2 z2;generalize w2.setCell ⟨L.bl u,1,none⟩ (.slice A m c)=w3 at *;go_wp2;refine bodyPost_end (results_none rfl _ _ _) rfl ?_;exact⟨⟨_,rfl⟩,R3.out⟩
structure Inv(W:World)(t:Nat)(L:Lay)(T:Tr.T)(n:Nat):Prop where
 rep:fE W t L T n
 wf:Tr.WF T
 num:(Tr.ord T).length=n
theorem XJ{T:Tr.T}(h:Inv w t L T n)(hn:n<4096){u a:Int}(hu:Wf u):Calls ja0 19 #[t,u,a] w λe w'=>e=.returned (.tuple #[Tr.uH T u a,Tr.nO T u a])/\∃L' n',Inv w' t L' (Tr.lG T u a) n'/\n'<=n+1/\Grow t L L' T (Tr.lG T u a) w w':=by
 obtain⟨h,HW,GV⟩:=h;have Sg:=HW.lG u a ak;have key:=gH h hu;cases hT:T u with
 | none =>
   have hE:Tr.nO T u a=2:=by unfold Tr.nO;rw[hT]
   have hI:Tr.uH T u a = -1:=by unfold Tr.uH;rw[hE];rfl
   have hR:Tr.lG T u a=T:=by unfold Tr.lG;rw[hE];rfl
   rw[hE,hI,hR];rw[hT]at key;have HR:=ah (Inv.mk h HW GV);clear h HW GV Sg hE hI hR;exact Z1i
 | some p =>
   rw[hT]at key;have hl:=h.iK hT;have c0:=h.cT;have c1:=h.mM hT;have hs:=(h.small u p hT).2.2.2.2;obtain⟨A,c,hv,_⟩:=(h.row u p hT).ints;by_cases hr:a<0\/(p.kids.length:Int)<a
   . have hE:Tr.nO T u a=1:=by unfold Tr.nO;rw[hT];dsimp only;rw[if_pos hr]
     have hI:Tr.uH T u a = -1:=by unfold Tr.uH;rw[hE];rfl
     have hR:Tr.lG T u a=T:=by unfold Tr.lG;rw[hE];rfl
     rw[hE,hI,hR];have HR:=ah (Inv.mk h HW GV);rw[hv]at c1;clear h HW GV Sg hE hI hR hv;generalize p.kids.length=m at *;rcases hr with hr|hr
     . exact Z1i
     . have hr0:¬ a<0:=by omega
       exact Z1i
   . have hr0:¬ a<0:=λe=>hr (.inl e)
     have hr1:¬ (p.kids.length:Int)<a:=λe=>hr (.inr e);have nY:=XA h;obtain⟨d,hd1,hd2,hd3⟩:=HW.jo hT;have P7:=Ce h (λ_ h=>HW.iF h) hd2 ak;have hnn:¬ (4096:Int)<=(n:Int):=by omega
     by_cases hdd:63<=d
     . have XK:(63:Int)<=(d:Int):=by omega
       have hE:Tr.nO T u a=5:=by unfold Tr.nO;rw[hT];dsimp only;rw[if_neg hr,hd3,if_pos XK]
       have hI:Tr.uH T u a = -1:=by unfold Tr.uH;rw[hE];rfl
       have hR:Tr.lG T u a=T:=by unfold Tr.lG;rw[hE];rfl
       rw[hE,hI,hR];have HR:=ah (Inv.mk h HW GV);rw[hv]at c1;clear h HW GV Sg hE hI hR hv hd2 hd3 hr;generalize p.kids.length=m at *;go_enter Tryz.func19,Tryz.ntmps19
       go_wp2_with (first|(go_at_call 48;(with_reducible refine key.mono ?_);rintro e w' ⟨rfl,rfl⟩)|(go_at_call 51;(with_reducible refine nY.mono ?_);rintro e w' ⟨rfl,rfl⟩)|(go_at_call 52;(with_reducible refine P7.mono ?_);rintro e w' ⟨rfl,rfl⟩))
       go_ret2
       exact⟨rfl,L,n,HR.out,by omega,Grow.refl _ _ _ _⟩
     . have XK:¬ (63:Int)<=(d:Int):=by omega
       have hE:Tr.nO T u a=0:=by unfold Tr.nO;rw[hT];dsimp only;rw[if_neg hr,hd3,if_neg XK]
       have hI:Tr.uH T u a=Tr.free T:=by unfold Tr.uH;rw[hE];rfl
       have hR:Tr.lG T u a=Tr.pU T (Tr.free T) u a.toNat:=by unfold Tr.lG;rw[hE];rfl
       rw[hE,hR,if_pos rfl]at Sg;rw[hE,hI,hR];obtain⟨hfree,hfl⟩:=HW.JR;have abq:=Uw h;have hB:Below w w (w.alloc (.cells (dN 0 (.slice none 0 0) Re.zero) 116)):=aD aG _;have h1:=h.after hB;have hA:At (w.alloc (.cells (dN 0 (.slice none 0 0) Re.zero) 116)) w.heap.size (.cells (dN 0 (.slice none 0 0) Re.zero) 116):=At.new _ _;have hfw:Wf (Tr.free T):=by rw[jZ];have:=hfree.1;omega
       obtain⟨W2,hmu,p2,ho⟩:=h1.map.store (by simp[maxLen];omega) (z:=Tr.free T) hfw (by rw[hfree.2.1];rfl) w.heap.size;have hnw:¬ owned t L T w.heap.size:=λe=>absurd (h.lt e) ak;obtain⟨r2,o2,g2⟩:=h1.add hfree.2.1 ⟨hfree.1,by omega⟩ ak hA hnw ho p2;have hne:u≠Tr.free T:=λe=>by rw[e,hfree.2.1]at hT;cases hT
       have G2:Grow t L _ T _ w W2:=⟨((Out.of_below hB).trans ⟨o2.1,o2.2⟩),λb hb=>(g2 b hb).imp id λe=>by omega⟩;have hkl:=HW.qZ hT;have UD:=EN r2 (Tr.aX _ _ _) ((Tr.aT _ _ hne).trans hT) hne (i:=a.toNat) ak ak;rw[Int.toNat_of_nonneg ak]at UD;have HG2:=ah G2;have HI:=ah Sg;have HN:=ah GV;have HF:=ah hfree;rw[hv]at c1;clear h HW GV Sg hE hI hR hv hd2 hd3 hr hfree hfl hB h1 hA p2 ho hnw r2 o2 g2 G2 hT hkl;unfold Tr.pU;generalize p.kids.length=m at *;generalize Tr.free T=z at *;go_enter Tryz.func19,Tryz.ntmps19
       go_wp2_with (first|(go_at_call 48;(with_reducible refine key.mono ?_);rintro e w' ⟨rfl,rfl⟩)|(go_at_call 51;(with_reducible refine nY.mono ?_);rintro e w' ⟨rfl,rfl⟩)|(go_at_call 52;(with_reducible refine P7.mono ?_);rintro e w' ⟨rfl,rfl⟩)|(go_at_call 53;(with_reducible refine abq.mono ?_);rintro e w' ⟨⟨y,rfl,hy⟩,rfl⟩;obtain rfl:y=z:=(Tr.free_eq hy).symm.trans (Tr.free_eq HF.out))|(refine wpList_build bB 116 _ rfl #[] bI (EH _) ?_)|(go_at_call 54;(with_reducible refine UD.mono ?_);rintro e w' ⟨⟨v,rfl⟩,L',hr',hg'⟩))
       go_ret2
       exact⟨rfl,L',n+1,⟨hr',HI.out.1,by rw[<-HN.out];exact HI.out.2⟩,aO _,HG2.out.trans hg'⟩
section
variable {T:Tr.T} (H:Tr.WF T) {x u:Int} {nd p:Tr.Nd} (hx:T x=some nd) (h0:x≠0) (hu:T u=some p) (hun:u ∉ Tr.sub T 64 x)
include H hx h0 hu hun
theorem adG:Tr.leave T x u=some { p with kids:=Tr.wo p.kids x }:=by
 obtain⟨q,hq,hm⟩:=H.up x nd hx h0;rw[Tr.qp hx hq];by_cases e:u=nd.up
 . rw[if_pos e];rw[<-e,hu]at hq;cases hq;rfl
 . rw[if_neg e,hu,Tr.wI (λhm=>e (H.Md hx h0 hu hm))]
theorem adH:Tr.leave T x x=some nd:=by
 obtain⟨q,hq,hm⟩:=H.up x nd hx h0;rw[Tr.qp hx hq,if_neg (λe:x=nd.up=>H.qw hx h0 (H.sU hx h0 e.symm)),hx]
theorem XL:(Tr.wo p.kids x).length+1<=(Tr.ord T).length:=by
 have hn:(x::Tr.wo p.kids x).Nodup:=List.nodup_cons.2 ⟨λhm=>(Tr.yO.1 hm).2 rfl,Tr.Eh (H.nodup u p hu) x⟩
 have:=hn.length_le_of_subset (l₂:=Tr.ord T) λy hy=>by
  rcases List.mem_cons.1 hy with rfl|hy
  . exact H.iE.2 ⟨nd,hx⟩
  . obtain⟨_,q,h2,_⟩:=H.kid u p y hu (Tr.yO.1 hy).1
    exact H.iE.2 ⟨q,h2⟩
 simpa using this
end
theorem UE{T:Tr.T}(h:Inv w t L T n){x u a:Int}(hxw:Wf x)(hu:Wf u):Calls ja0 59 #[t,x,u,a] w λe w'=>e=.returned (.int .i64 (Tr.jS T x u a))/\∃L',Inv w' t L' (Tr.mQ T x u a) n/\Grow t L L' T (Tr.mQ T x u a) w w':=by
 have key:=gH h.rep hxw;have rR:=gH h.rep hu;have same:∀e,Tr.jS T x u a=e->e≠0->Tr.mQ T x u a=T:=λe he hne=>by unfold Tr.mQ;rw[he,if_neg hne]
 cases hX:T x with
 | none =>
   have hE:Tr.jS T x u a=2:=by unfold Tr.jS;rw[hX]
   rw[hE,same _ hE aN];rw[hX]at key;have HR:=ah h;clear h rR same hE;exact Z19
 | some nd =>
 rw[hX]at key;cases hU:T u with
 | none =>
   have hE:Tr.jS T x u a=2:=by unfold Tr.jS;rw[hX,hU]
   rw[hE,same _ hE aN];rw[hU]at rR;have HR:=ah h;clear h same hE;exact Z19
 | some p =>
 rw[hU]at rR;have hE0:Tr.jS T x u a=if x=0 then 1 else if u∈Tr.sub T 64 x then 3 else if a<0\/((Tr.wo p.kids x).length:Int)<a then 1 else if 63<Tr.dep T u+1+Tr.hgt T 64 x then 5 else 0:=by unfold Tr.jS;rw[hX,hU]
 by_cases h0:x=0
 . have hE:Tr.jS T x u a=1:=by rw[hE0,if_pos h0]
   rw[hE,same _ hE aN];have HR:=ah h;clear h same hE hE0;subst h0;exact Z19
 rw[if_neg h0]at hE0;have h0b:(x==0)=false:=by simpa using h0
 have yM:=PY (y:=u) h.rep (h.wf.iO hX);by_cases hm:u∈Tr.sub T 64 x
 . have hE:Tr.jS T x u a=3:=by rw[hE0,if_pos hm]
   rw[hE,same _ hE aN];have hd:decide (u∈Tr.sub T 64 x)=true:=by simpa using hm
   rw[hd]at yM;have HR:=ah h;clear h same hE hE0 hm hd;exact Z1g
 rw[if_neg hm]at hE0;have hd:decide (u∈Tr.sub T 64 x)=false:=by simpa using hm
 rw[hd]at yM;have KO:=ah λW (hb:Below w w W)=>MI (h.rep.after hb) hU hxw;have hup:jP T x=nd.up:=by unfold jP;rw[hX]
 rw[hup,<-h.wf.others hX hU h0]at KO;by_cases hr:a<0\/((Tr.wo p.kids x).length:Int)<a
 . have hE:Tr.jS T x u a=1:=by rw[hE0,if_pos hr]
   rw[hE,same _ hE aN];have HR:=ah h;clear h same hE hE0 hm hd hup;generalize (Tr.wo p.kids x).length=m at *;rcases hr with hr|hr
   . exact Z1g
   . have hr0:¬ a<0:=by omega
     go_enter Tryz.func59,Tryz.ntmps59
     go_wp2_with (first|(go_at_call 48;first|((with_reducible refine key.mono ?_);rintro e w' ⟨rfl,rfl⟩)|((with_reducible refine rR.mono ?_);rintro e w' ⟨rfl,rfl⟩))|(go_at_call 89;(with_reducible refine yM.mono ?_);rintro e w1 ⟨rfl,hb1⟩)|(go_at_call 90;(with_reducible refine(KO.out _ hb1).mono ?_);rintro e w' ⟨rfl,rfl⟩))
     exact Z30
 rw[if_neg hr]at hE0;have hr0:¬ a<0:=λe=>hr (.inl e);have hr1:¬ ((Tr.wo p.kids x).length:Int)<a:=λe=>hr (.inr e);obtain⟨d,hd1,hd2,hd3⟩:=h.wf.jo hU;have KD:=ah λW (hb:Below w w W)=>Ce (h.rep.after hb) (λ_ q=>h.wf.iF q) hd2 ak;have KH:=ah λW (hb:Below w w W)=>MJ 64 x ak (h.rep.after hb) (h.wf.iO hX);have ake:=XB (h.wf.iO hX);rw[hd3]at hE0;have hw1:IntKind.i64.wrap ((d:Int)+1)=(d:Int)+1:=by rw[IntWalk.i64_in _ ak]
 have hw2:IntKind.i64.wrap ((d:Int)+1+(Tr.hgt T 64 x:Int))=(d:Int)+1+(Tr.hgt T 64 x:Int):=by rw[IntWalk.i64_in _ ak]
 by_cases hdd:63<(d:Int)+1+(Tr.hgt T 64 x:Int)
 . have hE:Tr.jS T x u a=5:=by rw[hE0,if_pos hdd]
   rw[hE,same _ hE aN];have HR:=ah h;clear h same hE hE0 hm hd hup hd2 hd3 hr;generalize (Tr.wo p.kids x).length=m at *;generalize Tr.hgt T 64 x=g at *;go_enter Tryz.func59,Tryz.ntmps59
   go_wp2_with (first|(go_at_call 48;first|((with_reducible refine key.mono ?_);rintro e w' ⟨rfl,rfl⟩)|((with_reducible refine rR.mono ?_);rintro e w' ⟨rfl,rfl⟩))|(go_at_call 89;(with_reducible refine yM.mono ?_);rintro e w1 ⟨rfl,hb1⟩)|(go_at_call 90;(with_reducible refine(KO.out _ hb1).mono ?_);rintro e w' ⟨rfl,rfl⟩)|(go_at_call 52;(with_reducible refine(KD.out _ hb1).mono ?_);rintro e w' ⟨rfl,rfl⟩)|(go_at_call 91;(with_reducible refine(KH.out _ hb1).mono ?_);rintro e w' ⟨rfl,rfl⟩))
   exact Z30
 . rw[if_neg hdd]at hE0
   have hR:Tr.mQ T x u a=Tr.mP T x u a.toNat:=by unfold Tr.mQ;rw[hE0,if_pos rfl]
   have Sg:=h.wf.mQ x u a;rw[hE0,hR];rw[hR]at Sg;obtain⟨q,hq,hqm⟩:=h.wf.up x nd hX h0;obtain⟨i,hi⟩:=List.mem_iff_getElem?.1 hqm;have hxu:u≠x:=λe=>hm (h.wf.sU hX h0 e);have KL:=ah λW (hb:Below w w W)=>EM (h.rep.after hb) hX hq hi (h.wf.nodup _ _ hq);have hll:=XL h.wf hX h0 hU hm;have hos:=h.wf.jm;have KE:=ah λW L' (hb:fE W t L' (Tr.leave T x) n)=>EN hb (adH h.wf hX h0 hU hm) (adG h.wf hX h0 hU hm) hxu (i:=a.toNat) (by simp only;omega) (by simp only;omega);rw[Int.toNat_of_nonneg ak]at KE;have XM:=ah Sg;have HN:=ah h.num;clear h same hE0 hm hd hup hd2 hd3 hr hR Sg hq hqm hi hll hos hX hU;unfold Tr.mP;generalize (Tr.wo p.kids x).length=m at *;generalize Tr.hgt T 64 x=g at *;go_enter Tryz.func59,Tryz.ntmps59
   go_wp2_with (first|(go_at_call 48;first|((with_reducible refine key.mono ?_);rintro e w' ⟨rfl,rfl⟩)|((with_reducible refine rR.mono ?_);rintro e w' ⟨rfl,rfl⟩))|(go_at_call 89;(with_reducible refine yM.mono ?_);rintro e w1 ⟨rfl,hb1⟩)|(go_at_call 90;(with_reducible refine(KO.out _ hb1).mono ?_);rintro e w' ⟨rfl,rfl⟩)|(go_at_call 52;(with_reducible refine(KD.out _ hb1).mono ?_);rintro e w' ⟨rfl,rfl⟩)|(go_at_call 91;(with_reducible refine(KH.out _ hb1).mono ?_);rintro e w' ⟨rfl,rfl⟩)|(go_at_call 87;(with_reducible refine(KL.out _ hb1).mono ?_);rintro e w2 ⟨⟨v,rfl⟩,L2,hr2,hg2⟩)|(go_at_call 54;(with_reducible refine(KE.out _ _ hr2).mono ?_);rintro e w3 ⟨⟨v,rfl⟩,L3,hr3,hg3⟩))
   go_ret
   exact⟨rfl,L3,⟨hr3,XM.out.1,XM.out.2.trans HN.out⟩,(Grow.of_below hb1).trans (hg2.trans hg3)⟩
theorem Si(T:Tr.T)(l:List Int){k:Nat}(hz:l[k]? = some z):Tr.del (Tr.del T (l.take k)) [z]=Tr.del T (l.take (k+1)):=by
 funext y;have:y∈l.take (k+1)↔y∈l.take k\/y=z:=by rw[List.take_add_one,hz];simp
 simp only[Tr.del,List.mem_singleton,this];by_cases h1:y=z<;>by_cases h2:y∈l.take k<;>simp[h1,h2]
theorem DK(T:Tr.T):Tr.del T []=T:=by funext y;simp[Tr.del]
theorem UF{t:Nat}{T:Tr.T}(h:owned t L (Tr.del T l) b):owned t L T b:=by
 rcases h with h|h|⟨z,nd,hz,h⟩
 . exact .inl h
 . exact .inr (.inl h)
 . refine .inr (.inr ⟨z,nd,?_,h⟩)
   unfold Tr.del at hz;split at hz
   . cases hz
   . exact hz
structure Kept(W:World)(t:Nat)(L:Lay)(T:Tr.T)(v:Value)(l:List Int):Prop where
 row:KS W v l
 own:∀g,v.ownBlock=some g->¬ owned t L T g
theorem Kept.grow{t:Nat}{L L':Lay}{T T':Tr.T}(h:Kept W t L T v l)(k:Grow t L L' T T' W W'):Kept W' t L' T' v l :=
 ⟨h.row.out h.own k.1,λg hg ho=>(k.2 g ho).elim (h.own g hg) λq=>absurd (h.row.lt hg) ak⟩
theorem Kept.after{t:Nat}{T:Tr.T}(h:Kept W t L T v l)(hb:Below W W W'):Kept W' t L T v l:=⟨h.row.after hb,h.own⟩
theorem Kept.new{t n base:Nat}{T:Tr.T}(hR:fE W t L T n)(h:W'.ownsRow base 3 1 v l.length (l.map (Value.int .i64)))(hb:W.heap.size<=base):Kept W' t L T v l :=
 ⟨fD h qh,λg hg ho=>by have h1:=(World.ownsRow.lt h g hg).1;have h2:=hR.lt ho;omega⟩
theorem MW{T:Tr.T}(h:Inv w t L T n){x:Int}(hxw:Wf x):Calls ja0 57 #[t,x] w λe w'=>e=.returned (.tuple #[Tr.x9 T x,Tr.rV T x])/\∃L' n',Inv w' t L' (Tr.nX T x) n'/\n'<=n/\Grow t L L' T (Tr.nX T x) w w':=by
 have key:=gH h.rep hxw;have same:∀e,Tr.rV T x=e->e≠0->Tr.nX T x=T/\Tr.x9 T x=0:=λe he hne=>by unfold Tr.nX Tr.x9;rw[he,if_neg hne,if_neg hne];exact⟨rfl,rfl⟩
 cases hX:T x with
 | none =>
   have hE:Tr.rV T x=2:=by unfold Tr.rV;rw[hX]
   rw[hE,(same _ hE aN).1,(same _ hE aN).2];rw[hX]at key;have HR:=ah h;clear h same hE;exact Z2w
 | some nd =>
 rw[hX]at key;by_cases h0:x=0
 . have hE:Tr.rV T x=1:=by unfold Tr.rV;rw[hX];dsimp only;rw[if_pos h0]
   rw[hE,(same _ hE aN).1,(same _ hE aN).2];have HR:=ah h;clear h same hE;subst h0;exact Z2w
 have h0b:(x==0)=false:=by simpa using h0
 have hE:Tr.rV T x=0:=by unfold Tr.rV;rw[hX];dsimp only;rw[if_neg h0]
 have hI:Tr.x9 T x=(Tr.sub T 64 x).length:=by unfold Tr.x9;rw[hE,if_pos rfl]
 have hR:Tr.nX T x=Tr.del (Tr.leave T x) (Tr.sub T 64 x):=by unfold Tr.nX;rw[hE,if_pos rfl];rfl
 have Sg:=h.wf.nX x;rw[hE,hI,hR];rw[hI,hR]at Sg;obtain⟨q,hq,hqm⟩:=h.wf.up x nd hX h0;obtain⟨i,hi⟩:=List.mem_iff_getElem?.1 hqm;have nY:=EM h.rep hX hq hi (h.wf.nodup _ _ hq);obtain⟨hfit,hsub,_⟩:=h.wf.TY hX h0;have hnd:=h.wf.Bn (h.wf.iO hX)
 have hlive:∀z,z∈Tr.sub T 64 x->Tr.leave T x z≠none:=λz hz=>by
  obtain⟨zd,hzd⟩:=((h.wf.iN (h.wf.iO hX)).1 hz).live;rw[Tr.qp hX hq];split
  . simp
  . rw[hzd];simp
 have hlen:(Tr.sub T 64 x).length<=n:=by have:=h.wf.DF hX h0;have:=h.num;omega
 have hos:=h.wf.jm;have hn:=h.num;have KC:=ah λW L' tb ib (hb:fE W t L' (Tr.leave T x) n) htb hib=>Cg (tb:=tb) (ib:=ib) hb hfit (by rw[hsub];omega) htb hib;rw[hsub]at KC;have HN:=ah hn;have XM:=ah Sg;have HND:=ah hnd;have afM:=ah hlive;have hn4:n<=4096:=by omega
 clear h same hE hI hR Sg hq hqm hi hX hfit hsub hnd hos hn hlive h0;generalize Tr.sub T 64 x=l at *;generalize Tr.leave T x=T1 at *;generalize hm:l.length=m at *;have HM:=ah hm;clear hm;go_enter Tryz.func57,Tryz.ntmps57
 go_upto_region 7 with(first|(go_at_call 48;(with_reducible refine key.mono ?_);rintro e w' ⟨rfl,rfl⟩)|(go_at_call 87;(with_reducible refine nY.mono ?_);rintro e w1 ⟨⟨v,rfl⟩,L1,hr1,hg1⟩;have HR1:=ah hr1;have HG1:=ah hg1;clear hr1 hg1)|(go_at_call 47;(with_reducible refine(xL _ _ _).mono ?_);rintro e w2 ⟨rfl,rfl⟩)|(go_at_call 46;(with_reducible refine(KC.out _ _ _ _ (HR1.out.after (aD (aD aG _) _)) ((At.new w1 _).alloc _) (At.new' (b:=w1.heap.size+1) _ bI)).mono ?_);rintro e w3 ⟨⟨v3,rfl,ho⟩,hb3⟩))
 have uO:=(aD (aD (Below.refl w1.heap.size w1) (.cells #[t] 24)) (.cells #[x] 3)).trans (hb3.mono jB);have hr3:=HR1.out.after uO;have hK:Kept w3 t L1 T1 v3 l:=Kept.new HR1.out (by rw[HM.out];exact ho) jB;have HG3:=ah (HG1.out.trans (Grow.of_below uO));have HR3:=ah hr3;have HK3:=ah hK;obtain⟨A,c,hv,_⟩:=hK.row.ints;rw[HM.out]at hv;subst hv;clear HG1 HR1 ho hb3 uO hr3 hK KC key nY;go_wp2
 go_loopw [26] (λi wr=>∃k:Nat,k<=m/\i=.int .i64 k/\fE wr t L1 (Tr.del T1 (l.take k)) (n-k)/\Kept wr t L1 T1 (.slice A m c) l/\Grow t L1 L1 T1 (Tr.del T1 (l.take k)) w3 wr) (λi _=>m-(intOf i).toNat)
 case atStart=>exact⟨0,by omega,rfl,by rw[List.take_zero,DK];exact HR3.out,HK3.out,by rw[List.take_zero,DK];exact Grow.refl _ _ _ _⟩
 case round =>
  obtain⟨k,hk,rfl,hRr,hKr,hGr⟩:=hrel;by_cases hlt:k<m
  . have hltz:(k:Int)<(m:Int):=by omega
    obtain⟨b,o,rfl,lb,hcell⟩:=(KS.xM hKr.row).1.at_ (k:=k) Z4j;have hgk:l[k]? = some (l.getD k 0):=by rw[List.getD,ja6 Z4j];rfl
    have hzl:l.getD k 0∈l:=List.mem_iff_getElem?.2 ⟨k,hgk⟩;have hlv:Tr.del T1 (l.take k) (l.getD k 0)≠none:=by
     have hnt:l.getD k 0 ∉ l.take k:=λhm=>by
      obtain⟨j,hj⟩:=List.mem_iff_getElem?.1 hm;have hjk:j<k:=by
       obtain⟨hj2,_⟩:=List.getElem?_eq_some_iff.1 hj;simp at hj2;omega
      rw[List.getElem?_take,if_pos hjk]at hj;obtain⟨h1,h2⟩:=List.getElem?_eq_some_iff.1 hj;obtain⟨h3,h4⟩:=List.getElem?_eq_some_iff.1 hgk;have:=(List.getElem_inj HND.out).1 (h2.trans h4.symm);omega
     unfold Tr.del;rw[if_neg hnt];exact afM.out _ hzl
    have hdd:=Si T1 l hgk;generalize l.getD k 0=z at *;obtain⟨zd,hzd⟩:=Option.ne_none_iff_exists'.1 hlv;obtain⟨W',hdel,hp,hO,_⟩:=hRr.map.drop (hRr.wf hzd) (by rw[hzd];rfl) 0;obtain⟨hr2,hg2⟩:=hRr.drop hO hp;rw[hdd]at hr2 hg2;have c0:=hRr.cT;have hR2:=ah hr2;have hG2:=ah (hGr.trans hg2);have hK2:=ah (hKr.grow (T':=T1) (L':=L1) ⟨hg2.1.mono λb _ ho=>UF ho,λb ho => .inl ho⟩);clear hRr hKr hGr hr2 hg2 hdd hp hO hzd hlv hzl hgk;go_wp2
    go_round
    case rel=>exact⟨k+1,by omega,by go_num,by rw[show n-(k+1)=n-k-1 by omega];exact hR2.out,hK2.out,hG2.out⟩
    case measure=>simp[intOf];omega
  . obtain rfl:k=m:=by omega
    go_wp2
    go_ret2
    rw[List.take_of_length_le (by rw[HM.out];exact aO _)]at hRr hGr;refine⟨rfl,L1,n-k,⟨hRr,XM.out.1,?_⟩,by omega,HG3.out.trans hGr⟩;have h1:=XM.out.2;have h2:=HN.out;omega
def EO(L:Lay)(T:Tr.T)(b:Nat):Prop:=b=L.mb\/∃z nd,T z=some nd/\(b=L.bl z\/(L.sl z).ownBlock=some b)
structure P8(W:World)(L:Lay)(T:Tr.T)(n0 m:Nat):Prop where
 map:PM W L.mb m (λz=>(T z).map λ_=>L.bl z)
 box:∀z nd,T z=some nd->At W (L.bl z) (.cells (dN nd.up (L.sl z) nd.sty) 116)
 row:∀z nd,T z=some nd->KS W (L.sl z) nd.kids
 inj:∀y z,T y≠none->T z≠none->L.bl y=L.bl z->y=z
 apart:∀y z g,T y≠none->T z≠none->(L.sl y).ownBlock=some g->(L.sl z).ownBlock=some g->y=z
 new:∀b,EO L T b->n0<=b
section
variable {W W':World} {L:Lay} {T:Tr.T} {n0 m:Nat}
theorem P8.out{M:Nat->Prop}(h:P8 W L T n0 m)(hm:∀b,EO L T b->¬ M b)(k:Out M W W'):P8 W' L T n0 m where
 map:=h.map.out (hm _ (.inl rfl)) k
 box:=λz nd hz=>(h.box z nd hz).out (hm _ (.inr ⟨z,nd,hz,.inl rfl⟩)) k
 row:=λz nd hz=>(h.row z nd hz).out (λg hg=>hm _ (.inr ⟨z,nd,hz,.inr hg⟩)) k
 inj:=h.inj
 apart:=h.apart
 new:=h.new
theorem P8.after(h:P8 W L T n0 m)(hb:Below W W W'):P8 W' L T n0 m:=h.out (M:=λ_=>False) (λ_ _ q=>q) (Out.of_below hb)
theorem P8.lt(h:P8 W L T n0 m)(hb:EO L T b):b<W.heap.size:=by
 rcases hb with rfl|⟨z,nd,hz,rfl|hg⟩
 . exact h.map.lt
 . exact(h.box z nd hz).lt
 . exact(h.row z nd hz).lt hg
theorem P8.IB(h:P8 W L T n0 m){nd:Tr.Nd}(hz:T z=some nd):L.bl z≠L.mb:=λe=>by
 obtain⟨es,clock,hm⟩:=h.map.obj;have:=(h.box z nd hz).uniq (e▸hm);cases this
theorem P8.Sb(h:P8 W L T n0 m){nd:Tr.Nd}(hz:T z=some nd):(L.sl z).ownBlock≠some L.mb:=λe=>by
 obtain⟨es,clock,hm⟩:=h.map.obj;obtain⟨cur,hc⟩:=(h.row z nd hz).rowAt e;have:=hc.uniq hm;cases this
theorem P8.add(h:P8 W L T n0 m){u:Int}(hz:T z=none)(hb:At W b (.cells (dN u v s) 116))(hv:KS W v l)
  (hb0:n0<=b) (hv0:∀g,v.ownBlock=some g->n0<=g) (hnew:¬ EO L T b) (XO:∀g,v.ownBlock=some g->¬ EO L T g) (hO:Out (λx=>x=L.mb) W W') (hm:PM W' L.mb (m+1) (PO (λz=>(T z).map λ_=>L.bl z) z b)) :
  P8 W' { L with bl:=λy=>if y=z then b else L.bl y,sl:=λy=>if y=z then v else L.sl y } (Tr.set T z ⟨u,l,s⟩) n0 (m+1):=by
 have hne:∀y yd,T y=some yd->y≠z:=λy yd hy e=>by rw[e,hz]at hy;cases hy
 have hbm:b≠L.mb:=λe=>hnew (.inl e);have old:∀y,y≠z->(Tr.set T z ⟨u,l,s⟩ y≠none->T y≠none):=λy e=>by rw[Tr.aT _ _ e];exact id
 refine⟨hm.congr λy _ => ?_,λy yd hy => ?_,λy yd hy => ?_,λx y hx hy => ?_,λx y g hx hy => ?_,λx hx => ?_⟩
 . unfold PO
   by_cases e:y=z
   . subst e;simp[Tr.aX]
   . simp[e,Tr.aT _ _ e]
 . exact Z2q
 . by_cases e:y=z
   . subst e;rw[Tr.aX]at hy;cases hy
     simp only[if_true];exact hv.out (λg hg (q:g=L.mb)=>XO g hg (.inl q)) hO
   . rw[Tr.aT _ _ e]at hy
     simp only[if_neg e];exact(h.row y yd hy).out (λg hg (q:g=L.mb)=>h.Sb hy (by rw[hg,q])) hO
 . by_cases ex:x=z<;>by_cases ey:y=z
   . intro _;rw[ex,ey]
   . simp only[if_pos ex,if_neg ey]
     obtain⟨yd,Sc⟩:=Option.ne_none_iff_exists'.1 (old y ey hy);exact λe=>(hnew (.inr ⟨y,yd,Sc,.inl e⟩)).elim
   . simp only[if_neg ex,if_pos ey]
     obtain⟨xd,hxd⟩:=Option.ne_none_iff_exists'.1 (old x ex hx);exact λe=>(hnew (.inr ⟨x,xd,hxd,.inl e.symm⟩)).elim
   . simp only[if_neg ex,if_neg ey]
     exact h.inj x y (old x ex hx) (old y ey hy)
 . by_cases ex:x=z<;>by_cases ey:y=z
   . intro _ _;rw[ex,ey]
   . simp only[if_pos ex,if_neg ey]
     obtain⟨yd,Sc⟩:=Option.ne_none_iff_exists'.1 (old y ey hy);exact λe1 e2=>(XO g e1 (.inr ⟨y,yd,Sc,.inr e2⟩)).elim
   . simp only[if_neg ex,if_pos ey]
     obtain⟨xd,hxd⟩:=Option.ne_none_iff_exists'.1 (old x ex hx);exact λe1 e2=>(XO g e2 (.inr ⟨x,xd,hxd,.inr e1⟩)).elim
   . simp only[if_neg ex,if_neg ey]
     exact h.apart x y g (old x ex hx) (old y ey hy)
 . rcases hx with e|⟨y,yd,hy,e⟩
   . exact h.new x (.inl e)
   . by_cases e2:y=z
     . subst e2
       simp only[if_true]at e;rcases e with rfl|e
       . exact hb0
       . exact hv0 x e
     . rw[Tr.aT _ _ e2]at hy
       simp only[if_neg e2]at e;exact h.new x (.inr ⟨y,yd,hy,e⟩)
end
theorem jr{S:World->Prop}(hw:Region.wanted o (yielded ops a.tmps)=true)(x:Operand)(ho:o.op=.load 59 x){b k:Nat}(hx:a.eval x=.pointer (some ⟨b,k,none⟩))(hs:∀w,S w->vN w b k s):aj.Reads ja0 ops S o (.agg (cells s)) a :=
 .inl ⟨hw,λw h=>by unfold execOp;simp only[ho,hx,Sem.run_bind,MH (hs w h),Result.andThen_ok,Sem.run_pure]⟩
end
section
open World renaming setCell → ja4,alloc → ja5
theorem zL{a b c d a' b' c' d':Int}(h1:a=a')(h2:b=b')(h3:c=c')(h4:d=d'):Ending.returned (.agg #[.int .i64 a,.int .i64 b,.int .i64 c,.int .i64 d])=.returned (.agg #[a',b',c',d']):=by rw[h1,h2,h3,h4]
theorem P9(k0 n0 k1 n1 k2 n2 k3 n3 base:Int)(w:World):Calls ja0 148 #[.agg #[k0,n0,k1,n1,k2,n2,k3,n3],base] w λe w'=>e=.returned (.agg #[Fx.len k0 n0 base 0,Fx.len k1 n1 base 0,Fx.len k2 n2 base 0,Fx.len k3 n3 base 0])/\Below w w w':=by
 have i0:∀w:World,(Instr.index 51 (.agg #[k0,n0,k1,n1,k2,n2,k3,n3]) (.int .i64 0)).run ja0 w=.ok (.agg #[k0,n0]) w:=λ_=>by kernel_rfl
 have i1:∀w:World,(Instr.index 51 (.agg #[k0,n0,k1,n1,k2,n2,k3,n3]) (.int .i64 1)).run ja0 w=.ok (.agg #[k1,n1]) w:=λ_=>by kernel_rfl
 have i2:∀w:World,(Instr.index 51 (.agg #[k0,n0,k1,n1,k2,n2,k3,n3]) (.int .i64 2)).run ja0 w=.ok (.agg #[k2,n2]) w:=λ_=>by kernel_rfl
 have i3:∀w:World,(Instr.index 51 (.agg #[k0,n0,k1,n1,k2,n2,k3,n3]) (.int .i64 3)).run ja0 w=.ok (.agg #[k3,n3]) w:=λ_=>by kernel_rfl
 go_enter Tryz.func148,Tryz.ntmps148
 go_upto_region 2 with(fail)
 (generalize hW:ja5 (ja5 (ja5 w _) _) _=W0;have A0:At W0 (w.heap.size) (.cells #[k0,n0,k1,n1,k2,n2,k3,n3] 51):=WL;have A1:At W0 (w.heap.size+1) (.cells #[(),(),(),()] 52):=TM;have A2:At W0 (w.heap.size+1+1) (.cells #[(),(),(),()] 52):=TN;have hB:Below w w W0:=Z44;clear hW;obtain⟨l0,aA,aB,aY,dP,iX,iY,nL,qQ⟩:=At.eight A0;obtain⟨l1,aH,aJ,dn,dw⟩:=At.four A1;have dZ:=A1.thaw 0;have eu:=A1.thaw 1;have eO:=A1.thaw 2;have eP:=A1.thaw 3;obtain⟨l2,aL,aM,aP,aQ⟩:=At.four A2;have gJ:=A2.thaw 0;have gM:=A2.thaw 1;have gN:=A2.thaw 2;have gP:=A2.thaw 3)
 go_wp2;clear l0 aA aB aY dP iX iY nL qQ A0;refine wp_loop_rounds 5 ?_;rw[rounds_succ]
 go_upto_region 5 with(fail)
 (generalize hW:ja5 _ _=W1;clear l1 aH aJ dn dw dZ eu eO eP l2 aL aM aP aQ gJ gM gN gP;have A3:At W1 _ _:=hW▸At.new _ _;replace A1:At W1 _ _:=hW▸At.alloc A1 _;replace A2:At W1 _ _:=hW▸At.alloc A2 _;replace hB:Below w w W1:=hW▸aD hB _;clear hW;obtain⟨l1,aH,aJ,dn,dw⟩:=At.four A1;have dZ:=A1.thaw 0;have eu:=A1.thaw 1;have eO:=A1.thaw 2;have eP:=A1.thaw 3;obtain⟨l2,aL,aM,aP,aQ⟩:=At.four A2;have gJ:=A2.thaw 0;have gM:=A2.thaw 1;have gN:=A2.thaw 2;have gP:=A2.thaw 3;obtain⟨l3,aZ,bq⟩:=At.two A3)
 go_upto_region 6 with(first|(go_at_call 107;(with_reducible refine(jF _ _ _ _ _).mono ?_);rintro e w' ⟨rfl,hb⟩;(clear l1 aH aJ dn dw dZ eu eO eP l2 aL aM aP aQ gJ gM gN gP l3 aZ bq);(replace hB:=Below.ay qj aF hb);replace A1:=At.keep qP hb;replace A2:=At.keep qW hb;replace A3:=At.keep zC hb;clear hb;obtain⟨l1,aH,aJ,dn,dw⟩:=At.four A1;have dZ:=A1.thaw 0;have eu:=A1.thaw 1;have eO:=A1.thaw 2;have eP:=A1.thaw 3;obtain⟨l2,aL,aM,aP,aQ⟩:=At.four A2;have gJ:=A2.thaw 0;have gM:=A2.thaw 1;have gN:=A2.thaw 2;have gP:=A2.thaw 3;obtain⟨l3,aZ,bq⟩:=At.two A3))
 generalize hW:ja4 _ _ _=W2;clear l1 aH aJ dn dw dZ eu eO eP l2 aL aM aP aQ gJ gM gN gP l3 aZ bq A3;replace A2:At W2 (w.heap.size+1+1) (.cells #[Fx.len k0 n0 base 0,(),(),()] 52):=hW▸At.set A2 0 _;replace A1:At W2 (w.heap.size+1) _:=hW▸At.off A1 ak 0 _;replace hB:Below w w W2:=hW▸Below.setCell hB jB _;clear hW;obtain⟨l1,aH,aJ,dn,dw⟩:=At.four A1;obtain⟨l2,aL,aM,aP,aQ⟩:=At.four A2;have dZ:=A1.thaw 0;have eu:=A1.thaw 1;have eO:=A1.thaw 2;have eP:=A1.thaw 3;have gJ:=A2.thaw 0;have gM:=A2.thaw 1;have gN:=A2.thaw 2;have gP:=A2.thaw 3;go_wp2;rw[rounds_succ]
 go_upto_region 5 with(fail)
 (generalize hW:ja5 _ _=W1;clear l1 aH aJ dn dw dZ eu eO eP l2 aL aM aP aQ gJ gM gN gP;have A3:At W1 _ _:=hW▸At.new _ _;replace A1:At W1 _ _:=hW▸At.alloc A1 _;replace A2:At W1 _ _:=hW▸At.alloc A2 _;replace hB:Below w w W1:=hW▸aD hB _;clear hW;obtain⟨l1,aH,aJ,dn,dw⟩:=At.four A1;have dZ:=A1.thaw 0;have eu:=A1.thaw 1;have eO:=A1.thaw 2;have eP:=A1.thaw 3;obtain⟨l2,aL,aM,aP,aQ⟩:=At.four A2;have gJ:=A2.thaw 0;have gM:=A2.thaw 1;have gN:=A2.thaw 2;have gP:=A2.thaw 3;obtain⟨l3,aZ,bq⟩:=At.two A3)
 go_upto_region 6 with(first|(go_at_call 107;(with_reducible refine(jF _ _ _ _ _).mono ?_);rintro e w' ⟨rfl,hb⟩;(clear l1 aH aJ dn dw dZ eu eO eP l2 aL aM aP aQ gJ gM gN gP l3 aZ bq);(replace hB:=Below.ay qj aF hb);replace A1:=At.keep qP hb;replace A2:=At.keep qW hb;replace A3:=At.keep zC hb;clear hb;obtain⟨l1,aH,aJ,dn,dw⟩:=At.four A1;have dZ:=A1.thaw 0;have eu:=A1.thaw 1;have eO:=A1.thaw 2;have eP:=A1.thaw 3;obtain⟨l2,aL,aM,aP,aQ⟩:=At.four A2;have gJ:=A2.thaw 0;have gM:=A2.thaw 1;have gN:=A2.thaw 2;have gP:=A2.thaw 3;obtain⟨l3,aZ,bq⟩:=At.two A3))
 generalize hW:ja4 _ _ _=W2;clear l1 aH aJ dn dw dZ eu eO eP l2 aL aM aP aQ gJ gM gN gP l3 aZ bq A3;replace A2:At W2 (w.heap.size+1+1) (.cells #[Fx.len k0 n0 base 0,Fx.len k1 n1 base 0,(),()] 52):=hW▸At.set A2 1 _;replace A1:At W2 (w.heap.size+1) _:=hW▸At.off A1 ak 1 _;replace hB:Below w w W2:=hW▸Below.setCell hB jB _;clear hW;obtain⟨l1,aH,aJ,dn,dw⟩:=At.four A1;obtain⟨l2,aL,aM,aP,aQ⟩:=At.four A2;have dZ:=A1.thaw 0;have eu:=A1.thaw 1;have eO:=A1.thaw 2;have eP:=A1.thaw 3;have gJ:=A2.thaw 0;have gM:=A2.thaw 1;have gN:=A2.thaw 2;have gP:=A2.thaw 3;go_wp2;rw[rounds_succ]
 go_upto_region 5 with(fail)
 (generalize hW:ja5 _ _=W1;clear l1 aH aJ dn dw dZ eu eO eP l2 aL aM aP aQ gJ gM gN gP;have A3:At W1 _ _:=hW▸At.new _ _;replace A1:At W1 _ _:=hW▸At.alloc A1 _;replace A2:At W1 _ _:=hW▸At.alloc A2 _;replace hB:Below w w W1:=hW▸aD hB _;clear hW;obtain⟨l1,aH,aJ,dn,dw⟩:=At.four A1;have dZ:=A1.thaw 0;have eu:=A1.thaw 1;have eO:=A1.thaw 2;have eP:=A1.thaw 3;obtain⟨l2,aL,aM,aP,aQ⟩:=At.four A2;have gJ:=A2.thaw 0;have gM:=A2.thaw 1;have gN:=A2.thaw 2;have gP:=A2.thaw 3;obtain⟨l3,aZ,bq⟩:=At.two A3)
 go_upto_region 6 with(first|(go_at_call 107;(with_reducible refine(jF _ _ _ _ _).mono ?_);rintro e w' ⟨rfl,hb⟩;(clear l1 aH aJ dn dw dZ eu eO eP l2 aL aM aP aQ gJ gM gN gP l3 aZ bq);(replace hB:=Below.ay qj aF hb);replace A1:=At.keep qP hb;replace A2:=At.keep qW hb;replace A3:=At.keep zC hb;clear hb;obtain⟨l1,aH,aJ,dn,dw⟩:=At.four A1;have dZ:=A1.thaw 0;have eu:=A1.thaw 1;have eO:=A1.thaw 2;have eP:=A1.thaw 3;obtain⟨l2,aL,aM,aP,aQ⟩:=At.four A2;have gJ:=A2.thaw 0;have gM:=A2.thaw 1;have gN:=A2.thaw 2;have gP:=A2.thaw 3;obtain⟨l3,aZ,bq⟩:=At.two A3))
 generalize hW:ja4 _ _ _=W2;clear l1 aH aJ dn dw dZ eu eO eP l2 aL aM aP aQ gJ gM gN gP l3 aZ bq A3;replace A2:At W2 (w.heap.size+1+1) (.cells #[Fx.len k0 n0 base 0,Fx.len k1 n1 base 0,Fx.len k2 n2 base 0,()] 52):=hW▸At.set A2 2 _;replace A1:At W2 (w.heap.size+1) _:=hW▸At.off A1 ak 2 _;replace hB:Below w w W2:=hW▸Below.setCell hB jB _;clear hW;obtain⟨l1,aH,aJ,dn,dw⟩:=At.four A1;obtain⟨l2,aL,aM,aP,aQ⟩:=At.four A2;have dZ:=A1.thaw 0;have eu:=A1.thaw 1;have eO:=A1.thaw 2;have eP:=A1.thaw 3;have gJ:=A2.thaw 0;have gM:=A2.thaw 1;have gN:=A2.thaw 2;have gP:=A2.thaw 3;go_wp2;rw[rounds_succ]
 go_upto_region 5 with(fail)
 (generalize hW:ja5 _ _=W1;clear l1 aH aJ dn dw dZ eu eO eP l2 aL aM aP aQ gJ gM gN gP;have A3:At W1 _ _:=hW▸At.new _ _;replace A1:At W1 _ _:=hW▸At.alloc A1 _;replace A2:At W1 _ _:=hW▸At.alloc A2 _;replace hB:Below w w W1:=hW▸aD hB _;clear hW;obtain⟨l1,aH,aJ,dn,dw⟩:=At.four A1;have dZ:=A1.thaw 0;have eu:=A1.thaw 1;have eO:=A1.thaw 2;have eP:=A1.thaw 3;obtain⟨l2,aL,aM,aP,aQ⟩:=At.four A2;have gJ:=A2.thaw 0;have gM:=A2.thaw 1;have gN:=A2.thaw 2;have gP:=A2.thaw 3;obtain⟨l3,aZ,bq⟩:=At.two A3)
 go_upto_region 6 with(first|(go_at_call 107;(with_reducible refine(jF _ _ _ _ _).mono ?_);rintro e w' ⟨rfl,hb⟩;(clear l1 aH aJ dn dw dZ eu eO eP l2 aL aM aP aQ gJ gM gN gP l3 aZ bq);(replace hB:=Below.ay qj aF hb);replace A1:=At.keep qP hb;replace A2:=At.keep qW hb;replace A3:=At.keep zC hb;clear hb;obtain⟨l1,aH,aJ,dn,dw⟩:=At.four A1;have dZ:=A1.thaw 0;have eu:=A1.thaw 1;have eO:=A1.thaw 2;have eP:=A1.thaw 3;obtain⟨l2,aL,aM,aP,aQ⟩:=At.four A2;have gJ:=A2.thaw 0;have gM:=A2.thaw 1;have gN:=A2.thaw 2;have gP:=A2.thaw 3;obtain⟨l3,aZ,bq⟩:=At.two A3))
 generalize hW:ja4 _ _ _=W2;clear l1 aH aJ dn dw dZ eu eO eP l2 aL aM aP aQ gJ gM gN gP l3 aZ bq A3;replace A2:At W2 (w.heap.size+1+1) (.cells #[Fx.len k0 n0 base 0,Fx.len k1 n1 base 0,Fx.len k2 n2 base 0,Fx.len k3 n3 base 0] 52):=hW▸At.set A2 3 _;replace A1:At W2 (w.heap.size+1) _:=hW▸At.off A1 ak 3 _;replace hB:Below w w W2:=hW▸Below.setCell hB jB _;clear hW;obtain⟨l1,aH,aJ,dn,dw⟩:=At.four A1;obtain⟨l2,aL,aM,aP,aQ⟩:=At.four A2;have dZ:=A1.thaw 0;have eu:=A1.thaw 1;have eO:=A1.thaw 2;have eP:=A1.thaw 3;have gJ:=A2.thaw 0;have gM:=A2.thaw 1;have gN:=A2.thaw 2;have gP:=A2.thaw 3;go_wp2;rw[rounds_succ];go_wp2;refine bodyPost_ret (v:=.agg #[_,_,_,_]) (by simp[results,Tryz.results148,go_sem, *];first|done|exact⟨rfl,rfl⟩|exact⟨rfl,rfl,rfl,rfl⟩|rfl) rfl ⟨zL rfl rfl rfl rfl,?_⟩;exact Z1
end
section
open Go.Joins
open List renaming getElem?_eq_getElem → ja6
variable {cs:List Value}{o n:Nat}
def yS(i:Nat)(v:Value):Prop:=if Re.uj i=true then ∃b,v=.bool b else ∃n:Int,v=.int .i64 n/\(Lit.int .i64 n).wf=true
def Fits(s:Re.St):Prop:=∀i,i<55->Re.uj i=false->(Lit.int .i64 (s.c i)).wf=true
theorem XP{i:Nat}{n:Int}(hb:Re.uj i=false)(h:(Lit.int .i64 n).wf=true):yS i (.int .i64 n):=by
 unfold yS;rw[if_neg (by simp[hb])];exact⟨n,rfl,h⟩
theorem UG{i:Nat}{b:Bool}(hb:Re.uj i=true):yS i (.bool b):=by
 unfold yS;rw[if_pos hb];exact⟨b,rfl⟩
theorem yT:Tryz.prog.cellsOf 3=1:=by kernel_rfl
theorem DL:Tryz.prog.cellsOf 4=1:=by kernel_rfl
theorem Kl:Tryz.prog.cellsOf 54=1:=by kernel_rfl
theorem EP:Tryz.prog.cellsOf 45=1:=by kernel_rfl
theorem ER:Tryz.prog.cellsOf 53=1:=by kernel_rfl
theorem ES:Tryz.prog.cellsOf 48=1:=by kernel_rfl
theorem C8:Tryz.prog.cellsOf 47=1:=by kernel_rfl
theorem Da:Tryz.prog.cellsOf 46=1:=by kernel_rfl
theorem Bz:Tryz.prog.cellsOf 56=1:=by kernel_rfl
theorem Db:Tryz.prog.cellsOf 55=1:=by kernel_rfl
theorem j6:Tryz.prog.cellsOf 50=2:=by kernel_rfl
theorem Ch:Tryz.prog.cellsOf 51=8:=by kernel_rfl
theorem Sj:Tryz.prog.cellsOf 52=4:=by kernel_rfl
theorem abr:Tryz.prog.cellsOf 57=2:=by kernel_rfl
theorem zM:Tryz.prog.cellsOf 59=55:=by kernel_rfl
theorem MX{v:Value}(h:(cs.drop o).take 1=[v]):cs[o]? = some v:=by
 have:=congrArg (λl:List Value=>l[0]?) h;simpa[List.getElem?_take,List.getElem?_drop]using this
theorem zN{o n j m:Nat}(h:j+m<=n):(((cs.drop o).take n).drop j).take m=(cs.drop (o+j)).take m:=by
 rw[List.drop_take,List.take_take,Nat.min_eq_left ak,List.drop_drop]
section
variable {H:Type} {enc:TypeId×Value->H} {w:World} {base:Nat} {spare:Nat->Bool} {held:Bool}
theorem eH{t:TypeId}{y:DataW H×List MemPlace}(ht:Tryz.prog.underlying t=some (.int .i64))(hb:Re.uj o=false)(h:DataW.trod enc ja0 w base spare held n t ((cs.drop o).take 1)=some y):∃v,cs[o]? = some v/\yS o v:=by
 obtain⟨a,e,_,wf⟩:=DataW.trod_int ht h;exact⟨_,MX e,XP hb wf⟩
theorem pW{y:DataW H×List MemPlace}(hb:Re.uj o=true)(h:DataW.trod enc ja0 w base spare held n 4 ((cs.drop o).take 1)=some y):∃v,cs[o]? = some v/\yS o v:=by
 obtain⟨a,e,_⟩:=DataW.trod_bool Tryz.underlying4 h;exact⟨_,MX e,UG hb⟩
theorem iZ{y:DataW H×List MemPlace}(h0:Re.uj o=false)(h1:Re.uj (o+1)=false)(h:DataW.trod enc ja0 w base spare held n 50 ((cs.drop o).take 2)=some y):(∃v,cs[o]? = some v/\yS o v)/\∃v,cs[o+1]? = some v/\yS (o+1) v:=by
 obtain⟨xs,k,rfl,_,_,hxl,hf⟩:=DataW.trod_struct Tryz.underlying50 h
 match xs,hxl with
 | [y0,y1],_ =>
   have g0:DataW.trod enc ja0 w base spare held k 48 ((((cs.drop o).take 2).drop 0).take (Tryz.prog.cellsOf 48))=some y0:=hf 0 _ rfl;have g1:DataW.trod enc ja0 w base spare held k 3 ((((cs.drop o).take 2).drop 1).take (Tryz.prog.cellsOf 3))=some y1:=hf 1 _ rfl;rw[ES,zN ak]at g0;rw[yT,zN ak]at g1;exact⟨eH Tryz.underlying48 h0 g0,eH Tryz.underlying3 h1 g1⟩
theorem yB{y:DataW H×List MemPlace}(hb:∀j,j<8->Re.uj (o+j)=false)(h:DataW.trod enc ja0 w base spare held n 51 ((cs.drop o).take 8)=some y):∀j,j<8->∃v,cs[o+j]? = some v/\yS (o+j) v:=by
 obtain⟨xs,k,rfl,_,_,hxl,hf⟩:=DataW.trod_array Tryz.underlying51 h;have key:∀i,i<4->(∃v,cs[o+i*2]? = some v/\yS (o+i*2) v)/\∃v,cs[o+i*2+1]? = some v/\yS (o+i*2+1) v:=by
  intro i hi;have g:=hf i hi;rw[j6,zN ak,ja6 ak]at g;exact iZ (hb (i*2) ak) (hb (i*2+1) ak) g
 intro j hj;have:j=j/2*2\/j=j/2*2+1:=by omega
 rcases this with e|e
 . rw[e];exact(key (j/2) ak).1
 . rw[e];exact(key (j/2) ak).2
theorem rZ{n m sz:Nat}{t:TypeId}{y:DataW H×List MemPlace}(ht:Tryz.prog.underlying t=some (.array m 3))(hb:∀j,j<m->Re.uj (o+j)=false)(h:DataW.trod enc ja0 w base spare held n t ((cs.drop o).take m)=some y):∀j,j<m->∃v,cs[o+j]? = some v/\yS (o+j) v:=by
 obtain⟨xs,k,rfl,_,_,hxl,hf⟩:=DataW.trod_array ht h;intro i hi;have g:=hf i hi;rw[yT,zN ak,ja6 ak,Nat.mul_one]at g;exact eH Tryz.underlying3 (hb i hi) g
set_option maxRecDepth 10000 in
theorem Qa{y:DataW H×List MemPlace}(h:DataW.trod enc ja0 w base spare held n 59 cs=some y):cs.length=55/\∀i,i<55->∃v,cs[i]? = some v/\yS i v:=by
 obtain⟨xs,k,rfl,_,hl,hxl,hf⟩:=DataW.trod_struct Tryz.underlying59 h;rw[zM]at hl;refine⟨hl,?_⟩;have ex:∀i,i<27->∃y,xs[i]? = some y:=λi hi=>⟨_,ja6 (by rw[hxl];exact hi)⟩;obtain⟨y0,q0⟩:=ex 0 aN;have g0:DataW.trod enc ja0 w base spare held k 45 ((cs.drop 0).take (Tryz.prog.cellsOf 45))=some y0:=(hf 0 _ rfl).trans q0;rw[EP]at g0;have r0:=eH (o:=0) Tryz.underlying45 rfl g0;obtain⟨y1,q1⟩:=ex 1 aN;have g1:DataW.trod enc ja0 w base spare held k 46 ((cs.drop 1).take (Tryz.prog.cellsOf 46))=some y1:=(hf 1 _ rfl).trans q1;rw[Da]at g1;have r1:=eH (o:=1) Tryz.underlying46 rfl g1;obtain⟨y2,q2⟩:=ex 2 aN;have g2:DataW.trod enc ja0 w base spare held k 47 ((cs.drop 2).take (Tryz.prog.cellsOf 47))=some y2:=(hf 2 _ rfl).trans q2;rw[C8]at g2;have r2:=eH (o:=2) Tryz.underlying47 rfl g2;obtain⟨y3,q3⟩:=ex 3 aN;have g3:DataW.trod enc ja0 w base spare held k 50 ((cs.drop 3).take (Tryz.prog.cellsOf 50))=some y3:=(hf 3 _ rfl).trans q3;rw[j6]at g3;have r3:=iZ (o:=3) rfl rfl g3;obtain⟨y4,q4⟩:=ex 4 aN;have g4:DataW.trod enc ja0 w base spare held k 50 ((cs.drop 5).take (Tryz.prog.cellsOf 50))=some y4:=(hf 4 _ rfl).trans q4;rw[j6]at g4;have r4:=iZ (o:=5) rfl rfl g4;obtain⟨y5,q5⟩:=ex 5 aN;have g5:DataW.trod enc ja0 w base spare held k 50 ((cs.drop 7).take (Tryz.prog.cellsOf 50))=some y5:=(hf 5 _ rfl).trans q5;rw[j6]at g5;have r5:=iZ (o:=7) rfl rfl g5;obtain⟨y6,q6⟩:=ex 6 aN;have g6:DataW.trod enc ja0 w base spare held k 50 ((cs.drop 9).take (Tryz.prog.cellsOf 50))=some y6:=(hf 6 _ rfl).trans q6;rw[j6]at g6;have r6:=iZ (o:=9) rfl rfl g6;obtain⟨y7,q7⟩:=ex 7 aN;have g7:DataW.trod enc ja0 w base spare held k 50 ((cs.drop 11).take (Tryz.prog.cellsOf 50))=some y7:=(hf 7 _ rfl).trans q7;rw[j6]at g7;have r7:=iZ (o:=11) rfl rfl g7;obtain⟨y8,q8⟩:=ex 8 aN;have g8:DataW.trod enc ja0 w base spare held k 50 ((cs.drop 13).take (Tryz.prog.cellsOf 50))=some y8:=(hf 8 _ rfl).trans q8;rw[j6]at g8;have r8:=iZ (o:=13) rfl rfl g8;obtain⟨y9,q9⟩:=ex 9 aN;have g9:DataW.trod enc ja0 w base spare held k 51 ((cs.drop 15).take (Tryz.prog.cellsOf 51))=some y9:=(hf 9 _ rfl).trans q9;rw[Ch]at g9;have r9:=yB (o:=15) aN g9;obtain⟨y10,q10⟩:=ex 10 aN;have g10:DataW.trod enc ja0 w base spare held k 51 ((cs.drop 23).take (Tryz.prog.cellsOf 51))=some y10:=(hf 10 _ rfl).trans q10;rw[Ch]at g10;have r10:=yB (o:=23) aN g10;obtain⟨y11,q11⟩:=ex 11 aN;have g11:DataW.trod enc ja0 w base spare held k 52 ((cs.drop 31).take (Tryz.prog.cellsOf 52))=some y11:=(hf 11 _ rfl).trans q11;rw[Sj]at g11;have r11:=rZ (o:=31) (m:=4) (sz:=1) Tryz.underlying52 aN g11;obtain⟨y12,q12⟩:=ex 12 aN;have g12:DataW.trod enc ja0 w base spare held k 52 ((cs.drop 35).take (Tryz.prog.cellsOf 52))=some y12:=(hf 12 _ rfl).trans q12;rw[Sj]at g12;have r12:=rZ (o:=35) (m:=4) (sz:=1) Tryz.underlying52 aN g12;obtain⟨y13,q13⟩:=ex 13 aN;have g13:DataW.trod enc ja0 w base spare held k 3 ((cs.drop 39).take (Tryz.prog.cellsOf 3))=some y13:=(hf 13 _ rfl).trans q13;rw[yT]at g13;have r13:=eH (o:=39) Tryz.underlying3 rfl g13;obtain⟨y14,q14⟩:=ex 14 aN;have g14:DataW.trod enc ja0 w base spare held k 3 ((cs.drop 40).take (Tryz.prog.cellsOf 3))=some y14:=(hf 14 _ rfl).trans q14;rw[yT]at g14;have r14:=eH (o:=40) Tryz.underlying3 rfl g14;obtain⟨y15,q15⟩:=ex 15 aN;have g15:DataW.trod enc ja0 w base spare held k 50 ((cs.drop 41).take (Tryz.prog.cellsOf 50))=some y15:=(hf 15 _ rfl).trans q15;rw[j6]at g15;have r15:=iZ (o:=41) rfl rfl g15;obtain⟨y16,q16⟩:=ex 16 aN;have g16:DataW.trod enc ja0 w base spare held k 53 ((cs.drop 43).take (Tryz.prog.cellsOf 53))=some y16:=(hf 16 _ rfl).trans q16;rw[ER]at g16;have r16:=eH (o:=43) Tryz.underlying53 rfl g16;obtain⟨y17,q17⟩:=ex 17 aN;have g17:DataW.trod enc ja0 w base spare held k 54 ((cs.drop 44).take (Tryz.prog.cellsOf 54))=some y17:=(hf 17 _ rfl).trans q17;rw[Kl]at g17;have r17:=eH (o:=44) Tryz.underlying54 rfl g17;obtain⟨y18,q18⟩:=ex 18 aN;have g18:DataW.trod enc ja0 w base spare held k 4 ((cs.drop 45).take (Tryz.prog.cellsOf 4))=some y18:=(hf 18 _ rfl).trans q18;rw[DL]at g18;have r18:=pW (o:=45) rfl g18;obtain⟨y19,q19⟩:=ex 19 aN;have g19:DataW.trod enc ja0 w base spare held k 3 ((cs.drop 46).take (Tryz.prog.cellsOf 3))=some y19:=(hf 19 _ rfl).trans q19;rw[yT]at g19;have r19:=eH (o:=46) Tryz.underlying3 rfl g19;obtain⟨y20,q20⟩:=ex 20 aN;have g20:DataW.trod enc ja0 w base spare held k 4 ((cs.drop 47).take (Tryz.prog.cellsOf 4))=some y20:=(hf 20 _ rfl).trans q20;rw[DL]at g20;have r20:=pW (o:=47) rfl g20;obtain⟨y21,q21⟩:=ex 21 aN;have g21:DataW.trod enc ja0 w base spare held k 3 ((cs.drop 48).take (Tryz.prog.cellsOf 3))=some y21:=(hf 21 _ rfl).trans q21;rw[yT]at g21;have r21:=eH (o:=48) Tryz.underlying3 rfl g21;obtain⟨y22,q22⟩:=ex 22 aN;have g22:DataW.trod enc ja0 w base spare held k 55 ((cs.drop 49).take (Tryz.prog.cellsOf 55))=some y22:=(hf 22 _ rfl).trans q22;rw[Db]at g22;have r22:=eH (o:=49) Tryz.underlying55 rfl g22;obtain⟨y23,q23⟩:=ex 23 aN;have g23:DataW.trod enc ja0 w base spare held k 56 ((cs.drop 50).take (Tryz.prog.cellsOf 56))=some y23:=(hf 23 _ rfl).trans q23;rw[Bz]at g23;have r23:=eH (o:=50) Tryz.underlying56 rfl g23;obtain⟨y24,q24⟩:=ex 24 aN;have g24:DataW.trod enc ja0 w base spare held k 4 ((cs.drop 51).take (Tryz.prog.cellsOf 4))=some y24:=(hf 24 _ rfl).trans q24;rw[DL]at g24;have r24:=pW (o:=51) rfl g24;obtain⟨y25,q25⟩:=ex 25 aN;have g25:DataW.trod enc ja0 w base spare held k 4 ((cs.drop 52).take (Tryz.prog.cellsOf 4))=some y25:=(hf 25 _ rfl).trans q25;rw[DL]at g25;have r25:=pW (o:=52) rfl g25;obtain⟨y26,q26⟩:=ex 26 aN;have g26:DataW.trod enc ja0 w base spare held k 57 ((cs.drop 53).take (Tryz.prog.cellsOf 57))=some y26:=(hf 26 _ rfl).trans q26;rw[abr]at g26;have r26:=rZ (o:=53) (m:=2) (sz:=1) Tryz.underlying57 aN g26;intro i hi
 match i,hi with
 | 0,_=>exact r0
 | 1,_=>exact r1
 | 2,_=>exact r2
 | 3,_=>exact r3.1
 | 4,_=>exact r3.2
 | 5,_=>exact r4.1
 | 6,_=>exact r4.2
 | 7,_=>exact r5.1
 | 8,_=>exact r5.2
 | 9,_=>exact r6.1
 | 10,_=>exact r6.2
 | 11,_=>exact r7.1
 | 12,_=>exact r7.2
 | 13,_=>exact r8.1
 | 14,_=>exact r8.2
 | 15,_=>exact r9 0 aN
 | 16,_=>exact r9 1 aN
 | 17,_=>exact r9 2 aN
 | 18,_=>exact r9 3 aN
 | 19,_=>exact r9 4 aN
 | 20,_=>exact r9 5 aN
 | 21,_=>exact r9 6 aN
 | 22,_=>exact r9 7 aN
 | 23,_=>exact r10 0 aN
 | 24,_=>exact r10 1 aN
 | 25,_=>exact r10 2 aN
 | 26,_=>exact r10 3 aN
 | 27,_=>exact r10 4 aN
 | 28,_=>exact r10 5 aN
 | 29,_=>exact r10 6 aN
 | 30,_=>exact r10 7 aN
 | 31,_=>exact r11 0 aN
 | 32,_=>exact r11 1 aN
 | 33,_=>exact r11 2 aN
 | 34,_=>exact r11 3 aN
 | 35,_=>exact r12 0 aN
 | 36,_=>exact r12 1 aN
 | 37,_=>exact r12 2 aN
 | 38,_=>exact r12 3 aN
 | 39,_=>exact r13
 | 40,_=>exact r14
 | 41,_=>exact r15.1
 | 42,_=>exact r15.2
 | 43,_=>exact r16
 | 44,_=>exact r17
 | 45,_=>exact r18
 | 46,_=>exact r19
 | 47,_=>exact r20
 | 48,_=>exact r21
 | 49,_=>exact r22
 | 50,_=>exact r23
 | 51,_=>exact r24
 | 52,_=>exact r25
 | 53,_=>exact r26 0 aN
 | 54,_=>exact r26 1 aN
 | n+55,h=>exact absurd h ak
theorem Qb{cs:Array Value}{d:DataW H}{p:List MemPlace}(h:DataW.Trod enc ja0 w base spare held 59 (.agg cs) d p):∃s:Re.St,Value.agg cs=.agg (cells s)/\Fits s:=by
 obtain⟨fuel,hf⟩:=h;obtain⟨hl,hc⟩:=Qa hf;simp only[Value.cells]at hl hc;refine⟨⟨λi=>match cs[i]? with|some (.int _ n)=>n | _=>0,λi=>match cs[i]? with|some (.bool b)=>b | _=>false⟩,?_,?_⟩
 . congr 1
   apply Array.ext_getElem?;intro i;by_cases hi:i<55
   . obtain⟨v,hv,ok⟩:=hc i hi
     rw[Array.getElem?_toList]at hv;rw[iT _ hi,hv];unfold yS at ok;unfold cell;by_cases hb:Re.uj i=true
     . rw[if_pos hb]at ok ⊢
       obtain⟨b,rfl⟩:=ok;simp[hv]
     . rw[if_neg hb]at ok ⊢
       obtain⟨b,rfl,_⟩:=ok;simp[hv]
   . rw[Array.getElem?_eq_none (by rw[<-Array.length_toList,hl];omega),Array.getElem?_eq_none Z4r]
 . intro i hi hb
   obtain⟨v,hv,ok⟩:=hc i hi;rw[Array.getElem?_toList]at hv;unfold yS at ok;rw[if_neg (by simp[hb])]at ok;obtain⟨n,rfl,hw⟩:=ok;simp only[hv];exact hw
end
end
variable {xs:List Value}{W:World}{e:TypeId}
theorem Bd(n lo hi:Int)(w:World):Calls ja0 124 #[n,lo,hi] w λe w'=>e=.returned (.bool (Re.inn n lo hi))/\w=w':=by
 by_cases h1:lo<=n
 . have e1:decide (lo<=n)=true:=decide_eq_true h1
   by_cases h2:n<=hi
   . have e2:decide (n<=hi)=true:=decide_eq_true h2
     have xZ:=ah (show Re.inn n lo hi=true by unfold Re.inn;rw[e1,e2];rfl);exact Z36
   . have e2:decide (n<=hi)=false:=decide_eq_false h2
     have xZ:=ah (show Re.inn n lo hi=false by unfold Re.inn;rw[e1,e2];rfl);exact Z36
 . have e1:decide (lo<=n)=false:=decide_eq_false h1
   have xZ:=ah (show Re.inn n lo hi=false by unfold Re.inn;rw[e1];rfl);exact Z36
theorem eB{P:Program}{w w':World}{o:Oper}{a:Act}(s x:Operand)(t:TypeId)(ho:o.op=.call { callee:=.builtin .append,args:=#[s,x],argTypes:=#[t,t] }){v u v':Value}(hs:a.eval s=v)(hx:a.eval x=u)
  (hrun:(Builtin.append_ #[t,t] o.type #[v,u]).run P w=.ok v' w'):(execOp a.eval o).run P w=.ok (.value v') w':=by
 exact Z1c
def sj(v u:Value):Prop:=v.ownBlock=none\/u.ownBlock=none\/v.ownBlock≠u.ownBlock
theorem sj.symm{v u:Value}(h:sj v u):sj u v:=by
 rcases h with h|h|h
 . exact .inr (.inl h)
 . exact .inl h
 . exact .inr (.inr (Ne.symm h))
theorem fK{base:Nat}{sz k:Nat}{v:Value}(h:W.ownsRow base e sz v k xs):∃A c,v=.slice A k c:=by
 rcases h.2 with⟨rfl,h0⟩|⟨g,cap,cur,rfl,_⟩
 . exact⟨none,0,by rw[h0]⟩
 . exact⟨_,_,rfl⟩
theorem jC{t e T T2:TypeId}{i0:TypeInfo}{z:Value}{sz qK:Nat}(ht:Tryz.prog.underlying t=some (.slice e))(hi:Tryz.prog.info? e=some i0)(hz0:i0.zero=some z)(hz1:i0.size=sz)(hz2:i0.bytes=qK)(hzc:z.cells.size=sz)(hsz:0<sz)(hby:qK<=100)
   {base k m m2 sz2:Nat} {v u:Value} {xs ys news:List Value} (hu:W.ownsRow base e sz u k xs) (hv:W.ownsRow base T2 sz2 v m2 ys) (ha:sj v u) (hbase:base<=W.heap.size) (hnl:news.length=m*sz) (h1:∀x∈news,x.oneCell'=true) (hk:k+m<=1000) :
  ∃A' c' w',(Builtin.append_ #[t,t] t #[u,.slice W m m]).run ja0 (W.alloc (.cells news.toArray T))=.ok (.slice A' (k+m) c') w' /\
   w'.ownsRow base e sz (.slice A' (k+m) c') (k+m) (xs++news)/\w'.ownsRow base T2 sz2 v m2 ys/\sj v (.slice A' (k+m) c')/\Below base W w'/\base<=w'.heap.size:=by
 have hA:=At.new W (.cells news.toArray T)
 obtain⟨v',w',hr,ho,hg,_,hblk⟩:=run_append_own_at (P:=ja0) (w:=W.alloc (.cells news.toArray T)) base t t e i0 z sz qK ht hi hz0 hz1 hz2 hzc hsz u k _ (hu.alloc _) ⟨W,0,none⟩ m m news hnl
  (by intro j x hj
      have e:(⟨W,0,none⟩:Addr).add j=⟨W,0+j,none⟩:=Addr.add_mid _ _ _;rw[e,Nat.zero_add,hA.cell,<-hj]
      simp)
  h1 RN (aK (Nat.mul_le_mul hk hby) aN) jB
 obtain⟨A',c',rfl⟩:=fK ho;have hvb:v.ownBlock=none\/v.ownBlock≠u.ownBlock:=by
  exact Z3c
 refine⟨A',c',w',hr,ho,(hv.alloc _).kept hg hvb,?_,(Below.alloc (Below.refl base W) hbase _).grown hg jB (λj ej=>(hu.lt j ej).1),?_⟩
 . exact Z2r
 . have:=hg.size
   simp at this;omega
theorem zO{base sz n:Nat}(hb:base<=W.heap.size)(hl:xs.length=n*sz)(hn:n<=1000):(W.alloc (.cells xs.toArray e)).ownsRow base e sz (.slice W n n) n xs:=by
 refine⟨hl,.inr ⟨W.heap.size,n,xs.toArray,rfl,hb,At.new W _,aO _,by unfold maxLen;omega,by simpa using hl,?_⟩⟩;simp[<-hl]
theorem UH{base sz n g:Nat}(hg:g=W.heap.size)(hb:base<=W.heap.size)(hl:xs.length=n*sz)(hn:n<=1000):(W.alloc (.cells xs.toArray e)).ownsRow base e sz (.slice g n n) n xs:=by
 subst hg;exact zO hb hl hn
theorem BA{base sz n c:Nat}{A:Option Addr}(h:W.ownsRow base e sz (.slice A n c) n xs)(h0:0<n):∃g,A=some ⟨g,0,none⟩/\base<=g/\g<W.heap.size/\∀(j:Nat) (v:Value),xs[j]? = some v->W.cell? ⟨g,j,none⟩=some v:=by
 rcases h.2 with⟨e1,h1⟩|⟨g,cap,cur,e1,hb,hg,_,_,_,hx⟩
 . omega
 . injection e1 with e1
   refine⟨g,e1,hb,(Array.getElem?_eq_some_iff.1 hg).1,λj v hj => ?_⟩;rw[cell_of_row W g j cur e (0,0) hg];rw[<-hx,List.getElem?_take]at hj;split at hj
   . simpa using hj
   . cases hj
end Go.Proofs.YtfohooineeijkaaGreat.Fix
