/- Proved here: the statement PlaceSeen (for every input that the row lets in the call returns true and every argument reads as before). Conditions: none beyond the given row. -/
import Derived.Test.YtdnggaapcgomhaaGreatM17
set_option linter.all false
set_option maxRecDepth 100000
set_option maxHeartbeats 400000
namespace Go.Proofs.YtdnggaapcgomhaaGreat.placeSeen
open Go.ChangeShapes Go.WideShapes Go.ChangeAt Go.RowKit Go.Joins
open Go.Proofs.Tryz renaming prog → ja0
theorem laidOut:laidOutB ja0=true:=by kernel_rfl
theorem own:ownKnob Tryz.prog.godebug=none:=by kernel_rfl
theorem walk(a0:Option Addr)(ug cap0:Nat)(a1:Option Addr)(len1 Gz:Nat)(a2:Int)(a3:Int)(w:World)(w0:Fix.NQ w a0 ug cap0)(w1:Fix.Og w a1 len1 Gz)(w2:(Lit.int .i64 a2).wf=true)(w3:(Lit.int .i64 a3).wf=true) :
  Calls ja0 4 #[.slice a0 ug cap0,.slice a1 len1 Gz,a2,a3] w λe w'=>e=.returned (.bool true)/\Below w w w':=by
 exact Fix.Oh a0 ug cap0 a1 len1 Gz a2 a3 w w0 w1
theorem lifted(os:Os)(started:os.Started)(H:Type)(enc:TypeId×Value->H) :
  ReturnsInHanded {} Tryz.checked os 4 .any (Rows.placeSeenSpec.pre6 enc ja0 Tryz.f4 Rows.placeSeenRow.domain false) (Rows.placeSeenSpec.post enc ja0 Tryz.f4 false true false false):=by
 refine returnsInHanded_of_change (C:=Tryz.checked) own started aV Tryz.func4
  (ChangeSpec.witness6 (enc:=enc) (C:=Tryz.checked) false ⟨#[],#[.slice none 0 0,.slice none 0 0,(),()],[]⟩ 8 aV aV aV aV) ?_
 intro W base args ds gs before hval0 hW hcnd _;have hval:∀(j:Nat) t v,Tryz.f4.params[j]? = some t->args[j]? = some v->Value.okWide ja0 W .any base t v:=hval0;have hW':=hW;obtain⟨p,q,Ue,hV,rfl,hfz,hnd⟩:=hW;have hA:DataW.TrodAll enc ja0 W 0 (λ_=>true) true Tryz.f4.params.toList args.toList ds p:=Ue;rw[Tryz.params4]at hA hval;obtain⟨v0,vs0,d0,ds0,p0,q0,hargs,rfl,rfl,h0,r0⟩:=trodAll_cons hA;obtain⟨v1,vs1,d1,ds1,p1,q1,rfl,rfl,rfl,h1,r1⟩:=trodAll_cons r0;obtain⟨v2,vs2,d2,ds2,p2,q2,rfl,rfl,rfl,h2,r2⟩:=trodAll_cons r1;obtain⟨v3,vs3,d3,ds3,p3,q3,rfl,rfl,rfl,h3,r3⟩:=trodAll_cons r2;obtain⟨rfl,rfl,rfl⟩:=trodAll_nil r3;obtain rfl:args=#[v0,v1,v2,v3]:=by cases args;simp_all
 obtain⟨rfl,rfl⟩:=trodVars_none hV;have k0:=h0;have lt0:∀x∈p0,x.block<W.heap.size:=by obtain⟨m,hm⟩:=k0;exact DataW.trod_lt m _ _ _ hm
 have k1:=h1;have lt1:∀x∈p1,x.block<W.heap.size:=by obtain⟨m,hm⟩:=k1;exact DataW.trod_lt m _ _ _ hm
 have k2:=h2;have lt2:∀x∈p2,x.block<W.heap.size:=by obtain⟨m,hm⟩:=k2;exact DataW.trod_lt m _ _ _ hm
 have k3:=h3;have lt3:∀x∈p3,x.block<W.heap.size:=by obtain⟨m,hm⟩:=k3;exact DataW.trod_lt m _ _ _ hm
 obtain⟨a0,ug,cap0,rfl⟩:=okWide_slice Tryz.underlying22 (hval 0 22 v0 rfl rfl);have w0:Fix.NQ W a0 ug cap0:=by
  obtain⟨fuel,hf⟩:=h0;obtain⟨x,l,c,hcs,hr⟩:=Fix.VH hf;simp[Value.cells]at hcs;obtain⟨rfl,rfl,rfl⟩:=hcs;exact hr
 obtain⟨a1,len1,Gz,rfl⟩:=okWide_slice Tryz.underlying49 (hval 1 49 v1 rfl rfl);have w1:Fix.Og W a1 len1 Gz:=by
  obtain⟨fuel,hf⟩:=h1;obtain⟨x,l,c,hcs,hr⟩:=Fix.VX hf;simp[Value.cells]at hcs;obtain⟨rfl,rfl,rfl⟩:=hcs;exact hr
 obtain⟨a2,rfl,rfl,rfl,w2⟩:=open_int Tryz.underlying3 (hval 2 3 v2 rfl rfl) h2;obtain⟨a3,rfl,rfl,rfl,w3⟩:=open_int Tryz.underlying3 (hval 3 3 v3 rfl rfl) h3;clear Ue hval0;simp only[List.append_nil]at hW';refine(walk a0 ug cap0 a1 len1 Gz a2 a3 W w0 w1 w2 w3).mono λe W' ⟨he,bel⟩ => ?_;subst he;exact⟨_,rfl,_,_,_,[],_,[],hW',trodAll_mk1 (shut_bool Tryz.underlying4 _),(trodAll_cons_mk (Below.trod laidOut aV (of_decide_eq_true aV) k0 bel lt0) (trodAll_cons_mk (Below.trod laidOut aV (of_decide_eq_true aV) k1 bel lt1) (trodAll_cons_mk (Below.trod laidOut aV (of_decide_eq_true aV) k2 bel lt2) (trodAll_cons_mk (Below.trod laidOut aV (of_decide_eq_true aV) k3 bel lt3) trodAll_mk0)))),rfl,bel.frame _,λh=>by cases h⟩
theorem kY{a b:Bool}(h:a=true)(k:b=true):(a&&b)=true:=by rw[h,k];rfl
theorem cl0:(Rows.placeSeenRow.wf (OpenSpec.ofChange Rows.placeSeenSpec))=true:=by kernel_rfl
theorem cl1:(laidOutB Tryz.pinned.checked.prog)=true:=by kernel_rfl
theorem cl2:(mapsRowed Tryz.pinned.checked.prog)=true:=by kernel_rfl
theorem cl3:(Tryz.f4.params.all (Tryz.pinned.checked.prog.readableRec ·))=true:=by kernel_rfl
theorem cl4:(namedTie Tryz.pinned.checked.prog Rows.placeSeenRow.named Rows.placeSeenSpec.vars)=true:=by kernel_rfl
theorem cl5:((Rows.placeSeenRow.stops==[]))=true:=by kernel_rfl
theorem cl6:((Tryz.pinned.checked.prog.stops==[]))=true:=by kernel_rfl
theorem cl7:((Rows.placeSeenRow.knobs==[]))=true:=by kernel_rfl
theorem cl8:((Tryz.pinned.checked.prog.stopKnobs==[]))=true:=by kernel_rfl
theorem cl9:((Rows.placeSeenRow.inPlace==Tryz.pinned.checked.prog.inPlace 4))=true:=by kernel_rfl
theorem aj6:((Rows.placeSeenRow.unfollowed==Tryz.pinned.checked.prog.unfollowed 4))=true:=by kernel_rfl
theorem aj7:((Rows.placeSeenRow.recurses==Tryz.pinned.checked.prog.recurses 4))=true:=by kernel_rfl
theorem aj8:((Rows.placeSeenRow.named==Tryz.pinned.checked.prog.varsNamed 4))=true:=by kernel_rfl
theorem aj9:((Rows.placeSeenRow.maps==(Tryz.f4.params.toList++Rows.placeSeenSpec.plain.varTypes Tryz.pinned.checked.prog).any (Tryz.pinned.checked.prog.mapsRec ·)))=true:=by kernel_rfl
theorem aj':((Rows.placeSeenRow.ifaces==(Tryz.f4.params.toList++Rows.placeSeenSpec.plain.varTypes Tryz.pinned.checked.prog).any (Tryz.pinned.checked.prog.ifacesRec ·)))=true:=by kernel_rfl
theorem akb:((Rows.placeSeenRow.mapsOut==Tryz.pinned.checked.prog.mapsAmong Tryz.f4.resultTypes.toList))=true:=by kernel_rfl
theorem akc:((Rows.placeSeenRow.loops==(Tryz.f4.params.toList++Rows.placeSeenSpec.plain.varTypes Tryz.pinned.checked.prog).any (Tryz.pinned.checked.prog.loopsFrom ·)))=true:=by kernel_rfl
theorem akd:((Rows.placeSeenRow.wideKeys==(Tryz.f4.params.toList++Rows.placeSeenSpec.plain.varTypes Tryz.pinned.checked.prog++Tryz.f4.resultTypes.toList).any (Tryz.pinned.checked.prog.wideKeysFrom ·)))=true:=by kernel_rfl
theorem ake:(Rows.placeSeenSpec.vars.all (Tryz.pinned.checked.prog.varReadable ·))=true:=by kernel_rfl
theorem akf:(Tryz.f4.resultTypes.all (λt=>Tryz.pinned.checked.prog.readableRec t&&decide (t<Tryz.pinned.checked.prog.types.size)))=true:=by kernel_rfl
theorem akg:((Rows.placeSeenRow.ifacesOut==Tryz.f4.resultTypes.toList.any (Tryz.pinned.checked.prog.ifacesRec ·)))=true:=by kernel_rfl
theorem akh:((Rows.placeSeenRow.loopsOut==Tryz.f4.resultTypes.toList.any (Tryz.pinned.checked.prog.loopsFrom ·)))=true:=by kernel_rfl
theorem aki:((Rows.placeSeenRow.plainKeys==Tryz.pinned.checked.prog.plainKeys))=true:=by kernel_rfl
theorem akj:(Rows.placeSeenRow.shortTexts.isNone)=true:=by kernel_rfl
theorem akk:(Tryz.pinned.checked.prog.stopsHeard)=true:=by kernel_rfl
theorem akl:(Tryz.pinned.checked.prog.mayEnter)=true:=by kernel_rfl
theorem akm:((Rows.placeSeenRow.lifted==Tryz.pinned.checked.prog.liftsFinal))=true:=by kernel_rfl
theorem akn:((Tryz.pinned.checked.prog.make==some Rows.placeSeenRow.make))=true:=by kernel_rfl
theorem ako:((Rows.placeSeenRow.kinds==(if Rows.placeSeenRow.domain.isEmpty then []else Tryz.f4.params.toList.map λt=>match Tryz.pinned.checked.prog.underlying t with|some (.int k)=>some k | _=>none)))=true:=by kernel_rfl
theorem akp:((Rows.placeSeenRow.pinned==Rows.placeSeenRow.pinnedBy))=true:=by kernel_rfl
theorem akq:((Rows.placeSeenRow.veiled==(Tryz.f4.params.toList++Rows.placeSeenSpec.plain.varTypes Tryz.pinned.checked.prog++Tryz.f4.resultTypes.toList).any (Tryz.pinned.checked.prog.veiledRec ·)))=true:=by kernel_rfl
theorem akr:(Rows.placeSeenRow.veiledFits Tryz.pinned.checked.prog Tryz.f4.params.toList (Tryz.f4.params.toList++Rows.placeSeenSpec.plain.varTypes Tryz.pinned.checked.prog++Tryz.f4.resultTypes.toList))=true:=by kernel_rfl
theorem closed:joinedFacts Tryz.pinned.checked.prog 4 Tryz.f4 Rows.placeSeenSpec Rows.placeSeenRow=true:=by
 unfold joinedFacts;exact kY (kY (kY (kY (kY (kY (kY (kY (kY (kY (kY (kY (kY (kY (kY (kY (kY (kY (kY (kY (kY (kY (kY (kY (kY (kY (kY (kY (kY (kY (kY cl0 cl1) cl2) cl3) cl4) cl5) cl6) cl7) cl8) cl9) aj6) aj7) aj8) aj9) aj') akb) akc) akd) ake) akf) akg) akh) aki) akj) akk) akl) akm) akn) ako) akp) akq) akr
theorem over:Rows.placeSeenRow.holds Tryz.pinned (OpenSpec.ofChange Rows.placeSeenSpec) :=
 OpenClaim.holds_of_wide 4 Tryz.f4 rfl rfl rfl rfl rfl rfl rfl ⟨rfl,rfl,rfl,rfl,rfl⟩ rfl rfl rfl rfl rfl aV Tryz.func4 closed
  (of_decide_eq_true aV) (by unfold Func.isWrapper;first|(rw[if_pos (by decide +kernel)];kernel_rfl)|(rw[if_neg (by decide +kernel)];exact⟨rfl,rfl⟩))
  (λos started H enc _=>lifted os started H enc)
theorem proved:Rows.PlaceSeenSaid :=
 over
#print axioms proved
end Go.Proofs.YtdnggaapcgomhaaGreat.placeSeen
