/- Proved here: the statement PlaceStill (for every input that the row lets in the call returns true and every argument reads as before). Conditions: none beyond the given row. -/
import Derived.Test.YtfohooineeijkaaGreatM17
set_option linter.all false
set_option maxRecDepth 100000
set_option maxHeartbeats 400000
namespace Go.Proofs.YtfohooineeijkaaGreat.placeStill
open Go.ChangeShapes Go.WideShapes Go.ChangeAt Go.RowKit Go.Joins
open Go.Proofs.Tryz renaming prog → ja0
theorem laidOut:laidOutB ja0=true:=by kernel_rfl
theorem own:ownKnob Tryz.prog.godebug=none:=by kernel_rfl
theorem walk(a0:Option Addr)(tN cap0:Nat)(a1:Int)(a2:Int)(w:World)(w0:Fix.Nl w a0 tN cap0)(w1:(Lit.int .i64 a1).wf=true)(w2:(Lit.int .i64 a2).wf=true) :
  Calls ja0 4 #[.slice a0 tN cap0,a1,a2] w λe w'=>e=.returned (.bool true)/\Below w w w':=by
 exact Fix.J7 a0 tN cap0 a1 a2 w w0
theorem lifted(os:Os)(started:os.Started)(H:Type)(enc:TypeId×Value->H) :
  ReturnsInHanded {} Tryz.checked os 4 .any (Rows.placeStillSpec.pre6 enc ja0 Tryz.f4 Rows.placeStillRow.domain false) (Rows.placeStillSpec.post enc ja0 Tryz.f4 false true false false):=by
 refine returnsInHanded_of_change (C:=Tryz.checked) own started aX Tryz.func4
  (ChangeSpec.witness6 (enc:=enc) (C:=Tryz.checked) false ⟨#[],#[.slice none 0 0,(),()],[]⟩ 8 aX aX aX aX) ?_
 intro W base args ds gs before hval0 hW hcnd _;have hval:∀(j:Nat) t v,Tryz.f4.params[j]? = some t->args[j]? = some v->Value.okWide ja0 W .any base t v:=hval0;have hW':=hW;obtain⟨p,q,Tj,hV,rfl,hfz,hnd⟩:=hW;have hA:DataW.TrodAll enc ja0 W 0 (λ_=>true) true Tryz.f4.params.toList args.toList ds p:=Tj;rw[Tryz.params4]at hA hval;obtain⟨v0,vs0,d0,ds0,p0,q0,hargs,rfl,rfl,h0,r0⟩:=trodAll_cons hA;obtain⟨v1,vs1,d1,ds1,p1,q1,rfl,rfl,rfl,h1,r1⟩:=trodAll_cons r0;obtain⟨v2,vs2,d2,ds2,p2,q2,rfl,rfl,rfl,h2,r2⟩:=trodAll_cons r1;obtain⟨rfl,rfl,rfl⟩:=trodAll_nil r2;obtain rfl:args=#[v0,v1,v2]:=by cases args;simp_all
 obtain⟨rfl,rfl⟩:=trodVars_none hV;have k0:=h0;have lt0:∀x∈p0,x.block<W.heap.size:=by obtain⟨m,hm⟩:=k0;exact DataW.trod_lt m _ _ _ hm
 have k1:=h1;have lt1:∀x∈p1,x.block<W.heap.size:=by obtain⟨m,hm⟩:=k1;exact DataW.trod_lt m _ _ _ hm
 have k2:=h2;have lt2:∀x∈p2,x.block<W.heap.size:=by obtain⟨m,hm⟩:=k2;exact DataW.trod_lt m _ _ _ hm
 obtain⟨a0,tN,cap0,rfl⟩:=okWide_slice Tryz.underlying22 (hval 0 22 v0 rfl rfl);have w0:Fix.Nl W a0 tN cap0:=by
  obtain⟨fuel,hf⟩:=h0;obtain⟨x,l,c,hcs,hr⟩:=Fix.U9 hf;simp[Value.cells]at hcs;obtain⟨rfl,rfl,rfl⟩:=hcs;exact hr
 obtain⟨a1,rfl,rfl,rfl,w1⟩:=open_int Tryz.underlying3 (hval 1 3 v1 rfl rfl) h1;obtain⟨a2,rfl,rfl,rfl,w2⟩:=open_int Tryz.underlying3 (hval 2 3 v2 rfl rfl) h2;clear Tj hval0;simp only[List.append_nil]at hW';refine(walk a0 tN cap0 a1 a2 W w0 w1 w2).mono λe W' ⟨he,bel⟩ => ?_;subst he;exact⟨_,rfl,_,_,_,[],_,[],hW',trodAll_mk1 (shut_bool Tryz.underlying4 _),(trodAll_cons_mk (Below.trod laidOut aX (of_decide_eq_true aX) k0 bel lt0) (trodAll_cons_mk (Below.trod laidOut aX (of_decide_eq_true aX) k1 bel lt1) (trodAll_cons_mk (Below.trod laidOut aX (of_decide_eq_true aX) k2 bel lt2) trodAll_mk0))),rfl,bel.frame _,λh=>by cases h⟩
theorem kX{a b:Bool}(h:a=true)(k:b=true):(a&&b)=true:=by rw[h,k];rfl
theorem cl0:(Rows.placeStillRow.wf (OpenSpec.ofChange Rows.placeStillSpec))=true:=by kernel_rfl
theorem cl1:(laidOutB Tryz.pinned.checked.prog)=true:=by kernel_rfl
theorem cl2:(mapsRowed Tryz.pinned.checked.prog)=true:=by kernel_rfl
theorem cl3:(Tryz.f4.params.all (Tryz.pinned.checked.prog.readableRec ·))=true:=by kernel_rfl
theorem cl4:(namedTie Tryz.pinned.checked.prog Rows.placeStillRow.named Rows.placeStillSpec.vars)=true:=by kernel_rfl
theorem cl5:((Rows.placeStillRow.stops==[]))=true:=by kernel_rfl
theorem cl6:((Tryz.pinned.checked.prog.stops==[]))=true:=by kernel_rfl
theorem cl7:((Rows.placeStillRow.knobs==[]))=true:=by kernel_rfl
theorem cl8:((Tryz.pinned.checked.prog.stopKnobs==[]))=true:=by kernel_rfl
theorem cl9:((Rows.placeStillRow.inPlace==Tryz.pinned.checked.prog.inPlace 4))=true:=by kernel_rfl
theorem ajA:((Rows.placeStillRow.unfollowed==Tryz.pinned.checked.prog.unfollowed 4))=true:=by kernel_rfl
theorem ajB:((Rows.placeStillRow.recurses==Tryz.pinned.checked.prog.recurses 4))=true:=by kernel_rfl
theorem ajC:((Rows.placeStillRow.named==Tryz.pinned.checked.prog.varsNamed 4))=true:=by kernel_rfl
theorem ajD:((Rows.placeStillRow.maps==(Tryz.f4.params.toList++Rows.placeStillSpec.plain.varTypes Tryz.pinned.checked.prog).any (Tryz.pinned.checked.prog.mapsRec ·)))=true:=by kernel_rfl
theorem ajE:((Rows.placeStillRow.ifaces==(Tryz.f4.params.toList++Rows.placeStillSpec.plain.varTypes Tryz.pinned.checked.prog).any (Tryz.pinned.checked.prog.ifacesRec ·)))=true:=by kernel_rfl
theorem ajF:((Rows.placeStillRow.mapsOut==Tryz.pinned.checked.prog.mapsAmong Tryz.f4.resultTypes.toList))=true:=by kernel_rfl
theorem ajG:((Rows.placeStillRow.loops==(Tryz.f4.params.toList++Rows.placeStillSpec.plain.varTypes Tryz.pinned.checked.prog).any (Tryz.pinned.checked.prog.loopsFrom ·)))=true:=by kernel_rfl
theorem ajH:((Rows.placeStillRow.wideKeys==(Tryz.f4.params.toList++Rows.placeStillSpec.plain.varTypes Tryz.pinned.checked.prog++Tryz.f4.resultTypes.toList).any (Tryz.pinned.checked.prog.wideKeysFrom ·)))=true:=by kernel_rfl
theorem ajI:(Rows.placeStillSpec.vars.all (Tryz.pinned.checked.prog.varReadable ·))=true:=by kernel_rfl
theorem ajJ:(Tryz.f4.resultTypes.all (λt=>Tryz.pinned.checked.prog.readableRec t&&decide (t<Tryz.pinned.checked.prog.types.size)))=true:=by kernel_rfl
theorem ajK:((Rows.placeStillRow.ifacesOut==Tryz.f4.resultTypes.toList.any (Tryz.pinned.checked.prog.ifacesRec ·)))=true:=by kernel_rfl
theorem ajL:((Rows.placeStillRow.loopsOut==Tryz.f4.resultTypes.toList.any (Tryz.pinned.checked.prog.loopsFrom ·)))=true:=by kernel_rfl
theorem ajM:((Rows.placeStillRow.plainKeys==Tryz.pinned.checked.prog.plainKeys))=true:=by kernel_rfl
theorem ajN:(Rows.placeStillRow.shortTexts.isNone)=true:=by kernel_rfl
theorem ajO:(Tryz.pinned.checked.prog.stopsHeard)=true:=by kernel_rfl
theorem ajP:(Tryz.pinned.checked.prog.mayEnter)=true:=by kernel_rfl
theorem ajQ:((Rows.placeStillRow.lifted==Tryz.pinned.checked.prog.liftsFinal))=true:=by kernel_rfl
theorem ajR:((Tryz.pinned.checked.prog.make==some Rows.placeStillRow.make))=true:=by kernel_rfl
theorem ajS:((Rows.placeStillRow.kinds==(if Rows.placeStillRow.domain.isEmpty then []else Tryz.f4.params.toList.map λt=>match Tryz.pinned.checked.prog.underlying t with|some (.int k)=>some k | _=>none)))=true:=by kernel_rfl
theorem ajT:((Rows.placeStillRow.pinned==Rows.placeStillRow.pinnedBy))=true:=by kernel_rfl
theorem ajU:((Rows.placeStillRow.veiled==(Tryz.f4.params.toList++Rows.placeStillSpec.plain.varTypes Tryz.pinned.checked.prog++Tryz.f4.resultTypes.toList).any (Tryz.pinned.checked.prog.veiledRec ·)))=true:=by kernel_rfl
theorem ajV:(Rows.placeStillRow.veiledFits Tryz.pinned.checked.prog Tryz.f4.params.toList (Tryz.f4.params.toList++Rows.placeStillSpec.plain.varTypes Tryz.pinned.checked.prog++Tryz.f4.resultTypes.toList))=true:=by kernel_rfl
theorem closed:joinedFacts Tryz.pinned.checked.prog 4 Tryz.f4 Rows.placeStillSpec Rows.placeStillRow=true:=by
 unfold joinedFacts;exact kX (kX (kX (kX (kX (kX (kX (kX (kX (kX (kX (kX (kX (kX (kX (kX (kX (kX (kX (kX (kX (kX (kX (kX (kX (kX (kX (kX (kX (kX (kX cl0 cl1) cl2) cl3) cl4) cl5) cl6) cl7) cl8) cl9) ajA) ajB) ajC) ajD) ajE) ajF) ajG) ajH) ajI) ajJ) ajK) ajL) ajM) ajN) ajO) ajP) ajQ) ajR) ajS) ajT) ajU) ajV
theorem over:Rows.placeStillRow.holds Tryz.pinned (OpenSpec.ofChange Rows.placeStillSpec) :=
 OpenClaim.holds_of_wide 4 Tryz.f4 rfl rfl rfl rfl rfl rfl rfl ⟨rfl,rfl,rfl,rfl,rfl⟩ rfl rfl rfl rfl rfl aX Tryz.func4 closed
  (of_decide_eq_true aX) (by unfold Func.isWrapper;first|(rw[if_pos (by decide +kernel)];kernel_rfl)|(rw[if_neg (by decide +kernel)];exact⟨rfl,rfl⟩))
  (λos started H enc _=>lifted os started H enc)
theorem proved:Rows.PlaceStillSaid :=
 over
#print axioms proved
end Go.Proofs.YtfohooineeijkaaGreat.placeStill
