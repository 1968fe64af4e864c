/- Proved here: the statement PlaceBeyond (for every input that the row lets in the call returns true and every argument reads as before). Conditions: none beyond the given row. -/
import Derived.Test.YtfohooineeijkaaGreatM23
set_option linter.all false
set_option maxRecDepth 100000
set_option maxHeartbeats 400000
namespace Go.Proofs.YtfohooineeijkaaGreat.placeBeyond
open Go.ChangeShapes Go.WideShapes Go.ChangeAt Go.RowKit Go.Joins
open Go.Proofs.Tryz renaming prog → ja0
theorem laidOut:laidOutB ja0=true:=by kernel_rfl
theorem own:ownKnob Tryz.prog.godebug=none:=by kernel_rfl
theorem walk(a0:Option Addr)(vG cap0:Nat)(a1:Int)(a2:Int)(a3:Int)(a4:Int)(a5:Int)(w:World)(w0:Fix.Oy w a0 vG cap0)(w1:(Lit.int .i64 a1).wf=true)(w2:(Lit.int .i64 a2).wf=true)(w3:(Lit.int .i64 a3).wf=true)(w4:(Lit.int .i64 a4).wf=true)(w5:(Lit.int .i64 a5).wf=true) :
  Calls ja0 3 #[.slice a0 vG cap0,a1,a2,a3,a4,a5] w λe w'=>e=.returned (.bool true)/\Below w w w':=by
 exact Fix.Ig a0 vG cap0 a1 a2 a3 a4 a5 w w0 w1
theorem lifted(os:Os)(started:os.Started)(H:Type)(enc:TypeId×Value->H) :
  ReturnsInHanded {} Tryz.checked os 3 .any (Rows.placeBeyondSpec.pre6 enc ja0 Tryz.f3 Rows.placeBeyondRow.domain false) (Rows.placeBeyondSpec.post enc ja0 Tryz.f3 false true false false):=by
 refine returnsInHanded_of_change (C:=Tryz.checked) own started bE Tryz.func3
  (ChangeSpec.witness6 (enc:=enc) (C:=Tryz.checked) false ⟨#[],#[.slice none 0 0,(),(),(),(),()],[]⟩ 8 bE bE bE bE) ?_
 intro W base args ds gs before hval0 hW hcnd _;have hval:∀(j:Nat) t v,Tryz.f3.params[j]? = some t->args[j]? = some v->Value.okWide ja0 W .any base t v:=hval0;have hW':=hW;obtain⟨p,q,Uz,hV,rfl,hfz,hnd⟩:=hW;have hA:DataW.TrodAll enc ja0 W 0 (λ_=>true) true Tryz.f3.params.toList args.toList ds p:=Uz;rw[Tryz.params3]at hA hval;obtain⟨v0,vs0,d0,ds0,p0,q0,hargs,rfl,rfl,h0,r0⟩:=trodAll_cons hA;obtain⟨v1,vs1,d1,ds1,p1,q1,rfl,rfl,rfl,h1,r1⟩:=trodAll_cons r0;obtain⟨v2,vs2,d2,ds2,p2,q2,rfl,rfl,rfl,h2,r2⟩:=trodAll_cons r1;obtain⟨v3,vs3,d3,ds3,p3,q3,rfl,rfl,rfl,h3,r3⟩:=trodAll_cons r2;obtain⟨v4,vs4,d4,ds4,p4,q4,rfl,rfl,rfl,h4,r4⟩:=trodAll_cons r3;obtain⟨v5,vs5,d5,ds5,p5,q5,rfl,rfl,rfl,h5,r5⟩:=trodAll_cons r4;obtain⟨rfl,rfl,rfl⟩:=trodAll_nil r5;obtain rfl:args=#[v0,v1,v2,v3,v4,v5]:=by cases args;simp_all
 obtain⟨rfl,rfl⟩:=trodVars_none hV;have k0:=h0;have lt0:∀x∈p0,x.block<W.heap.size:=by obtain⟨m,hm⟩:=k0;exact DataW.trod_lt m _ _ _ hm
 have k1:=h1;have lt1:∀x∈p1,x.block<W.heap.size:=by obtain⟨m,hm⟩:=k1;exact DataW.trod_lt m _ _ _ hm
 have k2:=h2;have lt2:∀x∈p2,x.block<W.heap.size:=by obtain⟨m,hm⟩:=k2;exact DataW.trod_lt m _ _ _ hm
 have k3:=h3;have lt3:∀x∈p3,x.block<W.heap.size:=by obtain⟨m,hm⟩:=k3;exact DataW.trod_lt m _ _ _ hm
 have k4:=h4;have lt4:∀x∈p4,x.block<W.heap.size:=by obtain⟨m,hm⟩:=k4;exact DataW.trod_lt m _ _ _ hm
 have k5:=h5;have lt5:∀x∈p5,x.block<W.heap.size:=by obtain⟨m,hm⟩:=k5;exact DataW.trod_lt m _ _ _ hm
 obtain⟨a0,vG,cap0,rfl⟩:=okWide_slice Tryz.underlying22 (hval 0 22 v0 rfl rfl);have w0:Fix.Oy W a0 vG cap0:=by
  obtain⟨fuel,hf⟩:=h0;obtain⟨x,l,c,hcs,hr⟩:=Fix.VU hf;simp[Value.cells]at hcs;obtain⟨rfl,rfl,rfl⟩:=hcs;exact hr
 obtain⟨a1,rfl,rfl,rfl,w1⟩:=open_int Tryz.underlying3 (hval 1 3 v1 rfl rfl) h1;obtain⟨a2,rfl,rfl,rfl,w2⟩:=open_int Tryz.underlying3 (hval 2 3 v2 rfl rfl) h2;obtain⟨a3,rfl,rfl,rfl,w3⟩:=open_int Tryz.underlying3 (hval 3 3 v3 rfl rfl) h3;obtain⟨a4,rfl,rfl,rfl,w4⟩:=open_int Tryz.underlying3 (hval 4 3 v4 rfl rfl) h4;obtain⟨a5,rfl,rfl,rfl,w5⟩:=open_int Tryz.underlying3 (hval 5 3 v5 rfl rfl) h5;clear Uz hval0;simp only[List.append_nil]at hW';refine(walk a0 vG cap0 a1 a2 a3 a4 a5 W w0 w1 w2 w3 w4 w5).mono λe W' ⟨he,bel⟩ => ?_;subst he;exact⟨_,rfl,_,_,_,[],_,[],hW',trodAll_mk1 (shut_bool Tryz.underlying4 _),(trodAll_cons_mk (Below.trod laidOut bE (of_decide_eq_true bE) k0 bel lt0) (trodAll_cons_mk (Below.trod laidOut bE (of_decide_eq_true bE) k1 bel lt1) (trodAll_cons_mk (Below.trod laidOut bE (of_decide_eq_true bE) k2 bel lt2) (trodAll_cons_mk (Below.trod laidOut bE (of_decide_eq_true bE) k3 bel lt3) (trodAll_cons_mk (Below.trod laidOut bE (of_decide_eq_true bE) k4 bel lt4) (trodAll_cons_mk (Below.trod laidOut bE (of_decide_eq_true bE) k5 bel lt5) trodAll_mk0)))))),rfl,bel.frame _,λh=>by cases h⟩
theorem nG{a b:Bool}(h:a=true)(k:b=true):(a&&b)=true:=by rw[h,k];rfl
theorem cl0:(Rows.placeBeyondRow.wf (OpenSpec.ofChange Rows.placeBeyondSpec))=true:=by kernel_rfl
theorem cl1:(laidOutB Tryz.pinned.checked.prog)=true:=by kernel_rfl
theorem cl2:(mapsRowed Tryz.pinned.checked.prog)=true:=by kernel_rfl
theorem cl3:(Tryz.f3.params.all (Tryz.pinned.checked.prog.readableRec ·))=true:=by kernel_rfl
theorem cl4:(namedTie Tryz.pinned.checked.prog Rows.placeBeyondRow.named Rows.placeBeyondSpec.vars)=true:=by kernel_rfl
theorem cl5:((Rows.placeBeyondRow.stops==[]))=true:=by kernel_rfl
theorem cl6:((Tryz.pinned.checked.prog.stops==[]))=true:=by kernel_rfl
theorem cl7:((Rows.placeBeyondRow.knobs==[]))=true:=by kernel_rfl
theorem cl8:((Tryz.pinned.checked.prog.stopKnobs==[]))=true:=by kernel_rfl
theorem cl9:((Rows.placeBeyondRow.inPlace==Tryz.pinned.checked.prog.inPlace 3))=true:=by kernel_rfl
theorem ajL:((Rows.placeBeyondRow.unfollowed==Tryz.pinned.checked.prog.unfollowed 3))=true:=by kernel_rfl
theorem ajM:((Rows.placeBeyondRow.recurses==Tryz.pinned.checked.prog.recurses 3))=true:=by kernel_rfl
theorem ajN:((Rows.placeBeyondRow.named==Tryz.pinned.checked.prog.varsNamed 3))=true:=by kernel_rfl
theorem ajO:((Rows.placeBeyondRow.maps==(Tryz.f3.params.toList++Rows.placeBeyondSpec.plain.varTypes Tryz.pinned.checked.prog).any (Tryz.pinned.checked.prog.mapsRec ·)))=true:=by kernel_rfl
theorem ajP:((Rows.placeBeyondRow.ifaces==(Tryz.f3.params.toList++Rows.placeBeyondSpec.plain.varTypes Tryz.pinned.checked.prog).any (Tryz.pinned.checked.prog.ifacesRec ·)))=true:=by kernel_rfl
theorem ajQ:((Rows.placeBeyondRow.mapsOut==Tryz.pinned.checked.prog.mapsAmong Tryz.f3.resultTypes.toList))=true:=by kernel_rfl
theorem ajR:((Rows.placeBeyondRow.loops==(Tryz.f3.params.toList++Rows.placeBeyondSpec.plain.varTypes Tryz.pinned.checked.prog).any (Tryz.pinned.checked.prog.loopsFrom ·)))=true:=by kernel_rfl
theorem ajS:((Rows.placeBeyondRow.wideKeys==(Tryz.f3.params.toList++Rows.placeBeyondSpec.plain.varTypes Tryz.pinned.checked.prog++Tryz.f3.resultTypes.toList).any (Tryz.pinned.checked.prog.wideKeysFrom ·)))=true:=by kernel_rfl
theorem ajT:(Rows.placeBeyondSpec.vars.all (Tryz.pinned.checked.prog.varReadable ·))=true:=by kernel_rfl
theorem ajU:(Tryz.f3.resultTypes.all (λt=>Tryz.pinned.checked.prog.readableRec t&&decide (t<Tryz.pinned.checked.prog.types.size)))=true:=by kernel_rfl
theorem ajV:((Rows.placeBeyondRow.ifacesOut==Tryz.f3.resultTypes.toList.any (Tryz.pinned.checked.prog.ifacesRec ·)))=true:=by kernel_rfl
theorem ajW:((Rows.placeBeyondRow.loopsOut==Tryz.f3.resultTypes.toList.any (Tryz.pinned.checked.prog.loopsFrom ·)))=true:=by kernel_rfl
theorem ajX:((Rows.placeBeyondRow.plainKeys==Tryz.pinned.checked.prog.plainKeys))=true:=by kernel_rfl
theorem ajY:(Rows.placeBeyondRow.shortTexts.isNone)=true:=by kernel_rfl
theorem ajZ:(Tryz.pinned.checked.prog.stopsHeard)=true:=by kernel_rfl
theorem aj0:(Tryz.pinned.checked.prog.mayEnter)=true:=by kernel_rfl
theorem aj1:((Rows.placeBeyondRow.lifted==Tryz.pinned.checked.prog.liftsFinal))=true:=by kernel_rfl
theorem aj2:((Tryz.pinned.checked.prog.make==some Rows.placeBeyondRow.make))=true:=by kernel_rfl
theorem aj3:((Rows.placeBeyondRow.kinds==(if Rows.placeBeyondRow.domain.isEmpty then []else Tryz.f3.params.toList.map λt=>match Tryz.pinned.checked.prog.underlying t with|some (.int k)=>some k | _=>none)))=true:=by kernel_rfl
theorem aj4:((Rows.placeBeyondRow.pinned==Rows.placeBeyondRow.pinnedBy))=true:=by kernel_rfl
theorem aj5:((Rows.placeBeyondRow.veiled==(Tryz.f3.params.toList++Rows.placeBeyondSpec.plain.varTypes Tryz.pinned.checked.prog++Tryz.f3.resultTypes.toList).any (Tryz.pinned.checked.prog.veiledRec ·)))=true:=by kernel_rfl
theorem aj6:(Rows.placeBeyondRow.veiledFits Tryz.pinned.checked.prog Tryz.f3.params.toList (Tryz.f3.params.toList++Rows.placeBeyondSpec.plain.varTypes Tryz.pinned.checked.prog++Tryz.f3.resultTypes.toList))=true:=by kernel_rfl
theorem closed:joinedFacts Tryz.pinned.checked.prog 3 Tryz.f3 Rows.placeBeyondSpec Rows.placeBeyondRow=true:=by
 unfold joinedFacts;exact nG (nG (nG (nG (nG (nG (nG (nG (nG (nG (nG (nG (nG (nG (nG (nG (nG (nG (nG (nG (nG (nG (nG (nG (nG (nG (nG (nG (nG (nG (nG cl0 cl1) cl2) cl3) cl4) cl5) cl6) cl7) cl8) cl9) ajL) ajM) ajN) ajO) ajP) ajQ) ajR) ajS) ajT) ajU) ajV) ajW) ajX) ajY) ajZ) aj0) aj1) aj2) aj3) aj4) aj5) aj6
theorem over:Rows.placeBeyondRow.holds Tryz.pinned (OpenSpec.ofChange Rows.placeBeyondSpec) :=
 OpenClaim.holds_of_wide 3 Tryz.f3 rfl rfl rfl rfl rfl rfl rfl ⟨rfl,rfl,rfl,rfl,rfl⟩ rfl rfl rfl rfl rfl bE Tryz.func3 closed
  (of_decide_eq_true bE) (by unfold Func.isWrapper;first|(rw[if_pos (by decide +kernel)];kernel_rfl)|(rw[if_neg (by decide +kernel)];exact⟨rfl,rfl⟩))
  (λos started H enc _=>lifted os started H enc)
theorem proved:Rows.PlaceBeyondSaid :=
 over
#print axioms proved
end Go.Proofs.YtfohooineeijkaaGreat.placeBeyond
