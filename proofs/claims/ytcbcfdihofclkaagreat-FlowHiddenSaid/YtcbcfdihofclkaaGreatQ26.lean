/- Proved here: what functions of the program do, in plain numbers (part 26); no conditions but those in sight. -/
import Derived.Test.YtcbcfdihofclkaaGreatQK
import Derived.Test.YtcbcfdihofclkaaGreatQ06
import Derived.Test.YtcbcfdihofclkaaGreatQ15
import Derived.Test.YtcbcfdihofclkaaGreatQ18
import Derived.Test.YtcbcfdihofclkaaGreatQ25
set_option linter.unusedVariables false
set_option linter.unusedSimpArgs false
set_option linter.unusedSectionVars false
set_option maxRecDepth 100000
namespace Go.Proofs.YtcbcfdihofclkaaGreat.Fix
open Go.ChangeShapes Go.WideShapes Go.ChangeAt Go.RowKit
set_option maxHeartbeats 8000000 in
theorem Ct(b:Nat)(s:Re.St)(fl ap:Value)(ib:Bool)(w:World)(h:aF w b s fl ap ib):Calls Tryz.prog 225 #[.pointer (some ⟨b,0,none⟩),.int .i64 0] w λx w'=>x=.returned (.bool (Fw.opn s ib 0))/\Below w.heap.size w w':=by
 have d0:w.cell? ⟨b,69,none⟩=some (.int .i64 (Fw.ed s 0)):=h.ext 14;have d1:w.cell? ⟨b,73,none⟩=some (.bool ib):=h.ext 18;have l0:=h.lt;have xW:=Lib.hid h.style;clear h;cases ib
 . exact Za
 . cases h0:s.c 0==0
   . exact Za
   . cases h2:s.c 2==0
     . exact Za
     . cases he:Fw.ed s 0==0
       . exact Za
       . exact Za
set_option maxHeartbeats 8000000 in
theorem Cr(b:Nat)(s:Re.St)(fl ap:Value)(ib:Bool)(w:World)(h:aF w b s fl ap ib):Calls Tryz.prog 225 #[.pointer (some ⟨b,0,none⟩),.int .i64 1] w λx w'=>x=.returned (.bool (Fw.opn s ib 1))/\Below w.heap.size w w':=by
 have d0:w.cell? ⟨b,70,none⟩=some (.int .i64 (Fw.ed s 2)):=h.ext 15;have d1:w.cell? ⟨b,73,none⟩=some (.bool ib):=h.ext 18;have l0:=h.lt;have xW:=Lib.hid h.style;clear h;cases ib
 . exact Z6
 . cases h0:s.c 0==0
   . exact Z6
   . cases h2:s.c 2==0
     . exact Z6
     . cases he:Fw.ed s 2==0
       . exact Z6
       . cases h5:s.c 5==0
         . exact Z6
         . cases h9:s.c 9==0
           . exact Z6
           . exact Z6
theorem qD{W:World}{base g:Nat}{x:Int}(h:At W g (.cells #[.int .i64 x] 3))(hb:base<=g):W.ownsRow base 3 1 (.slice (some ⟨g,0,none⟩) 1 1) 1 (([x]:List Int).map (Value.int .i64)) :=
 ⟨by simp,.inr ⟨g,1,#[.int .i64 x],rfl,hb,h,by omega,by simp[maxLen],by simp,by simp⟩⟩
theorem DR(a b:Int)(w:World):(Instr.index 192 (.agg #[.int .i64 a,.int .i64 b]) (.int .i64 0)).run Tryz.prog w=.ok (.int .i64 a) w:=by kernel_rfl
theorem DT(a b:Int)(w:World):(Instr.index 192 (.agg #[.int .i64 a,.int .i64 b]) (.int .i64 1)).run Tryz.prog w=.ok (.int .i64 b) w:=by kernel_rfl
theorem vH(B:Int->Fw.Bx)(e:Nat):∀(f:Nat) (z:Int),(Fw.meet B e f z).length<=f+1
 | 0,z=>by simp[Fw.meet]
 | f+1,z=>by
   simp only[Fw.meet,List.length_cons];split
   . split
     . have:=vH B e f (by assumption);omega
     . simp
   . simp
section
variable {Y:rV} {B:Int->Fw.Bx} {D:Int->Prop} {KM:World->Nat->Prop}
set_option maxHeartbeats 8000000 in
theorem ab7(hK:∀(X X':World) (b:Nat),KM X b->Below X.heap.size X X'->KM X' b)(F:Int->Nat)(Ar:∀z,D z->∀k∈(B z).fl,D k/\F z=F k+1)(hlen:∀z,D z->(B z).fl.length<=10000):∀(f:Nat) (z:Int) (w:World),D z->F z=f->f<=1000->RO w Y B D KM ->
  Calls Tryz.prog 223 #[.pointer (some ⟨Y.lb,0,none⟩),.int .i64 z,.int .i64 0] w λx w'=>(∃v,x=.returned v/\w'.ownsRow w.heap.size 3 1 v (Fw.meet B 0 f z).length ((Fw.meet B 0 f z).map (Value.int .i64)))/\Below w.heap.size w w':=by
 intro f
 induction f with
 | zero =>
   intro z w hz hF hf hR;obtain⟨hbx,hks,_⟩:=hR.box z hz;have hL:=hR.look hz;have AL:=hR.lay;have hRH:=Lib.hid hR;have A2:=hbx;have hB:=Below.refl w.heap.size w;generalize hs:(B z).sty=s at *;generalize hib:(B z).ib=ib at *;generalize hfl:(B z).fl=fl at *;obtain⟨A,cp,hvf,hI,hle,hmx,hAn⟩:=hks.ints;rw[hvf]at hbx A2;generalize Y.va z=va at *;generalize Y.bl z=bz at *;have EU:w.cell? ⟨Y.lb,2,none⟩=some (.map (some Y.bm)):=AL.cell 2;have Br:=AL.lt;have Yx:=qG;have ix1:=DR;go_enter Tryz.func223,Tryz.ntmps223
   go_upto_region 3 with(first|(go_at_call 63;(with_reducible refine(iT _).mono ?_);rintro e w1 ⟨rfl,hb⟩;replace hB:=Below.ay hB (ah _) hb;replace A2:=At.keep A2 hb;clear hb)|(go_at_call 182;(with_reducible refine(fZ bz s (.slice A fl.length cp) va ib (-1) (-1) _ A2).mono ?_);rintro e w2 ⟨rfl,hb⟩;replace hB:=Below.ay hB (ah _) hb;replace A2:=At.keep A2 hb;clear hb))
   generalize hW:World.alloc _ _=W1;have AM:At W1 w2.heap.size (.cells #[.int .i64 (Fw.mg s 1 0 (-1))] 3):=hW▸At.new _ _;have hgm:w.heap.size<=w2.heap.size:=hB.size;replace A2:At W1 _ _:=hW▸At.alloc A2 _;replace hB:Below w.heap.size w W1:=hW▸Below.alloc' hB _;clear hW hL AL EU Br Yx ix1 hbx;generalize w2.heap.size=gm at *;have qp:W1.cell? ⟨bz,71,none⟩=some (.slice A fl.length cp):=aF.ext A2 16;have l2:=A2.lt;have hfe:fl=[]:=by
    rcases fl with _ | ⟨a,r⟩
    . rfl
    . have:=(Ar z hz a (by rw[hfl];simp)).2;omega
   have hlz:((fl.length:Int)==0)=true:=by rw[hfe];rfl
   cases hop:Fw.opn s ib 0
   . exact Z1n
   . exact Z1n
 | succ f ih =>
   intro z w hz hF hf hR;obtain⟨hbx,hks,_⟩:=hR.box z hz;have hL:=hR.look hz;have AL:=hR.lay;have hRH:=Lib.hid hR;have A2:=hbx;have hB:=Below.refl w.heap.size w;generalize hs:(B z).sty=s at *;generalize hib:(B z).ib=ib at *;generalize hfl:(B z).fl=fl at *;obtain⟨A,cp,hvf,hI,hle,hmx,hAn⟩:=hks.ints;rw[hvf]at hbx A2;generalize Y.va z=va at *;generalize Y.bl z=bz at *;have EU:w.cell? ⟨Y.lb,2,none⟩=some (.map (some Y.bm)):=AL.cell 2;have Br:=AL.lt;have Yx:=qG;have ix1:=DR;go_enter Tryz.func223,Tryz.ntmps223
   go_upto_region 3 with(first|(go_at_call 63;(with_reducible refine(iT _).mono ?_);rintro e w1 ⟨rfl,hb⟩;replace hB:=Below.ay hB (ah _) hb;replace A2:=At.keep A2 hb;clear hb)|(go_at_call 182;(with_reducible refine(fZ bz s (.slice A fl.length cp) va ib (-1) (-1) _ A2).mono ?_);rintro e w2 ⟨rfl,hb⟩;replace hB:=Below.ay hB (ah _) hb;replace A2:=At.keep A2 hb;clear hb))
   generalize hW:World.alloc _ _=W1;have AM:At W1 w2.heap.size (.cells #[.int .i64 (Fw.mg s 1 0 (-1))] 3):=hW▸At.new _ _;have hgm:w.heap.size<=w2.heap.size:=hB.size;replace A2:At W1 _ _:=hW▸At.alloc A2 _;replace hB:Below w.heap.size w W1:=hW▸Below.alloc' hB _;clear hW hL AL EU Br Yx ix1 hbx;generalize w2.heap.size=gm at *;cases hop:Fw.opn s ib 0
   . have GR:=Lib.hid hop
     clear hop;have qp:W1.cell? ⟨bz,71,none⟩=some (.slice A fl.length cp):=aF.ext A2 16;have l2:=A2.lt
     go_wp2_with ((go_at_call 225;(with_reducible refine(Ct bz s (.slice A fl.length cp) va ib _ A2).mono ?_);rintro e w3 ⟨rfl,hb⟩;replace AM:=AM.keep hb;replace hB:=Below.ay hB (ah _) hb;replace A2:=At.keep A2 hb;replace qp:=((kP hb).1 _ _ l2).trans qp;replace l2:=aR l2 hb.size;clear hb;rw[GR.out]))
     refine bodyPost_ret (results_tmp rfl _ _ _) rfl ⟨⟨_,rfl,?_⟩,hB⟩;have hm:Fw.meet B 0 (f+1) z=[Fw.mg s 1 0 (-1)]:=by
      simp only[Fw.meet,hs,hib,GR.out,Bool.false_eq_true,if_false]
     rw[hm];exact qD AM hgm
   . have GR:=Lib.hid hop
     clear hop;by_cases hn:fl=[]
     . have hlz:((fl.length:Int)==0)=true:=by rw[hn];rfl
       have qp:W1.cell? ⟨bz,71,none⟩=some (.slice A fl.length cp):=aF.ext A2 16;have l2:=A2.lt
       go_wp2_with ((go_at_call 225;(with_reducible refine(Ct bz s (.slice A fl.length cp) va ib _ A2).mono ?_);rintro e w3 ⟨rfl,hb⟩;replace AM:=AM.keep hb;replace hB:=Below.ay hB (ah _) hb;replace A2:=At.keep A2 hb;replace qp:=((kP hb).1 _ _ l2).trans qp;replace l2:=aR l2 hb.size;clear hb;rw[GR.out]))
       refine bodyPost_ret (results_tmp rfl _ _ _) rfl ⟨⟨_,rfl,?_⟩,hB⟩;have hm:Fw.meet B 0 (f+1) z=[Fw.mg s 1 0 (-1)]:=by
        simp only[Fw.meet,hs,hib,hfl,GR.out,if_true,hn];simp
       rw[hm];exact qD AM hgm
     . have hn0:0<fl.length:=List.length_pos_iff.2 hn
       have hnz:((fl.length:Int)==0)=false:=by simp;intro q;exact hn q
       have HN:=Lib.hid hn;clear hn;obtain⟨nx,hnx⟩:∃x,fl.getD (0) 0=x:=⟨_,rfl⟩;have hx:nx=fl[(0:Nat)]'ak:=by rw[<-hnx,List.getD_eq_getElem?_getD,List.getElem?_eq_getElem ak];rfl
       have hmem:nx∈fl:=by rw[hx];exact List.getElem_mem _
       have hD:=Ar z hz nx (hfl▸hmem);have hm:Fw.meet B 0 (f+1) z=Fw.mg s 1 0 (-1)::Fw.meet B 0 f nx:=by
        simp only[Fw.meet,hs,hib,hfl,GR.out,if_true];rw[show fl.head? = some nx from by rw[hx,List.head?_eq_getElem?,List.getElem?_eq_getElem hn0]]
       have ab8:=hlen z hz;rw[hfl]at ab8;have HM:=Lib.hid hm;clear hm hx;have qp:W1.cell? ⟨bz,71,none⟩=some (.slice A fl.length cp):=aF.ext A2 16;have l2:=A2.lt
       go_upto_region 5 with((go_at_call 225;(with_reducible refine(Ct bz s (.slice A fl.length cp) va ib _ A2).mono ?_);rintro e w3 ⟨rfl,hb⟩;replace AM:=AM.keep hb;replace hB:=Below.ay hB (ah _) hb;replace A2:=At.keep A2 hb;replace qp:=((kP hb).1 _ _ l2).trans qp;replace l2:=aR l2 hb.size;clear hb;rw[GR.out]))
       have hIc:=hI.after hB;obtain⟨bf,off,hAf,lf,cf⟩:=hIc.at_ (k:=0) hn0;rw[hnx,Nat.add_zero]at cf;subst hAf;have HLQ:=Lib.hid (vH B 0 f nx);clear hnx
       go_wp2_with (first|(go_at_call 223;(with_reducible refine(ih nx _ hD.1 (by have:=hD.2;omega) ak (hRH.out.keep hK hB)).mono ?_);rintro e w4 ⟨⟨v4,rfl,ho4⟩,hb4⟩;obtain⟨A4,c4,rfl,Rb,agx,agy,ab9⟩:=KS.ints (fE ho4 (bJ _));obtain⟨v',w',hr,ho',hB',hs'⟩:=jN (w0:=w) (base:=w.heap.size) (qD (AM.keep hb4) hgm) (Below.ay hB (ah _) hb4) (aC hB.size hb4.size) Rb (m:=(Fw.meet B 0 f nx).length) rfl ab9 (by have:=HLQ.out;omega);have HR:=Lib.hid hr;clear hr)|(at_builtin;refine wpList_append_run aU _ _ 30 rfl rfl rfl HR.out ?_))
       refine bodyPost_ret (results_tmp rfl _ _ _) rfl ⟨⟨_,rfl,?_⟩,hB'⟩;rw[HM.out];simpa[Nat.add_comm]using ho'
set_option maxHeartbeats 8000000 in
theorem ab'(hK:∀(X X':World) (b:Nat),KM X b->Below X.heap.size X X'->KM X' b)(F:Int->Nat)(Ar:∀z,D z->∀k∈(B z).fl,D k/\F z=F k+1)(hlen:∀z,D z->(B z).fl.length<=10000):∀(f:Nat) (z:Int) (w:World),D z->F z=f->f<=1000->RO w Y B D KM ->
  Calls Tryz.prog 223 #[.pointer (some ⟨Y.lb,0,none⟩),.int .i64 z,.int .i64 1] w λx w'=>(∃v,x=.returned v/\w'.ownsRow w.heap.size 3 1 v (Fw.meet B 1 f z).length ((Fw.meet B 1 f z).map (Value.int .i64)))/\Below w.heap.size w w':=by
 intro f
 induction f with
 | zero =>
   intro z w hz hF hf hR;obtain⟨hbx,hks,_⟩:=hR.box z hz;have hL:=hR.look hz;have AL:=hR.lay;have hRH:=Lib.hid hR;have A2:=hbx;have hB:=Below.refl w.heap.size w;generalize hs:(B z).sty=s at *;generalize hib:(B z).ib=ib at *;generalize hfl:(B z).fl=fl at *;obtain⟨A,cp,hvf,hI,hle,hmx,hAn⟩:=hks.ints;rw[hvf]at hbx A2;generalize Y.va z=va at *;generalize Y.bl z=bz at *;have EU:w.cell? ⟨Y.lb,2,none⟩=some (.map (some Y.bm)):=AL.cell 2;have Br:=AL.lt;have Yx:=qG;have ix1:=DT;go_enter Tryz.func223,Tryz.ntmps223
   go_upto_region 3 with(first|(go_at_call 63;(with_reducible refine(iT _).mono ?_);rintro e w1 ⟨rfl,hb⟩;replace hB:=Below.ay hB (ah _) hb;replace A2:=At.keep A2 hb;clear hb)|(go_at_call 182;(with_reducible refine(fZ bz s (.slice A fl.length cp) va ib (-1) (-1) _ A2).mono ?_);rintro e w2 ⟨rfl,hb⟩;replace hB:=Below.ay hB (ah _) hb;replace A2:=At.keep A2 hb;clear hb))
   generalize hW:World.alloc _ _=W1;have AM:At W1 w2.heap.size (.cells #[.int .i64 (Fw.mg s 1 1 (-1))] 3):=hW▸At.new _ _;have hgm:w.heap.size<=w2.heap.size:=hB.size;replace A2:At W1 _ _:=hW▸At.alloc A2 _;replace hB:Below w.heap.size w W1:=hW▸Below.alloc' hB _;clear hW hL AL EU Br Yx ix1 hbx;generalize w2.heap.size=gm at *;have qp:W1.cell? ⟨bz,71,none⟩=some (.slice A fl.length cp):=aF.ext A2 16;have l2:=A2.lt;have hfe:fl=[]:=by
    rcases fl with _ | ⟨a,r⟩
    . rfl
    . have:=(Ar z hz a (by rw[hfl];simp)).2;omega
   have hlz:((fl.length:Int)==0)=true:=by rw[hfe];rfl
   cases hop:Fw.opn s ib 1
   . exact Z1m
   . exact Z1m
 | succ f ih =>
   intro z w hz hF hf hR;obtain⟨hbx,hks,_⟩:=hR.box z hz;have hL:=hR.look hz;have AL:=hR.lay;have hRH:=Lib.hid hR;have A2:=hbx;have hB:=Below.refl w.heap.size w;generalize hs:(B z).sty=s at *;generalize hib:(B z).ib=ib at *;generalize hfl:(B z).fl=fl at *;obtain⟨A,cp,hvf,hI,hle,hmx,hAn⟩:=hks.ints;rw[hvf]at hbx A2;generalize Y.va z=va at *;generalize Y.bl z=bz at *;have EU:w.cell? ⟨Y.lb,2,none⟩=some (.map (some Y.bm)):=AL.cell 2;have Br:=AL.lt;have Yx:=qG;have ix1:=DT;go_enter Tryz.func223,Tryz.ntmps223
   go_upto_region 3 with(first|(go_at_call 63;(with_reducible refine(iT _).mono ?_);rintro e w1 ⟨rfl,hb⟩;replace hB:=Below.ay hB (ah _) hb;replace A2:=At.keep A2 hb;clear hb)|(go_at_call 182;(with_reducible refine(fZ bz s (.slice A fl.length cp) va ib (-1) (-1) _ A2).mono ?_);rintro e w2 ⟨rfl,hb⟩;replace hB:=Below.ay hB (ah _) hb;replace A2:=At.keep A2 hb;clear hb))
   generalize hW:World.alloc _ _=W1;have AM:At W1 w2.heap.size (.cells #[.int .i64 (Fw.mg s 1 1 (-1))] 3):=hW▸At.new _ _;have hgm:w.heap.size<=w2.heap.size:=hB.size;replace A2:At W1 _ _:=hW▸At.alloc A2 _;replace hB:Below w.heap.size w W1:=hW▸Below.alloc' hB _;clear hW hL AL EU Br Yx ix1 hbx;generalize w2.heap.size=gm at *;cases hop:Fw.opn s ib 1
   . have GR:=Lib.hid hop
     clear hop;have qp:W1.cell? ⟨bz,71,none⟩=some (.slice A fl.length cp):=aF.ext A2 16;have l2:=A2.lt
     go_wp2_with ((go_at_call 225;(with_reducible refine(Cr bz s (.slice A fl.length cp) va ib _ A2).mono ?_);rintro e w3 ⟨rfl,hb⟩;replace AM:=AM.keep hb;replace hB:=Below.ay hB (ah _) hb;replace A2:=At.keep A2 hb;replace qp:=((kP hb).1 _ _ l2).trans qp;replace l2:=aR l2 hb.size;clear hb;rw[GR.out]))
     refine bodyPost_ret (results_tmp rfl _ _ _) rfl ⟨⟨_,rfl,?_⟩,hB⟩;have hm:Fw.meet B 1 (f+1) z=[Fw.mg s 1 1 (-1)]:=by
      simp only[Fw.meet,hs,hib,GR.out,Bool.false_eq_true,if_false]
     rw[hm];exact qD AM hgm
   . have GR:=Lib.hid hop
     clear hop;by_cases hn:fl=[]
     . have hlz:((fl.length:Int)==0)=true:=by rw[hn];rfl
       have qp:W1.cell? ⟨bz,71,none⟩=some (.slice A fl.length cp):=aF.ext A2 16;have l2:=A2.lt
       go_wp2_with ((go_at_call 225;(with_reducible refine(Cr bz s (.slice A fl.length cp) va ib _ A2).mono ?_);rintro e w3 ⟨rfl,hb⟩;replace AM:=AM.keep hb;replace hB:=Below.ay hB (ah _) hb;replace A2:=At.keep A2 hb;replace qp:=((kP hb).1 _ _ l2).trans qp;replace l2:=aR l2 hb.size;clear hb;rw[GR.out]))
       refine bodyPost_ret (results_tmp rfl _ _ _) rfl ⟨⟨_,rfl,?_⟩,hB⟩;have hm:Fw.meet B 1 (f+1) z=[Fw.mg s 1 1 (-1)]:=by
        simp only[Fw.meet,hs,hib,hfl,GR.out,if_true,hn];simp
       rw[hm];exact qD AM hgm
     . have hn0:0<fl.length:=List.length_pos_iff.2 hn
       have hnz:((fl.length:Int)==0)=false:=by simp;intro q;exact hn q
       have HN:=Lib.hid hn;clear hn;obtain⟨nx,hnx⟩:∃x,fl.getD (fl.length-1) 0=x:=⟨_,rfl⟩;have hx:nx=fl[(fl.length-1:Nat)]'ak:=by rw[<-hnx,List.getD_eq_getElem?_getD,List.getElem?_eq_getElem ak];rfl
       have hmem:nx∈fl:=by rw[hx];exact List.getElem_mem _
       have hD:=Ar z hz nx (hfl▸hmem);have hm:Fw.meet B 1 (f+1) z=Fw.mg s 1 1 (-1)::Fw.meet B 1 f nx:=by
        simp only[Fw.meet,hs,hib,hfl,GR.out,if_true];rw[show fl.getLast? = some nx from by rw[hx,List.getLast?_eq_getElem?,List.getElem?_eq_getElem ak]];simp
       have ab8:=hlen z hz;rw[hfl]at ab8;have HM:=Lib.hid hm;clear hm hx;have qp:W1.cell? ⟨bz,71,none⟩=some (.slice A fl.length cp):=aF.ext A2 16;have l2:=A2.lt
       go_upto_region 5 with((go_at_call 225;(with_reducible refine(Cr bz s (.slice A fl.length cp) va ib _ A2).mono ?_);rintro e w3 ⟨rfl,hb⟩;replace AM:=AM.keep hb;replace hB:=Below.ay hB (ah _) hb;replace A2:=At.keep A2 hb;replace qp:=((kP hb).1 _ _ l2).trans qp;replace l2:=aR l2 hb.size;clear hb;rw[GR.out]))
       have hIc:=hI.after hB;obtain⟨bf,off,hAf,lf,cf⟩:=hIc.at_ (k:=0) hn0;obtain⟨m,hmm⟩:∃m,fl.length=m+1:=⟨fl.length-1,by omega⟩;obtain⟨bg,ofg,hAg,lg,cg⟩:=hIc.at_ (k:=m) ak;obtain⟨rfl,rfl⟩:bg=bf/\ofg=off:=by rw[hAf]at hAg;simpa using hAg.symm
       subst hAf;rw[show fl.getD m 0=nx from by rw[<-hnx,hmm];rfl]at cg;rw[Nat.add_zero]at cf;have hsub:IntKind.i64.wrap ((fl.length:Int)-1)=(m:Int):=by rw[IntWalk.i64_in _ ak];omega
       have ahE:m<fl.length:=by omega
       clear hmm
       go_upto_region 7 with(fail)
       refine xP ?_
       (repeat (first|refine nN ?_ | refine nO ?_ (hc:=by intro w2 hS;first|with_reducible exact nI hS (jh _))|refine nP ?_))
       refine aj.bZ ?_;intro w2 hS;replace AM:=AM.keep hS;replace hB:=Below.ay hB (ah _) hS;replace A2:=At.keep A2 hS;clear hS;have HLQ:=Lib.hid (vH B 1 f nx);clear hnx
       go_wp2_with (first|(go_at_call 223;(with_reducible refine(ih nx _ hD.1 (by have:=hD.2;omega) ak (hRH.out.keep hK hB)).mono ?_);rintro e w4 ⟨⟨v4,rfl,ho4⟩,hb4⟩;obtain⟨A4,c4,rfl,Rb,agx,agy,ab9⟩:=KS.ints (fE ho4 (bJ _));obtain⟨v',w',hr,ho',hB',hs'⟩:=jN (w0:=w) (base:=w.heap.size) (qD (AM.keep hb4) hgm) (Below.ay hB (ah _) hb4) (aC hB.size hb4.size) Rb (m:=(Fw.meet B 1 f nx).length) rfl ab9 (by have:=HLQ.out;omega);have HR:=Lib.hid hr;clear hr)|(at_builtin;refine wpList_append_run aU _ _ 30 rfl rfl rfl HR.out ?_))
       refine bodyPost_ret (results_tmp rfl _ _ _) rfl ⟨⟨_,rfl,?_⟩,hB'⟩;rw[HM.out];simpa[Nat.add_comm]using ho'
end
set_option maxHeartbeats 4000000 in
theorem RA(A T B:Option Addr)(s t u:List Int)(n d1 d2 d3:Nat)(w:World)(hs:Ints w A s)(ht:Ints w T t)(hu:Ints w B u)(ls:s.length=n)(lt:t.length=n)(lu:u.length=n)(hn:n<=1001) :
  Calls Tryz.prog 224 #[.slice A n d1,.slice T n d2,.slice B n d3] w λe w'=>(∃b,e=.returned (.tuple #[.slice (some ⟨b,0,none⟩) n n,.int .i64 (Fx.uN s t u n)])/\w.heap.size<=b/\Ints w' (some ⟨b,0,none⟩) (Fx.uO s t u n))/\Below w.heap.size w w':=by
 obtain⟨i0,hi0,hz0,hz1,hz2⟩:=info_parts intZero;have HS:=Lib.hid hs;clear hs;have HT:=Lib.hid ht;clear ht;have HU:=Lib.hid hu;clear hu;have LS:=Lib.hid ls;clear ls;have LT:=Lib.hid lt;clear lt;have LU:=Lib.hid lu;clear lu;go_enter Tryz.func224,Tryz.ntmps224
 go_wp2_with (at_make;refine wpList_make_row _ rfl _ _ 30 rfl 3 i0 (.int .i64 0) Tryz.underlying30 hi0 hz0 hz1 rfl .i64 .i64 n rfl rfl Qr ak ?_)
 go_loopw [9,29] (λe i wr=>∃k:Nat,k<=n/\i=.int .i64 k/\e=.int .i64 (Fx.uN s t u k)/\At wr w.heap.size (.cells (aK (Fx.o7 s t u) n k) 3)/\Below w.heap.size w wr) (λ_ i _=>n-(intOf i).toNat)
 case atStart=>exact⟨0,by omega,rfl,rfl,by rw[<-jM];exact At.new _ _,Below.alloc' (Below.refl _ _) _⟩
 case round =>
  obtain⟨k,hk,rfl,rfl,hA,hB⟩:=hrel;have hB':=hB;by_cases hlt:k<n
  . obtain⟨b1,o1,hA1,l1,c1⟩:=(HS.out.after hB').at_ (k:=k) (by rw[LS.out];exact hlt)
    have HZ:Hid (Fx.uN s t u (k+1)=Fx.add (Fx.o7 s t u k) (s.getD k 0)):=Lib.hid (Fx.MK s t u k);generalize s.getD k 0=z at *;subst hA1;have hlb:=hA.lt;rcases Nat.eq_zero_or_pos k with rfl|h0
    . have hz:=hA.cell 0
      rw[cK _ hlt]at hz;have HR:Hid (aK (Fx.o7 s t u) n 0=aK (Fx.o7 s t u) n 1):=Lib.hid (MW _ _ rfl);simp only[Nat.not_lt_zero,if_false]at hz;simp only[Nat.add_zero]at c1
      go_wp2_with (first|(go_at_call 109;with_reducible refine wL (pz _ _ _) ?_))
      go_roundw
      case rel=>exact⟨1,by omega,by go_num,by rw[HZ.out,Fx.ML],by rw[<-HR.out];exact hA,hB⟩
      case measure=>simp[intOf];omega
    . obtain⟨m,hm⟩:∃m,k=m+1:=⟨k-1,by omega⟩
      obtain⟨b2,o2,hA2,l2,c2⟩:=(HT.out.after hB').at_ (k:=k) (by rw[LT.out];exact hlt);obtain⟨b3,o3,hA3,l3,c3⟩:=(HU.out.after hB').at_ (k:=m) (by rw[LU.out];omega);have HP:Hid (Fx.o7 s t u k=Fx.add (Fx.uN s t u k) (Fx.coll [u.getD m 0,t.getD k 0])):=Lib.hid (by rw[Fx.Qt s t u ak,show k-1=m by omega]);generalize t.getD k 0=y at *;generalize u.getD m 0=x at *;subst hA2 hA3;have hw:IntKind.i64.wrap ((k:Int)-1)=(m:Int):=by rw[IntWalk.i64_in _ ak];omega
      have hmn:m<n:=by omega
      have hz:=hA.thaw k;have HM:=Lib.hid hm;clear hm
      go_upto_region 9 with(fail)
      refine QB 15 1 ?_
      (repeat (first|refine nN ?_ | refine nO ?_ (hc:=by intro w2 hS;first|with_reducible exact nI hS (Ug _ _ _)|with_reducible exact JM hS (pz _ _ _))|refine nP ?_))
      refine aj.dJ ?_;intro w2 hS;have A4:=hA.keep hS;have B4:=Below.ay hB (ah _) hS;have hc4:=A4.cell k;rw[cK _ hlt]at hc4;have hz4:=A4.thaw k;refine xV ?_;intro K hK;go_simp;refine hK _ _ (aj.bP ?_);clear hK K;generalize hW:World.setCell _ _ _=W2;replace A4:At W2 w.heap.size (.cells (aK (Fx.o7 s t u) n (k+1)) 3):=by
       rw[<-hW,<-j3 _ hlt,HP.out];exact A4.set k _
      replace B4:Below w.heap.size w W2:=hW▸Below.setCell B4 (ah _) _;have hc5:=A4.cell k;rw[cK _ ak,if_pos ak]at hc5;have agz:=A4.lt;clear hW hc4 hz4 hz hS c1 c2 c3 l1 l2 l3 hA hB hB' hlb
      go_wp2_with (first|(go_at_call 109;with_reducible refine wL (pz _ _ _) ?_))
      go_roundw
      case rel=>exact⟨k+1,by omega,by go_num,by rw[HZ.out],A4,B4⟩
      case measure=>simp[intOf];omega
  . obtain rfl:k=n:=by omega
    go_wp2;refine bodyPost_ret (v:=.tuple #[.slice (some ⟨w.heap.size,0,none⟩) k k,.int .i64 _]) (by simp[results,Tryz.results224,go_sem, *];first|done|exact⟨rfl,rfl⟩|rfl) rfl ⟨⟨w.heap.size,rfl,ah _,EK s t u k Jv hA⟩,hB⟩
theorem Ci{cs vs:Array Value}(h:vs.size=cs.size):splice cs 0 vs=vs:=by
 unfold splice;rw[List.take_zero,List.nil_append,Nat.zero_add,h,List.drop_of_length_le eY,List.append_nil]
theorem Vx(f:Nat->Int)(w:World)(n:Nat)(hn:n<=100000):(Instr.makeSlice 30 (.int .i64 (n:Int)) (.int .i64 (n:Int))).run Tryz.prog w=.ok (.slice (some ⟨w.heap.size,0,none⟩) n n) (w.alloc (.cells (aK f n 0) 3)):=by
 obtain⟨i0,hi0,hz0,hz1,hz2⟩:=info_parts intZero;have hrun:=run_make (P:=Tryz.prog) w 30 3 i0 _ Tryz.underlying30 hi0 hz0 .i64 .i64 n n ak (Int.le_refl _) Qr ak;rw[Int.toNat_natCast]at hrun;rw[hrun,<-jM,hz1,Nat.mul_one];rfl
theorem dH(f:Nat->Int){n:Nat}{o:Oper}{a:Act}{w:World}(l c:Operand)(ho:o.op=.makeSlice 30 l c)(hl:a.eval l=.int .i64 (n:Int))(hc:a.eval c=.int .i64 (n:Int))(hn:n<=100000):(execOp a.eval o).run Tryz.prog w=.ok (.value (.slice (some ⟨w.heap.size,0,none⟩) n n)) (w.alloc (.cells (aK f n 0) 3)):=by
 unfold execOp;simp only[ho,hl,hc,Sem.run_bind,Vx f w n hn,Result.andThen_ok,Sem.run_pure]
theorem RB{w:World}{b o:Nat}{l:List Int}(h:Ints w (some ⟨b,o,none⟩) l){k:Nat}(hk:k<l.length):b<w.heap.size/\w.cell? ⟨b,o+k,none⟩=some (.int .i64 (l.getD k 0)):=by
 obtain⟨b',off,e,hl,hc⟩:=h.at_ hk;injection e with e;injection e with e1 e2;subst e1 e2;exact⟨hl,hc⟩
theorem ZJ{W:World}{v:Value}{l:List Int}{b o m cp:Nat}(hv:v=.slice (some ⟨b,o,none⟩) m cp)(h:KS W v l)(hm:m=l.length):Ints W (some ⟨b,o,none⟩) l:=by
 obtain⟨A,c,e,hI,_⟩:=h.ints;rw[hv]at e;injection e with e1 e2 e3;rw[e1];exact hI
section
variable {W W':World} {Y:rV} {B:Int->Fw.Bx} {D:Int->Prop} {KM:World->Nat->Prop}
theorem RO.lookO(h:RO W Y B D KM){X:World}(k:Out (λb=>b=Y.pm) W X){z:Int}(hz:D z):(Instr.lookup 116 (.map (some Y.bm)) (.int .i64 z) false).run Tryz.prog X=.ok (.pointer (some ⟨Y.bl z,0,none⟩)) X:=by
 obtain⟨n,g,h1,h2⟩:=h.boxes;rw[(h1.out (λq=>h.pmb q.symm) k).look jr Tryz.underlying116 (z:=.pointer none) fV (j4 (h.wf z hz)),h2 z hz];rfl
end
def blG(first:Int)(szl tZ sP:List Int)(i:Nat)(x:Fw.Ld):Fw.Ld:={ x with a1:=Fw.wr (first+Fx.o7 szl tZ sP i) }
def csf(B:Int->Fw.Bx)(f:Nat)(l:List Int)(k:Nat):Nat:=((l.take k).map (Fw.cst B f)).sum
theorem Vy(B:Int->Fw.Bx)(f:Nat)(l:List Int){k:Nat}(hk:k<l.length):csf B f l (k+1)=csf B f l k+Fw.cst B f l[k]:=by
 unfold csf;rw[List.take_succ_eq_append_getElem hk];exact Z32
theorem Vz(B:Int->Fw.Bx)(f:Nat)(l:List Int)(k:Nat):csf B f l k<=(l.map (Fw.cst B f)).sum:=by
 unfold csf
 conv=>rhs;rw[<-List.take_append_drop k l,List.map_append,List.sum_append]
 omega
theorem oL.snoc{cs:Array Value}{l:List Fw.Ld}{x:Fw.Ld}(h:oL cs l)(hf:l.length*7+7<=cs.size):oL (splice cs (l.length*7) (eF x)) (l++[x]):=by
 have hs:l.length*7+(eF x).size<=cs.size:=by rw[dw];exact hf
 refine⟨by rw[je hs];simp;omega,λi hi j hj => ?_⟩;by_cases e:i<l.length
 . rw[List.getElem_append_left e,iP hs (.inl ak)]
   exact h.2 i e j hj
 . have:i=l.length:=by simp at hi;omega
   subst this;rw[nW hs (by rw[dw];exact hj)];simp
theorem oL.J3{cs:Array Value}{l:List Fw.Ld}(h:oL cs l){k:Nat}(hk:k<l.length)(a:Int):oL (cs.setIfInBounds (k*7+6) (.int .i64 a)) (l.set k { l[k]with a1:=a }):=by
 refine⟨by simpa using h.1,λi hi j hj => ?_⟩;have hi':i<l.length:=by simpa using hi
 have hs:=h.1;simp only[Array.getElem?_setIfInBounds,List.getElem_set];by_cases e:k=i
 . subst e
   rw[if_pos rfl];have h0:=h.2 k hi' j hj;by_cases e6:k*7+6=k*7+j
   . obtain rfl:j=6:=by omega
     rw[if_pos rfl,if_pos ak];rfl
   . rw[if_neg e6,h0]
     rcases(show j=0\/j=1\/j=2\/j=3\/j=4\/j=5 by omega)with rfl|rfl|rfl|rfl|rfl|rfl<;>rfl
 . rw[if_neg e,if_neg ak]
   exact h.2 i hi' j hj
def yK(g:Nat->Fw.Ld->Fw.Ld)(l:List Fw.Ld)(k:Nat):List Fw.Ld:=(l.take k).mapIdx g++l.drop k
theorem Aw(g:Nat->Fw.Ld->Fw.Ld)(l:List Fw.Ld)(k:Nat):(yK g l k).length=l.length:=by simp[yK];omega
theorem VA(g:Nat->Fw.Ld->Fw.Ld)(l:List Fw.Ld){k:Nat}(hk:k<l.length):(yK g l k)[k]'(by rw[Aw];exact hk)=l[k]:=by
 unfold yK;rw[List.getElem_append_right jH];simp;congr 1;omega
theorem RD(g:Nat->Fw.Ld->Fw.Ld)(l:List Fw.Ld){k:Nat}(hk:k<l.length):(yK g l k).set k (g k l[k])=yK g l (k+1):=by
 unfold yK;exact Z2b
theorem RF(g:Nat->Fw.Ld->Fw.Ld)(l:List Fw.Ld):yK g l 0=l:=by simp[yK]
theorem VB(g:Nat->Fw.Ld->Fw.Ld)(l:List Fw.Ld):yK g l l.length=l.mapIdx g:=by simp[yK]
end Go.Proofs.YtcbcfdihofclkaaGreat.Fix
