/- Steps of the program (11); no conditions. -/
import Derived.Test.YtfohooineeijkaaGreatM10
set_option linter.all false
set_option maxRecDepth 100000
set_option maxHeartbeats 16000000
namespace Go.Proofs.YtfohooineeijkaaGreat.Fix
open Go.ChangeShapes Go.WideShapes Go.ChangeAt Go.RowKit
open Go.Proofs.Tryz renaming prog → ja0
section
open List renaming setIfInBounds_toArray → ja1,set_cons_zero → ja2,set_cons_succ → ja3,getElem?_eq_getElem → ja6,length_append → ja7,length_cons → ja9,length_map → jb7,getD_eq_getElem?_getD → jb8,getElem?_map → jc0,append_toArray → jc1,getElem_mem → jc2,size_toArray → jc3,take_succ_eq_append_getElem → jc8,push_toArray → jc',cons_append → jd1
open World renaming alloc → ja4,setCell → ja5
variable {v:Nat->Value}{d:Nat->Bool}{W w:World}{k n₀ B:Nat}
theorem pF{base g:Nat}{x:Int}(h:At W g (.cells #[x] 3))(hb:base<=g):W.ownsRow base 3 1 (.slice g 1 1) 1 (([x]:List Int).map (Value.int .i64)) :=
 ⟨by simp,.inr ⟨g,1,#[x],rfl,hb,h,by omega,by simp[maxLen],by simp,by simp⟩⟩
theorem Es(a b:Int)(w:World):(Instr.index 139 (.agg #[a,b]) (.int .i64 0)).run ja0 w=.ok (.int .i64 a) w:=by kernel_rfl
theorem Et(a b:Int)(w:World):(Instr.index 139 (.agg #[a,b]) (.int .i64 1)).run ja0 w=.ok (.int .i64 b) w:=by kernel_rfl
theorem vI(B:Int->Fw.Bx)(e:Nat):∀(f:Nat) (z:Int),(Fw.meet B e f z).length<=f+1
 | 0,z=>by simp[Fw.meet]
 | f+1,z=>by
   simp only[Fw.meet,ja9];split
   . split
     . have:=vI B e f (by assumption);omega
     . simp
   . simp
section
variable {Y:pU} {B:Int->Fw.Bx} {D:Int->Prop} {KM:World->Nat->Prop}
theorem adR(hK:∀(X X':World) (b:Nat),KM X b->Below X X X'->KM X' b)(F:Int->Nat)(Bh:∀z,D z->∀k∈(B z).fl,D k/\F z=F k+1)(hlen:∀z,D z->(B z).fl.length<=10000):∀(f:Nat) (z:Int) (w:World),D z->F z=f->f<=1000->RO w Y B D KM ->
  Calls ja0 128 #[Y.lb,z,()] w λx w'=>(∃v,x=.returned v/\w'.ownsRow w.heap.size 3 1 v (Fw.meet B 0 f z).length ((Fw.meet B 0 f z).map (Value.int .i64)))/\Below w w w':=by
 intro f
 induction f with
 | zero =>
   intro z w hz hF hf hR;obtain⟨hbx,hks,_⟩:=hR.box z hz;have hL:=hR.look hz;have AL:=hR.lay;have hRH:=ah hR;have A2:=hbx;have hB:=Below.refl w.heap.size w;generalize hs:(B z).sty=s at *;generalize hib:(B z).ib=ib at *;generalize hfl:(B z).fl=fl at *;obtain⟨A,cp,hvf,hI,hle,hmx,hAn⟩:=hks.ints;rw[hvf]at hbx A2;generalize Y.va z=va at *;generalize Y.bl z=bz at *;have F4:w.cell? ⟨Y.lb,2,none⟩=some (.map (some Y.bm)):=AL.cell 2;have BR:=AL.lt;have ix0:=pQ;have ix1:=Es;go_enter Tryz.func128,Tryz.ntmps128
   go_upto_region 3 with(first|(go_at_call 33;(with_reducible refine(kN _).mono ?_);rintro e w1 ⟨rfl,hb⟩;replace hB:=Below.ay hB aC hb;replace A2:=At.keep A2 hb;clear hb)|(go_at_call 108;(with_reducible refine(fI bz s (.slice A fl.length cp) va ib (-1) (-1) _ A2).mono ?_);rintro e w2 ⟨rfl,hb⟩;replace hB:=Below.ay hB aC hb;replace A2:=At.keep A2 hb;clear hb))
   generalize hW:ja4 _ _=W1;have AM:At W1 w2 (.cells #[.int .i64 (Fw.mg s 1 0 (-1))] 3):=hW▸At.new _ _;have hgm:w.heap.size<=w2.heap.size:=hB.size;replace A2:At W1 _ _:=hW▸At.alloc A2 _;replace hB:Below w w W1:=hW▸aB hB _;clear hW hL AL F4 BR ix0 ix1 hbx;generalize w2.heap.size=gm at *;have nN:W1.cell? ⟨bz,71,none⟩=some (.slice A fl.length cp):=aL.ext A2 16;have l2:=A2.lt;have hfe:fl=[]:=by
    rcases fl with _ | ⟨a,r⟩
    . rfl
    . have:=(Bh z hz a (by rw[hfl];simp)).2;omega
   have hlz:((fl.length:Int)==0)=true:=by rw[hfe];rfl
   cases hop:Fw.opn s ib 0
   . exact Zz
   . exact Zz
 | succ f ih =>
   intro z w hz hF hf hR;obtain⟨hbx,hks,_⟩:=hR.box z hz;have hL:=hR.look hz;have AL:=hR.lay;have hRH:=ah hR;have A2:=hbx;have hB:=Below.refl w.heap.size w;generalize hs:(B z).sty=s at *;generalize hib:(B z).ib=ib at *;generalize hfl:(B z).fl=fl at *;obtain⟨A,cp,hvf,hI,hle,hmx,hAn⟩:=hks.ints;rw[hvf]at hbx A2;generalize Y.va z=va at *;generalize Y.bl z=bz at *;have F4:w.cell? ⟨Y.lb,2,none⟩=some (.map (some Y.bm)):=AL.cell 2;have BR:=AL.lt;have ix0:=pQ;have ix1:=Es;go_enter Tryz.func128,Tryz.ntmps128
   go_upto_region 3 with(first|(go_at_call 33;(with_reducible refine(kN _).mono ?_);rintro e w1 ⟨rfl,hb⟩;replace hB:=Below.ay hB aC hb;replace A2:=At.keep A2 hb;clear hb)|(go_at_call 108;(with_reducible refine(fI bz s (.slice A fl.length cp) va ib (-1) (-1) _ A2).mono ?_);rintro e w2 ⟨rfl,hb⟩;replace hB:=Below.ay hB aC hb;replace A2:=At.keep A2 hb;clear hb))
   generalize hW:ja4 _ _=W1;have AM:At W1 w2 (.cells #[.int .i64 (Fw.mg s 1 0 (-1))] 3):=hW▸At.new _ _;have hgm:w.heap.size<=w2.heap.size:=hB.size;replace A2:At W1 _ _:=hW▸At.alloc A2 _;replace hB:Below w w W1:=hW▸aB hB _;clear hW hL AL F4 BR ix0 ix1 hbx;generalize w2.heap.size=gm at *;cases hop:Fw.opn s ib 0
   . have Iy:=ah hop
     clear hop;have nN:W1.cell? ⟨bz,71,none⟩=some (.slice A fl.length cp):=aL.ext A2 16;have l2:=A2.lt
     go_wp2_with ((go_at_call 130;(with_reducible refine(CZ bz s (.slice A fl.length cp) va ib _ A2).mono ?_);rintro e w3 ⟨rfl,hb⟩;replace AM:=AM.keep hb;replace hB:=Below.ay hB aC hb;replace A2:=At.keep A2 hb;replace nN:=((gJ hb).1 _ _ l2).trans nN;replace l2:=aU l2 hb.size;clear hb;rw[Iy.out]))
     refine bodyPost_ret (results_tmp rfl _ _ _) rfl ⟨⟨_,rfl,?_⟩,hB⟩;have hm:Fw.meet B 0 (f+1) z=[Fw.mg s 1 0 (-1)]:=by
      simp only[Fw.meet,hs,hib,Iy.out,Bool.false_eq_true,if_false]
     rw[hm];exact pF AM hgm
   . have Iy:=ah hop
     clear hop;by_cases hn:fl=[]
     . have hlz:((fl.length:Int)==0)=true:=by rw[hn];rfl
       have nN:W1.cell? ⟨bz,71,none⟩=some (.slice A fl.length cp):=aL.ext A2 16;have l2:=A2.lt
       go_wp2_with ((go_at_call 130;(with_reducible refine(CZ bz s (.slice A fl.length cp) va ib _ A2).mono ?_);rintro e w3 ⟨rfl,hb⟩;replace AM:=AM.keep hb;replace hB:=Below.ay hB aC hb;replace A2:=At.keep A2 hb;replace nN:=((gJ hb).1 _ _ l2).trans nN;replace l2:=aU l2 hb.size;clear hb;rw[Iy.out]))
       refine bodyPost_ret (results_tmp rfl _ _ _) rfl ⟨⟨_,rfl,?_⟩,hB⟩;have hm:Fw.meet B 0 (f+1) z=[Fw.mg s 1 0 (-1)]:=by
        simp only[Fw.meet,hs,hib,hfl,Iy.out,if_true,hn];simp
       rw[hm];exact pF AM hgm
     . have hn0:0<fl.length:=List.length_pos_iff.2 hn
       have hnz:((fl.length:Int)==0)=false:=by simp;intro q;exact hn q
       have HN:=ah hn;clear hn;obtain⟨nx,hnx⟩:=aA (fl.getD (0) 0);have hx:nx=fl[(0:Nat)]'ak:=by rw[<-hnx,jb8,ja6 ak];rfl
       have hmem:nx∈fl:=by rw[hx];exact jc2 _
       have hD:=Bh z hz nx (hfl▸hmem);have hm:Fw.meet B 0 (f+1) z=Fw.mg s 1 0 (-1)::Fw.meet B 0 f nx:=by
        simp only[Fw.meet,hs,hib,hfl,Iy.out,if_true];rw[show fl.head? = some nx from by rw[hx,List.head?_eq_getElem?,ja6 hn0]]
       have adS:=hlen z hz;rw[hfl]at adS;have HM:=ah hm;clear hm hx;have nN:W1.cell? ⟨bz,71,none⟩=some (.slice A fl.length cp):=aL.ext A2 16;have l2:=A2.lt
       go_upto_region 5 with((go_at_call 130;(with_reducible refine(CZ bz s (.slice A fl.length cp) va ib _ A2).mono ?_);rintro e w3 ⟨rfl,hb⟩;replace AM:=AM.keep hb;replace hB:=Below.ay hB aC hb;replace A2:=At.keep A2 hb;replace nN:=((gJ hb).1 _ _ l2).trans nN;replace l2:=aU l2 hb.size;clear hb;rw[Iy.out]))
       have hIc:=hI.after hB;obtain⟨bf,off,hAf,lf,cf⟩:=hIc.at_ (k:=0) hn0;rw[hnx,Nat.add_zero]at cf;subst hAf;have HLQ:=ah (vI B 0 f nx);clear hnx
       go_wp2_with (first|(go_at_call 128;(with_reducible refine(ih nx _ hD.1 (by have:=hD.2;omega) ak (hRH.out.keep hK hB)).mono ?_);rintro e w4 ⟨⟨v4,rfl,ho4⟩,hb4⟩;obtain⟨A4,c4,rfl,Ud,aiz,aiA,adT⟩:=KS.ints (dP ho4 oq);obtain⟨v',w',hr,ho',hB',hs'⟩:=jf (w0:=w) (base:=w.heap.size) (pF (AM.keep hb4) hgm) (Below.ay hB aC hb4) (aH hB.size hb4.size) Ud (m:=(Fw.meet B 0 f nx).length) rfl adT (by have:=HLQ.out;omega);have HR:=ah hr;clear hr)|(at_builtin;refine wpList_append_run aQ _ _ 37 rfl rfl rfl HR.out ?_))
       refine bodyPost_ret (results_tmp rfl _ _ _) rfl ⟨⟨_,rfl,?_⟩,hB'⟩;rw[HM.out];simpa[Nat.add_comm]using ho'
theorem adU(hK:∀(X X':World) (b:Nat),KM X b->Below X X X'->KM X' b)(F:Int->Nat)(Bh:∀z,D z->∀k∈(B z).fl,D k/\F z=F k+1)(hlen:∀z,D z->(B z).fl.length<=10000):∀(f:Nat) (z:Int) (w:World),D z->F z=f->f<=1000->RO w Y B D KM ->
  Calls ja0 128 #[Y.lb,z,.int .i64 1] w λx w'=>(∃v,x=.returned v/\w'.ownsRow w.heap.size 3 1 v (Fw.meet B 1 f z).length ((Fw.meet B 1 f z).map (Value.int .i64)))/\Below w w w':=by
 intro f
 induction f with
 | zero =>
   intro z w hz hF hf hR;obtain⟨hbx,hks,_⟩:=hR.box z hz;have hL:=hR.look hz;have AL:=hR.lay;have hRH:=ah hR;have A2:=hbx;have hB:=Below.refl w.heap.size w;generalize hs:(B z).sty=s at *;generalize hib:(B z).ib=ib at *;generalize hfl:(B z).fl=fl at *;obtain⟨A,cp,hvf,hI,hle,hmx,hAn⟩:=hks.ints;rw[hvf]at hbx A2;generalize Y.va z=va at *;generalize Y.bl z=bz at *;have F4:w.cell? ⟨Y.lb,2,none⟩=some (.map (some Y.bm)):=AL.cell 2;have BR:=AL.lt;have ix0:=pQ;have ix1:=Et;go_enter Tryz.func128,Tryz.ntmps128
   go_upto_region 3 with(first|(go_at_call 33;(with_reducible refine(kN _).mono ?_);rintro e w1 ⟨rfl,hb⟩;replace hB:=Below.ay hB aC hb;replace A2:=At.keep A2 hb;clear hb)|(go_at_call 108;(with_reducible refine(fI bz s (.slice A fl.length cp) va ib (-1) (-1) _ A2).mono ?_);rintro e w2 ⟨rfl,hb⟩;replace hB:=Below.ay hB aC hb;replace A2:=At.keep A2 hb;clear hb))
   generalize hW:ja4 _ _=W1;have AM:At W1 w2 (.cells #[.int .i64 (Fw.mg s 1 1 (-1))] 3):=hW▸At.new _ _;have hgm:w.heap.size<=w2.heap.size:=hB.size;replace A2:At W1 _ _:=hW▸At.alloc A2 _;replace hB:Below w w W1:=hW▸aB hB _;clear hW hL AL F4 BR ix0 ix1 hbx;generalize w2.heap.size=gm at *;have nN:W1.cell? ⟨bz,71,none⟩=some (.slice A fl.length cp):=aL.ext A2 16;have l2:=A2.lt;have hfe:fl=[]:=by
    rcases fl with _ | ⟨a,r⟩
    . rfl
    . have:=(Bh z hz a (by rw[hfl];simp)).2;omega
   have hlz:((fl.length:Int)==0)=true:=by rw[hfe];rfl
   cases hop:Fw.opn s ib 1
   . exact Zy
   . exact Zy
 | succ f ih =>
   intro z w hz hF hf hR;obtain⟨hbx,hks,_⟩:=hR.box z hz;have hL:=hR.look hz;have AL:=hR.lay;have hRH:=ah hR;have A2:=hbx;have hB:=Below.refl w.heap.size w;generalize hs:(B z).sty=s at *;generalize hib:(B z).ib=ib at *;generalize hfl:(B z).fl=fl at *;obtain⟨A,cp,hvf,hI,hle,hmx,hAn⟩:=hks.ints;rw[hvf]at hbx A2;generalize Y.va z=va at *;generalize Y.bl z=bz at *;have F4:w.cell? ⟨Y.lb,2,none⟩=some (.map (some Y.bm)):=AL.cell 2;have BR:=AL.lt;have ix0:=pQ;have ix1:=Et;go_enter Tryz.func128,Tryz.ntmps128
   go_upto_region 3 with(first|(go_at_call 33;(with_reducible refine(kN _).mono ?_);rintro e w1 ⟨rfl,hb⟩;replace hB:=Below.ay hB aC hb;replace A2:=At.keep A2 hb;clear hb)|(go_at_call 108;(with_reducible refine(fI bz s (.slice A fl.length cp) va ib (-1) (-1) _ A2).mono ?_);rintro e w2 ⟨rfl,hb⟩;replace hB:=Below.ay hB aC hb;replace A2:=At.keep A2 hb;clear hb))
   generalize hW:ja4 _ _=W1;have AM:At W1 w2 (.cells #[.int .i64 (Fw.mg s 1 1 (-1))] 3):=hW▸At.new _ _;have hgm:w.heap.size<=w2.heap.size:=hB.size;replace A2:At W1 _ _:=hW▸At.alloc A2 _;replace hB:Below w w W1:=hW▸aB hB _;clear hW hL AL F4 BR ix0 ix1 hbx;generalize w2.heap.size=gm at *;cases hop:Fw.opn s ib 1
   . have Iy:=ah hop
     clear hop;have nN:W1.cell? ⟨bz,71,none⟩=some (.slice A fl.length cp):=aL.ext A2 16;have l2:=A2.lt
     go_wp2_with ((go_at_call 130;(with_reducible refine(CY bz s (.slice A fl.length cp) va ib _ A2).mono ?_);rintro e w3 ⟨rfl,hb⟩;replace AM:=AM.keep hb;replace hB:=Below.ay hB aC hb;replace A2:=At.keep A2 hb;replace nN:=((gJ hb).1 _ _ l2).trans nN;replace l2:=aU l2 hb.size;clear hb;rw[Iy.out]))
     refine bodyPost_ret (results_tmp rfl _ _ _) rfl ⟨⟨_,rfl,?_⟩,hB⟩;have hm:Fw.meet B 1 (f+1) z=[Fw.mg s 1 1 (-1)]:=by
      simp only[Fw.meet,hs,hib,Iy.out,Bool.false_eq_true,if_false]
     rw[hm];exact pF AM hgm
   . have Iy:=ah hop
     clear hop;by_cases hn:fl=[]
     . have hlz:((fl.length:Int)==0)=true:=by rw[hn];rfl
       have nN:W1.cell? ⟨bz,71,none⟩=some (.slice A fl.length cp):=aL.ext A2 16;have l2:=A2.lt
       go_wp2_with ((go_at_call 130;(with_reducible refine(CY bz s (.slice A fl.length cp) va ib _ A2).mono ?_);rintro e w3 ⟨rfl,hb⟩;replace AM:=AM.keep hb;replace hB:=Below.ay hB aC hb;replace A2:=At.keep A2 hb;replace nN:=((gJ hb).1 _ _ l2).trans nN;replace l2:=aU l2 hb.size;clear hb;rw[Iy.out]))
       refine bodyPost_ret (results_tmp rfl _ _ _) rfl ⟨⟨_,rfl,?_⟩,hB⟩;have hm:Fw.meet B 1 (f+1) z=[Fw.mg s 1 1 (-1)]:=by
        simp only[Fw.meet,hs,hib,hfl,Iy.out,if_true,hn];simp
       rw[hm];exact pF AM hgm
     . have hn0:0<fl.length:=List.length_pos_iff.2 hn
       have hnz:((fl.length:Int)==0)=false:=by simp;intro q;exact hn q
       have HN:=ah hn;clear hn;obtain⟨nx,hnx⟩:=aA (fl.getD (fl.length-1) 0);have hx:nx=fl[(fl.length-1:Nat)]'ak:=by rw[<-hnx,jb8,ja6 ak];rfl
       have hmem:nx∈fl:=by rw[hx];exact jc2 _
       have hD:=Bh z hz nx (hfl▸hmem);have hm:Fw.meet B 1 (f+1) z=Fw.mg s 1 1 (-1)::Fw.meet B 1 f nx:=by
        simp only[Fw.meet,hs,hib,hfl,Iy.out,if_true];rw[show fl.getLast? = some nx from by rw[hx,List.getLast?_eq_getElem?,ja6 ak]];simp
       have adS:=hlen z hz;rw[hfl]at adS;have HM:=ah hm;clear hm hx;have nN:W1.cell? ⟨bz,71,none⟩=some (.slice A fl.length cp):=aL.ext A2 16;have l2:=A2.lt
       go_upto_region 5 with((go_at_call 130;(with_reducible refine(CY bz s (.slice A fl.length cp) va ib _ A2).mono ?_);rintro e w3 ⟨rfl,hb⟩;replace AM:=AM.keep hb;replace hB:=Below.ay hB aC hb;replace A2:=At.keep A2 hb;replace nN:=((gJ hb).1 _ _ l2).trans nN;replace l2:=aU l2 hb.size;clear hb;rw[Iy.out]))
       have hIc:=hI.after hB;obtain⟨bf,off,hAf,lf,cf⟩:=hIc.at_ (k:=0) hn0;obtain⟨m,hmm⟩:∃m,fl.length=m+1:=⟨fl.length-1,by omega⟩;obtain⟨bg,ofg,hAg,lg,cg⟩:=hIc.at_ (k:=m) ak;obtain⟨rfl,rfl⟩:bg=bf/\ofg=off:=by rw[hAf]at hAg;simpa using hAg.symm
       subst hAf;rw[show fl.getD m 0=nx from by rw[<-hnx,hmm];rfl]at cg;rw[Nat.add_zero]at cf;have hsub:IntKind.i64.wrap ((fl.length:Int)-1)=(m:Int):=by rw[IntWalk.i64_in _ ak];omega
       have akj:m<fl.length:=by omega
       clear hmm
       go_upto_region 7 with(fail)
       refine uJ ?_
       (repeat (first|refine jw ?_ | refine jy ?_ (hc:=by intro w2 hS;first|with_reducible exact iR hS (iK _))|refine jA ?_))
       refine aj.bI ?_;intro w2 hS;replace AM:=AM.keep hS;replace hB:=Below.ay hB aC hS;replace A2:=At.keep A2 hS;clear hS;have HLQ:=ah (vI B 1 f nx);clear hnx
       go_wp2_with (first|(go_at_call 128;(with_reducible refine(ih nx _ hD.1 (by have:=hD.2;omega) ak (hRH.out.keep hK hB)).mono ?_);rintro e w4 ⟨⟨v4,rfl,ho4⟩,hb4⟩;obtain⟨A4,c4,rfl,Ud,aiz,aiA,adT⟩:=KS.ints (dP ho4 oq);obtain⟨v',w',hr,ho',hB',hs'⟩:=jf (w0:=w) (base:=w.heap.size) (pF (AM.keep hb4) hgm) (Below.ay hB aC hb4) (aH hB.size hb4.size) Ud (m:=(Fw.meet B 1 f nx).length) rfl adT (by have:=HLQ.out;omega);have HR:=ah hr;clear hr)|(at_builtin;refine wpList_append_run aQ _ _ 37 rfl rfl rfl HR.out ?_))
       refine bodyPost_ret (results_tmp rfl _ _ _) rfl ⟨⟨_,rfl,?_⟩,hB'⟩;rw[HM.out];simpa[Nat.add_comm]using ho'
end
theorem Ux(A T B:Option Addr)(s t u:List Int)(n d1 d2 d3:Nat)(w:World)(hs:Ints w A s)(ht:Ints w T t)(hu:Ints w B u)(ls:s.length=n)(lt:t.length=n)(lu:u.length=n)(hn:n<=1001) :
  Calls ja0 129 #[.slice A n d1,.slice T n d2,.slice B n d3] w λe w'=>(∃b,e=.returned (.tuple #[.slice (some ⟨b,0,none⟩) n n,.int .i64 (Fx.uO s t u n)])/\w.heap.size<=b/\Ints w' (some ⟨b,0,none⟩) (Fx.uP s t u n))/\Below w w w':=by
 obtain⟨i0,hi0,hz0,hz1,hz2⟩:=info_parts intZero;have HS:=ah hs;clear hs;have HT:=ah ht;clear ht;have HU:=ah hu;clear hu;have LS:=ah ls;clear ls;have LT:=ah lt;clear lt;have LU:=ah lu;clear lu;go_enter Tryz.func129,Tryz.ntmps129
 go_wp2_with (at_make;refine wpList_make_row _ rfl _ _ 37 rfl 3 i0 (.int .i64 0) Tryz.underlying37 hi0 hz0 hz1 rfl .i64 .i64 n rfl rfl Sn ak ?_)
 go_loopw [9,29] (λe i wr=>∃k:Nat,k<=n/\i=.int .i64 k/\e=.int .i64 (Fx.uO s t u k)/\At wr w (.cells (aW (Fx.nO s t u) n k) 3)/\Below w w wr) (λ_ i _=>n-(intOf i).toNat)
 case atStart=>exact⟨0,by omega,rfl,rfl,by rw[<-je];exact At.new _ _,aB aD _⟩
 case round =>
  obtain⟨k,hk,rfl,rfl,hA,hB⟩:=hrel;have hB':=hB;by_cases hlt:k<n
  . obtain⟨b1,o1,hA1,l1,c1⟩:=(HS.out.after hB').at_ (k:=k) (by rw[LS.out];exact hlt)
    have HZ:Hid (Fx.uO s t u (k+1)=Fx.add (Fx.nO s t u k) (s.getD k 0)):=ah (Fx.NZ s t u k);generalize s.getD k 0=z at *;subst hA1;have hlb:=hA.lt;rcases Nat.eq_zero_or_pos k with rfl|h0
    . have hz:=hA.cell 0
      rw[dh _ hlt]at hz;have HR:Hid (aW (Fx.nO s t u) n 0=aW (Fx.nO s t u) n 1):=ah (Oh _ _ rfl);simp only[Nat.not_lt_zero,if_false]at hz;simp only[Nat.add_zero]at c1
      go_wp2_with (first|(go_at_call 82;with_reducible refine mI (iN _ _ _) ?_))
      go_roundw
      case rel=>exact⟨1,by omega,by go_num,by rw[HZ.out,Fx.N7],by rw[<-HR.out];exact hA,hB⟩
      case measure=>simp[intOf];omega
    . obtain⟨m,hm⟩:∃m,k=m+1:=⟨k-1,by omega⟩
      obtain⟨b2,o2,hA2,l2,c2⟩:=(HT.out.after hB').at_ (k:=k) (by rw[LT.out];exact hlt);obtain⟨b3,o3,hA3,l3,c3⟩:=(HU.out.after hB').at_ (k:=m) (by rw[LU.out];omega);have HP:Hid (Fx.nO s t u k=Fx.add (Fx.uO s t u k) (Fx.coll [u.getD m 0,t.getD k 0])):=ah (by rw[Fx.Sv s t u ak,show k-1=m by omega]);generalize t.getD k 0=y at *;generalize u.getD m 0=x at *;subst hA2 hA3;have hw:IntKind.i64.wrap ((k:Int)-1)=(m:Int):=by rw[IntWalk.i64_in _ ak];omega
      have hmn:m<n:=by omega
      have hz:=hA.thaw k;have HM:=ah hm;clear hm
      go_upto_region 9 with(fail)
      refine yg 15 1 ?_
      (repeat (first|refine jw ?_ | refine jy ?_ (hc:=by intro w2 hS;first|with_reducible exact iR hS (WA _ _ _)|with_reducible exact zk hS (iN _ _ _))|refine jA ?_))
      refine aj.bL ?_;intro w2 hS;have A4:=hA.keep hS;have B4:=Below.ay hB aC hS;have hc4:=A4.cell k;rw[dh _ hlt]at hc4;have hz4:=A4.thaw k;refine vU ?_;intro K hK;go_simp;refine hK _ _ (aj.bC ?_);clear hK K;generalize hW:ja5 _ _ _=W2;replace A4:At W2 w (.cells (aW (Fx.nO s t u) n (k+1)) 3):=by
       rw[<-hW,<-jC _ hlt,HP.out];exact A4.set k _
      replace B4:Below w w W2:=hW▸Below.setCell B4 aC _;have hc5:=A4.cell k;rw[dh _ ak,if_pos ak]at hc5;have aiB:=A4.lt;clear hW hc4 hz4 hz hS c1 c2 c3 l1 l2 l3 hA hB hB' hlb
      go_wp2_with (first|(go_at_call 82;with_reducible refine mI (iN _ _ _) ?_))
      go_roundw
      case rel=>exact⟨k+1,by omega,by go_num,by rw[HZ.out],A4,B4⟩
      case measure=>simp[intOf];omega
  . obtain rfl:k=n:=by omega
    go_wp2;refine bodyPost_ret (v:=.tuple #[.slice w k k,_]) (by simp[results,Tryz.results129,go_sem, *];first|done|exact⟨rfl,rfl⟩|rfl) rfl ⟨⟨w.heap.size,rfl,aJ _,FN s t u k Ko hA⟩,hB⟩
theorem X7(f:Nat->Int)(w:World)(n:Nat)(hn:n<=100000):(Instr.makeSlice 37 (.int .i64 (n:Int)) (.int .i64 (n:Int))).run ja0 w=.ok (.slice w n n) (w.alloc (.cells (aW f n 0) 3)):=by
 obtain⟨i0,hi0,hz0,hz1,hz2⟩:=info_parts intZero;have hrun:=run_make (P:=ja0) w 37 3 i0 _ Tryz.underlying37 hi0 hz0 .i64 .i64 n n ak (Int.le_refl _) Sn ak;rw[Int.toNat_natCast]at hrun;rw[hrun,<-je,hz1,Nat.mul_one];rfl
theorem qF(f:Nat->Int){n:Nat}{o:Oper}{a:Act}(l c:Operand)(ho:o.op=.makeSlice 37 l c)(hl:a.eval l=.int .i64 (n:Int))(hc:a.eval c=.int .i64 (n:Int))(hn:n<=100000):(execOp a.eval o).run ja0 w=.ok (.value (.slice w n n)) (w.alloc (.cells (aW f n 0) 3)):=by
 unfold execOp;simp only[ho,hl,hc,Sem.run_bind,X7 f w n hn,Result.andThen_ok,Sem.run_pure]
theorem Uy{b o:Nat}{l:List Int}(h:Ints w (some ⟨b,o,none⟩) l)(hk:k<l.length):b<w.heap.size/\w.cell? ⟨b,o+k,none⟩=some (.int .i64 (l.getD k 0)):=by
 obtain⟨b',off,e,hl,hc⟩:=h.at_ hk;injection e with e;injection e with e1 e2;subst e1 e2;exact⟨hl,hc⟩
theorem abr{v:Value}{l:List Int}{b o m cp:Nat}(hv:v=.slice (some ⟨b,o,none⟩) m cp)(h:KS W v l)(hm:m=l.length):Ints W (some ⟨b,o,none⟩) l:=by
 obtain⟨A,c,e,hI,_⟩:=h.ints;rw[hv]at e;injection e with e1 e2 e3;rw[e1];exact hI
section
variable {W W':World} {Y:pU} {B:Int->Fw.Bx} {D:Int->Prop} {KM:World->Nat->Prop}
theorem RO.lookO(h:RO W Y B D KM){X:World}(k:Out (λb=>b=Y.pm) W X){z:Int}(hz:D z):(Instr.lookup 90 (.map (some Y.bm)) (.int .i64 z) false).run ja0 X=.ok (.pointer (some ⟨Y.bl z,0,none⟩)) X:=by
 obtain⟨n,g,h1,h2⟩:=h.boxes;rw[(h1.out (λq=>h.pmb q.symm) k).look iU Tryz.underlying90 (z:=.pointer none) aX (iO (h.wf z hz)),h2 z hz];rfl
end
def blG(first:Int)(szl zl yR:List Int)(i:Nat)(x:Fw.Ld):Fw.Ld:={ x with a1:=Fw.wr (first+Fx.nO szl zl yR i) }
def csf(B:Int->Fw.Bx)(f:Nat)(l:List Int)(k:Nat):Nat:=((l.take k).map (Fw.cst B f)).sum
theorem X8(B:Int->Fw.Bx)(f:Nat)(l:List Int)(hk:k<l.length):csf B f l (k+1)=csf B f l k+Fw.cst B f l[k]:=by
 unfold csf;rw[jc8 hk];exact Z29
theorem X9(B:Int->Fw.Bx)(f:Nat)(l:List Int)(k:Nat):csf B f l k<=(l.map (Fw.cst B f)).sum:=by
 unfold csf
 conv=>rhs;rw[<-List.take_append_drop k l,List.map_append,List.sum_append]
 omega
theorem nD.snoc{cs:Array Value}{l:List Fw.Ld}{x:Fw.Ld}(h:nD cs l)(hf:l.length*7+7<=cs.size):nD (splice cs (l.length*7) (dU x)) (l++[x]):=by
 have hs:l.length*7+(dU x).size<=cs.size:=by rw[dB];exact hf
 refine⟨by rw[iG hs];simp;omega,λi hi j hj => ?_⟩;by_cases e:i<l.length
 . rw[List.getElem_append_left e,gV hs (.inl ak)]
   exact h.2 i e j hj
 . have:i=l.length:=by simp at hi;omega
   subst this;rw[mH hs (by rw[dB];exact hj)];simp
theorem nD.aaX{cs:Array Value}{l:List Fw.Ld}(h:nD cs l)(hk:k<l.length)(a:Int):nD (cs.setIfInBounds (k*7+6) (.int .i64 a)) (l.set k { l[k]with a1:=a }):=by
 refine⟨by simpa using h.1,λi hi j hj => ?_⟩;have hi':i<l.length:=by simpa using hi
 have hs:=h.1;simp only[Array.getElem?_setIfInBounds,List.getElem_set];by_cases e:k=i
 . subst e
   rw[if_pos rfl];have h0:=h.2 k hi' j hj;by_cases e6:k*7+6=k*7+j
   . obtain rfl:j=6:=by omega
     rw[if_pos rfl,if_pos ak];rfl
   . rw[if_neg e6,h0]
     rcases(show j=0\/j=1\/j=2\/j=3\/j=4\/j=5 by omega)with rfl|rfl|rfl|rfl|rfl|rfl<;>rfl
 . rw[if_neg e,if_neg ak]
   exact h.2 i hi' j hj
def yS(g:Nat->Fw.Ld->Fw.Ld)(l:List Fw.Ld)(k:Nat):List Fw.Ld:=(l.take k).mapIdx g++l.drop k
theorem Bj(g:Nat->Fw.Ld->Fw.Ld)(l:List Fw.Ld)(k:Nat):(yS g l k).length=l.length:=by simp[yS];omega
theorem Ya(g:Nat->Fw.Ld->Fw.Ld)(l:List Fw.Ld)(hk:k<l.length):(yS g l k)[k]'(by rw[Bj];exact hk)=l[k]:=by
 unfold yS;rw[List.getElem_append_right iH];simp;congr 1;omega
theorem Uz(g:Nat->Fw.Ld->Fw.Ld)(l:List Fw.Ld)(hk:k<l.length):(yS g l k).set k (g k l[k])=yS g l (k+1):=by
 unfold yS;exact Z1p
theorem UA(g:Nat->Fw.Ld->Fw.Ld)(l:List Fw.Ld):yS g l 0=l:=by simp[yS]
theorem Yb(g:Nat->Fw.Ld->Fw.Ld)(l:List Fw.Ld):yS g l l.length=l.mapIdx g:=by simp[yS]
section
variable {Y:pU} {B:Int->Fw.Bx} {F:Int->Nat} {D:Int->Prop} {KM:World->Nat->Prop} {f:Nat} {w:World} {P:Nat->Prop}
structure BkM(w4:World)(l:Nat->List Int)(m:Nat)(d:Nat->Bool)(v:Nat->Value)(W:World):Prop where
 out:Below w4 w4 W
 ro:∀i,i∈[5,11,17]->d i=true->∃T,v i=.slice (some ⟨T,0,none⟩) m m/\w4.heap.size<=T/\At W T (.cells (aW (λk=>(l i).getD k 0) m 0) 3)
 ne:∀i j,i∈[5,11,17]->j∈[5,11,17]->i≠j->d i=true->d j=true->v i≠v j
 cp:∀p q,(p,q)∈[(18,5),(19,11),(20,17)]->d p=true->d q=true/\v p=v q
theorem BkM.made{w4:World}{l:Nat->List Int}{m:Nat}(h:BkM w4 l m d v W){i:Nat}(hi:i∈[5,11,17])(hd:d i=false):BkM w4 l m (λj=>j==i||d j) (λj=>if j=i then .slice W m m else v j) (W.alloc (.cells (aW (λk=>(l i).getD k 0) m 0) 3)):=by
 have hb:Below W W (W.alloc (.cells (aW (λk=>(l i).getD k 0) m 0) 3)):=aB aD _
 have hne:∀j,j∈[5,11,17]->d j=true->v j ≠ .slice W m m:=λj hj hdj e=>by
  obtain⟨T,e1,_,A⟩:=h.ro j hj hdj;cases e1.symm.trans e;exact absurd A.lt (Nat.lt_irrefl _)
 refine⟨Below.ay h.out aC hb,λj hj hdj => ?_,λj k hj hk hjk hdj hdk => ?_,λp q hpq hdp => ?_⟩
 . by_cases e:j=i
   . subst e
     exact⟨_,if_pos rfl,h.out.size,At.new _ _⟩
   . obtain⟨T,a,b,c⟩:=h.ro j hj (by simpa[e]using hdj)
     exact⟨T,(if_neg e).trans a,b,c.keep hb⟩
 . by_cases e:j=i
   . have e2:k≠i:=λe2=>hjk (e.trans e2.symm)
     rw[if_pos e,if_neg e2];exact(hne k hk (by simpa[e2]using hdk)).symm
   . rw[if_neg e]
     by_cases e2:k=i
     . rw[if_pos e2]
       exact hne j hj (by simpa[e]using hdj)
     . rw[if_neg e2]
       exact h.ne j k hj hk hjk (by simpa[e]using hdj) (by simpa[e2]using hdk)
 . have hp:p≠i:=by rintro rfl;simp at hi hpq;omega
   obtain⟨a,b⟩:=h.cp p q hpq (by simpa[hp]using hdp);have hq:q≠i:=λe=>by rw[e,hd]at a;cases a
   exact⟨by simp[a],by rw[if_neg hp,if_neg hq];exact b⟩
theorem BkM.set{w4:World}{l:Nat->List Int}{m:Nat}(h:BkM w4 l m d v W){i j:Nat}(hi:(i,j)∈[(18,5),(19,11),(20,17)])(hd:d j=true){x:Value}(hx:v j=x):BkM w4 l m (λj=>j==i||d j) (λj=>if j=i then x else v j) W:=by
 have hn:∀k,k∈[5,11,17]->k≠i:=λk hk e=>by subst e;simp at hi hk;omega
 refine⟨h.out,λk hk hdk => ?_,λk k' hk hk' hkk hdk aiC => ?_,λp q hpq hdp => ?_⟩
 . obtain⟨T,a,b⟩:=h.ro k hk (by simpa[hn k hk]using hdk)
   exact⟨T,(if_neg (hn k hk)).trans a,b⟩
 . rw[if_neg (hn k hk),if_neg (hn k' hk')]
   exact h.ne k k' hk hk' hkk (by simpa[hn k hk]using hdk) (by simpa[hn k' hk']using aiC)
 . have hq:q≠i:=hn q (by simp at hpq ⊢;omega)
   by_cases e:p=i
   . subst e
     obtain rfl:q=j:=by simp at hpq hi;omega
     exact⟨by simp[hd],by rw[if_pos rfl,if_neg hq];exact hx.symm⟩
   . obtain⟨a,b⟩:=h.cp p q hpq (by simpa[e]using hdp)
     exact⟨by simp[a],by rw[if_neg e,if_neg hq];exact b⟩
structure BkI(Y:pU)(B:Int->Fw.Bx)(F:Int->Nat)(w:World)(P P':Nat->Prop)(n' N:Nat)(ly:Fw.Ld)(wr:World)(d:Nat->Bool)(v:Nat->Value)(W:World):Prop where
 out:Out (λb=>b=Y.pm) wr W
 c:d 4=true->v 4=.agg #[.int .i64 (-1),.int .i64 (-1)]
 ls:d 5=false->o9 Y B F w P n' P' W
 ly:d 5=true->v 5=.agg (dU ly)/\∃n2 P2,n2<=N/\o9 Y B F w P n2 P2 W/\(∀b,b<wr.heap.size->P2 b->P' b)/\(d 15=true->∀T,v 15=.pointer (some ⟨T,0,none⟩)->¬ P2 T)/\(d 16=true->∀T,v 16=.pointer (some ⟨T,0,none⟩)->¬ P2 T)
 p:d 15=true->∃T,v 15=.pointer (some ⟨T,0,none⟩)/\wr.heap.size<=T/\At W T (.cells #[(),(),(),(),(),(),()] 88)
 q:d 16=true->∃T,v 16=.pointer (some ⟨T,0,none⟩)/\wr.heap.size<=T/\At W T (.cells (cells Re.zero) 59)
theorem BkI.below{Y:pU}{B:Int->Fw.Bx}{F:Int->Nat}{P P':Nat->Prop}{n' N:Nat}{ly:Fw.Ld}{wr:World}{W W':World}(h:BkI Y B F w P P' n' N ly wr d v W)(hb:Below W W W'):BkI Y B F w P P' n' N ly wr d v W' where
 out:=Out.trans' h.out (Out.of_below (M:=λ_=>False) hb) λ_ _ q=>q.elim
 c:=h.c
 ls:=λe=>(h.ls e).after hb
 ly:=λe=>by obtain⟨a,n2,P2,b,c,r⟩:=h.ly e;exact⟨a,n2,P2,b,c.after hb,r⟩
 p:=λe=>by obtain⟨T,a,b,c⟩:=h.p e;exact⟨T,a,b,c.keep hb⟩
 q:=λe=>by obtain⟨T,a,b,c⟩:=h.q e;exact⟨T,a,b,c.keep hb⟩
theorem BkI.made{Y:pU}{B:Int->Fw.Bx}{F:Int->Nat}{P P':Nat->Prop}{n' N:Nat}{ly:Fw.Ld}{wr:World}(h:BkI Y B F w P P' n' N ly wr d v W){i:Nat}{o:Obj}(hi:i=15/\o=.cells #[(),(),(),(),(),(),()] 88\/i=16/\o=.cells (cells Re.zero) 59):BkI Y B F w P P' n' N ly wr (λj=>j==i||d j) (λj=>if j=i then .pointer W else v j) (W.alloc o):=by
 have h':=h.below (aB aD o);have hA:At (W.alloc o) W.heap.size o:=At.new _ _;have hs:=h.out.size;rcases hi with⟨rfl,rfl⟩|⟨rfl,rfl⟩
 . exact⟨h'.out,h'.c,h'.ls,λe=>by obtain⟨a,n2,P2,b,c,r,r1,r2⟩:=h.ly e;exact⟨a,n2,P2,b,c.after (aB aD _),r,λ_ T hT hP=>by cases hT;exact absurd (c.lt _ hP) (Nat.lt_irrefl _),r2⟩,λ_=>⟨_,rfl,hs,hA⟩,h'.q⟩
 . exact⟨h'.out,h'.c,h'.ls,λe=>by obtain⟨a,n2,P2,b,c,r,r1,r2⟩:=h.ly e;exact⟨a,n2,P2,b,c.after (aB aD _),r,r1,λ_ T hT hP=>by cases hT;exact absurd (c.lt _ hP) (Nat.lt_irrefl _)⟩,h'.p,λ_=>⟨_,rfl,hs,hA⟩⟩
theorem adV(hL:vG Y B F D KM f)(hK:∀(X X':World) (b:Nat),KM X b->Below X X X'->KM X' b)(rT:∀(X X':World) (b:Nat),KM X b->Out (λq=>q≠b) X X'->KM X' b)(Bh:∀z,D z->∀k∈(B z).fl,D k/\F z=F k+1)(hlen:∀z,D z->(B z).fl.length<=10000)(hf:f<=1000)(hR0:RO w Y B D KM)(hkm:Y.km<w.heap.size)
  (z i0 i1:Int) (hz:D z) (hdn:∀k∈(B z).fl,D k/\F k=f) (hne:(B z).fl≠[]) (hl:(B z).fl.length<=64) (n:Nat) (FB:Kp Y B F n P w) (hP:∀b,P b->b<w.heap.size) (hn:n+2*((B z).fl.map (Fw.cst B f)).sum<maxLen) (xs:List Fw.Ld) (hi:Int) (hm:Fw.zH B (Fw.lay B f) f z i0 i1=(xs,hi)) :
  Calls ja0 95 #[Y.lb,.agg #[z,i0,i1]] w λe w'=>∃R cap cs P' n',e=.returned (.agg #[.slice (some ⟨R,0,none⟩) xs.length cap,hi])/\w.heap.size<=R/\At w' R (.cells cs 88)/\nD cs xs/\n'<=n+2*((B z).fl.map (Fw.cst B f)).sum/\Kp Y B F n' P' w'/\(∀b,P' b->P b\/w.heap.size<=b)/\¬ P' R/\Out (λb=>b=Y.pm) w w':=by
 obtain⟨es0,Uc,nY⟩:=hR0.Fz;have hpl:=nY.lt;obtain⟨fl,hfl⟩:=aA ((B z).fl);rw[hfl]at hdn hne hl hn ⊢;obtain⟨s,hs⟩:=aA ((B z).sty);obtain⟨ND,hib⟩:=aA ((B z).ib);obtain⟨ks,hks⟩:=aA (fl.map (Fw.Dk B (Fw.lay B f) i0 i1));obtain⟨szl,Ur⟩:∃l:List Int,ks.map (·.s1)=l:=⟨_,rfl⟩;obtain⟨zl,abt⟩:=aA ((fl.map λk=>Fx.coll (Fw.meet B 0 f k)));obtain⟨yR,abu⟩:=aA ((fl.map λk=>Fx.coll (Fw.meet B 1 f k)));obtain⟨first,PN⟩:=aA ((if Fw.opn s ND 0=true then 0 else zl.getD 0 0));obtain⟨last,hlast⟩:=aA ((if Fw.opn s ND 1=true then 0 else yR.getD (yR.length-1) 0));obtain⟨m,hmm⟩:=aA fl.length
 have HXS:Hid (ks.mapIdx (blG first szl zl yR)=xs/\Fw.wr (Fw.wr (first+Fx.uO szl zl yR m)+last)=hi):=ah (by
  unfold Fw.zH at hm;simp only[hfl,hs,hib,hks,Ur,abt,abu,PN,hlast,hmm]at hm;injection hm with h1 h2
  exact⟨h1,h2⟩)
 have xP:Hid (ks.length=m):=ah (by rw[<-hks,jb7,hmm]);have HLS:Hid (szl.length=m):=ah (by rw[<-Ur,jb7,xP.out]);have CW:Hid (zl.length=m):=ah (by rw[<-abt,jb7,hmm]);have HLU:Hid (yR.length=m):=ah (by rw[<-abu,jb7,hmm]);have QZ:=ah hks;have HSZ:=ah Ur;have HTP:=ah abt;have HBT:=ah abu;have NS:=ah PN;have HLA:=ah hlast;have OZ:=ah hs;have HIB:=ah hib;have Gu:=ah hfl;have HM:=ah hmm;have HN:=ah hn;have HDN:=ah hdn;have uG:=ah hR0;have HDW:=ah Bh;have HLEN:=ah hlen;rw[hmm]at hl;have hm0:0<m:=by rw[<-hmm];exact List.length_pos_iff.2 hne
 clear hm hks Ur abt abu PN hlast hmm Bh hlen;have hS:=o9.start FB hP;have wK:=hR0;obtain⟨b0,hb0⟩:=aA (Y.bl z);obtain⟨hbx,afV,_⟩:=wK.box z hz;obtain⟨A,cp,hvf,hI,hle,hmx,hAn⟩:=afV.ints;have hlp:0<(B z).fl.length:=by rw[hfl];exact List.length_pos_iff.2 hne
 obtain⟨b1,o1,rfl,Vw,_⟩:=hI.at_ hlp;rw[hb0,hs,hib,hvf,hfl]at hbx;have HVF:Hid (Y.vf z=.slice (some ⟨b1,o1,none⟩) m cp):=ah (by rw[hvf,hfl,HM.out]);rw[HM.out]at hbx;generalize Y.va z=zva at hbx;have Uq:=hbx.lt
 have n0p:b0≠Y.pm:=λe=>by
  rw[e]at hbx;exact absurd (At.uniq hbx nY) aV
 have nlp:Y.lb≠Y.pm:=λe=>by
  have h1:=wK.lay;rw[e]at h1;exact absurd (At.uniq h1 nY) aV
 have b01:Below w w ((w.alloc (.cells #[z,i0,i1] 86)).alloc (.cells #[.slice none 0 0,()] 147)):=aB (aB aD _) _;have A0:At ((w.alloc (.cells #[z,i0,i1] 86)).alloc (.cells #[.slice none 0 0,()] 147)) w.heap.size (.cells #[z,i0,i1] 86):=At.alloc (At.new _ _) _;have A4:At ((w.alloc (.cells #[z,i0,i1] 86)).alloc (.cells #[.slice none 0 0,()] 147)) (w.heap.size+1) (.cells #[.slice none 0 0,()] 147):=At.new' _ Ka;have hS1:=hS.after b01;have FT:=wK.keep hK b01;have Yc:=ah (aL.keep hbx b01);clear hdn hR0 wK hS nY hs hib hbx hfl FB hn afV hI hle hmx hAn hvf hlp Vw;go_enter Tryz.func95,Tryz.ntmps95
 go_upto_region 1 with(fail)
 generalize (w.alloc (.cells #[z,i0,i1] 86)).alloc (.cells #[.slice none 0 0,()] 147)=w1 at *;have afW:=A4.lt;have hsz:=b01.size;have hlk:=λX (h:Below w1 w1 X)=>(FT.keep hK h).look hz;simp only[hb0]at hlk;obtain⟨lY,xk,xq,zn,zo,zq,zu⟩:=At.six FT.lay;obtain⟨l0,eY,eZ,fV⟩:=At.three A0;have hSd:Below w1 w1 w1.drew:=Below.drew aD;refine gZ (S:=λX=>Below w1 w1 X) 8 ?_ ?_
 . exact hSd
 intro hx;clear hSd;refine aG 0 ?_;refine aG 1 ?_;refine aG 2 ?_;refine aG 3 ?_;refine aG 4 ?_;refine aG 5 ?_;refine jc 6 rfl (aY aQ rfl rfl rfl (λX h=>hlk X h)) ?_;refine aG 7 ?_;refine gX ?_;have hx2:Below w1 w1 w1.drew:=hx;generalize w1.drew=w3 at *;have abg:=hx2.size;have qp:=hS1.after hx2;have B3:=A0.keep hx2;have C3:=A4.keep hx2;have z8:=ah (aL.keep Yc.out hx2);clear b01 A0 A4 hS1 FT hlk xk xq zn zo zq zu lY hx hb0 Yc l0 eY eZ fV hx2;obtain⟨csR,hmk,afX⟩:=aa9 w3 m ak;have XA:=ah hmk;have HCR:=ah afX;have J9:=aL.lt z8.out;have nN:w3.cell? ⟨b0,71,none⟩=some (.slice (some ⟨b1,o1,none⟩) m cp):=aL.ext z8.out 16;have Uk:∀b X,(Instr.build 147 #[(0,.slice (some ⟨b,0,none⟩) m m)]).run ja0 X=.ok (.agg #[.slice (some ⟨b,0,none⟩) m m,()]) X:=λb X=>by kernel_rfl
 clear hmk afX
 go_upto_region 3 with(refine kF aQ _ _ 145 rfl XA.out ?_)
 generalize hW:ja4 _ _=w4;obtain⟨R,hR⟩:=aA w3.heap.size;have AR:At w4 R (.cells csR 88):=hW▸At.alloc (At.new' _ hR.symm) _;have AC:At w4 (R+1) (.cells #[.slice R m m,()] 147):=by
  rw[<-hW,<-hR];exact At.new' _ aV
 have hb4:Below w3 w3 w4:=hW▸aB (aB aD _) _;rw[hR];have F8:=qp.after hb4;have B4:=B3.keep hb4;have C4:=C3.keep hb4;have ME:=ah (aL.keep z8.out hb4);have gR:w.heap.size+1<R:=by omega
 have adK:=hb4.size;have gRs:R+1<w4.heap.size:=AC.lt;clear hW hR hb4 qp B3 C3 z8 nN J9 Uk XA;have J9:=aL.lt ME.out;have nN:w4.cell? ⟨b0,71,none⟩=some (.slice (some ⟨b1,o1,none⟩) m cp):=aL.ext ME.out 16;refine aj.fO (λa0 a W5=>∃(Ts Tv Tu:Nat) (u33 u34 u35 u36 u37 u38 u39 u40 u41 u42 u43 u44 u45 u46 u47 u48 u49 u50:Value),a={ a0 with tmps:=((((((((((((((((((((a0.tmps.setIfInBounds 33 u33).setIfInBounds 34 u34).setIfInBounds 35 u35).setIfInBounds 36 u36).setIfInBounds 37 u37).setIfInBounds 38 u38).setIfInBounds 39 u39).setIfInBounds 40 u40).setIfInBounds 41 u41).setIfInBounds 42 u42).setIfInBounds 43 u43).setIfInBounds 44 u44).setIfInBounds 45 u45).setIfInBounds 46 u46).setIfInBounds 47 u47).setIfInBounds 48 u48).setIfInBounds 49 u49).setIfInBounds 50 u50).setIfInBounds 7 (.slice Ts m m)).setIfInBounds 8 (.slice Tv m m)).setIfInBounds 9 (.slice Tu m m) }/\(w4.heap.size<=Ts/\w4.heap.size<=Tv/\w4.heap.size<=Tu)/\(Ts≠Tv/\Ts≠Tu/\Tv≠Tu)/\At W5 Ts (.cells (aW (λi=>szl.getD i 0) m 0) 3)/\At W5 Tv (.cells (aW (λi=>zl.getD i 0) m 0) 3)/\At W5 Tu (.cells (aW (λi=>yR.getD i 0) m 0) 3)/\Below w4 w4 W5) ?_ ?_
 . have hSd:Below w4 w4 w4.drew:=Below.drew aD
   refine gZ (S:=λX=>Below w4 w4 X) 21 ?_ ?_
   . exact hSd
   intro hx;clear hSd;refine aG 0 ?_;refine aG 1 ?_;refine aG 2 ?_;refine aG 3 ?_;refine aG 4 ?_;refine aG 6 ?_;refine aG 7 ?_;refine aG 8 ?_;refine aG 9 ?_;refine aG 10 ?_;refine aG 12 ?_;refine aG 13 ?_;refine aG 14 ?_;refine aG 15 ?_;refine aG 16 ?_;clear nN J9 AR AC B4 C4 ME F8;refine aj.X5 6 [5,11,17,18,19,20] [38,44,50,7,8,9] (λi=>if i=18 then [5]else if i=19 then [11]else if i=20 then [17]else []) (BkM w4 (λi=>if i=5 then szl else if i=11 then zl else yR) m) ⟨⟨_,rfl,rfl,λd v W J hdp hd => ?_⟩,⟨_,rfl,rfl,λd v W J hdp hd => ?_⟩,⟨_,rfl,rfl,λd v W J hdp hd => ?_⟩,⟨_,rfl,rfl,λd v W J hdp hd => ?_⟩,⟨_,rfl,rfl,λd v W J hdp hd => ?_⟩,⟨_,rfl,rfl,λd v W J hdp hd => ?_⟩,trivial⟩ ⟨hx,λ_ _ h=>(by cases h),λ_ _ _ _ _ h=>(by cases h),λ_ _ _ h=>(by cases h)⟩ ?_
   . rw[aj.oo rfl]
     exact aj.Step.value (qF (λk=>szl.getD k 0) (n:=m) (.tmp 37) (.tmp 37) rfl rfl rfl ak) ⟨λ_=>(J.made (i:=5) aV hd).out,J.made (i:=5) aV hd⟩
   . rw[aj.oo rfl]
     exact aj.Step.value (qF (λk=>zl.getD k 0) (n:=m) (.tmp 43) (.tmp 43) rfl rfl rfl ak) ⟨λ_=>(J.made (i:=11) aV hd).out,J.made (i:=11) aV hd⟩
   . rw[aj.oo rfl]
     exact aj.Step.value (qF (λk=>yR.getD k 0) (n:=m) (.tmp 49) (.tmp 49) rfl rfl rfl ak) ⟨λ_=>(J.made (i:=17) aV hd).out,J.made (i:=17) aV hd⟩
   . obtain⟨T,e5,_,_⟩:=J.ro 5 aV (hdp 5 aV)
     rw[aj.Rz (i:=5) (t:=38) rfl rfl e5]
     (try simp only[bN,bO,bP,tks])
     exact aj.Step.value eB ⟨λ_=>J.out,J.set (i:=18) (j:=5) aV (hdp 5 aV) e5⟩
   . obtain⟨T,e5,_,_⟩:=J.ro 11 aV (hdp 11 aV)
     rw[aj.Rz (i:=11) (t:=44) rfl rfl e5]
     (try simp only[bN,bO,bP,tks])
     exact aj.Step.value eB ⟨λ_=>J.out,J.set (i:=19) (j:=11) aV (hdp 11 aV) e5⟩
   . obtain⟨T,e5,_,_⟩:=J.ro 17 aV (hdp 17 aV)
     rw[aj.Rz (i:=17) (t:=50) rfl rfl e5]
     (try simp only[bN,bO,bP,tks])
     exact aj.Step.value eB ⟨λ_=>J.out,J.set (i:=20) (j:=17) aV (hdp 17 aV) e5⟩
   intro d v W hd J;obtain⟨Ts,e5,gs,As⟩:=J.ro 5 aV (hd 5 aV);obtain⟨Tv,e11,gv,Av⟩:=J.ro 11 aV (hd 11 aV);obtain⟨Tu,e17,gu,Au⟩:=J.ro 17 aV (hd 17 aV);have e18:=(J.cp 18 5 aV (hd 18 aV)).2.trans e5;have e19:=(J.cp 19 11 aV (hd 19 aV)).2.trans e11;have e20:=(J.cp 20 17 aV (hd 20 aV)).2.trans e17;have nsv:=J.ne 5 11 aV aV aV (hd 5 aV) (hd 11 aV);have nsu:=J.ne 5 17 aV aV aV (hd 5 aV) (hd 17 aV);have nvu:=J.ne 11 17 aV aV aV (hd 11 aV) (hd 17 aV);rw[e5,e11]at nsv;rw[e5,e17]at nsu;rw[e11,e17]at nvu
   (try simp only[aj.mQ,aj.om,aj.jv,aj.mP,List.map_cons,List.map_nil,e5,e11,e17,e18,e19,e20]);(try simp only[bN,bO,bP,tks])
   refine gX ?_;exact⟨rfl,Ts,Tv,Tu,_,_,_,_,_,_,_,_,_,_,_,_,_,_,_,_,_,_,rfl,⟨gs,gv,gu⟩,⟨λe=>nsv (by rw[e]),λe=>nsu (by rw[e]),λe=>nvu (by rw[e])⟩,As,Av,Au,J.out⟩
 . rintro a W5 ⟨Ts,Tv,Tu,u33,u34,u35,u36,u37,u38,u39,u40,u41,u42,u43,u44,u45,u46,u47,u48,u49,u50,rfl,⟨gs,gv,gu⟩,⟨nsv,nsu,nvu⟩,As,Av,Au,hb5⟩
   simp only[ja1,ja2,ja3];have hS5:=F8.after hb5;have AR5:=AR.keep hb5;have AC5:=AC.keep hb5;have B5:=B4.keep hb5;have C5:=C4.keep hb5;have Gf:=ah (aL.keep ME.out hb5);have hsz5:=hb5.size;clear nN J9 F8 AR AC B4 C4 ME hb5;have J9:=aL.lt Gf.out;have nN:W5.cell? ⟨b0,71,none⟩=some (.slice (some ⟨b1,o1,none⟩) m cp):=aL.ext Gf.out 16
   go_upto_region 5 with(fail)
   clear nN J9;obtain⟨N5,Vz⟩:=aA W5.heap.size;have lRq:=AC5.lt;have ls5:Ts<N5:=by have:=As.lt;omega
   have lv5:Tv<N5:=by have:=Av.lt;omega
   have lu5:Tu<N5:=by have:=Au.lt;omega
   have lR5:R+1<N5:=by omega
   have n0w:b0<w.heap.size:=Uq;have HN5:=ah Vz;have CF:=ah (show∀b,P b->b<w.heap.size from hP);have Yd:Hid (csR.size=m*7/\nD csR (ks.take 0)):=ah ⟨HCR.out,by simp[nD]⟩;clear Vz lRq
   go_loopw [56] (λiv wr=>∃(k n':Nat) (P':Nat->Prop) (cs:Array Value),k<=m/\iv=.int .i64 k/\n'<=n+csf B f fl k/\o9 Y B F w P n' P' wr/\Hid (∀b,b<N5->P' b->P b)/\N5<=wr.heap.size/\At wr R (.cells cs 88)/\Hid (cs.size=m*7/\nD cs (ks.take k))/\At wr (R+1) (.cells #[.slice R m m,()] 147)/\Hid (At wr Ts (.cells (aW (λi=>szl.getD i 0) m k) 3))/\Hid (At wr Tv (.cells (aW (λi=>zl.getD i 0) m k) 3))/\Hid (At wr Tu (.cells (aW (λi=>yR.getD i 0) m k) 3))/\At wr w (.cells #[z,i0,i1] 86)/\At wr (w.heap.size+1) (.cells #[.slice none 0 0,()] 147)/\Hid (aL wr b0 s (.slice (some ⟨b1,o1,none⟩) m cp) zva ND)) (λiv _=>m-(intOf iv).toNat)
   case atStart=>exact⟨0,n,P,csR,eP _,rfl,by omega,hS5,ah λb _ h=>h,by rw[HN5.out];exact aJ _,AR5,Yd,AC5,ah As,ah Av,ah Au,B5,C5,Gf⟩
   case round =>
    clear hS5 AR5 Yd AC5 As Av Au B5 C5 Gf;obtain⟨k,n',P',cs,hk,rfl,hn',hSr,xJ,FC,hAr,Hw,AC,hAs,hAv,hAu,A0,A4,wm⟩:=hrel;by_cases hlt:k<m
    . have hltz:(k:Int)<(m:Int):=by omega
      have NA:k<fl.length:=by rw[HM.out];exact hlt
      have oN:=ah hSr;have HRr:=ah (hSr.ro rT uG.out hkm);obtain⟨kid,qG⟩:=aA (fl[k]);have hdk:=ah (HDN.out kid (qG▸jc2 _));have Ee:=abr HVF.out (HRr.out.box z hz).2.1 (by rw[Gu.out];exact HM.out.symm);rw[Gu.out]at Ee;obtain⟨Vw,cb1⟩:=Uy Ee NA;rw[show fl.getD k 0=kid by rw[<-qG,List.getD,ja6 NA];rfl]at cb1;have abv:=ah qG;have hlk:=λX (h:Out (λb=>b=Y.pm) wr X)=>HRr.out.lookO h hdk.out.1;obtain⟨bk,hbk⟩:=aA (Y.bl kid);simp only[hbk]at hlk;have hbx:=(HRr.out.box kid hdk.out.1).1;rw[hbk]at hbx;obtain⟨sk,hsk⟩:=aA ((B kid).sty);rw[hsk]at hbx;generalize Y.vf kid=vf at hbx;generalize Y.va kid=va at hbx;generalize (B kid).ib=ib at hbx
      have nkp:bk≠Y.pm:=λe=>by
       obtain⟨es1,ck1,hp1⟩:=HRr.out.Fz;rw[e]at hbx;exact absurd (At.uniq hbx hp1) aV
      have oZ:=ah hbx;have HSK:=ah hsk;obtain⟨l0,eY,eZ,fV⟩:=At.three A0;clear qG Ee hbk hbx hsk hSr
      go_upto_region 7 with(fail)
      clear cb1 Vw;obtain⟨lY,xk,xq,zn,zo,zq,zu⟩:=At.six HRr.out.lay;have lbk:=aL.lt oZ.out;have npm:Y.pm<w.heap.size:=hpl;obtain⟨ly,wD⟩:=aA (Fw.lay B f kid i0 i1 (-1) (-1));have abw:csf B f fl (k+1)=csf B f fl k+Fw.cst B f kid:=by rw[X8 B f fl NA,abv.out]
      have afY:=X9 B f fl (k+1);have hnn:=HN.out;refine aj.fO (λa0 a W6=>∃(Tp Tq n2:Nat) (P2:Nat->Prop) (u61 u62 u63 u64 u65 u66 u67 u68 u69 u70 u71 u72 u73 u74 u75:Value),a={ a0 with tmps:=((((((((((((((((a0.tmps.setIfInBounds 61 u61).setIfInBounds 62 u62).setIfInBounds 63 u63).setIfInBounds 64 u64).setIfInBounds 65 u65).setIfInBounds 66 u66).setIfInBounds 67 u67).setIfInBounds 68 u68).setIfInBounds 69 u69).setIfInBounds 70 u70).setIfInBounds 71 u71).setIfInBounds 72 u72).setIfInBounds 73 u73).setIfInBounds 74 u74).setIfInBounds 75 u75).setIfInBounds 12 (.pointer Tp)).setIfInBounds 13 (.pointer Tq) }/\wr.heap.size<=Tp/\wr.heap.size<=Tq/\Tp≠Tq/\At W6 Tp (.cells (dU ly) 88)/\At W6 Tq (.cells (cells sk) 59)/\n2<=n'+Fw.cst B f kid/\o9 Y B F w P n2 P2 W6/\(∀b,b<wr.heap.size->P2 b->P' b)/\¬ P2 Tp/\¬ P2 Tq/\Out (λb=>b=Y.pm) wr W6) ?_ ?_
      . have n1:w.heap.size≠Y.pm:=by omega
        have hSd:Out (λb=>b=Y.pm) wr wr.drew:=(Out.refl _ _).drew;refine gZ (S:=λX=>Out (λb=>b=Y.pm) wr X) 19 ?_ ?_
        . exact hSd
        intro hx;have hLS:=oN.out.after ((Below.refl wr.heap.size wr).drew);clear hSd
        (refine aj.aN (i:=0) rfl aX aX aX aX ak (by assumption) qh ?_;(try simp only[Act.put,ja1,ja2,ja3]))
        (refine aj.aN (i:=1) rfl aX aX aX aX ak (by assumption) qh ?_;(try simp only[Act.put,ja1,ja2,ja3]))
        (refine aj.aN (i:=2) rfl aX aX aX aX ak (by assumption) qh ?_;(try simp only[Act.put,ja1,ja2,ja3]))
        (refine aj.aN (i:=3) rfl aX aX aX aX ak (by assumption) qh ?_;(try simp only[Act.put,ja1,ja2,ja3]))
        (refine aj.aN (i:=6) rfl aX aX aX aX ak (by assumption) qh ?_;(try simp only[Act.put,ja1,ja2,ja3]))
        (refine aj.aN (i:=7) rfl aX aX aX aX ak (by assumption) qh ?_;(try simp only[Act.put,ja1,ja2,ja3]))
        (refine aj.aN (i:=8) rfl aX aX aX aX ak (by assumption) qh ?_;(try simp only[Act.put,ja1,ja2,ja3]))
        (refine aj.aN (i:=9) rfl aX aX aX aX ak (by assumption) qh ?_;(try simp only[Act.put,ja1,ja2,ja3]))
        (refine aj.aN (i:=10) rfl aX aX aX aX ak (by assumption) qh ?_;(try simp only[Act.put,ja1,ja2,ja3]))
        refine jc 11 rfl (aY aQ rfl rfl rfl (λX h=>hlk X h)) ?_
        (refine aj.aN (i:=12) rfl aX aX aX aX ak (by assumption) qh ?_;(try simp only[Act.put,ja1,ja2,ja3]))
        (refine aj.aN (i:=13) rfl aX aX aX aX ak (by assumption) qh ?_;(try simp only[Act.put,ja1,ja2,ja3]))
        refine jc 14 rfl (iD aQ (.tmp 74) rfl rfl (λX h=>aL.style (At.out oZ.out nkp h))) ?_;clear l0 eY eZ fV lY xk xq zn zo zq zu hlk hAr Hw AC hAs hAv hAu A0 A4 wm oZ HRr oN n1 lbk;have hPl:=hLS.lt;have hwr:=hLS.size;refine aj.X5 4 [4,5,15,16] [65,66,12,13] (λi=>if i=5 then [4]else []) (BkI Y B F w P P' n' (n'+Fw.cst B f kid) ly wr) ⟨⟨_,rfl,rfl,λd v W J _ _ => ?_⟩,⟨_,rfl,rfl,λd v W J hdp hd => ?_⟩,⟨_,rfl,rfl,λd v W J _ _ => ?_⟩,⟨_,rfl,rfl,λd v W J _ _ => ?_⟩,trivial⟩ ⟨hx,λh=>(by cases h),λ_=>hLS,λh=>(by cases h),λh=>(by cases h),λh=>(by cases h)⟩ ?_
        . rw[aj.oo rfl]
          refine aj.Step.call eB (kN _) λe W2 h=>⟨_,h.1,λ_=>(J.below h.2).out,?_⟩;have J':=J.below h.2;exact⟨J'.out,λ_=>rfl,J'.ls,J'.ly,J'.p,J'.q⟩
        . have e4:=J.c (hdp 4 aV)
          rw[aj.Rz (i:=4) (t:=65) rfl rfl e4]
          (try simp only[bN,bO,bP,tks])
          have qB:=rD hL rT uG.out hkm (J.ls hd) kid i0 i1 (-1) (-1) hdk.out.1 hdk.out.2 ak;rw[wD]at qB;refine aj.Step.call eB qB ?_;rintro e W2 ⟨rfl,n2,P2,hn2,abx,adW,hO⟩;have hs2:=J.out.size;refine⟨_,rfl,λ_=>J.out.trans hO,J.out.trans hO,λ_=>e4,λh=>(by simp at h),λ_=>⟨rfl,n2,P2,hn2,abx,λb hb h=>adW b (aU hb hs2) h,λh T hT hq => ?_,λh T hT hq => ?_⟩,λh => ?_,λh => ?_⟩
          . obtain⟨T',e1,g,A⟩:=J.p h
            cases e1.symm.trans hT;exact absurd (hPl _ (adW _ A.lt hq)) (Nat.not_lt.2 g)
          . obtain⟨T',e1,g,A⟩:=J.q h
            cases e1.symm.trans hT;exact absurd (hPl _ (adW _ A.lt hq)) (Nat.not_lt.2 g)
          . obtain⟨T',e1,g,A⟩:=J.p h
            exact⟨T',e1,g,At.out (M:=λb=>b=Y.pm) A ak hO⟩
          . obtain⟨T',e1,g,A⟩:=J.q h
            exact⟨T',e1,g,At.out (M:=λb=>b=Y.pm) A ak hO⟩
        . rw[aj.oo rfl]
          exact aj.Step.value (u:=.pointer W) (w':=W.alloc (.cells #[(),(),(),(),(),(),()] 88)) eB ⟨λ_=>(J.below (aB aD _)).out,J.made (.inl ⟨rfl,rfl⟩)⟩
        . rw[aj.oo rfl]
          exact aj.Step.value (jq rfl) ⟨λ_=>(J.below (aB aD _)).out,J.made (.inr ⟨rfl,rfl⟩)⟩
        intro d v W hd J;have e4:=J.c (hd 4 aV);obtain⟨e5,n2,P2,hn2,abx,Hg,np,nq⟩:=J.ly (hd 5 aV);obtain⟨Tp,e15,gp,Ap⟩:=J.p (hd 15 aV);obtain⟨Tq,e16,gq,Aq⟩:=J.q (hd 16 aV);replace np:=np (hd 15 aV) Tp e15;replace nq:=nq (hd 16 aV) Tq e16
        have Eu:Tp≠Tq:=λe=>by
         subst e;exact absurd (At.uniq Ap Aq) aV
        replace hx:=J.out;replace hLS:=abx
        (try simp only[aj.mQ,aj.om,aj.jv,aj.mP,List.map_cons,List.map_nil,e4,e5,e15,e16]);(try simp only[bN,bO,bP,tks])
        clear abx J e4 e5 e15 e16 hd hPl;refine tk1 17 ?_;refine aj.Step.skip (aS (q:=0) mM (.tmp 12) (.tmp 66) rfl rfl rfl Ap (dB ly) aV (nX ly)) ?_;rw[dL (cs:=#[(),(),(),(),(),(),()]) (vs:=dU ly) rfl];have Vo:At (W.setRow Tp (dU ly)) Tp (.cells (dU ly) 88):=At.setRow Ap _;have VA:=At.fT Aq Eu.symm (dU ly);have gF:Out (λb=>b=Tp) W (W.setRow Tp (dU ly)):=Out.setRow (M:=λb=>b=Tp) (Out.refl _ _) rfl _;replace hLS:=hLS.own gF λb hb h=>by subst h;exact⟨np,by omega⟩
        replace hx:=Out.trans' hx gF λb hb h=>by omega
        generalize W.setRow Tp (dU ly)=y1 at *;clear gF Ap Aq;refine⟨λ_=>hx,?_⟩
        (try simp only[bN,bO,bP,tks])
        refine tk1 18 ?_;refine aj.Step.skip (jr (.tmp 13) (.tmp 75) rfl rfl rfl VA) ?_;have Aq3:At (y1.setRow Tq (cells sk)) Tq (.cells (cells sk) 59):=At.setRow VA _;have Ap3:=At.fT Vo Eu (cells sk);have hO2:Out (λb=>b=Tq) y1 (y1.setRow Tq (cells sk)):=Out.setRow (M:=λb=>b=Tq) (Out.refl _ _) rfl _;replace hLS:=hLS.own hO2 λb hb h=>by subst h;exact⟨nq,by omega⟩
        replace hx:=Out.trans' hx hO2 λb hb h=>by omega
        generalize y1.setRow Tq (cells sk)=y2 at *;clear hO2 Vo VA;refine⟨λ_=>hx,?_⟩
        (try simp only[bN,bO,bP,tks])
        refine gX ?_;exact⟨rfl,Tp,Tq,n2,P2,_,_,_,_,_,_,_,_,_,_,_,_,_,_,_,rfl,gp,gq,Eu,Ap3,Aq3,hn2,hLS,Hg,np,nq,hx⟩
      . rintro a W6 ⟨Tp,Tq,n2,P2,u61,u62,u63,u64,u65,u66,u67,u68,u69,u70,u71,u72,u73,u74,u75,rfl,gp,gq,Eu,Ap,Aq,hn2,qE,Hg,hnp,hnq,iQ⟩
        simp only[ja1,ja2,ja3];clear hlk l0 eY eZ fV lY xk xq zn zo zq zu lbk;have JF:Hid (∀b,b<N5->P2 b->P b):=ah λb hb h=>xJ.out b hb (Hg b ak h);have hs6:=iQ.size;have xE:=hAr.out (M:=λb=>b=Y.pm) ak iQ;have AC6:=AC.out (M:=λb=>b=Y.pm) ak iQ;have As6:=ah (At.out (M:=λb=>b=Y.pm) hAs.out ak iQ);have Av6:=ah (At.out (M:=λb=>b=Y.pm) hAv.out ak iQ);have Au6:=ah (At.out (M:=λb=>b=Y.pm) hAu.out ak iQ);have B6:=A0.out (M:=λb=>b=Y.pm) ak iQ;have C6:=A4.out (M:=λb=>b=Y.pm) ak iQ;have MF:=ah (At.out (M:=λb=>b=Y.pm) wm.out n0p iQ);have hN6:N5<=W6.heap.size:=aH FC hs6;clear hAr AC hAs hAv hAu A0 A4 wm iQ Hg oZ oN xJ HRr;obtain⟨l0,eY,eZ,fV⟩:=At.three B6;obtain⟨lp,Sd,Sg,cp2,cp3,cp4,cp5,cp6⟩:=At.seven (b:=Tp) Ap;have zp5:=Ap.thaw 5;have lq:=Aq.lt;have c21:W6.cell? ⟨Tq,21,none⟩=some (.int .i64 (sk.c 21)):=(Aq.cell 21).trans (bJ sk ak rfl);have c22:W6.cell? ⟨Tq,22,none⟩=some (.int .i64 (sk.c 22)):=(Aq.cell 22).trans (bJ sk ak rfl);have c17:W6.cell? ⟨Tq,17,none⟩=some (.int .i64 (sk.c 17)):=(Aq.cell 17).trans (bJ sk ak rfl);have c18:W6.cell? ⟨Tq,18,none⟩=some (.int .i64 (sk.c 18)):=(Aq.cell 18).trans (bJ sk ak rfl);have HAQ:=ah Aq;obtain⟨au,hau⟩:=aA (Fx.V6 i0 ly.s0 (Fx.len (sk.c 21) (sk.c 22) i0 0) (Fx.len (sk.c 17) (sk.c 18) i0 0) (Fx.dD (sk.c 21) i0) (Fx.dD (sk.c 17) i0));have adX:=λX=>WB i0 ly.s0 (sk.c 21) (sk.c 22) (sk.c 17) (sk.c 18) i0 X;simp only[hau]at adX;clear Aq
        go_upto_region 9 with(go_at_call 126;(with_reducible refine(adX _).mono ?_);rintro e' w9 ⟨rfl,fF⟩;replace Ap:=Ap.keep fF;obtain⟨lp,Sd,Sg,cp2,cp3,cp4,cp5,cp6⟩:=At.seven (b:=Tp) Ap;have zp5:=Ap.thaw 5)
        generalize hW:ja5 _ _ _=MG;obtain⟨y,hy⟩:∃y:Fw.Ld,{ ly with a0:=au }=y:=⟨_,rfl⟩;have aby:At MG Tp (.cells (dU y) 88):=by
         rw[<-hW,<-hy];exact At.set Ap 5 _
        have jP:Out (λb=>b=Tp) W6 MG:=by
         rw[<-hW];exact Out.set (M:=λb=>b=Tp) (Out.of_below fF) rfl 5 _
        have HYK:Hid (ks.take (k+1)=ks.take k++[y]/\szl.getD k 0=y.s1):=ah (by
         have hkk:k<ks.length:=by rw[xP.out];exact hlt
         have e:ks[k]=y:=by
          have e1:=QZ.out;subst e1;rw[List.getElem_map,abv.out,<-hy];unfold Fw.Dk;simp only[wD,HSK.out,hau]
         refine⟨by rw[jc8 hkk,e],?_⟩;rw[<-HSZ.out,List.getD,jc0,ja6 hkk,e]
         rfl)
        have hTN:N5<=Tp:=by omega
        have mF:=qE.own jP λb hb h=>by subst h;exact⟨hnp,by omega⟩
        have abz:=ah (xE.out (M:=λb=>b=Tp) ak jP);have yT:=AC6.out (M:=λb=>b=Tp) ak jP;have afZ:=ah (At.out (M:=λb=>b=Tp) As6.out ak jP);have af0:=ah (At.out (M:=λb=>b=Tp) Av6.out ak jP);have af2:=ah (At.out (M:=λb=>b=Tp) Au6.out ak jP);have B10:=B6.out (M:=λb=>b=Tp) ak jP;have NG:=C6.out (M:=λb=>b=Tp) ak jP;have vJ:=ah (At.out (M:=λb=>b=Tp) MF.out ak jP);have Ev:N5<=MG.heap.size:=aH hN6 jP.size;clear hW hy jP fF adX hau Ap lp Sd Sg cp2 cp3 cp4 cp5 cp6 zp5 lq c21 c22 c17 c18 HAQ l0 eY eZ fV xE AC6 As6 Av6 Au6 B6 C6 MF hN6 hs6 qE hnp hnq;have hRf:k*7+7<=cs.size:=by have:=Hw.out.1;omega
        have HYL:Hid (∀j,j<7->MG.cell? ⟨Tp,0+j,none⟩=(dU y)[j]?):=ah λj hj=>by rw[Nat.zero_add];exact aby.cell j
        obtain⟨lC,Gg,Gh⟩:=At.two yT;have aiD:=abz.out.lt;have lTp:=aby.lt
        go_upto_region 10 with(first|(refine dZ zS mM aQ _ rfl rfl (dB y) HYL.out ?_)|(refine fD mM aQ _ _ rfl rfl rfl abz.out (dB y) hRf (nX y) ?_))
        generalize hW:World.setRow _ _ _=Ca;have Ye:At Ca R (.cells (splice cs (k*7) (dU y)) 88):=hW▸At.setRow abz.out _;have iZ:Out (λb=>b=R) MG Ca:=hW▸Out.setRow (M:=λb=>b=R) (Out.refl _ _) rfl _
        have af3:Hid ((splice cs (k*7) (dU y)).size=m*7/\nD (splice cs (k*7) (dU y)) (ks.take (k+1))):=ah (by
         have e:(ks.take k).length=k:=by rw[List.length_take,xP.out];omega
         refine⟨by rw[iG (by rw[dB];exact hRf)];exact Hw.out.1,?_⟩;have h1:=Hw.out.2.snoc (x:=y) (by rw[e];exact hRf);rw[e]at h1;rw[HYK.out.1]
         exact h1)
        have qC:¬ P2 R:=λh=>by have:=CF.out _ (JF.out _ ak h);omega
        have qD:=mF.own iZ λb hb h=>by subst h;exact⟨qC,by omega⟩
        have af4:=aby.out (M:=λb=>b=R) ak iZ;have JG:=yT.out (M:=λb=>b=R) ak iZ;have Yf:=At.out (M:=λb=>b=R) afZ.out ak iZ;have af5:=ah (At.out (M:=λb=>b=R) af0.out ak iZ);have af6:=ah (At.out (M:=λb=>b=R) af2.out ak iZ);have B11:=B10.out (M:=λb=>b=R) ak iZ;have MH:=NG.out (M:=λb=>b=R) ak iZ;have vK:=ah (At.out (M:=λb=>b=R) vJ.out ak iZ);have MI:N5<=Ca.heap.size:=aH Ev iZ.size;generalize splice cs (k*7) (dU y)=aiE at *;clear hW iZ lC Gg Gh aiD lTp HYL abz yT afZ af0 af2 B10 NG vJ Ev mF aby Hw hRf;obtain⟨lp,Sd,Sg,cp2,cp3,cp4,cp5,cp6⟩:=At.seven (b:=Tp) af4;have lS:=Yf.lt;have cSk:=Yf.cell k;rw[dh _ hlt]at cSk;have zSk:=Yf.thaw k
        go_upto_region 11 with(fail)
        generalize hW:ja5 _ _ _=UC;have e12:(aW (λi=>szl.getD i 0) m k).setIfInBounds k (.int .i64 y.s1)=aW (λi=>szl.getD i 0) m (k+1):=by
         have h1:=jC (λi=>szl.getD i 0) hlt;simp only[HYK.out.2]at h1;exact h1
        have af7:Hid (At UC Ts (.cells (aW (λi=>szl.getD i 0) m (k+1)) 3)):=ah (by
         rw[<-hW,<-e12]
         exact At.set Yf k _)
        have nL:Out (λb=>b=Ts) Ca UC:=hW▸Out.set (M:=λb=>b=Ts) (Out.refl _ _) rfl k _;have uz:=qD.own nL λb hb h=>by subst h;exact⟨λh=>by have:=CF.out _ (JF.out _ ls5 h);omega,by omega⟩
        have MJ:=Ye.out (M:=λb=>b=Ts) ak nL;have Ew:=JG.out (M:=λb=>b=Ts) ak nL;have PO:=At.out (M:=λb=>b=Ts) af5.out ak nL;have af8:=ah (At.out (M:=λb=>b=Ts) af6.out ak nL);have B12:=B11.out (M:=λb=>b=Ts) ak nL;have Kh:=MH.out (M:=λb=>b=Ts) ak nL;have Hy:=ah (At.out (M:=λb=>b=Ts) vK.out ak nL);have Gi:N5<=UC.heap.size:=aH MI nL.size;clear hW nL lp Sd Sg cp2 cp3 cp4 cp5 cp6 lS cSk zSk e12 Yf Ye JG af5 af6 B11 MH vK MI qD af4;have hfT:zl.getD k 0=Fx.coll (Fw.meet B 0 f kid):=by
         rw[<-HTP.out,List.getD,jc0,ja6 NA,abv.out];rfl
        have hfU:yR.getD k 0=Fx.coll (Fw.meet B 1 f kid):=by
         rw[<-HBT.out,List.getD,jc0,ja6 NA,abv.out];rfl
        have HFT:=ah hfT;have HFU:=ah hfU;have PS:=adR hK F HDW.out HLEN.out f kid UC hdk.out.1 hdk.out.2 hf (uz.ro rT uG.out hkm);have hml:=vI B 0 f kid;obtain⟨mt,hmt⟩:=aA (Fw.meet B 0 f kid);rw[hmt]at PS hml HFT;have abA:=ah uz;clear hfT hfU hmt uz
        go_upto_region 12 with(first|(go_at_call 128;(with_reducible refine PS.mono ?_);rintro e' zh ⟨⟨v,rfl,hown⟩,sJ⟩;obtain⟨Am,cm,rfl,pz⟩:=uT hown Ko;replace PO:=PO.keep sJ;have lV:=PO.lt;have cVk:=PO.cell k;rw[dh _ hlt]at cVk;have zVk:=PO.thaw k)|(go_at_call 127;(with_reducible refine(KW Am mt mt.length cm zh pz rfl).mono ?_);rintro e' w14 ⟨rfl,rfl⟩))
        generalize hW:ja5 _ _ _=W14;have e14:(aW (λi=>zl.getD i 0) m k).setIfInBounds k (.int .i64 (Fx.coll mt))=aW (λi=>zl.getD i 0) m (k+1):=by
         have h1:=jC (λi=>zl.getD i 0) hlt;simp only[HFT.out]at h1;exact h1
        have af9:Hid (At W14 Tv (.cells (aW (λi=>zl.getD i 0) m (k+1)) 3)):=ah (by
         rw[<-hW,<-e14]
         exact At.set PO k _)
        have uD:Out (λb=>b=Tv) UC W14:=hW▸Out.set (M:=λb=>b=Tv) (Out.of_below sJ) rfl k _;have PU:=abA.out.own uD λb hb h=>by subst h;exact⟨λh=>by have:=CF.out _ (JF.out _ lv5 h);omega,by omega⟩
        have af':=MJ.out (M:=λb=>b=Tv) ak uD;have aga:=Ew.out (M:=λb=>b=Tv) ak uD;have agb:=ah (At.out (M:=λb=>b=Tv) af7.out ak uD);have PV:=At.out (M:=λb=>b=Tv) af8.out ak uD;have B14:=B12.out (M:=λb=>b=Tv) ak uD;have C14:=Kh.out (M:=λb=>b=Tv) ak uD;have RA:=ah (At.out (M:=λb=>b=Tv) Hy.out ak uD);have abB:N5<=W14.heap.size:=aH Gi uD.size;clear hW uD lV cVk zVk e14 af7 MJ Ew PO af8 B12 Kh Hy Gi abA PS hml hown pz sJ;have PS:=adU hK F HDW.out HLEN.out f kid W14 hdk.out.1 hdk.out.2 hf (PU.ro rT uG.out hkm);have hml:=vI B 1 f kid;obtain⟨mu,hmu⟩:=aA (Fw.meet B 1 f kid);rw[hmu]at PS hml HFU;have agc:=ah PU;clear hmu PU
        go_upto_region 13 with(first|(go_at_call 128;(with_reducible refine PS.mono ?_);rintro e' zh ⟨⟨v,rfl,hown⟩,sJ⟩;obtain⟨Am,cm,rfl,pz⟩:=uT hown Ko;replace PV:=PV.keep sJ;have lV:=PV.lt;have cVk:=PV.cell k;rw[dh _ hlt]at cVk;have zVk:=PV.thaw k)|(go_at_call 127;(with_reducible refine(KW Am mu mu.length cm zh pz rfl).mono ?_);rintro e' w14 ⟨rfl,rfl⟩))
        generalize hW:ja5 _ _ _=W16;have e16:(aW (λi=>yR.getD i 0) m k).setIfInBounds k (.int .i64 (Fx.coll mu))=aW (λi=>yR.getD i 0) m (k+1):=by
         have h1:=jC (λi=>yR.getD i 0) hlt;simp only[HFU.out]at h1;exact h1
        have aiF:Hid (At W16 Tu (.cells (aW (λi=>yR.getD i 0) m (k+1)) 3)):=ah (by
         rw[<-hW,<-e16]
         exact At.set PV k _)
        have Gj:Out (λb=>b=Tu) W14 W16:=hW▸Out.set (M:=λb=>b=Tu) (Out.of_below sJ) rfl k _;have aiG:=agc.out.own Gj λb hb h=>by subst h;exact⟨λh=>by have:=CF.out _ (JF.out _ lu5 h);omega,by omega⟩
        have aiH:=af'.out (M:=λb=>b=Tu) ak Gj;have aiI:=aga.out (M:=λb=>b=Tu) ak Gj;have aiJ:=ah (At.out (M:=λb=>b=Tu) agb.out ak Gj);have aiK:=ah (At.out (M:=λb=>b=Tu) af9.out ak Gj);have B16:=B14.out (M:=λb=>b=Tu) ak Gj;have C16:=C14.out (M:=λb=>b=Tu) ak Gj;have agd:=ah (At.out (M:=λb=>b=Tu) RA.out ak Gj);have aiL:N5<=W16.heap.size:=aH abB Gj.size;clear hW Gj lV cVk zVk e16 agb af' aga af9 PV B14 C14 RA abB agc PS hml hown pz sJ;go_wp2
        go_roundw
        case rel=>exact⟨k+1,n2,P2,aiE,by omega,by go_num,by omega,aiG,JF,aiL,aiH,af3,aiI,aiJ,aiK,aiF,B16,C16,agd⟩
        case measure=>simp[intOf];omega
    . obtain rfl:k=m:=by omega
      have hIs:Ints wr (some ⟨Ts,0,none⟩) szl:=by
       have h1:=fM _ k Ko hAs.out;have h2:=rG szl;rw[HLS.out]at h2;rw[h2]at h1;exact h1
      have hIv:Ints wr (some ⟨Tv,0,none⟩) zl:=by
       have h1:=fM _ k Ko hAv.out;have h2:=rG zl;rw[CW.out]at h2;rw[h2]at h1;exact h1
      have hIu:Ints wr (some ⟨Tu,0,none⟩) yR:=by
       have h1:=fM _ k Ko hAu.out;have h2:=rG yR;rw[HLU.out]at h2;rw[h2]at h1;exact h1
      have wM:=Ux (some ⟨Ts,0,none⟩) (some ⟨Tv,0,none⟩) (some ⟨Tu,0,none⟩) szl zl yR k k k k wr hIs hIv hIu HLS.out CW.out HLU.out ak
      have HN2:Hid (n'<=n+2*(fl.map (Fw.cst B f)).sum):=ah (by
       have h1:=X9 B f fl k
       omega)
      have oN:=ah hSr;have HRC:=ah (show cs.size=k*7/\nD cs ks from by
       have h1:=Hw.out;rw[List.take_of_length_le (by rw[xP.out];exact aJ _)]at h1
       exact h1)
      obtain⟨en,hen⟩:=aA (Fx.uO szl zl yR k);rw[hen]at wM;have HEN:=ah hen;clear hIs hIv hIu hSr Hw hn' hlt hen
      go_upto_region 15 with(go_at_call 129;(with_reducible refine wM.mono ?_);rintro e' w9 ⟨⟨bb,rfl,gbb,VI⟩,fF⟩)
      have NC:=oN.out.after fF;have AR9:=hAr.keep fF;have AC9:=AC.keep fF;have B9:=A0.keep fF;have C9:=A4.keep fF;have MK:=ah (aL.keep wm.out fF);have Av9:=hAv.out.keep fF;have Au9:=hAu.out.keep fF;have agf:=ah VI;have hN9:N5<=w9.heap.size:=aH FC fF.size;have akk:N5<=bb:=aH FC gbb;clear wM VI oN hAr AC hAs hAv hAu A0 A4 wm fF gbb FC;obtain⟨m1,akl,akm⟩:∃m1,m1+1<=k/\k<=m1+1:=⟨k-1,by omega,by omega⟩;have hwk:IntKind.i64.wrap ((k:Int)-1)=(m1:Int):=by rw[IntWalk.i64_in _ ak];omega
      have aiM:(m1:Int)<(k:Int):=by omega
      have adY:(0:Int)<(k:Int):=by omega
      have lv9:=Av9.lt;have lu9:=Au9.lt;have cv0:w9.cell? ⟨Tv,0,none⟩=some (.int .i64 (zl.getD 0 0)):=(Av9.cell 0).trans (by rw[dh _ hm0,if_pos hm0]);have cu1:w9.cell? ⟨Tu,m1,none⟩=some (.int .i64 (yR.getD m1 0)):=(Au9.cell m1).trans (by rw[dh _ ak,if_pos ak]);obtain⟨t0,ht0⟩:=aA (zl.getD 0 0);obtain⟨u1,hu1⟩:=aA (yR.getD m1 0);rw[ht0]at cv0;rw[hu1]at cu1;have HF1:Hid ((if Fw.opn s ND 0=true then 0 else t0)=first):=ah (by rw[<-ht0];exact NS.out)
      have zY:Hid ((if Fw.opn s ND 1=true then 0 else u1)=last):=ah (by
       rw[<-hu1];have h1:=HLA.out;rw[HLU.out,show k-1=m1 by omega]at h1
       exact h1)
      clear ht0 hu1;have hSd:Below w9 w9 w9.drew:=Below.drew aD;refine gZ (S:=λX=>Below w9 w9 X) 11 ?_ ?_
      . exact hSd
      intro hx;clear hSd;refine aG 0 ?_;refine aG 1 ?_;refine aG 2 ?_;refine aG 3 ?_;refine aG 4 ?_;refine aG 5 ?_;refine aG 6 ?_;refine aG 7 ?_;refine aG 8 ?_;refine aG 9 ?_;refine aG 10 ?_;refine gX ?_;have Vv:Below w9 w9 w9.drew:=hx;generalize w9.drew=iJ at *;have mF:=NC.after Vv;have agh:=AR9.keep Vv;have yT:=AC9.keep Vv;have B10:=B9.keep Vv;have NG:=C9.keep Vv;have vJ:=ah (aL.keep MK.out Vv);have acE:=ah (agf.out.after Vv);have Ev:N5<=iJ.heap.size:=aH hN9 Vv.size;clear hx Vv NC AR9 AC9 B9 C9 MK agf hN9 cv0 cu1 lv9 lu9 Av9 Au9 hwk aiM adY;obtain⟨o0,ho0⟩:=aA (Fw.opn s ND 0);obtain⟨o1',ho1⟩:=aA (Fw.opn s ND 1);have Ey:=CZ b0 s _ zva ND iJ vJ.out;rw[ho0]at Ey HF1;rw[ho1]at zY;have HO1:=ah ho1;clear ho0 ho1
      go_upto_if 140 with(go_at_call 130;(with_reducible refine Ey.mono ?_);rintro e' p9 ⟨rfl,fE⟩)
      have qD:=mF.after fE;have Ye:=agh.keep fE;have JG:=yT.keep fE;have MH:=NG.keep fE;have vK:=ah (aL.keep vJ.out fE);have acF:=ah (acE.out.after fE);have MI:N5<=p9.heap.size:=aH Ev fE.size;clear mF agh yT B10 NG vJ acE Ev fE Ey;go_cut [16]from 139 to 141 (λv w2=>v=.int .i64 first/\Below p9 p9 w2)
      case first =>
       cases o0 with
       | true =>
         have e1:=HF1.out;rw[if_pos rfl]at e1;exact Z37
       | false =>
         have e1:=HF1.out;rw[if_neg aV]at e1;exact Z37
      case rest =>
       obtain⟨rfl,fE⟩:=hcut;have agi:=ah (aL.keep vK.out fE);have Ey:=CY b0 s _ zva ND wc agi.out;rw[HO1.out]at Ey;have acG:=qD.after fE;have acH:=Ye.keep fE;have acI:=JG.keep fE;have agj:=MH.keep fE;have Yg:=ah (acF.out.after fE);have acJ:N5<=wc.heap.size:=aH MI fE.size;clear qD Ye JG MH vK acF MI fE
       go_upto_if 142 with(go_at_call 130;(with_reducible refine Ey.mono ?_);rintro e' zh ⟨rfl,sJ⟩)
       have agk:=acG.after sJ;have agl:=acH.keep sJ;have agm:=acI.keep sJ;have C13:=agj.keep sJ;have acK:=ah (Yg.out.after sJ);have agn:N5<=zh.heap.size:=aH acJ sJ.size;clear acG acH acI agj agi Yg acJ sJ Ey;go_cut [17]from 141 to 143 (λv w2=>v=.int .i64 last/\Below zh zh w2)
       case first =>
        cases o1' with
        | true =>
          have e1:=zY.out;rw[if_pos rfl]at e1;exact Z37
        | false =>
          have e1:=zY.out;rw[if_neg aV]at e1;exact Z37
       case rest =>
        obtain⟨rfl,PW⟩:=hcut;have uz:=agk.after PW;have MJ:=agl.keep PW;have Ew:=agm.keep PW;have Kh:=C13.keep PW;have acL:=ah (acK.out.after PW);have Gi:N5<=wc.heap.size:=aH agn PW.size;clear agk agl agm C13 acK agn PW;obtain⟨lC,Gg,Gh⟩:=At.two Ew
        go_upto_region 21 with(fail)
        clear lC Gg Gh;have Yd:Hid (cs.size=k*7/\nD cs (yS (blG first szl zl yR) ks 0)):=ah (by rw[UA];exact HRC.out);have qC:=ah (show¬ P' R from λh=>by have:=CF.out _ (xJ.out _ ak h);omega);have aiN:=ah (show¬ P' (R+1)from λh=>by have:=CF.out _ (xJ.out _ lR5 h);omega);have aiO:=ah (show¬ P' (w.heap.size+1)from λh=>by have:=CF.out _ (xJ.out _ ak h);omega);have HLB:Hid ((Fx.uP szl zl yR k).length=k):=ah (Fx.qj _ _ _ _)
        go_loopw [146] (λiv wr=>∃(i:Nat) (cs2:Array Value),i<=k/\iv=.int .i64 i/\o9 Y B F w P n' P' wr/\At wr R (.cells cs2 88)/\Hid (cs2.size=k*7/\nD cs2 (yS (blG first szl zl yR) ks i))/\At wr (R+1) (.cells #[.slice R k k,()] 147)/\At wr (w.heap.size+1) (.cells #[.slice none 0 0,()] 147)/\Hid (Ints wr (some ⟨bb,0,none⟩) (Fx.uP szl zl yR k))) (λiv _=>k-(intOf iv).toNat)
        case atStart=>exact⟨0,cs,eP _,rfl,uz,MJ,Yd,Ew,Kh,acL⟩
        case round =>
         clear uz MJ Yd Ew Kh acL;obtain⟨i,cs2,hi2,rfl,hSr,hAr,Hw,AC,A4,xY⟩:=hrel;by_cases hlt:i<k
         . have hltz:(i:Int)<(k:Int):=by omega
           have oN:=ah hSr;have hik:i<ks.length:=by rw[xP.out];exact hlt
           obtain⟨lz,cz⟩:=lints xY.out (k:=i) (by rw[HLB.out];exact hlt);rw[Fx.Da _ _ _ hlt]at cz;obtain⟨bg,hbg⟩:=aA (Fx.nO szl zl yR i);rw[hbg]at cz;have HBG:=ah hbg;obtain⟨lC,Gg,Gh⟩:=At.two AC;have lR:=hAr.lt;have hlast:i*7+6<cs2.size:=by have:=Hw.out.1;omega
           have cR6:wr.cell? ⟨R,i*7+6,none⟩=some cs2[i*7+6]:=(hAr.cell _).trans (Array.getElem?_eq_getElem hlast);generalize cs2[i*7+6]=old at cR6;have zR6:=hAr.thaw (i*7+6);obtain⟨p,hp⟩:=aA (IntKind.i64.wrap (first+bg));have nbR:bb≠R:=by omega
           clear hSr hbg
           go_upto_region 23 with(fail)
           have hSd:Out (λb=>b=R) wr wr.drew:=(Out.refl _ _).drew;refine gZ (S:=λX=>Out (λb=>b=R) wr X) 13 ?_ ?_
           . exact hSd
           intro hx;clear hSd
           (refine aj.aN (i:=0) rfl aX aX aX aX ak (by assumption) qh ?_;(try simp only[Act.put,ja1,ja2,ja3]))
           (refine aj.aN (i:=1) rfl aX aX aX aX ak (by assumption) qh ?_;(try simp only[Act.put,ja1,ja2,ja3]))
           (refine aj.aN (i:=2) rfl aX aX aX aX ak (by assumption) qh ?_;(try simp only[Act.put,ja1,ja2,ja3]))
           (refine aj.aN (i:=3) rfl aX aX aX aX ak (by assumption) qh ?_;(try simp only[Act.put,ja1,ja2,ja3]))
           (refine aj.aN (i:=4) rfl aX aX aX aX ak (by assumption) qh ?_;(try simp only[Act.put,ja1,ja2,ja3]))
           (refine aj.aN (i:=5) rfl aX aX aX aX ak (by assumption) qh ?_;(try simp only[Act.put,ja1,ja2,ja3]))
           (refine aj.aN (i:=6) rfl aX aX aX aX ak (by assumption) qh ?_;(try simp only[Act.put,ja1,ja2,ja3]))
           (refine aj.aN (i:=7) rfl aX aX aX aX ak (by assumption) qh ?_;(try simp only[Act.put,ja1,ja2,ja3]))
           (refine aj.aN (i:=8) rfl aX aX aX aX ak (by assumption) qh ?_;(try simp only[Act.put,ja1,ja2,ja3]))
           (refine aj.aN (i:=9) rfl aX aX aX aX ak (by assumption) qh ?_;(try simp only[Act.put,ja1,ja2,ja3]))
           (refine aj.aN (i:=10) rfl aX aX aX aX ak (by assumption) qh ?_;(try simp only[Act.put,ja1,ja2,ja3]))
           (refine aj.aN (i:=11) rfl aX aX aX aX ak (by assumption) qh ?_;(try simp only[Act.put,ja1,ja2,ja3]))
           refine tk1 12 ?_;refine aj.Step.skip Z3t ?_;generalize hW:ja5 _ _ _=W3;have AR3:At W3 R (.cells (cs2.setIfInBounds (i*7+6) (.int .i64 p)) 88):=hW▸At.set hAr (i*7+6) _;have hO3:Out (λb=>b=R) wr W3:=hW▸Out.set (M:=λb=>b=R) (Out.refl _ _) rfl (i*7+6) _;refine⟨λ_=>Out.drew hO3,?_⟩
           (try simp only[bN,bO,bP,tks])
           refine gX ?_
           have aiP:Hid ((cs2.setIfInBounds (i*7+6) (.int .i64 p)).size=k*7/\nD (cs2.setIfInBounds (i*7+6) (.int .i64 p)) (yS (blG first szl zl yR) ks (i+1))):=ah (by
            refine⟨by simpa using Hw.out.1,?_⟩;have h1:=Hw.out.2.aaX (k:=i) (by rw[Bj];exact hik) p;rw[Ya _ _ hik]at h1;rw[<-Uz _ _ hik];have e:blG first szl zl yR i ks[i]={ ks[i]with a1:=p }:=by
             unfold blG;rw[HBG.out,<-qI,hp]
            rw[e]
            exact h1)
           have hO4:=Out.drew hO3;have AR4:=At.drew AR3;have F8:=oN.out.own hO4 λb hb h=>by subst h;exact⟨qC.out,by omega⟩
           have AC4:=AC.out (M:=λb=>b=R) ak hO4;have C4:=A4.out (M:=λb=>b=R) ak hO4;have abh:=ah (vH xY.out hO4 nbR);generalize W3.drew=W4 at *;generalize cs2.setIfInBounds (i*7+6) (.int .i64 p)=zZ at *;clear hW hx hO3 hO4 AR3 lC Gg Gh lR hlast cR6 zR6 cz lz hAr Hw AC A4 xY hp;go_wp2
           go_roundw
           case rel=>exact⟨i+1,zZ,by omega,by go_num,F8,AR4,aiP,AC4,C4,abh⟩
           case measure=>simp[intOf];omega
         . obtain rfl:i=k:=by omega
           have HRF:Hid (nD cs2 xs):=ah (by
            have h1:=Hw.out.2;rw[<-xP.out,Yb,HXS.out.1]at h1
            exact h1)
           have hxl:xs.length=i:=by rw[<-HXS.out.1,List.length_mapIdx,xP.out]
           obtain⟨lC,Gg,Gh⟩:=At.two AC;have zC1:=AC.thaw 1;obtain⟨q1,hq1⟩:=aA (IntKind.i64.wrap (first+en));obtain⟨q2,hq2⟩:=aA (IntKind.i64.wrap (q1+last))
           have HHI:Hid (q2=hi):=ah (by
            have h1:=HXS.out.2;rw[HEN.out,<-qI (first+en),hq1,<-qI,hq2]at h1
            exact h1)
           have oN:=ah hSr;clear hSr Hw xY
           go_upto_region 26 with(fail)
           generalize hW:ja5 _ _ _=UC;have Ew:At UC (R+1) (.cells #[.slice R i i,q2] 147):=hW▸At.set AC 1 _;have nL:Out (λb=>b=R+1) wr UC:=hW▸Out.set (M:=λb=>b=R+1) (Out.refl _ _) rfl 1 _;have uz:=oN.out.own nL λb hb h=>by subst h;exact⟨aiN.out,by omega⟩
           have MJ:=hAr.out (M:=λb=>b=R+1) ak nL;have Kh:=A4.out (M:=λb=>b=R+1) ak nL;clear hW lC Gg Gh zC1 hAr AC A4 nL hq1 hq2;obtain⟨lC,Gg,Gh⟩:=At.two Ew;obtain⟨l4,adZ,ad1⟩:=At.two Kh;have aaf:=Kh.thaw 0;have aag:=Kh.thaw 1;have abA:=ah uz;have agp:=ah MJ;clear uz MJ;go_wp2;generalize hW:ja5 _ _ _=W6;have A6:At W6 (w.heap.size+1) (.cells #[.slice R i i,q2] 147):=hW▸At.set (At.set Kh 0 _) 1 _;have Rq:Out (λb=>b=w.heap.size+1) UC W6:=by
            exact Z20
           clear hW adZ ad1 aaf aag lC Gg Gh Ew Kh;have AR6:=agp.out.out (M:=λb=>b=w.heap.size+1) ak Rq;have qE:=abA.out.own Rq λb hb h=>by subst h;exact⟨aiO.out,by omega⟩
           obtain⟨l4,adZ,ad1⟩:=At.two A6;have iQ:=qE.fin;have Kk:=qE.kp;have hNw:=qE.new;refine bodyPost_ret (v:=.agg #[.slice R i i,q2]) (by simp[results,Tryz.results95,go_sem,adZ,ad1,l4];first|done|exact⟨rfl,rfl⟩|rfl) rfl ⟨R,i,cs2,P',n',by rw[hxl,HHI.out],by omega,AR6,HRF.out,HN2.out,Kk,hNw,qC.out,iQ⟩
end
attribute [local go_sem] Oper.semAt_some
def Hz(n₀ B:Nat)(W W':World):Prop:=Below n₀ W W'/\∀k t v,B<k->k<B+5->t≠57->Boxed W k t v->Boxed W' k t v
theorem Hz.refl(n₀ B:Nat)(W:World):Hz n₀ B W W:=⟨Below.refl _ _,λ_ _ _ _ _ _ h=>h⟩
theorem Hz.trans{X Y Z:World}(h:Hz n₀ B X Y)(k:Hz n₀ B Y Z):Hz n₀ B X Z:=⟨h.1.trans k.1,λi t v h1 h2 h3 h4=>k.2 i t v h1 h2 h3 (h.2 i t v h1 h2 h3 h4)⟩
theorem Hz.of_below{W W':World}(h:Below W W W')(hn:n₀<=W.heap.size):Hz n₀ B W W' :=
 ⟨h.mono hn,λi t v _ _ _ hb=>(h.block i hb.lt).trans hb⟩
theorem Hz.putObj(hn:n₀<=w.heap.size)(hB:B+5<=w.heap.size)(W:World)(l:Nat)(o o':Obj)(hl:w.heap.size<=l)(h:W.heap[l]? = some o)(hc:o.isCells=false)(hw:o.isWalk=false):Hz n₀ B W (W.putObj l o') :=
 ⟨belowK_b hn W l o o' hl h hc hw,λi t v _ h2 _ hb=>(World.putObj_heap_other ak).trans hb⟩
theorem Ez{W W':World}(h:Below W W W'):W.grownBy W' none:=⟨h.os,h.tape,h.output,h.size,λk hk _=>h.block k hk⟩
theorem Yh(A:Option Addr)(n c:Nat)(room gap:Int)(wrap:Bool)(w:World) :
  Calls ja0 173 #[.slice A n c,room,gap,wrap] w λe w'=>e=.returned (.func (.func 201) #[] #[w,.pointer (some ⟨w.heap.size+1,0,none⟩),.pointer (some ⟨w.heap.size+2,0,none⟩),.pointer (some ⟨w.heap.size+3,0,none⟩)]) /\
   w'=(((w.alloc (.cells #[.slice A n c] 37)).alloc (.cells #[room] 3)).alloc (.cells #[gap] 3)).alloc (.cells #[wrap] 4):=by
 have Ja:=@qW;go_enter Tryz.func173,Tryz.ntmps173
 go_wp2;exact Zu
theorem PX{P:Program}{ops:Array Oper}{Q:Exit->Act->World->Prop}{S:World->Prop}{o:Oper}{os:List Oper}{a:Act}{t:TypeId}{x:Operand}{lo hi mx:Option Operand}{v:Value}(ho:o.op=.slice t x lo hi mx)(hw:Region.wanted o (yielded ops a.tmps)=true)
  (hrun:∀w,(Instr.sliceAt t (a.eval x) (lo.map a.eval) (hi.map a.eval) (mx.map a.eval)).run P w=.ok v w) (h:aj.dH P ops Q S k os (a.put o.dst v)):aj.dH P ops Q S (k+1) (o::os) a :=
 aj.iC hw (λw _=>by unfold execOp;simp only[ho,Sem.run_bind,Sem.run_pure,hrun,Result.andThen_ok]) h
def agq(x:Nat×Nat):Array Value:=#[.int .i64 (x.1:Int),.int .i64 (x.2:Int)]
theorem Yi(A:Option Addr)(l:List Int)(n c:Nat)(room gap:Int)(wrap:Bool)(w:World)(q:Nat)(hI:Ints w A l)(hl:l.length=n)(h0:0<n)(hn:n<=100000)(hq:q=Li.cnt room gap wrap l) :
 Calls ja0 202 #[.slice A n c,room,gap,wrap] w λe w'=>e=.returned (.int .i64 (q:Nat))/\w=w':=hq▸Uo A l n c room gap wrap w hI hl h0 hn
theorem abC(n:Nat)(hn1:1<=n)(lp n₀ B:Nat)(A:Option Addr)(l:List Int)(m c:Nat)(room gap:Int)(wrap:Bool)(hl:l.length=m)(hm:m<=10000)(hcap:m<=c)(J Jx:List (Nat×Nat)->World->Prop)
  (hY:∀pre x W,J pre W->pre.length<(Li.brk room gap wrap l).length->YieldAt Fence.wide (n-1) ja0 lp (agq x) W λe W' =>
   (e=.returned (.bool true)/\J (pre++[x]) W'/\Hz n₀ B W W')\/(e=.returned (.bool false)/\Jx (pre++[x]) W'))
  (W:World) (hJ:AbidesFrom W.heap.size J) (hn₀:n₀<=W.heap.size) (b1:Boxed W (B+1) 37 (.slice A m c)) (b2:Boxed W (B+2) 3 (.int .i64 room)) (b3:Boxed W (B+3) 3 (.int .i64 gap)) (b4:Boxed W (B+4) 4 (.bool wrap))
  (hI:Ints W A l) (hA:0<l.length->∀x,A=some x->x.block<n₀) (h0:J [] W) :
  CallsIn Fence.wide n ja0 201 #[.func (.yield lp) #[] #[],.pointer (some ⟨B+1,0,none⟩),.pointer (some ⟨B+2,0,none⟩),.pointer (some ⟨B+3,0,none⟩),.pointer (some ⟨B+4,0,none⟩)] W λe W'=>(∃v,e=.returned v) /\
   ((∃ys,ys=Li.brk room gap wrap l/\J ys W')\/(∃pre,True/\Jx pre W')):=by
 have HL:=ah hl;have HI:=ah hI;have HA:=ah hA;have HY:=ah hY;have HJ:=ah hJ;have HB1:=ah b1;have HB2:=ah b2;have HB3:=ah b3;have HB4:=ah b4;clear hl hI hA hY hJ b1 b2 b3 b4;refine callsIn_of_wp Tryz.func201 rfl trivial ?_ rfl;simp only[Tryz.ntmps201,jc3,ja9,List.length_nil,Nat.reduceAdd,Nat.reduceSub,Array.replicate_succ,Array.replicate_zero,jc',jc1,List.nil_append,jd1]
 gi_wp2
 gi_loopw [6,7] (λvf _ wr=>∃(k:Nat) (pre:List (Nat×Nat)),vf=.int .i64 k/\k<=m/\Hid (pre++Li.tail room gap wrap l k=Li.brk room gap wrap l)/\J pre wr/\Hz n₀ B W wr) (λvf _ _=>m-(intOf vf).toNat)
 case atStart=>exact⟨0,[],rfl,by omega,ah rfl,h0,Hz.refl _ _ _⟩
 case round =>
  obtain⟨k,pre,rfl,hk,HP,hJs,hK⟩:=hrel;have p1:=hK.2 _ _ _ ak ak aF HB1.out;have p2:=hK.2 _ _ _ ak ak aF HB2.out;have p3:=hK.2 _ _ _ ak ak aF HB3.out;have p4:=hK.2 _ _ _ ak ak aF HB4.out;have c1:=p1.cell;have c2:=p2.cell;have c3:=p3.cell;have c4:=p4.cell;have l1:=p1.lt;have l2:=p2.lt;have l3:=p3.lt;have l4:=p4.lt;clear p1 p2 p3 p4;by_cases hlt:k<m
  . have hltz:(k:Int)<(m:Int):=by omega
    have HI0:Hid (Ints wr A l):=ah (HI.out.keep hK.1 HA.out);have I1:=HI0.out.from_ k c Z4d (by rw[HL.out];exact hcap);have F1:=oK A m c k ak;generalize hA1:(if c=k then A else A.map (·.add (k*1)))=A1 at *;have HI1:=ah I1;have HF1:=ah F1;obtain⟨r,r1,r2⟩:∃r,r+k<=m/\m<=r+k:=⟨m-k,by omega,by omega⟩;have HR:Hid (m-k=r):=ah ak;have zY:Hid ((l.drop k).length=r):=ah (by rw[List.length_drop,HL.out];omega);replace HF1:=ah HF1.out;rw[HR.out]at HF1;clear hA1 I1 F1;obtain⟨s,hs⟩:∃s,s=Li.stop room gap wrap l k:=⟨_,rfl⟩;have hks:k<s:=by rw[hs];exact Li.yt _ _ _ _ _
    have hsm:s<=m:=by rw[hs,<-HL.out];exact Li.IZ _ _ _ _ (by rw[HL.out];exact hlt)
    have ht:=Li.qU room gap wrap l (at_:=k) (by rw[HL.out];exact hlt);rw[<-hs]at ht;have HT:=ah ht;obtain⟨q,hq⟩:∃q,q=Li.cnt room gap wrap (l.drop k):=⟨_,rfl⟩;have akn:s<=k+q:=by rw[hs,hq];exact aJ _
    have ako:k+q<=s:=by rw[hs,hq];exact aJ _
    have w1:IntKind.i64.wrap ((k:Int)+(q:Int))=(s:Int):=by rw[IntWalk.i64_in _ ak];omega
    have HQ:=ah hq;clear hs ht hq;have lw:=hK.1.size
    gi_upto_region 2 with(fail)
    refine wpIn_wide.2 ?_;refine uJ ?_
    (repeat (first|(refine PX rfl aQ (HF1.out) ?_;(try simp only[bN,bO,bP,tks]))|refine jw ?_ | refine jy ?_ (hc:=by intro w2 hS;first|with_reducible exact zk hS (Yi _ _ _ _ _ _ _ _ _ (HI1.out.after hS) zY.out ak ak HQ.out))|refine jA ?_))
    refine aj.bI ?_;intro w2 hS;have hJ2:=HJ.out pre wr w2 none hJs (Ez hS) (λr e=>by cases e);have hK2:=hK.trans (Hz.of_below hS (aH hn₀ lw));have hlen:pre.length<(Li.brk room gap wrap l).length:=by
     rw[<-HP.out,HT.out,ja7,ja9];omega
    obtain⟨fn,tmps,assign,body,hy,hR⟩:=HY.out pre (k,s) w2 hJ2 hlen;simp only[agq]at hy;clear hS hJs hK c1 c2 c3 c4 l1 l2 l3 l4
    gi_wp2
    refine hR.mono ?_;rintro e W3 (⟨rfl,hJ3,hk3⟩|⟨rfl,hJx3⟩)
    . gi_wp2
      go_roundw
      case rel=>exact⟨s,pre++[(k,s)],rfl,hsm,ah (by rw[<-HP.out,HT.out,List.append_assoc];rfl),hJ3,hK2.trans hk3⟩
      case measure=>simp[intOf];omega
    . gi_wp2
      refine bodyPost_ret (results_none rfl _ _ _) rfl ?_;exact⟨⟨_,rfl⟩,.inr ⟨_,trivial,hJx3⟩⟩
  . have hltz:¬ (k:Int)<(m:Int):=by omega
    have HE:Hid (pre=Li.brk room gap wrap l):=ah (by rw[<-HP.out,Li.qR _ _ _ _ Z4d,List.append_nil])
    gi_wp2
    go_end0
    refine⟨⟨_,rfl⟩,.inl ?_⟩
    first|exact⟨_,HE.out,hJs⟩|(rw[<-HE.out];exact hJs)
end
open Go.Shelf
open List renaming length_append → ja7,length_cons → ja9,append_toArray → jc1,size_toArray → jc3,push_toArray → jc',cons_append → jd1
attribute [local go_sem] Oper.semAt_some
theorem Yj:(Tryz.prog.info? 57).map (λi=>(i.zero,i.size,i.bytes))=some (some (.agg #[(),()]),2,16):=by kernel_rfl
theorem cell_two_new(w:World)(x y:Value)(t:TypeId):∀j u,[x,y][j]? = some u->(w.alloc (.cells #[x,y] t)).cell? ((⟨w,0,none⟩:Addr).add j)=some u:=by
 intro j u hj
 match j,hj with
 | 0,hj=>simp at hj;subst hj;simp[Addr.add]
 | 1,hj=>simp at hj;subst hj;simp[Addr.add]
theorem Hz.appended{n₀ B:Nat}{W w1:World}{v v':Value}{k:Nat}{xs:List Value}{tmp:Obj}(hrow:W.ownsRow n₀ 57 2 v k xs)(hgrow:(W.alloc tmp).grownBy w1 v.ownBlock)(hb:Below n₀ W (w1.setCell ⟨B,0,none⟩ v')):Hz n₀ B W (w1.setCell ⟨B,0,none⟩ v') :=
 ⟨hb,λi t u h1 h2 h3 h4=>((h4.alloc tmp).kept hgrow (h4.not_row h3 hrow)).kept (grownBy_setCell' w1 B v') (λe=>by injection e with e;omega)⟩
theorem UD(A:Option Addr)(l:List Int)(m c:Nat)(room gap:Int)(wrap:Bool)(w:World)(hI:Ints w A l)(hl:l.length=m)(hm:m<=10000)(hcap:m<=c) :
  Calls ja0 133 #[.slice A m c,room,gap,wrap] w λe w'=>∃v,e=.returned v/\w'.ownsRow w.heap.size 57 2 v (Li.brk room gap wrap l).length ((Li.flat (Li.brk room gap wrap l)).map (Value.int .i64))/\Below w w w':=by
 obtain⟨i0,hi,hz0,hz1,hz2⟩:=info_parts Yj;have HI:=ah hI;have HL:=ah hl;have HA:=ah hI.lt;clear hI hl;refine(callsIn_wide (n:=5)).1 ?_;refine callsIn_of_wp_marks Tryz.func133 rfl trivial ?_ rfl;simp only[Tryz.ntmps133,jc3,ja9,List.length_nil,Nat.reduceAdd,Nat.reduceSub,Array.replicate_succ,Array.replicate_zero,jc',jc1,List.nil_append,jd1]
 gi_wp2_with (refine⟨trivial,?_⟩;gi_at_call 173;refine(callsIn_wide.2 (Yh _ _ _ _ _ _ _)).mono ?_;rintro e w' ⟨rfl,rfl⟩)
 have bT:At _ (w.heap.size+1) _:=At.new' (W:=w.alloc (.cells #[] 57)) (.cells #[.slice w 0 0] 218) aV;have bR:At _ w _:=At.new w (.cells #[] 57);have b1:At _ (w.heap.size+1+1) _:=At.new' (W:=(w.alloc (.cells #[] 57)).alloc (.cells #[.slice w 0 0] 218)) (.cells #[.slice A m c] 37) aV;have b2:At _ (w.heap.size+1+2) _:=At.new' (W:=((w.alloc (.cells #[] 57)).alloc (.cells #[.slice w 0 0] 218)).alloc (.cells #[.slice A m c] 37)) (.cells #[room] 3) aV;have b3:At _ (w.heap.size+1+3) _:=At.new' (W:=(((w.alloc (.cells #[] 57)).alloc (.cells #[.slice w 0 0] 218)).alloc (.cells #[.slice A m c] 37)).alloc (.cells #[room] 3)) (.cells #[gap] 3) aV;have b4:At _ (w.heap.size+1+4) _:=At.new' (W:=((((w.alloc (.cells #[] 57)).alloc (.cells #[.slice w 0 0] 218)).alloc (.cells #[.slice A m c] 37)).alloc (.cells #[room] 3)).alloc (.cells #[gap] 3)) (.cells #[wrap] 4) aV;replace bT:=((((bT.alloc (.cells #[.slice A m c] 37)).alloc (.cells #[room] 3)).alloc (.cells #[gap] 3)).alloc (.cells #[wrap] 4));replace bR:=(((((bR.alloc (.cells #[.slice w 0 0] 218)).alloc (.cells #[.slice A m c] 37)).alloc (.cells #[room] 3)).alloc (.cells #[gap] 3)).alloc (.cells #[wrap] 4));replace b1:=(((b1.alloc (.cells #[room] 3)).alloc (.cells #[gap] 3)).alloc (.cells #[wrap] 4));replace b2:=((b2.alloc (.cells #[gap] 3)).alloc (.cells #[wrap] 4));replace b3:=(b3.alloc (.cells #[wrap] 4));have hB0:Below w w _:=aB (aB (aB (aB (aB (aB (Below.refl _ w) (.cells #[] 57)) (.cells #[.slice w 0 0] 218)) (.cells #[.slice A m c] 37)) (.cells #[room] 3)) (.cells #[gap] 3)) (.cells #[wrap] 4);have hsz:(((((( w.alloc (.cells #[] 57)).alloc (.cells #[.slice w 0 0] 218)).alloc (.cells #[.slice A m c] 37)).alloc (.cells #[room] 3)).alloc (.cells #[gap] 3)).alloc (.cells #[wrap] 4)).heap.size=w.heap.size+6:=by simp
 generalize (((((( w.alloc (.cells #[] 57)).alloc (.cells #[.slice w 0 0] 218)).alloc (.cells #[.slice A m c] 37)).alloc (.cells #[room] 3)).alloc (.cells #[gap] 3)).alloc (.cells #[wrap] 4))=W0 at *;have agr:W0.ownsRow w.heap.size 57 2 (.slice w 0 0) 0 []:=⟨by simp,.inr ⟨w.heap.size,0,#[],rfl,aJ _,bR,aJ _,by simp[maxLen],by simp,by simp⟩⟩;have hIW:=HI.out.after hB0;have hN:=Li.Dj room gap wrap l;rw[HL.out]at hN
 refine wpIn_rangeFunc_ownG (α:=Nat×Nat) rfl ak (gf:=201) (lb:=#[.pointer (some ⟨w.heap.size+1+1,0,none⟩),.pointer (some ⟨w.heap.size+1+2,0,none⟩),.pointer (some ⟨w.heap.size+1+3,0,none⟩),.pointer (some ⟨w.heap.size+1+4,0,none⟩)]) rfl trivial (enters_of Tryz.func201 aX rfl)
  (encs:=λx:Nat×Nat=>#[.int .i64 (x.1:Int),.int .i64 (x.2:Int)]) (Kp:=Hz w.heap.size (w.heap.size+1)) (S:=λys=>ys=Li.brk room gap wrap l) (Sp:=λ_=>True) (N:=(Li.brk room gap wrap l).length) (w0:=W0)
  (λlp J Jx W hW hJ hJx hY h0=>abC 4 ak lp w.heap.size (w.heap.size+1) A l m c room gap wrap HL.out hm hcap J Jx hY W hJ (by have:=hW.size;omega)
   ((hW.block _ ak).trans b1) ((hW.block _ ak).trans b2) ((hW.block _ ak).trans b3) ((hW.block _ ak).trans b4)
   (hIW.keep (hW.mono ak) HA.out) HA.out h0)
  Hz.trans (Hz.putObj ak ak) aD (λ_=>rfl)
  (λpre W=>(∃v,Boxed W (w.heap.size+1) 218 v/\W.ownsRow w.heap.size 57 2 v pre.length ((Li.flat pre).map (Value.int .i64))/\True)/\Below w w W)
  (λ_ _ _=>False)
  (OwnFrom.and (Own.from (holdsRow_own w.heap.size (w.heap.size+1) 218 57 2 (λpre:List (Nat×Nat)=>pre.length) (λpre=>(Li.flat pre).map (Value.int .i64)) (λ_ _=>True)) _) (ownFrom_below aC ak))
  (λ_ _ _ _ _ hs _ _=>hs)
  ⟨⟨_,bT,agr,trivial⟩,hB0⟩
  (λx=>{ tmps:=#[.slice A m c,room,gap,wrap,undef,undef,undef,undef,.slice none 0 0,.pointer (some ⟨w.heap.size+1,0,none⟩),.int .i64 (x.1:Int),.int .i64 (x.2:Int),.slice w 0 0,.slice A m c,room,gap,wrap,.func (.func 201) #[] #[.pointer (some ⟨w.heap.size+1+1,0,none⟩),.pointer (some ⟨w.heap.size+1+1+1,0,none⟩),.pointer (some ⟨w.heap.size+1+1+2,0,none⟩),.pointer (some ⟨w.heap.size+1+1+3,0,none⟩)],.int .i64 (x.1:Int),.int .i64 (x.2:Int),undef,undef,undef,undef,undef,undef,undef],defers:=[] }) ?assign ?body ?done ?stop
 case assign =>
  intro lp x W K hK
  gi_wp2
  exact hK
 case body =>
  rintro lp pre x W ⟨⟨v,hv,hrow,_⟩,hB⟩ hlt;have hc:=hv.cell
  gi_wp2_with (gi_at_builtin;refine wpListIn_append_own _ rfl _ _ 218 rfl w.heap.size 57 i0 (.agg #[(),()]) 2 16 Tryz.underlying218 hi hz0 hz1 hz2 rfl aF _ _ _ rfl (hrow.alloc _) ⟨W,0,none⟩ 1 1 [.int .i64 (x.1:Int),.int .i64 (x.2:Int)] rfl rfl (cell_two_new _ _ _ _) Kc QG ak (by have:=hB.size;simp;omega) ?_;intro v' w1 hown' hgrow _;obtain⟨g',cap',rfl⟩:=ownsRow_succ hown';obtain⟨hv1,hv2,hr2,hk2,hb2⟩:=hv.appended aF hrow hB.size ak hown' hgrow;have hc1:=hv1.cell;have hf1:=hv1.frozen)
  exact⟨hk2.from _,Hz.appended hrow hgrow hb2,⟨_,hv2,by rw[Li.SF,List.map_append,ja7];exact hr2,trivial⟩,hB.trans hb2⟩
 case done =>
  rintro D ys W hD rfl ⟨⟨v,hv,hrow,_⟩,hB⟩ hK;have hc:=hv.cell
  gi_wp2
  refine⟨by simp,.inl ⟨_,_,rfl,run_takeDeferred hK,?_⟩⟩;exact⟨_,results_tmp rfl _ _ _,v,rfl,ownsRow_putObj hrow _ hK rfl,hB.trans (belowK_b (w:=w) aC W D _ _ ak hK rfl rfl)⟩
 case stop =>
  rintro D c pre W _ _ h _;exact h.elim
end Go.Proofs.YtfohooineeijkaaGreat.Fix
