/- Steps of the program (11); no conditions. -/
import Derived.Test.YtdnggaapcgomhaaGreatM10
set_option linter.all false
set_option maxRecDepth 100000
set_option maxHeartbeats 16000000
namespace Go.Proofs.YtdnggaapcgomhaaGreat.Fix
open Go.ChangeShapes Go.WideShapes Go.ChangeAt Go.RowKit
open Go.Proofs.Tryz renaming prog → ja0
section
open List renaming setIfInBounds_toArray → ja1,set_cons_zero → ja2,set_cons_succ → ja3,getElem?_eq_getElem → ja6,length_append → ja7,length_cons → ja9,length_map → jb7,getD_eq_getElem?_getD → jb8,getElem?_map → jc1,append_toArray → jc2,getElem_mem → jc3,size_toArray → jc4,take_succ_eq_append_getElem → jc8,push_toArray → jc',cons_append → jd1
open World renaming alloc → ja4,setCell → ja5
variable {v:Nat->Value}{d:Nat->Bool}{W w:World}{k n₀ B:Nat}
theorem pQ{base g:Nat}{x:Int}(h:At W g (.cells #[x] 3))(hb:base<=g):W.ownsRow base 3 1 (.slice g 1 1) 1 (([x]:List Int).map (Value.int .i64)) :=
 ⟨by simp,.inr ⟨g,1,#[x],rfl,hb,h,by omega,by simp[maxLen],by simp,by simp⟩⟩
theorem EB(a b:Int)(w:World):(Instr.index 159 (.agg #[a,b]) (.int .i64 0)).run ja0 w=.ok (.int .i64 a) w:=by kernel_rfl
theorem EC(a b:Int)(w:World):(Instr.index 159 (.agg #[a,b]) (.int .i64 1)).run ja0 w=.ok (.int .i64 b) w:=by kernel_rfl
theorem vQ(B:Int->Fw.Bx)(e:Nat):∀(f:Nat) (z:Int),(Fw.meet B e f z).length<=f+1
 | 0,z=>by simp[Fw.meet]
 | f+1,z=>by
   simp only[Fw.meet,ja9];split
   . split
     . have:=vQ B e f (by assumption);omega
     . simp
   . simp
section
variable {Y:p9} {B:Int->Fw.Bx} {D:Int->Prop} {KM:World->Nat->Prop}
theorem aes(hK:∀(X X':World) (b:Nat),KM X b->Below X X X'->KM X' b)(F:Int->Nat)(Bn:∀z,D z->∀k∈(B z).fl,D k/\F z=F k+1)(hlen:∀z,D z->(B z).fl.length<=10000):∀(f:Nat) (z:Int) (w:World),D z->F z=f->f<=1000->RO w Y B D KM ->
  Calls ja0 142 #[Y.lb,z,()] w λx w'=>(∃v,x=.returned v/\w'.ownsRow w.heap.size 3 1 v (Fw.meet B 0 f z).length ((Fw.meet B 0 f z).map (Value.int .i64)))/\Below w w w':=by
 intro f
 induction f with
 | zero =>
   intro z w hz hF hf hR;obtain⟨hbx,hks,_⟩:=hR.box z hz;have hL:=hR.look hz;have AL:=hR.lay;have hRH:=ah hR;have A2:=hbx;have hB:=Below.refl w.heap.size w;generalize hs:(B z).sty=s at *;generalize hib:(B z).ib=ib at *;generalize hfl:(B z).fl=fl at *;obtain⟨A,cp,hvf,hI,hle,hmx,hAn⟩:=hks.ints;rw[hvf]at hbx A2;generalize Y.va z=va at *;generalize Y.bl z=bz at *;have Gd:w.cell? ⟨Y.lb,2,none⟩=some (.map (some Y.bm)):=AL.cell 2;have Ca:=AL.lt;have ix0:=pY;have ix1:=EB;go_enter Tryz.func142,Tryz.ntmps142
   go_upto_region 3 with(first|(go_at_call 46;(with_reducible refine(kV _).mono ?_);rintro e w1 ⟨rfl,hb⟩;replace hB:=Below.ay hB aC hb;replace A2:=At.keep A2 hb;clear hb)|(go_at_call 122;(with_reducible refine(fI bz s (.slice A fl.length cp) va ib (-1) (-1) _ A2).mono ?_);rintro e w2 ⟨rfl,hb⟩;replace hB:=Below.ay hB aC hb;replace A2:=At.keep A2 hb;clear hb))
   generalize hW:ja4 _ _=W1;have AM:At W1 w2 (.cells #[.int .i64 (Fw.mg s 1 0 (-1))] 3):=hW▸At.new _ _;have hgm:w.heap.size<=w2.heap.size:=hB.size;replace A2:At W1 _ _:=hW▸At.alloc A2 _;replace hB:Below w w W1:=hW▸aB hB _;clear hW hL AL Gd Ca ix0 ix1 hbx;generalize w2.heap.size=gm at *;have nU:W1.cell? ⟨bz,71,none⟩=some (.slice A fl.length cp):=aL.ext A2 16;have l2:=A2.lt;have hfe:fl=[]:=by
    rcases fl with _ | ⟨a,r⟩
    . rfl
    . have:=(Bn z hz a (by rw[hfl];simp)).2;omega
   have hlz:((fl.length:Int)==0)=true:=by rw[hfe];rfl
   cases hop:Fw.opn s ib 0
   . exact Z10
   . exact Z10
 | succ f ih =>
   intro z w hz hF hf hR;obtain⟨hbx,hks,_⟩:=hR.box z hz;have hL:=hR.look hz;have AL:=hR.lay;have hRH:=ah hR;have A2:=hbx;have hB:=Below.refl w.heap.size w;generalize hs:(B z).sty=s at *;generalize hib:(B z).ib=ib at *;generalize hfl:(B z).fl=fl at *;obtain⟨A,cp,hvf,hI,hle,hmx,hAn⟩:=hks.ints;rw[hvf]at hbx A2;generalize Y.va z=va at *;generalize Y.bl z=bz at *;have Gd:w.cell? ⟨Y.lb,2,none⟩=some (.map (some Y.bm)):=AL.cell 2;have Ca:=AL.lt;have ix0:=pY;have ix1:=EB;go_enter Tryz.func142,Tryz.ntmps142
   go_upto_region 3 with(first|(go_at_call 46;(with_reducible refine(kV _).mono ?_);rintro e w1 ⟨rfl,hb⟩;replace hB:=Below.ay hB aC hb;replace A2:=At.keep A2 hb;clear hb)|(go_at_call 122;(with_reducible refine(fI bz s (.slice A fl.length cp) va ib (-1) (-1) _ A2).mono ?_);rintro e w2 ⟨rfl,hb⟩;replace hB:=Below.ay hB aC hb;replace A2:=At.keep A2 hb;clear hb))
   generalize hW:ja4 _ _=W1;have AM:At W1 w2 (.cells #[.int .i64 (Fw.mg s 1 0 (-1))] 3):=hW▸At.new _ _;have hgm:w.heap.size<=w2.heap.size:=hB.size;replace A2:At W1 _ _:=hW▸At.alloc A2 _;replace hB:Below w w W1:=hW▸aB hB _;clear hW hL AL Gd Ca ix0 ix1 hbx;generalize w2.heap.size=gm at *;cases hop:Fw.opn s ib 0
   . have IY:=ah hop
     clear hop;have nU:W1.cell? ⟨bz,71,none⟩=some (.slice A fl.length cp):=aL.ext A2 16;have l2:=A2.lt
     go_wp2_with ((go_at_call 144;(with_reducible refine(Dh bz s (.slice A fl.length cp) va ib _ A2).mono ?_);rintro e w3 ⟨rfl,hb⟩;replace AM:=AM.keep hb;replace hB:=Below.ay hB aC hb;replace A2:=At.keep A2 hb;replace nU:=((fO hb).1 _ _ l2).trans nU;replace l2:=aT l2 hb.size;clear hb;rw[IY.out]))
     refine bodyPost_ret (results_tmp rfl _ _ _) rfl ⟨⟨_,rfl,?_⟩,hB⟩;have hm:Fw.meet B 0 (f+1) z=[Fw.mg s 1 0 (-1)]:=by
      simp only[Fw.meet,hs,hib,IY.out,Bool.false_eq_true,if_false]
     rw[hm];exact pQ AM hgm
   . have IY:=ah hop
     clear hop;by_cases hn:fl=[]
     . have hlz:((fl.length:Int)==0)=true:=by rw[hn];rfl
       have nU:W1.cell? ⟨bz,71,none⟩=some (.slice A fl.length cp):=aL.ext A2 16;have l2:=A2.lt
       go_wp2_with ((go_at_call 144;(with_reducible refine(Dh bz s (.slice A fl.length cp) va ib _ A2).mono ?_);rintro e w3 ⟨rfl,hb⟩;replace AM:=AM.keep hb;replace hB:=Below.ay hB aC hb;replace A2:=At.keep A2 hb;replace nU:=((fO hb).1 _ _ l2).trans nU;replace l2:=aT l2 hb.size;clear hb;rw[IY.out]))
       refine bodyPost_ret (results_tmp rfl _ _ _) rfl ⟨⟨_,rfl,?_⟩,hB⟩;have hm:Fw.meet B 0 (f+1) z=[Fw.mg s 1 0 (-1)]:=by
        simp only[Fw.meet,hs,hib,hfl,IY.out,if_true,hn];simp
       rw[hm];exact pQ AM hgm
     . have hn0:0<fl.length:=List.length_pos_iff.2 hn
       have hnz:((fl.length:Int)==0)=false:=by simp;intro q;exact hn q
       have HN:=ah hn;clear hn;obtain⟨nx,hnx⟩:=aA (fl.getD (0) 0);have hx:nx=fl[(0:Nat)]'ak:=by rw[<-hnx,jb8,ja6 ak];rfl
       have hmem:nx∈fl:=by rw[hx];exact jc3 _
       have hD:=Bn z hz nx (hfl▸hmem);have hm:Fw.meet B 0 (f+1) z=Fw.mg s 1 0 (-1)::Fw.meet B 0 f nx:=by
        simp only[Fw.meet,hs,hib,hfl,IY.out,if_true];rw[show fl.head? = some nx from by rw[hx,List.head?_eq_getElem?,ja6 hn0]]
       have aeu:=hlen z hz;rw[hfl]at aeu;have HM:=ah hm;clear hm hx;have nU:W1.cell? ⟨bz,71,none⟩=some (.slice A fl.length cp):=aL.ext A2 16;have l2:=A2.lt
       go_upto_region 5 with((go_at_call 144;(with_reducible refine(Dh bz s (.slice A fl.length cp) va ib _ A2).mono ?_);rintro e w3 ⟨rfl,hb⟩;replace AM:=AM.keep hb;replace hB:=Below.ay hB aC hb;replace A2:=At.keep A2 hb;replace nU:=((fO hb).1 _ _ l2).trans nU;replace l2:=aT l2 hb.size;clear hb;rw[IY.out]))
       have hIc:=hI.after hB;obtain⟨bf,off,hAf,lf,cf⟩:=hIc.at_ (k:=0) hn0;rw[hnx,Nat.add_zero]at cf;subst hAf;have HLQ:=ah (vQ B 0 f nx);clear hnx
       go_wp2_with (first|(go_at_call 142;(with_reducible refine(ih nx _ hD.1 (by have:=hD.2;omega) ak (hRH.out.keep hK hB)).mono ?_);rintro e w4 ⟨⟨v4,rfl,ho4⟩,hb4⟩;obtain⟨A4,c4,rfl,UK,ai5,ai6,aev⟩:=KS.ints (dP ho4 oI);obtain⟨v',w',hr,ho',hB',hs'⟩:=jl (w0:=w) (base:=w.heap.size) (pQ (AM.keep hb4) hgm) (Below.ay hB aC hb4) (aJ hB.size hb4.size) UK (m:=(Fw.meet B 0 f nx).length) rfl aev (by have:=HLQ.out;omega);have HR:=ah hr;clear hr)|(at_builtin;refine wpList_append_run aR _ _ 37 rfl rfl rfl HR.out ?_))
       refine bodyPost_ret (results_tmp rfl _ _ _) rfl ⟨⟨_,rfl,?_⟩,hB'⟩;rw[HM.out];simpa[Nat.add_comm]using ho'
theorem aew(hK:∀(X X':World) (b:Nat),KM X b->Below X X X'->KM X' b)(F:Int->Nat)(Bn:∀z,D z->∀k∈(B z).fl,D k/\F z=F k+1)(hlen:∀z,D z->(B z).fl.length<=10000):∀(f:Nat) (z:Int) (w:World),D z->F z=f->f<=1000->RO w Y B D KM ->
  Calls ja0 142 #[Y.lb,z,.int .i64 1] w λx w'=>(∃v,x=.returned v/\w'.ownsRow w.heap.size 3 1 v (Fw.meet B 1 f z).length ((Fw.meet B 1 f z).map (Value.int .i64)))/\Below w w w':=by
 intro f
 induction f with
 | zero =>
   intro z w hz hF hf hR;obtain⟨hbx,hks,_⟩:=hR.box z hz;have hL:=hR.look hz;have AL:=hR.lay;have hRH:=ah hR;have A2:=hbx;have hB:=Below.refl w.heap.size w;generalize hs:(B z).sty=s at *;generalize hib:(B z).ib=ib at *;generalize hfl:(B z).fl=fl at *;obtain⟨A,cp,hvf,hI,hle,hmx,hAn⟩:=hks.ints;rw[hvf]at hbx A2;generalize Y.va z=va at *;generalize Y.bl z=bz at *;have Gd:w.cell? ⟨Y.lb,2,none⟩=some (.map (some Y.bm)):=AL.cell 2;have Ca:=AL.lt;have ix0:=pY;have ix1:=EC;go_enter Tryz.func142,Tryz.ntmps142
   go_upto_region 3 with(first|(go_at_call 46;(with_reducible refine(kV _).mono ?_);rintro e w1 ⟨rfl,hb⟩;replace hB:=Below.ay hB aC hb;replace A2:=At.keep A2 hb;clear hb)|(go_at_call 122;(with_reducible refine(fI bz s (.slice A fl.length cp) va ib (-1) (-1) _ A2).mono ?_);rintro e w2 ⟨rfl,hb⟩;replace hB:=Below.ay hB aC hb;replace A2:=At.keep A2 hb;clear hb))
   generalize hW:ja4 _ _=W1;have AM:At W1 w2 (.cells #[.int .i64 (Fw.mg s 1 1 (-1))] 3):=hW▸At.new _ _;have hgm:w.heap.size<=w2.heap.size:=hB.size;replace A2:At W1 _ _:=hW▸At.alloc A2 _;replace hB:Below w w W1:=hW▸aB hB _;clear hW hL AL Gd Ca ix0 ix1 hbx;generalize w2.heap.size=gm at *;have nU:W1.cell? ⟨bz,71,none⟩=some (.slice A fl.length cp):=aL.ext A2 16;have l2:=A2.lt;have hfe:fl=[]:=by
    rcases fl with _ | ⟨a,r⟩
    . rfl
    . have:=(Bn z hz a (by rw[hfl];simp)).2;omega
   have hlz:((fl.length:Int)==0)=true:=by rw[hfe];rfl
   cases hop:Fw.opn s ib 1
   . exact Zz
   . exact Zz
 | succ f ih =>
   intro z w hz hF hf hR;obtain⟨hbx,hks,_⟩:=hR.box z hz;have hL:=hR.look hz;have AL:=hR.lay;have hRH:=ah hR;have A2:=hbx;have hB:=Below.refl w.heap.size w;generalize hs:(B z).sty=s at *;generalize hib:(B z).ib=ib at *;generalize hfl:(B z).fl=fl at *;obtain⟨A,cp,hvf,hI,hle,hmx,hAn⟩:=hks.ints;rw[hvf]at hbx A2;generalize Y.va z=va at *;generalize Y.bl z=bz at *;have Gd:w.cell? ⟨Y.lb,2,none⟩=some (.map (some Y.bm)):=AL.cell 2;have Ca:=AL.lt;have ix0:=pY;have ix1:=EC;go_enter Tryz.func142,Tryz.ntmps142
   go_upto_region 3 with(first|(go_at_call 46;(with_reducible refine(kV _).mono ?_);rintro e w1 ⟨rfl,hb⟩;replace hB:=Below.ay hB aC hb;replace A2:=At.keep A2 hb;clear hb)|(go_at_call 122;(with_reducible refine(fI bz s (.slice A fl.length cp) va ib (-1) (-1) _ A2).mono ?_);rintro e w2 ⟨rfl,hb⟩;replace hB:=Below.ay hB aC hb;replace A2:=At.keep A2 hb;clear hb))
   generalize hW:ja4 _ _=W1;have AM:At W1 w2 (.cells #[.int .i64 (Fw.mg s 1 1 (-1))] 3):=hW▸At.new _ _;have hgm:w.heap.size<=w2.heap.size:=hB.size;replace A2:At W1 _ _:=hW▸At.alloc A2 _;replace hB:Below w w W1:=hW▸aB hB _;clear hW hL AL Gd Ca ix0 ix1 hbx;generalize w2.heap.size=gm at *;cases hop:Fw.opn s ib 1
   . have IY:=ah hop
     clear hop;have nU:W1.cell? ⟨bz,71,none⟩=some (.slice A fl.length cp):=aL.ext A2 16;have l2:=A2.lt
     go_wp2_with ((go_at_call 144;(with_reducible refine(Df bz s (.slice A fl.length cp) va ib _ A2).mono ?_);rintro e w3 ⟨rfl,hb⟩;replace AM:=AM.keep hb;replace hB:=Below.ay hB aC hb;replace A2:=At.keep A2 hb;replace nU:=((fO hb).1 _ _ l2).trans nU;replace l2:=aT l2 hb.size;clear hb;rw[IY.out]))
     refine bodyPost_ret (results_tmp rfl _ _ _) rfl ⟨⟨_,rfl,?_⟩,hB⟩;have hm:Fw.meet B 1 (f+1) z=[Fw.mg s 1 1 (-1)]:=by
      simp only[Fw.meet,hs,hib,IY.out,Bool.false_eq_true,if_false]
     rw[hm];exact pQ AM hgm
   . have IY:=ah hop
     clear hop;by_cases hn:fl=[]
     . have hlz:((fl.length:Int)==0)=true:=by rw[hn];rfl
       have nU:W1.cell? ⟨bz,71,none⟩=some (.slice A fl.length cp):=aL.ext A2 16;have l2:=A2.lt
       go_wp2_with ((go_at_call 144;(with_reducible refine(Df bz s (.slice A fl.length cp) va ib _ A2).mono ?_);rintro e w3 ⟨rfl,hb⟩;replace AM:=AM.keep hb;replace hB:=Below.ay hB aC hb;replace A2:=At.keep A2 hb;replace nU:=((fO hb).1 _ _ l2).trans nU;replace l2:=aT l2 hb.size;clear hb;rw[IY.out]))
       refine bodyPost_ret (results_tmp rfl _ _ _) rfl ⟨⟨_,rfl,?_⟩,hB⟩;have hm:Fw.meet B 1 (f+1) z=[Fw.mg s 1 1 (-1)]:=by
        simp only[Fw.meet,hs,hib,hfl,IY.out,if_true,hn];simp
       rw[hm];exact pQ AM hgm
     . have hn0:0<fl.length:=List.length_pos_iff.2 hn
       have hnz:((fl.length:Int)==0)=false:=by simp;intro q;exact hn q
       have HN:=ah hn;clear hn;obtain⟨nx,hnx⟩:=aA (fl.getD (fl.length-1) 0);have hx:nx=fl[(fl.length-1:Nat)]'ak:=by rw[<-hnx,jb8,ja6 ak];rfl
       have hmem:nx∈fl:=by rw[hx];exact jc3 _
       have hD:=Bn z hz nx (hfl▸hmem);have hm:Fw.meet B 1 (f+1) z=Fw.mg s 1 1 (-1)::Fw.meet B 1 f nx:=by
        simp only[Fw.meet,hs,hib,hfl,IY.out,if_true];rw[show fl.getLast? = some nx from by rw[hx,List.getLast?_eq_getElem?,ja6 ak]];simp
       have aeu:=hlen z hz;rw[hfl]at aeu;have HM:=ah hm;clear hm hx;have nU:W1.cell? ⟨bz,71,none⟩=some (.slice A fl.length cp):=aL.ext A2 16;have l2:=A2.lt
       go_upto_region 5 with((go_at_call 144;(with_reducible refine(Df bz s (.slice A fl.length cp) va ib _ A2).mono ?_);rintro e w3 ⟨rfl,hb⟩;replace AM:=AM.keep hb;replace hB:=Below.ay hB aC hb;replace A2:=At.keep A2 hb;replace nU:=((fO hb).1 _ _ l2).trans nU;replace l2:=aT l2 hb.size;clear hb;rw[IY.out]))
       have hIc:=hI.after hB;obtain⟨bf,off,hAf,lf,cf⟩:=hIc.at_ (k:=0) hn0;obtain⟨m,hmm⟩:∃m,fl.length=m+1:=⟨fl.length-1,by omega⟩;obtain⟨bg,ofg,hAg,lg,cg⟩:=hIc.at_ (k:=m) ak;obtain⟨rfl,rfl⟩:bg=bf/\ofg=off:=by rw[hAf]at hAg;simpa using hAg.symm
       subst hAf;rw[show fl.getD m 0=nx from by rw[<-hnx,hmm];rfl]at cg;rw[Nat.add_zero]at cf;have hsub:IntKind.i64.wrap ((fl.length:Int)-1)=(m:Int):=by rw[IntWalk.i64_in _ ak];omega
       have akP:m<fl.length:=by omega
       clear hmm
       go_upto_region 7 with(fail)
       refine rZ ?_
       (repeat (first|refine jc ?_ | refine jd ?_ (hc:=by intro w2 hS;first|with_reducible exact iq hS (iO _))|refine je ?_))
       refine aj.bD ?_;intro w2 hS;replace AM:=AM.keep hS;replace hB:=Below.ay hB aC hS;replace A2:=At.keep A2 hS;clear hS;have HLQ:=ah (vQ B 1 f nx);clear hnx
       go_wp2_with (first|(go_at_call 142;(with_reducible refine(ih nx _ hD.1 (by have:=hD.2;omega) ak (hRH.out.keep hK hB)).mono ?_);rintro e w4 ⟨⟨v4,rfl,ho4⟩,hb4⟩;obtain⟨A4,c4,rfl,UK,ai5,ai6,aev⟩:=KS.ints (dP ho4 oI);obtain⟨v',w',hr,ho',hB',hs'⟩:=jl (w0:=w) (base:=w.heap.size) (pQ (AM.keep hb4) hgm) (Below.ay hB aC hb4) (aJ hB.size hb4.size) UK (m:=(Fw.meet B 1 f nx).length) rfl aev (by have:=HLQ.out;omega);have HR:=ah hr;clear hr)|(at_builtin;refine wpList_append_run aR _ _ 37 rfl rfl rfl HR.out ?_))
       refine bodyPost_ret (results_tmp rfl _ _ _) rfl ⟨⟨_,rfl,?_⟩,hB'⟩;rw[HM.out];simpa[Nat.add_comm]using ho'
end
theorem Vb(A T B:Option Addr)(s t u:List Int)(n d1 d2 d3:Nat)(w:World)(hs:Ints w A s)(ht:Ints w T t)(hu:Ints w B u)(ls:s.length=n)(lt:t.length=n)(lu:u.length=n)(hn:n<=1001) :
  Calls ja0 143 #[.slice A n d1,.slice T n d2,.slice B n d3] w λe w'=>(∃b,e=.returned (.tuple #[.slice (some ⟨b,0,none⟩) n n,.int .i64 (Fx.uV s t u n)])/\w.heap.size<=b/\Ints w' (some ⟨b,0,none⟩) (Fx.uW s t u n))/\Below w w w':=by
 obtain⟨i0,hi0,hz0,hz1,hz2⟩:=info_parts intZero;have HS:=ah hs;clear hs;have HT:=ah ht;clear ht;have HU:=ah hu;clear hu;have LS:=ah ls;clear ls;have LT:=ah lt;clear lt;have LU:=ah lu;clear lu;go_enter Tryz.func143,Tryz.ntmps143
 go_wp2_with (at_make;refine wpList_make_row _ rfl _ _ 37 rfl 3 i0 (.int .i64 0) Tryz.underlying37 hi0 hz0 hz1 rfl .i64 .i64 n rfl rfl Te ak ?_)
 go_loopw [9,29] (λe i wr=>∃k:Nat,k<=n/\i=.int .i64 k/\e=.int .i64 (Fx.uV s t u k)/\At wr w (.cells (aX (Fx.nV s t u) n k) 3)/\Below w w wr) (λ_ i _=>n-(intOf i).toNat)
 case atStart=>exact⟨0,by omega,rfl,rfl,by rw[<-jk];exact At.new _ _,aB aD _⟩
 case round =>
  obtain⟨k,hk,rfl,rfl,hA,hB⟩:=hrel;have hB':=hB;by_cases hlt:k<n
  . obtain⟨b1,o1,hA1,l1,c1⟩:=(HS.out.after hB').at_ (k:=k) (by rw[LS.out];exact hlt)
    have HZ:Hid (Fx.uV s t u (k+1)=Fx.add (Fx.nV s t u k) (s.getD k 0)):=ah (Fx.OH s t u k);generalize s.getD k 0=z at *;subst hA1;have hlb:=hA.lt;rcases Nat.eq_zero_or_pos k with rfl|h0
    . have hz:=hA.cell 0
      rw[dh _ hlt]at hz;have HR:Hid (aX (Fx.nV s t u) n 0=aX (Fx.nV s t u) n 1):=ah (OW _ _ rfl);simp only[Nat.not_lt_zero,if_false]at hz;simp only[Nat.add_zero]at c1
      go_wp2_with (first|(go_at_call 67;with_reducible refine mI (iR _ _ _) ?_))
      go_roundw
      case rel=>exact⟨1,by omega,by go_num,by rw[HZ.out,Fx.OI],by rw[<-HR.out];exact hA,hB⟩
      case measure=>simp[intOf];omega
    . obtain⟨m,hm⟩:∃m,k=m+1:=⟨k-1,by omega⟩
      obtain⟨b2,o2,hA2,l2,c2⟩:=(HT.out.after hB').at_ (k:=k) (by rw[LT.out];exact hlt);obtain⟨b3,o3,hA3,l3,c3⟩:=(HU.out.after hB').at_ (k:=m) (by rw[LU.out];omega);have HP:Hid (Fx.nV s t u k=Fx.add (Fx.uV s t u k) (Fx.coll [u.getD m 0,t.getD k 0])):=ah (by rw[Fx.Ti s t u ak,show k-1=m by omega]);generalize t.getD k 0=y at *;generalize u.getD m 0=x at *;subst hA2 hA3;have hw:IntKind.i64.wrap ((k:Int)-1)=(m:Int):=by rw[IntWalk.i64_in _ ak];omega
      have hmn:m<n:=by omega
      have hz:=hA.thaw k;have HM:=ah hm;clear hm
      go_upto_region 9 with(fail)
      refine yw 15 1 ?_
      (repeat (first|refine jc ?_ | refine jd ?_ (hc:=by intro w2 hS;first|with_reducible exact iq hS (Xm _ _ _)|with_reducible exact zn hS (iR _ _ _))|refine je ?_))
      refine aj.bL ?_;intro w2 hS;have A4:=hA.keep hS;have B4:=Below.ay hB aC hS;have hc4:=A4.cell k;rw[dh _ hlt]at hc4;have hz4:=A4.thaw k;refine wz ?_;intro K hK;go_simp;refine hK _ _ (aj.bC ?_);clear hK K;generalize hW:ja5 _ _ _=W2;replace A4:At W2 w (.cells (aX (Fx.nV s t u) n (k+1)) 3):=by
       rw[<-hW,<-jE _ hlt,HP.out];exact A4.set k _
      replace B4:Below w w W2:=hW▸Below.setCell B4 aC _;have hc5:=A4.cell k;rw[dh _ ak,if_pos ak]at hc5;have ai7:=A4.lt;clear hW hc4 hz4 hz hS c1 c2 c3 l1 l2 l3 hA hB hB' hlb
      go_wp2_with (first|(go_at_call 67;with_reducible refine mI (iR _ _ _) ?_))
      go_roundw
      case rel=>exact⟨k+1,by omega,by go_num,by rw[HZ.out],A4,B4⟩
      case measure=>simp[intOf];omega
  . obtain rfl:k=n:=by omega
    go_wp2;refine bodyPost_ret (v:=.tuple #[.slice w k k,_]) (by simp[results,Tryz.results143,go_sem, *];first|done|exact⟨rfl,rfl⟩|rfl) rfl ⟨⟨w.heap.size,rfl,aH _,FX s t u k KR hA⟩,hB⟩
theorem YI(f:Nat->Int)(w:World)(n:Nat)(hn:n<=100000):(Instr.makeSlice 37 (.int .i64 (n:Int)) (.int .i64 (n:Int))).run ja0 w=.ok (.slice w n n) (w.alloc (.cells (aX f n 0) 3)):=by
 obtain⟨i0,hi0,hz0,hz1,hz2⟩:=info_parts intZero;have hrun:=run_make (P:=ja0) w 37 3 i0 _ Tryz.underlying37 hi0 hz0 .i64 .i64 n n ak (Int.le_refl _) Te ak;rw[Int.toNat_natCast]at hrun;rw[hrun,<-jk,hz1,Nat.mul_one];rfl
theorem qI(f:Nat->Int){n:Nat}{o:Oper}{a:Act}(l c:Operand)(ho:o.op=.makeSlice 37 l c)(hl:a.eval l=.int .i64 (n:Int))(hc:a.eval c=.int .i64 (n:Int))(hn:n<=100000):(execOp a.eval o).run ja0 w=.ok (.value (.slice w n n)) (w.alloc (.cells (aX f n 0) 3)):=by
 unfold execOp;simp only[ho,hl,hc,Sem.run_bind,YI f w n hn,Result.andThen_ok,Sem.run_pure]
theorem Vd{b o:Nat}{l:List Int}(h:Ints w (some ⟨b,o,none⟩) l)(hk:k<l.length):b<w.heap.size/\w.cell? ⟨b,o+k,none⟩=some (.int .i64 (l.getD k 0)):=by
 obtain⟨b',off,e,hl,hc⟩:=h.at_ hk;injection e with e;injection e with e1 e2;subst e1 e2;exact⟨hl,hc⟩
theorem ab4{v:Value}{l:List Int}{b o m cp:Nat}(hv:v=.slice (some ⟨b,o,none⟩) m cp)(h:KS W v l)(hm:m=l.length):Ints W (some ⟨b,o,none⟩) l:=by
 obtain⟨A,c,e,hI,_⟩:=h.ints;rw[hv]at e;injection e with e1 e2 e3;rw[e1];exact hI
section
variable {W W':World} {Y:p9} {B:Int->Fw.Bx} {D:Int->Prop} {KM:World->Nat->Prop}
theorem RO.lookO(h:RO W Y B D KM){X:World}(k:Out (λb=>b=Y.pm) W X){z:Int}(hz:D z):(Instr.lookup 103 (.map (some Y.bm)) (.int .i64 z) false).run ja0 X=.ok (.pointer (some ⟨Y.bl z,0,none⟩)) X:=by
 obtain⟨n,g,h1,h2⟩:=h.boxes;rw[(h1.out (λq=>h.pmb q.symm) k).look iT Tryz.underlying103 (z:=.pointer none) aV (iA (h.wf z hz)),h2 z hz];rfl
end
def blG(first:Int)(szl zq yV:List Int)(i:Nat)(x:Fw.Ld):Fw.Ld:={ x with a1:=Fw.wr (first+Fx.nV szl zq yV i) }
def csf(B:Int->Fw.Bx)(f:Nat)(l:List Int)(k:Nat):Nat:=((l.take k).map (Fw.cst B f)).sum
theorem YJ(B:Int->Fw.Bx)(f:Nat)(l:List Int)(hk:k<l.length):csf B f l (k+1)=csf B f l k+Fw.cst B f l[k]:=by
 unfold csf;rw[jc8 hk];exact Z2a
theorem YK(B:Int->Fw.Bx)(f:Nat)(l:List Int)(k:Nat):csf B f l k<=(l.map (Fw.cst B f)).sum:=by
 unfold csf
 conv=>rhs;rw[<-List.take_append_drop k l,List.map_append,List.sum_append]
 omega
theorem nH.snoc{cs:Array Value}{l:List Fw.Ld}{x:Fw.Ld}(h:nH cs l)(hf:l.length*7+7<=cs.size):nH (splice cs (l.length*7) (dV x)) (l++[x]):=by
 have hs:l.length*7+(dV x).size<=cs.size:=by rw[dB];exact hf
 refine⟨by rw[iM hs];simp;omega,λi hi j hj => ?_⟩;by_cases e:i<l.length
 . rw[List.getElem_append_left e,gX hs (.inl ak)]
   exact h.2 i e j hj
 . have:i=l.length:=by simp at hi;omega
   subst this;rw[mH hs (by rw[dB];exact hj)];simp
theorem nH.abC{cs:Array Value}{l:List Fw.Ld}(h:nH cs l)(hk:k<l.length)(a:Int):nH (cs.setIfInBounds (k*7+6) (.int .i64 a)) (l.set k { l[k]with a1:=a }):=by
 refine⟨by simpa using h.1,λi hi j hj => ?_⟩;have hi':i<l.length:=by simpa using hi
 have hs:=h.1;simp only[Array.getElem?_setIfInBounds,List.getElem_set];by_cases e:k=i
 . subst e
   rw[if_pos rfl];have h0:=h.2 k hi' j hj;by_cases e6:k*7+6=k*7+j
   . obtain rfl:j=6:=by omega
     rw[if_pos rfl,if_pos ak];rfl
   . rw[if_neg e6,h0]
     rcases(show j=0\/j=1\/j=2\/j=3\/j=4\/j=5 by omega)with rfl|rfl|rfl|rfl|rfl|rfl<;>rfl
 . rw[if_neg e,if_neg ak]
   exact h.2 i hi' j hj
def yX(g:Nat->Fw.Ld->Fw.Ld)(l:List Fw.Ld)(k:Nat):List Fw.Ld:=(l.take k).mapIdx g++l.drop k
theorem Bo(g:Nat->Fw.Ld->Fw.Ld)(l:List Fw.Ld)(k:Nat):(yX g l k).length=l.length:=by simp[yX];omega
theorem YL(g:Nat->Fw.Ld->Fw.Ld)(l:List Fw.Ld)(hk:k<l.length):(yX g l k)[k]'(by rw[Bo];exact hk)=l[k]:=by
 unfold yX;rw[List.getElem_append_right iJ];simp;congr 1;omega
theorem Ve(g:Nat->Fw.Ld->Fw.Ld)(l:List Fw.Ld)(hk:k<l.length):(yX g l k).set k (g k l[k])=yX g l (k+1):=by
 unfold yX;exact Z1q
theorem Vf(g:Nat->Fw.Ld->Fw.Ld)(l:List Fw.Ld):yX g l 0=l:=by simp[yX]
theorem YM(g:Nat->Fw.Ld->Fw.Ld)(l:List Fw.Ld):yX g l l.length=l.mapIdx g:=by simp[yX]
section
variable {Y:p9} {B:Int->Fw.Bx} {F:Int->Nat} {D:Int->Prop} {KM:World->Nat->Prop} {f:Nat} {w:World} {P:Nat->Prop}
structure BkM(w4:World)(l:Nat->List Int)(m:Nat)(d:Nat->Bool)(v:Nat->Value)(W:World):Prop where
 out:Below w4 w4 W
 ro:∀i,i∈[5,11,17]->d i=true->∃T,v i=.slice (some ⟨T,0,none⟩) m m/\w4.heap.size<=T/\At W T (.cells (aX (λk=>(l i).getD k 0) m 0) 3)
 ne:∀i j,i∈[5,11,17]->j∈[5,11,17]->i≠j->d i=true->d j=true->v i≠v j
 cp:∀p q,(p,q)∈[(18,5),(19,11),(20,17)]->d p=true->d q=true/\v p=v q
theorem BkM.made{w4:World}{l:Nat->List Int}{m:Nat}(h:BkM w4 l m d v W){i:Nat}(hi:i∈[5,11,17])(hd:d i=false):BkM w4 l m (λj=>j==i||d j) (λj=>if j=i then .slice W m m else v j) (W.alloc (.cells (aX (λk=>(l i).getD k 0) m 0) 3)):=by
 have hb:Below W W (W.alloc (.cells (aX (λk=>(l i).getD k 0) m 0) 3)):=aB aD _
 have hne:∀j,j∈[5,11,17]->d j=true->v j ≠ .slice W m m:=λj hj hdj e=>by
  obtain⟨T,e1,_,A⟩:=h.ro j hj hdj;cases e1.symm.trans e;exact absurd A.lt (Nat.lt_irrefl _)
 refine⟨Below.ay h.out aC hb,λj hj hdj => ?_,λj k hj hk hjk hdj hdk => ?_,λp q hpq hdp => ?_⟩
 . by_cases e:j=i
   . subst e
     exact⟨_,if_pos rfl,h.out.size,At.new _ _⟩
   . obtain⟨T,a,b,c⟩:=h.ro j hj (by simpa[e]using hdj)
     exact⟨T,(if_neg e).trans a,b,c.keep hb⟩
 . by_cases e:j=i
   . have e2:k≠i:=λe2=>hjk (e.trans e2.symm)
     rw[if_pos e,if_neg e2];exact(hne k hk (by simpa[e2]using hdk)).symm
   . rw[if_neg e]
     by_cases e2:k=i
     . rw[if_pos e2]
       exact hne j hj (by simpa[e]using hdj)
     . rw[if_neg e2]
       exact h.ne j k hj hk hjk (by simpa[e]using hdj) (by simpa[e2]using hdk)
 . have hp:p≠i:=by rintro rfl;simp at hi hpq;omega
   obtain⟨a,b⟩:=h.cp p q hpq (by simpa[hp]using hdp);have hq:q≠i:=λe=>by rw[e,hd]at a;cases a
   exact⟨by simp[a],by rw[if_neg hp,if_neg hq];exact b⟩
theorem BkM.set{w4:World}{l:Nat->List Int}{m:Nat}(h:BkM w4 l m d v W){i j:Nat}(hi:(i,j)∈[(18,5),(19,11),(20,17)])(hd:d j=true){x:Value}(hx:v j=x):BkM w4 l m (λj=>j==i||d j) (λj=>if j=i then x else v j) W:=by
 have hn:∀k,k∈[5,11,17]->k≠i:=λk hk e=>by subst e;simp at hi hk;omega
 refine⟨h.out,λk hk hdk => ?_,λk k' hk hk' hkk hdk ai8 => ?_,λp q hpq hdp => ?_⟩
 . obtain⟨T,a,b⟩:=h.ro k hk (by simpa[hn k hk]using hdk)
   exact⟨T,(if_neg (hn k hk)).trans a,b⟩
 . rw[if_neg (hn k hk),if_neg (hn k' hk')]
   exact h.ne k k' hk hk' hkk (by simpa[hn k hk]using hdk) (by simpa[hn k' hk']using ai8)
 . have hq:q≠i:=hn q (by simp at hpq ⊢;omega)
   by_cases e:p=i
   . subst e
     obtain rfl:q=j:=by simp at hpq hi;omega
     exact⟨by simp[hd],by rw[if_pos rfl,if_neg hq];exact hx.symm⟩
   . obtain⟨a,b⟩:=h.cp p q hpq (by simpa[e]using hdp)
     exact⟨by simp[a],by rw[if_neg e,if_neg hq];exact b⟩
structure BkI(Y:p9)(B:Int->Fw.Bx)(F:Int->Nat)(w:World)(P P':Nat->Prop)(n' N:Nat)(ly:Fw.Ld)(wr:World)(d:Nat->Bool)(v:Nat->Value)(W:World):Prop where
 out:Out (λb=>b=Y.pm) wr W
 c:d 4=true->v 4=.agg #[.int .i64 (-1),.int .i64 (-1)]
 ls:d 5=false->pJ Y B F w P n' P' W
 ly:d 5=true->v 5=.agg (dV ly)/\∃n2 P2,n2<=N/\pJ Y B F w P n2 P2 W/\(∀b,b<wr.heap.size->P2 b->P' b)/\(d 15=true->∀T,v 15=.pointer (some ⟨T,0,none⟩)->¬ P2 T)/\(d 16=true->∀T,v 16=.pointer (some ⟨T,0,none⟩)->¬ P2 T)
 p:d 15=true->∃T,v 15=.pointer (some ⟨T,0,none⟩)/\wr.heap.size<=T/\At W T (.cells #[(),(),(),(),(),(),()] 101)
 q:d 16=true->∃T,v 16=.pointer (some ⟨T,0,none⟩)/\wr.heap.size<=T/\At W T (.cells (cells Re.zero) 68)
theorem BkI.below{Y:p9}{B:Int->Fw.Bx}{F:Int->Nat}{P P':Nat->Prop}{n' N:Nat}{ly:Fw.Ld}{wr:World}{W W':World}(h:BkI Y B F w P P' n' N ly wr d v W)(hb:Below W W W'):BkI Y B F w P P' n' N ly wr d v W' where
 out:=Out.trans' h.out (Out.of_below (M:=λ_=>False) hb) λ_ _ q=>q.elim
 c:=h.c
 ls:=λe=>(h.ls e).after hb
 ly:=λe=>by obtain⟨a,n2,P2,b,c,r⟩:=h.ly e;exact⟨a,n2,P2,b,c.after hb,r⟩
 p:=λe=>by obtain⟨T,a,b,c⟩:=h.p e;exact⟨T,a,b,c.keep hb⟩
 q:=λe=>by obtain⟨T,a,b,c⟩:=h.q e;exact⟨T,a,b,c.keep hb⟩
theorem BkI.made{Y:p9}{B:Int->Fw.Bx}{F:Int->Nat}{P P':Nat->Prop}{n' N:Nat}{ly:Fw.Ld}{wr:World}(h:BkI Y B F w P P' n' N ly wr d v W){i:Nat}{o:Obj}(hi:i=15/\o=.cells #[(),(),(),(),(),(),()] 101\/i=16/\o=.cells (cells Re.zero) 68):BkI Y B F w P P' n' N ly wr (λj=>j==i||d j) (λj=>if j=i then .pointer W else v j) (W.alloc o):=by
 have h':=h.below (aB aD o);have hA:At (W.alloc o) W.heap.size o:=At.new _ _;have hs:=h.out.size;rcases hi with⟨rfl,rfl⟩|⟨rfl,rfl⟩
 . exact⟨h'.out,h'.c,h'.ls,λe=>by obtain⟨a,n2,P2,b,c,r,r1,r2⟩:=h.ly e;exact⟨a,n2,P2,b,c.after (aB aD _),r,λ_ T hT hP=>by cases hT;exact absurd (c.lt _ hP) (Nat.lt_irrefl _),r2⟩,λ_=>⟨_,rfl,hs,hA⟩,h'.q⟩
 . exact⟨h'.out,h'.c,h'.ls,λe=>by obtain⟨a,n2,P2,b,c,r,r1,r2⟩:=h.ly e;exact⟨a,n2,P2,b,c.after (aB aD _),r,r1,λ_ T hT hP=>by cases hT;exact absurd (c.lt _ hP) (Nat.lt_irrefl _)⟩,h'.p,λ_=>⟨_,rfl,hs,hA⟩⟩
theorem aex(hL:vO Y B F D KM f)(hK:∀(X X':World) (b:Nat),KM X b->Below X X X'->KM X' b)(rY:∀(X X':World) (b:Nat),KM X b->Out (λq=>q≠b) X X'->KM X' b)(Bn:∀z,D z->∀k∈(B z).fl,D k/\F z=F k+1)(hlen:∀z,D z->(B z).fl.length<=10000)(hf:f<=1000)(hR0:RO w Y B D KM)(hkm:Y.km<w.heap.size)
  (z i0 i1:Int) (hz:D z) (hdn:∀k∈(B z).fl,D k/\F k=f) (hne:(B z).fl≠[]) (hl:(B z).fl.length<=64) (n:Nat) (FK:Kp Y B F n P w) (hP:∀b,P b->b<w.heap.size) (hn:n+2*((B z).fl.map (Fw.cst B f)).sum<maxLen) (xs:List Fw.Ld) (hi:Int) (hm:Fw.zM B (Fw.lay B f) f z i0 i1=(xs,hi)) :
  Calls ja0 111 #[Y.lb,.agg #[z,i0,i1]] w λe w'=>∃R cap cs P' n',e=.returned (.agg #[.slice (some ⟨R,0,none⟩) xs.length cap,hi])/\w.heap.size<=R/\At w' R (.cells cs 101)/\nH cs xs/\n'<=n+2*((B z).fl.map (Fw.cst B f)).sum/\Kp Y B F n' P' w'/\(∀b,P' b->P b\/w.heap.size<=b)/\¬ P' R/\Out (λb=>b=Y.pm) w w':=by
 obtain⟨es0,UJ,oz⟩:=hR0.FJ;have hpl:=oz.lt;obtain⟨fl,hfl⟩:=aA ((B z).fl);rw[hfl]at hdn hne hl hn ⊢;obtain⟨s,hs⟩:=aA ((B z).sty);obtain⟨Oo,hib⟩:=aA ((B z).ib);obtain⟨ks,hks⟩:=aA (fl.map (Fw.Du B (Fw.lay B f) i0 i1));obtain⟨szl,U5⟩:∃l:List Int,ks.map (·.s1)=l:=⟨_,rfl⟩;obtain⟨zq,ab5⟩:=aA ((fl.map λk=>Fx.coll (Fw.meet B 0 f k)));obtain⟨yV,ab6⟩:=aA ((fl.map λk=>Fx.coll (Fw.meet B 1 f k)));obtain⟨first,Qp⟩:=aA ((if Fw.opn s Oo 0=true then 0 else zq.getD 0 0));obtain⟨last,hlast⟩:=aA ((if Fw.opn s Oo 1=true then 0 else yV.getD (yV.length-1) 0));obtain⟨m,hmm⟩:=aA fl.length
 have HXS:Hid (ks.mapIdx (blG first szl zq yV)=xs/\Fw.wr (Fw.wr (first+Fx.uV szl zq yV m)+last)=hi):=ah (by
  unfold Fw.zM at hm;simp only[hfl,hs,hib,hks,U5,ab5,ab6,Qp,hlast,hmm]at hm;injection hm with h1 h2
  exact⟨h1,h2⟩)
 have zu:Hid (ks.length=m):=ah (by rw[<-hks,jb7,hmm]);have HLS:Hid (szl.length=m):=ah (by rw[<-U5,jb7,zu.out]);have Db:Hid (zq.length=m):=ah (by rw[<-ab5,jb7,hmm]);have HLU:Hid (yV.length=m):=ah (by rw[<-ab6,jb7,hmm]);have Uo:=ah hks;have HSZ:=ah U5;have HTP:=ah ab5;have HBT:=ah ab6;have OC:=ah Qp;have HLA:=ah hlast;have PO:=ah hs;have HIB:=ah hib;have GJ:=ah hfl;have HM:=ah hmm;have HN:=ah hn;have HDN:=ah hdn;have uN:=ah hR0;have HDW:=ah Bn;have HLEN:=ah hlen;rw[hmm]at hl;have hm0:0<m:=by rw[<-hmm];exact List.length_pos_iff.2 hne
 clear hm hks U5 ab5 ab6 Qp hlast hmm Bn hlen;have hS:=pJ.start FK hP;have wR:=hR0;obtain⟨b0,hb0⟩:=aA (Y.bl z);obtain⟨hbx,agx,_⟩:=wR.box z hz;obtain⟨A,cp,hvf,hI,hle,hmx,hAn⟩:=agx.ints;have hlp:0<(B z).fl.length:=by rw[hfl];exact List.length_pos_iff.2 hne
 obtain⟨b1,o1,rfl,Wn,_⟩:=hI.at_ hlp;rw[hb0,hs,hib,hvf,hfl]at hbx;have HVF:Hid (Y.vf z=.slice (some ⟨b1,o1,none⟩) m cp):=ah (by rw[hvf,hfl,HM.out]);rw[HM.out]at hbx;generalize Y.va z=zva at hbx;have U4:=hbx.lt
 have n0p:b0≠Y.pm:=λe=>by
  rw[e]at hbx;exact absurd (At.uniq hbx oz) aW
 have nlp:Y.lb≠Y.pm:=λe=>by
  have h1:=wR.lay;rw[e]at h1;exact absurd (At.uniq h1 oz) aW
 have b01:Below w w ((w.alloc (.cells #[z,i0,i1] 99)).alloc (.cells #[.slice none 0 0,()] 167)):=aB (aB aD _) _;have A0:At ((w.alloc (.cells #[z,i0,i1] 99)).alloc (.cells #[.slice none 0 0,()] 167)) w.heap.size (.cells #[z,i0,i1] 99):=At.alloc (At.new _ _) _;have A4:At ((w.alloc (.cells #[z,i0,i1] 99)).alloc (.cells #[.slice none 0 0,()] 167)) (w.heap.size+1) (.cells #[.slice none 0 0,()] 167):=At.new' _ Ku;have hS1:=hS.after b01;have F4:=wR.keep hK b01;have YN:=ah (aL.keep hbx b01);clear hdn hR0 wR hS oz hs hib hbx hfl FK hn agx hI hle hmx hAn hvf hlp Wn;go_enter Tryz.func111,Tryz.ntmps111
 go_upto_region 1 with(fail)
 generalize (w.alloc (.cells #[z,i0,i1] 99)).alloc (.cells #[.slice none 0 0,()] 167)=w1 at *;have agy:=A4.lt;have hsz:=b01.size;have hlk:=λX (h:Below w1 w1 X)=>(F4.keep hK h).look hz;simp only[hb0]at hlk;obtain⟨lY,xC,xD,zy,zA,zB,zC⟩:=At.six F4.lay;obtain⟨l0,fu,fA,gy⟩:=At.three A0;have hSd:Below w1 w1 w1.drew:=Below.drew aD;refine iC (S:=λX=>Below w1 w1 X) 8 ?_ ?_
 . exact hSd
 intro hx;clear hSd;refine aF 0 ?_;refine aF 1 ?_;refine aF 2 ?_;refine aF 3 ?_;refine aF 4 ?_;refine aF 5 ?_;refine jh 6 rfl (aZ aR rfl rfl rfl (λX h=>hlk X h)) ?_;refine aF 7 ?_;refine gZ ?_;have hx2:Below w1 w1 w1.drew:=hx;generalize w1.drew=w3 at *;have abU:=hx2.size;have qz:=hS1.after hx2;have B3:=A0.keep hx2;have C3:=A4.keep hx2;have Ah:=ah (aL.keep YN.out hx2);clear b01 A0 A4 hS1 F4 hlk xC xD zy zA zB zC lY hx hb0 YN l0 fu fA gy hx2;obtain⟨csR,hmk,agz⟩:=abO w3 m ak;have Yf:=ah hmk;have HCR:=ah agz;have Kt:=aL.lt Ah.out;have nU:w3.cell? ⟨b0,71,none⟩=some (.slice (some ⟨b1,o1,none⟩) m cp):=aL.ext Ah.out 16;have UW:∀b X,(Instr.build 167 #[(0,.slice (some ⟨b,0,none⟩) m m)]).run ja0 X=.ok (.agg #[.slice (some ⟨b,0,none⟩) m m,()]) X:=λb X=>by kernel_rfl
 clear hmk agz
 go_upto_region 3 with(refine kH aR _ _ 165 rfl Yf.out ?_)
 generalize hW:ja4 _ _=w4;obtain⟨R,hR⟩:=aA w3.heap.size;have AR:At w4 R (.cells csR 101):=hW▸At.alloc (At.new' _ hR.symm) _;have AC:At w4 (R+1) (.cells #[.slice R m m,()] 167):=by
  rw[<-hW,<-hR];exact At.new' _ aW
 have hb4:Below w3 w3 w4:=hW▸aB (aB aD _) _;rw[hR];have Gi:=qz.after hb4;have B4:=B3.keep hb4;have C4:=C3.keep hb4;have M5:=ah (aL.keep Ah.out hb4);have gR:w.heap.size+1<R:=by omega
 have aek:=hb4.size;have gRs:R+1<w4.heap.size:=AC.lt;clear hW hR hb4 qz B3 C3 Ah nU Kt UW Yf;have Kt:=aL.lt M5.out;have nU:w4.cell? ⟨b0,71,none⟩=some (.slice (some ⟨b1,o1,none⟩) m cp):=aL.ext M5.out 16;refine aj.fQ (λa0 a W5=>∃(Ts Tv Tu:Nat) (u33 u34 u35 u36 u37 u38 u39 u40 u41 u42 u43 u44 u45 u46 u47 u48 u49 u50:Value),a={ a0 with tmps:=((((((((((((((((((((a0.tmps.setIfInBounds 33 u33).setIfInBounds 34 u34).setIfInBounds 35 u35).setIfInBounds 36 u36).setIfInBounds 37 u37).setIfInBounds 38 u38).setIfInBounds 39 u39).setIfInBounds 40 u40).setIfInBounds 41 u41).setIfInBounds 42 u42).setIfInBounds 43 u43).setIfInBounds 44 u44).setIfInBounds 45 u45).setIfInBounds 46 u46).setIfInBounds 47 u47).setIfInBounds 48 u48).setIfInBounds 49 u49).setIfInBounds 50 u50).setIfInBounds 7 (.slice Ts m m)).setIfInBounds 8 (.slice Tv m m)).setIfInBounds 9 (.slice Tu m m) }/\(w4.heap.size<=Ts/\w4.heap.size<=Tv/\w4.heap.size<=Tu)/\(Ts≠Tv/\Ts≠Tu/\Tv≠Tu)/\At W5 Ts (.cells (aX (λi=>szl.getD i 0) m 0) 3)/\At W5 Tv (.cells (aX (λi=>zq.getD i 0) m 0) 3)/\At W5 Tu (.cells (aX (λi=>yV.getD i 0) m 0) 3)/\Below w4 w4 W5) ?_ ?_
 . have hSd:Below w4 w4 w4.drew:=Below.drew aD
   refine iC (S:=λX=>Below w4 w4 X) 21 ?_ ?_
   . exact hSd
   intro hx;clear hSd;refine aF 0 ?_;refine aF 1 ?_;refine aF 2 ?_;refine aF 3 ?_;refine aF 4 ?_;refine aF 6 ?_;refine aF 7 ?_;refine aF 8 ?_;refine aF 9 ?_;refine aF 10 ?_;refine aF 12 ?_;refine aF 13 ?_;refine aF 14 ?_;refine aF 15 ?_;refine aF 16 ?_;clear nU Kt AR AC B4 C4 M5 Gi;refine aj.YG 6 [5,11,17,18,19,20] [38,44,50,7,8,9] (λi=>if i=18 then [5]else if i=19 then [11]else if i=20 then [17]else []) (BkM w4 (λi=>if i=5 then szl else if i=11 then zq else yV) m) ⟨⟨_,rfl,rfl,λd v W J hdp hd => ?_⟩,⟨_,rfl,rfl,λd v W J hdp hd => ?_⟩,⟨_,rfl,rfl,λd v W J hdp hd => ?_⟩,⟨_,rfl,rfl,λd v W J hdp hd => ?_⟩,⟨_,rfl,rfl,λd v W J hdp hd => ?_⟩,⟨_,rfl,rfl,λd v W J hdp hd => ?_⟩,trivial⟩ ⟨hx,λ_ _ h=>(by cases h),λ_ _ _ _ _ h=>(by cases h),λ_ _ _ h=>(by cases h)⟩ ?_
   . rw[aj.oH rfl]
     exact aj.Step.value (qI (λk=>szl.getD k 0) (n:=m) (.tmp 37) (.tmp 37) rfl rfl rfl ak) ⟨λ_=>(J.made (i:=5) aW hd).out,J.made (i:=5) aW hd⟩
   . rw[aj.oH rfl]
     exact aj.Step.value (qI (λk=>zq.getD k 0) (n:=m) (.tmp 43) (.tmp 43) rfl rfl rfl ak) ⟨λ_=>(J.made (i:=11) aW hd).out,J.made (i:=11) aW hd⟩
   . rw[aj.oH rfl]
     exact aj.Step.value (qI (λk=>yV.getD k 0) (n:=m) (.tmp 49) (.tmp 49) rfl rfl rfl ak) ⟨λ_=>(J.made (i:=17) aW hd).out,J.made (i:=17) aW hd⟩
   . obtain⟨T,e5,_,_⟩:=J.ro 5 aW (hdp 5 aW)
     rw[aj.Sj (i:=5) (t:=38) rfl rfl e5]
     (try simp only[bM,bN,bO,tks])
     exact aj.Step.value eD ⟨λ_=>J.out,J.set (i:=18) (j:=5) aW (hdp 5 aW) e5⟩
   . obtain⟨T,e5,_,_⟩:=J.ro 11 aW (hdp 11 aW)
     rw[aj.Sj (i:=11) (t:=44) rfl rfl e5]
     (try simp only[bM,bN,bO,tks])
     exact aj.Step.value eD ⟨λ_=>J.out,J.set (i:=19) (j:=11) aW (hdp 11 aW) e5⟩
   . obtain⟨T,e5,_,_⟩:=J.ro 17 aW (hdp 17 aW)
     rw[aj.Sj (i:=17) (t:=50) rfl rfl e5]
     (try simp only[bM,bN,bO,tks])
     exact aj.Step.value eD ⟨λ_=>J.out,J.set (i:=20) (j:=17) aW (hdp 17 aW) e5⟩
   intro d v W hd J;obtain⟨Ts,e5,gs,As⟩:=J.ro 5 aW (hd 5 aW);obtain⟨Tv,e11,gv,Av⟩:=J.ro 11 aW (hd 11 aW);obtain⟨Tu,e17,gu,Au⟩:=J.ro 17 aW (hd 17 aW);have e18:=(J.cp 18 5 aW (hd 18 aW)).2.trans e5;have e19:=(J.cp 19 11 aW (hd 19 aW)).2.trans e11;have e20:=(J.cp 20 17 aW (hd 20 aW)).2.trans e17;have nsv:=J.ne 5 11 aW aW aW (hd 5 aW) (hd 11 aW);have nsu:=J.ne 5 17 aW aW aW (hd 5 aW) (hd 17 aW);have nvu:=J.ne 11 17 aW aW aW (hd 11 aW) (hd 17 aW);rw[e5,e11]at nsv;rw[e5,e17]at nsu;rw[e11,e17]at nvu
   (try simp only[aj.mU,aj.oG,aj.jC,aj.mR,List.map_cons,List.map_nil,e5,e11,e17,e18,e19,e20]);(try simp only[bM,bN,bO,tks])
   refine gZ ?_;exact⟨rfl,Ts,Tv,Tu,_,_,_,_,_,_,_,_,_,_,_,_,_,_,_,_,_,_,rfl,⟨gs,gv,gu⟩,⟨λe=>nsv (by rw[e]),λe=>nsu (by rw[e]),λe=>nvu (by rw[e])⟩,As,Av,Au,J.out⟩
 . rintro a W5 ⟨Ts,Tv,Tu,u33,u34,u35,u36,u37,u38,u39,u40,u41,u42,u43,u44,u45,u46,u47,u48,u49,u50,rfl,⟨gs,gv,gu⟩,⟨nsv,nsu,nvu⟩,As,Av,Au,hb5⟩
   simp only[ja1,ja2,ja3];have hS5:=Gi.after hb5;have AR5:=AR.keep hb5;have AC5:=AC.keep hb5;have B5:=B4.keep hb5;have C5:=C4.keep hb5;have Gq:=ah (aL.keep M5.out hb5);have hsz5:=hb5.size;clear nU Kt Gi AR AC B4 C4 M5 hb5;have Kt:=aL.lt Gq.out;have nU:W5.cell? ⟨b0,71,none⟩=some (.slice (some ⟨b1,o1,none⟩) m cp):=aL.ext Gq.out 16
   go_upto_region 5 with(fail)
   clear nU Kt;obtain⟨N5,Ws⟩:=aA W5.heap.size;have lRq:=AC5.lt;have ls5:Ts<N5:=by have:=As.lt;omega
   have lv5:Tv<N5:=by have:=Av.lt;omega
   have lu5:Tu<N5:=by have:=Au.lt;omega
   have lR5:R+1<N5:=by omega
   have n0w:b0<w.heap.size:=U4;have HN5:=ah Ws;have CU:=ah (show∀b,P b->b<w.heap.size from hP);have YO:Hid (csR.size=m*7/\nH csR (ks.take 0)):=ah ⟨HCR.out,by simp[nH]⟩;clear Ws lRq
   go_loopw [56] (λiv wr=>∃(k n':Nat) (P':Nat->Prop) (cs:Array Value),k<=m/\iv=.int .i64 k/\n'<=n+csf B f fl k/\pJ Y B F w P n' P' wr/\Hid (∀b,b<N5->P' b->P b)/\N5<=wr.heap.size/\At wr R (.cells cs 101)/\Hid (cs.size=m*7/\nH cs (ks.take k))/\At wr (R+1) (.cells #[.slice R m m,()] 167)/\Hid (At wr Ts (.cells (aX (λi=>szl.getD i 0) m k) 3))/\Hid (At wr Tv (.cells (aX (λi=>zq.getD i 0) m k) 3))/\Hid (At wr Tu (.cells (aX (λi=>yV.getD i 0) m k) 3))/\At wr w (.cells #[z,i0,i1] 99)/\At wr (w.heap.size+1) (.cells #[.slice none 0 0,()] 167)/\Hid (aL wr b0 s (.slice (some ⟨b1,o1,none⟩) m cp) zva Oo)) (λiv _=>m-(intOf iv).toNat)
   case atStart=>exact⟨0,n,P,csR,eX _,rfl,by omega,hS5,ah λb _ h=>h,by rw[HN5.out];exact aH _,AR5,YO,AC5,ah As,ah Av,ah Au,B5,C5,Gq⟩
   case round =>
    clear hS5 AR5 YO AC5 As Av Au B5 C5 Gq;obtain⟨k,n',P',cs,hk,rfl,hn',hSr,xQ,FL,hAr,Ie,AC,hAs,hAv,hAu,A0,A4,wH⟩:=hrel;by_cases hlt:k<m
    . have hltz:(k:Int)<(m:Int):=by omega
      have Ol:k<fl.length:=by rw[HM.out];exact hlt
      have oZ:=ah hSr;have HRr:=ah (hSr.ro rY uN.out hkm);obtain⟨kid,qJ⟩:=aA (fl[k]);have hdk:=ah (HDN.out kid (qJ▸jc3 _));have Eo:=ab4 HVF.out (HRr.out.box z hz).2.1 (by rw[GJ.out];exact HM.out.symm);rw[GJ.out]at Eo;obtain⟨Wn,cb1⟩:=Vd Eo Ol;rw[show fl.getD k 0=kid by rw[<-qJ,List.getD,ja6 Ol];rfl]at cb1;have ab7:=ah qJ;have hlk:=λX (h:Out (λb=>b=Y.pm) wr X)=>HRr.out.lookO h hdk.out.1;obtain⟨bk,hbk⟩:=aA (Y.bl kid);simp only[hbk]at hlk;have hbx:=(HRr.out.box kid hdk.out.1).1;rw[hbk]at hbx;obtain⟨sk,hsk⟩:=aA ((B kid).sty);rw[hsk]at hbx;generalize Y.vf kid=vf at hbx;generalize Y.va kid=va at hbx;generalize (B kid).ib=ib at hbx
      have nkp:bk≠Y.pm:=λe=>by
       obtain⟨es1,ck1,hp1⟩:=HRr.out.FJ;rw[e]at hbx;exact absurd (At.uniq hbx hp1) aW
      have pG:=ah hbx;have HSK:=ah hsk;obtain⟨l0,fu,fA,gy⟩:=At.three A0;clear qJ Eo hbk hbx hsk hSr
      go_upto_region 7 with(fail)
      clear cb1 Wn;obtain⟨lY,xC,xD,zy,zA,zB,zC⟩:=At.six HRr.out.lay;have lbk:=aL.lt pG.out;have npm:Y.pm<w.heap.size:=hpl;obtain⟨ly,wK⟩:=aA (Fw.lay B f kid i0 i1 (-1) (-1));have ab8:csf B f fl (k+1)=csf B f fl k+Fw.cst B f kid:=by rw[YJ B f fl Ol,ab7.out]
      have agA:=YK B f fl (k+1);have hnn:=HN.out;refine aj.fQ (λa0 a W6=>∃(Tp Tq n2:Nat) (P2:Nat->Prop) (u61 u62 u63 u64 u65 u66 u67 u68 u69 u70 u71 u72 u73 u74 u75:Value),a={ a0 with tmps:=((((((((((((((((a0.tmps.setIfInBounds 61 u61).setIfInBounds 62 u62).setIfInBounds 63 u63).setIfInBounds 64 u64).setIfInBounds 65 u65).setIfInBounds 66 u66).setIfInBounds 67 u67).setIfInBounds 68 u68).setIfInBounds 69 u69).setIfInBounds 70 u70).setIfInBounds 71 u71).setIfInBounds 72 u72).setIfInBounds 73 u73).setIfInBounds 74 u74).setIfInBounds 75 u75).setIfInBounds 12 (.pointer Tp)).setIfInBounds 13 (.pointer Tq) }/\wr.heap.size<=Tp/\wr.heap.size<=Tq/\Tp≠Tq/\At W6 Tp (.cells (dV ly) 101)/\At W6 Tq (.cells (cells sk) 68)/\n2<=n'+Fw.cst B f kid/\pJ Y B F w P n2 P2 W6/\(∀b,b<wr.heap.size->P2 b->P' b)/\¬ P2 Tp/\¬ P2 Tq/\Out (λb=>b=Y.pm) wr W6) ?_ ?_
      . have n1:w.heap.size≠Y.pm:=by omega
        have hSd:Out (λb=>b=Y.pm) wr wr.drew:=(Out.refl _ _).drew;refine iC (S:=λX=>Out (λb=>b=Y.pm) wr X) 19 ?_ ?_
        . exact hSd
        intro hx;have hLS:=oZ.out.after ((Below.refl wr.heap.size wr).drew);clear hSd
        (refine aj.aN (i:=0) rfl aV aV aV aV ak (by assumption) qm ?_;(try simp only[Act.put,ja1,ja2,ja3]))
        (refine aj.aN (i:=1) rfl aV aV aV aV ak (by assumption) qm ?_;(try simp only[Act.put,ja1,ja2,ja3]))
        (refine aj.aN (i:=2) rfl aV aV aV aV ak (by assumption) qm ?_;(try simp only[Act.put,ja1,ja2,ja3]))
        (refine aj.aN (i:=3) rfl aV aV aV aV ak (by assumption) qm ?_;(try simp only[Act.put,ja1,ja2,ja3]))
        (refine aj.aN (i:=6) rfl aV aV aV aV ak (by assumption) qm ?_;(try simp only[Act.put,ja1,ja2,ja3]))
        (refine aj.aN (i:=7) rfl aV aV aV aV ak (by assumption) qm ?_;(try simp only[Act.put,ja1,ja2,ja3]))
        (refine aj.aN (i:=8) rfl aV aV aV aV ak (by assumption) qm ?_;(try simp only[Act.put,ja1,ja2,ja3]))
        (refine aj.aN (i:=9) rfl aV aV aV aV ak (by assumption) qm ?_;(try simp only[Act.put,ja1,ja2,ja3]))
        (refine aj.aN (i:=10) rfl aV aV aV aV ak (by assumption) qm ?_;(try simp only[Act.put,ja1,ja2,ja3]))
        refine jh 11 rfl (aZ aR rfl rfl rfl (λX h=>hlk X h)) ?_
        (refine aj.aN (i:=12) rfl aV aV aV aV ak (by assumption) qm ?_;(try simp only[Act.put,ja1,ja2,ja3]))
        (refine aj.aN (i:=13) rfl aV aV aV aV ak (by assumption) qm ?_;(try simp only[Act.put,ja1,ja2,ja3]))
        refine jh 14 rfl (iH aR (.tmp 74) rfl rfl (λX h=>aL.style (At.out pG.out nkp h))) ?_;clear l0 fu fA gy lY xC xD zy zA zB zC hlk hAr Ie AC hAs hAv hAu A0 A4 wH pG HRr oZ n1 lbk;have hPl:=hLS.lt;have hwr:=hLS.size;refine aj.YG 4 [4,5,15,16] [65,66,12,13] (λi=>if i=5 then [4]else []) (BkI Y B F w P P' n' (n'+Fw.cst B f kid) ly wr) ⟨⟨_,rfl,rfl,λd v W J _ _ => ?_⟩,⟨_,rfl,rfl,λd v W J hdp hd => ?_⟩,⟨_,rfl,rfl,λd v W J _ _ => ?_⟩,⟨_,rfl,rfl,λd v W J _ _ => ?_⟩,trivial⟩ ⟨hx,λh=>(by cases h),λ_=>hLS,λh=>(by cases h),λh=>(by cases h),λh=>(by cases h)⟩ ?_
        . rw[aj.oH rfl]
          refine aj.Step.call eD (kV _) λe W2 h=>⟨_,h.1,λ_=>(J.below h.2).out,?_⟩;have J':=J.below h.2;exact⟨J'.out,λ_=>rfl,J'.ls,J'.ly,J'.p,J'.q⟩
        . have e4:=J.c (hdp 4 aW)
          rw[aj.Sj (i:=4) (t:=65) rfl rfl e4]
          (try simp only[bM,bN,bO,tks])
          have qF:=rM hL rY uN.out hkm (J.ls hd) kid i0 i1 (-1) (-1) hdk.out.1 hdk.out.2 ak;rw[wK]at qF;refine aj.Step.call eD qF ?_;rintro e W2 ⟨rfl,n2,P2,hn2,ab9,aey,hO⟩;have hs2:=J.out.size;refine⟨_,rfl,λ_=>J.out.trans hO,J.out.trans hO,λ_=>e4,λh=>(by simp at h),λ_=>⟨rfl,n2,P2,hn2,ab9,λb hb h=>aey b (aT hb hs2) h,λh T hT hq => ?_,λh T hT hq => ?_⟩,λh => ?_,λh => ?_⟩
          . obtain⟨T',e1,g,A⟩:=J.p h
            cases e1.symm.trans hT;exact absurd (hPl _ (aey _ A.lt hq)) (Nat.not_lt.2 g)
          . obtain⟨T',e1,g,A⟩:=J.q h
            cases e1.symm.trans hT;exact absurd (hPl _ (aey _ A.lt hq)) (Nat.not_lt.2 g)
          . obtain⟨T',e1,g,A⟩:=J.p h
            exact⟨T',e1,g,At.out (M:=λb=>b=Y.pm) A ak hO⟩
          . obtain⟨T',e1,g,A⟩:=J.q h
            exact⟨T',e1,g,At.out (M:=λb=>b=Y.pm) A ak hO⟩
        . rw[aj.oH rfl]
          exact aj.Step.value (u:=.pointer W) (w':=W.alloc (.cells #[(),(),(),(),(),(),()] 101)) eD ⟨λ_=>(J.below (aB aD _)).out,J.made (.inl ⟨rfl,rfl⟩)⟩
        . rw[aj.oH rfl]
          exact aj.Step.value (jA rfl) ⟨λ_=>(J.below (aB aD _)).out,J.made (.inr ⟨rfl,rfl⟩)⟩
        intro d v W hd J;have e4:=J.c (hd 4 aW);obtain⟨e5,n2,P2,hn2,ab9,H7,np,nq⟩:=J.ly (hd 5 aW);obtain⟨Tp,e15,gp,Ap⟩:=J.p (hd 15 aW);obtain⟨Tq,e16,gq,Aq⟩:=J.q (hd 16 aW);replace np:=np (hd 15 aW) Tp e15;replace nq:=nq (hd 16 aW) Tq e16
        have ED:Tp≠Tq:=λe=>by
         subst e;exact absurd (At.uniq Ap Aq) aW
        replace hx:=J.out;replace hLS:=ab9
        (try simp only[aj.mU,aj.oG,aj.jC,aj.mR,List.map_cons,List.map_nil,e4,e5,e15,e16]);(try simp only[bM,bN,bO,tks])
        clear ab9 J e4 e5 e15 e16 hd hPl;refine tk1 17 ?_;refine aj.Step.skip (aY (q:=0) mP (.tmp 12) (.tmp 66) rfl rfl rfl Ap (dB ly) aW (ou ly)) ?_;rw[dZ (cs:=#[(),(),(),(),(),(),()]) (vs:=dV ly) rfl];have V4:At (W.setRow Tp (dV ly)) Tp (.cells (dV ly) 101):=At.setRow Ap _;have Wt:=At.gF Aq ED.symm (dV ly);have gJ:Out (λb=>b=Tp) W (W.setRow Tp (dV ly)):=Out.setRow (M:=λb=>b=Tp) (Out.refl _ _) rfl _;replace hLS:=hLS.own gJ λb hb h=>by subst h;exact⟨np,by omega⟩
        replace hx:=Out.trans' hx gJ λb hb h=>by omega
        generalize W.setRow Tp (dV ly)=y1 at *;clear gJ Ap Aq;refine⟨λ_=>hx,?_⟩
        (try simp only[bM,bN,bO,tks])
        refine tk1 18 ?_;refine aj.Step.skip (jB (.tmp 13) (.tmp 75) rfl rfl rfl Wt) ?_;have Aq3:At (y1.setRow Tq (cells sk)) Tq (.cells (cells sk) 68):=At.setRow Wt _;have Ap3:=At.gF V4 ED (cells sk);have hO2:Out (λb=>b=Tq) y1 (y1.setRow Tq (cells sk)):=Out.setRow (M:=λb=>b=Tq) (Out.refl _ _) rfl _;replace hLS:=hLS.own hO2 λb hb h=>by subst h;exact⟨nq,by omega⟩
        replace hx:=Out.trans' hx hO2 λb hb h=>by omega
        generalize y1.setRow Tq (cells sk)=y2 at *;clear hO2 V4 Wt;refine⟨λ_=>hx,?_⟩
        (try simp only[bM,bN,bO,tks])
        refine gZ ?_;exact⟨rfl,Tp,Tq,n2,P2,_,_,_,_,_,_,_,_,_,_,_,_,_,_,_,rfl,gp,gq,ED,Ap3,Aq3,hn2,hLS,H7,np,nq,hx⟩
      . rintro a W6 ⟨Tp,Tq,n2,P2,u61,u62,u63,u64,u65,u66,u67,u68,u69,u70,u71,u72,u73,u74,u75,rfl,gp,gq,ED,Ap,Aq,hn2,qL,H7,hnp,hnq,iV⟩
        simp only[ja1,ja2,ja3];clear hlk l0 fu fA gy lY xC xD zy zA zB zC lbk;have JX:Hid (∀b,b<N5->P2 b->P b):=ah λb hb h=>xQ.out b hb (H7 b ak h);have hs6:=iV.size;have xK:=hAr.out (M:=λb=>b=Y.pm) ak iV;have AC6:=AC.out (M:=λb=>b=Y.pm) ak iV;have As6:=ah (At.out (M:=λb=>b=Y.pm) hAs.out ak iV);have Av6:=ah (At.out (M:=λb=>b=Y.pm) hAv.out ak iV);have Au6:=ah (At.out (M:=λb=>b=Y.pm) hAu.out ak iV);have B6:=A0.out (M:=λb=>b=Y.pm) ak iV;have C6:=A4.out (M:=λb=>b=Y.pm) ak iV;have M6:=ah (At.out (M:=λb=>b=Y.pm) wH.out n0p iV);have hN6:N5<=W6.heap.size:=aJ FL hs6;clear hAr AC hAs hAv hAu A0 A4 wH iV H7 pG oZ xQ HRr;obtain⟨l0,fu,fA,gy⟩:=At.three B6;obtain⟨lp,SX,SY,cp2,cp3,cp4,cp5,cp6⟩:=At.seven (b:=Tp) Ap;have zp5:=Ap.thaw 5;have lq:=Aq.lt;have c21:W6.cell? ⟨Tq,21,none⟩=some (.int .i64 (sk.c 21)):=(Aq.cell 21).trans (bJ sk ak rfl);have c22:W6.cell? ⟨Tq,22,none⟩=some (.int .i64 (sk.c 22)):=(Aq.cell 22).trans (bJ sk ak rfl);have c17:W6.cell? ⟨Tq,17,none⟩=some (.int .i64 (sk.c 17)):=(Aq.cell 17).trans (bJ sk ak rfl);have c18:W6.cell? ⟨Tq,18,none⟩=some (.int .i64 (sk.c 18)):=(Aq.cell 18).trans (bJ sk ak rfl);have HAQ:=ah Aq;obtain⟨au,hau⟩:=aA (Fx.WT i0 ly.s0 (Fx.len (sk.c 21) (sk.c 22) i0 0) (Fx.len (sk.c 17) (sk.c 18) i0 0) (Fx.dD (sk.c 21) i0) (Fx.dD (sk.c 17) i0));have aez:=λX=>Xn i0 ly.s0 (sk.c 21) (sk.c 22) (sk.c 17) (sk.c 18) i0 X;simp only[hau]at aez;clear Aq
        go_upto_region 9 with(go_at_call 140;(with_reducible refine(aez _).mono ?_);rintro e' w9 ⟨rfl,fK⟩;replace Ap:=Ap.keep fK;obtain⟨lp,SX,SY,cp2,cp3,cp4,cp5,cp6⟩:=At.seven (b:=Tp) Ap;have zp5:=Ap.thaw 5)
        generalize hW:ja5 _ _ _=M7;obtain⟨y,hy⟩:∃y:Fw.Ld,{ ly with a0:=au }=y:=⟨_,rfl⟩;have ab':At M7 Tp (.cells (dV y) 101):=by
         rw[<-hW,<-hy];exact At.set Ap 5 _
        have jQ:Out (λb=>b=Tp) W6 M7:=by
         rw[<-hW];exact Out.set (M:=λb=>b=Tp) (Out.of_below fK) rfl 5 _
        have HYK:Hid (ks.take (k+1)=ks.take k++[y]/\szl.getD k 0=y.s1):=ah (by
         have hkk:k<ks.length:=by rw[zu.out];exact hlt
         have e:ks[k]=y:=by
          have e1:=Uo.out;subst e1;rw[List.getElem_map,ab7.out,<-hy];unfold Fw.Du;simp only[wK,HSK.out,hau]
         refine⟨by rw[jc8 hkk,e],?_⟩;rw[<-HSZ.out,List.getD,jc1,ja6 hkk,e]
         rfl)
        have hTN:N5<=Tp:=by omega
        have mF:=qL.own jQ λb hb h=>by subst h;exact⟨hnp,by omega⟩
        have acd:=ah (xK.out (M:=λb=>b=Tp) ak jQ);have yY:=AC6.out (M:=λb=>b=Tp) ak jQ;have agB:=ah (At.out (M:=λb=>b=Tp) As6.out ak jQ);have agC:=ah (At.out (M:=λb=>b=Tp) Av6.out ak jQ);have agD:=ah (At.out (M:=λb=>b=Tp) Au6.out ak jQ);have B10:=B6.out (M:=λb=>b=Tp) ak jQ;have Oq:=C6.out (M:=λb=>b=Tp) ak jQ;have vR:=ah (At.out (M:=λb=>b=Tp) M6.out ak jQ);have EF:N5<=M7.heap.size:=aJ hN6 jQ.size;clear hW hy jQ fK aez hau Ap lp SX SY cp2 cp3 cp4 cp5 cp6 zp5 lq c21 c22 c17 c18 HAQ l0 fu fA gy xK AC6 As6 Av6 Au6 B6 C6 M6 hN6 hs6 qL hnp hnq;have hRf:k*7+7<=cs.size:=by have:=Ie.out.1;omega
        have HYL:Hid (∀j,j<7->M7.cell? ⟨Tp,0+j,none⟩=(dV y)[j]?):=ah λj hj=>by rw[Nat.zero_add];exact ab'.cell j
        obtain⟨lC,Gs,Gt⟩:=At.two yY;have ai9:=acd.out.lt;have lTp:=ab'.lt
        go_upto_region 10 with(first|(refine eB zZ mP aR _ rfl rfl (dB y) HYL.out ?_)|(refine fE mP aR _ _ rfl rfl rfl acd.out (dB y) hRf (ou y) ?_))
        generalize hW:World.setRow _ _ _=Ch;have YP:At Ch R (.cells (splice cs (k*7) (dV y)) 101):=hW▸At.setRow acd.out _;have jg:Out (λb=>b=R) M7 Ch:=hW▸Out.setRow (M:=λb=>b=R) (Out.refl _ _) rfl _
        have agE:Hid ((splice cs (k*7) (dV y)).size=m*7/\nH (splice cs (k*7) (dV y)) (ks.take (k+1))):=ah (by
         have e:(ks.take k).length=k:=by rw[List.length_take,zu.out];omega
         refine⟨by rw[iM (by rw[dB];exact hRf)];exact Ie.out.1,?_⟩;have h1:=Ie.out.2.snoc (x:=y) (by rw[e];exact hRf);rw[e]at h1;rw[HYK.out.1]
         exact h1)
        have qG:¬ P2 R:=λh=>by have:=CU.out _ (JX.out _ ak h);omega
        have qH:=mF.own jg λb hb h=>by subst h;exact⟨qG,by omega⟩
        have agF:=ab'.out (M:=λb=>b=R) ak jg;have JY:=yY.out (M:=λb=>b=R) ak jg;have YQ:=At.out (M:=λb=>b=R) agB.out ak jg;have agG:=ah (At.out (M:=λb=>b=R) agC.out ak jg);have agH:=ah (At.out (M:=λb=>b=R) agD.out ak jg);have B11:=B10.out (M:=λb=>b=R) ak jg;have M8:=Oq.out (M:=λb=>b=R) ak jg;have vS:=ah (At.out (M:=λb=>b=R) vR.out ak jg);have M9:N5<=Ch.heap.size:=aJ EF jg.size;generalize splice cs (k*7) (dV y)=ai' at *;clear hW jg lC Gs Gt ai9 lTp HYL acd yY agB agC agD B10 Oq vR EF mF ab' Ie hRf;obtain⟨lp,SX,SY,cp2,cp3,cp4,cp5,cp6⟩:=At.seven (b:=Tp) agF;have lS:=YQ.lt;have cSk:=YQ.cell k;rw[dh _ hlt]at cSk;have zSk:=YQ.thaw k
        go_upto_region 11 with(fail)
        generalize hW:ja5 _ _ _=Vg;have e12:(aX (λi=>szl.getD i 0) m k).setIfInBounds k (.int .i64 y.s1)=aX (λi=>szl.getD i 0) m (k+1):=by
         have h1:=jE (λi=>szl.getD i 0) hlt;simp only[HYK.out.2]at h1;exact h1
        have agI:Hid (At Vg Ts (.cells (aX (λi=>szl.getD i 0) m (k+1)) 3)):=ah (by
         rw[<-hW,<-e12]
         exact At.set YQ k _)
        have nR:Out (λb=>b=Ts) Ch Vg:=hW▸Out.set (M:=λb=>b=Ts) (Out.refl _ _) rfl k _;have uJ:=qH.own nR λb hb h=>by subst h;exact⟨λh=>by have:=CU.out _ (JX.out _ ls5 h);omega,by omega⟩
        have Na:=YP.out (M:=λb=>b=Ts) ak nR;have EG:=JY.out (M:=λb=>b=Ts) ak nR;have Qq:=At.out (M:=λb=>b=Ts) agG.out ak nR;have agJ:=ah (At.out (M:=λb=>b=Ts) agH.out ak nR);have B12:=B11.out (M:=λb=>b=Ts) ak nR;have Kz:=M8.out (M:=λb=>b=Ts) ak nR;have Ig:=ah (At.out (M:=λb=>b=Ts) vS.out ak nR);have Gu:N5<=Vg.heap.size:=aJ M9 nR.size;clear hW nR lp SX SY cp2 cp3 cp4 cp5 cp6 lS cSk zSk e12 YQ YP JY agG agH B11 M8 vS M9 qH agF;have hfT:zq.getD k 0=Fx.coll (Fw.meet B 0 f kid):=by
         rw[<-HTP.out,List.getD,jc1,ja6 Ol,ab7.out];rfl
        have hfU:yV.getD k 0=Fx.coll (Fw.meet B 1 f kid):=by
         rw[<-HBT.out,List.getD,jc1,ja6 Ol,ab7.out];rfl
        have HFT:=ah hfT;have HFU:=ah hfU;have Qr:=aes hK F HDW.out HLEN.out f kid Vg hdk.out.1 hdk.out.2 hf (uJ.ro rY uN.out hkm);have hml:=vQ B 0 f kid;obtain⟨mt,hmt⟩:=aA (Fw.meet B 0 f kid);rw[hmt]at Qr hml HFT;have ace:=ah uJ;clear hfT hfU hmt uJ
        go_upto_region 12 with(first|(go_at_call 142;(with_reducible refine Qr.mono ?_);rintro e' zl ⟨⟨v,rfl,hown⟩,sV⟩;obtain⟨Am,cm,rfl,pK⟩:=vg hown KR;replace Qq:=Qq.keep sV;have lV:=Qq.lt;have cVk:=Qq.cell k;rw[dh _ hlt]at cVk;have zVk:=Qq.thaw k)|(go_at_call 141;(with_reducible refine(LD Am mt mt.length cm zl pK rfl).mono ?_);rintro e' w14 ⟨rfl,rfl⟩))
        generalize hW:ja5 _ _ _=W14;have e14:(aX (λi=>zq.getD i 0) m k).setIfInBounds k (.int .i64 (Fx.coll mt))=aX (λi=>zq.getD i 0) m (k+1):=by
         have h1:=jE (λi=>zq.getD i 0) hlt;simp only[HFT.out]at h1;exact h1
        have agK:Hid (At W14 Tv (.cells (aX (λi=>zq.getD i 0) m (k+1)) 3)):=ah (by
         rw[<-hW,<-e14]
         exact At.set Qq k _)
        have uK:Out (λb=>b=Tv) Vg W14:=hW▸Out.set (M:=λb=>b=Tv) (Out.of_below sV) rfl k _;have Qs:=ace.out.own uK λb hb h=>by subst h;exact⟨λh=>by have:=CU.out _ (JX.out _ lv5 h);omega,by omega⟩
        have agL:=Na.out (M:=λb=>b=Tv) ak uK;have agM:=EG.out (M:=λb=>b=Tv) ak uK;have agN:=ah (At.out (M:=λb=>b=Tv) agI.out ak uK);have Qt:=At.out (M:=λb=>b=Tv) agJ.out ak uK;have B14:=B12.out (M:=λb=>b=Tv) ak uK;have C14:=Kz.out (M:=λb=>b=Tv) ak uK;have Sl:=ah (At.out (M:=λb=>b=Tv) Ig.out ak uK);have acf:N5<=W14.heap.size:=aJ Gu uK.size;clear hW uK lV cVk zVk e14 agI Na EG Qq agJ B12 Kz Ig Gu ace Qr hml hown pK sV;have Qr:=aew hK F HDW.out HLEN.out f kid W14 hdk.out.1 hdk.out.2 hf (Qs.ro rY uN.out hkm);have hml:=vQ B 1 f kid;obtain⟨mu,hmu⟩:=aA (Fw.meet B 1 f kid);rw[hmu]at Qr hml HFU;have agO:=ah Qs;clear hmu Qs
        go_upto_region 13 with(first|(go_at_call 142;(with_reducible refine Qr.mono ?_);rintro e' zl ⟨⟨v,rfl,hown⟩,sV⟩;obtain⟨Am,cm,rfl,pK⟩:=vg hown KR;replace Qt:=Qt.keep sV;have lV:=Qt.lt;have cVk:=Qt.cell k;rw[dh _ hlt]at cVk;have zVk:=Qt.thaw k)|(go_at_call 141;(with_reducible refine(LD Am mu mu.length cm zl pK rfl).mono ?_);rintro e' w14 ⟨rfl,rfl⟩))
        generalize hW:ja5 _ _ _=W16;have e16:(aX (λi=>yV.getD i 0) m k).setIfInBounds k (.int .i64 (Fx.coll mu))=aX (λi=>yV.getD i 0) m (k+1):=by
         have h1:=jE (λi=>yV.getD i 0) hlt;simp only[HFU.out]at h1;exact h1
        have aja:Hid (At W16 Tu (.cells (aX (λi=>yV.getD i 0) m (k+1)) 3)):=ah (by
         rw[<-hW,<-e16]
         exact At.set Qt k _)
        have Gv:Out (λb=>b=Tu) W14 W16:=hW▸Out.set (M:=λb=>b=Tu) (Out.of_below sV) rfl k _;have ajb:=agO.out.own Gv λb hb h=>by subst h;exact⟨λh=>by have:=CU.out _ (JX.out _ lu5 h);omega,by omega⟩
        have ajc:=agL.out (M:=λb=>b=Tu) ak Gv;have ajd:=agM.out (M:=λb=>b=Tu) ak Gv;have aje:=ah (At.out (M:=λb=>b=Tu) agN.out ak Gv);have ajf:=ah (At.out (M:=λb=>b=Tu) agK.out ak Gv);have B16:=B14.out (M:=λb=>b=Tu) ak Gv;have C16:=C14.out (M:=λb=>b=Tu) ak Gv;have agP:=ah (At.out (M:=λb=>b=Tu) Sl.out ak Gv);have ajg:N5<=W16.heap.size:=aJ acf Gv.size;clear hW Gv lV cVk zVk e16 agN agL agM agK Qt B14 C14 Sl acf agO Qr hml hown pK sV;go_wp2
        go_roundw
        case rel=>exact⟨k+1,n2,P2,ai',by omega,by go_num,by omega,ajb,JX,ajg,ajc,agE,ajd,aje,ajf,aja,B16,C16,agP⟩
        case measure=>simp[intOf];omega
    . obtain rfl:k=m:=by omega
      have hIs:Ints wr (some ⟨Ts,0,none⟩) szl:=by
       have h1:=fP _ k KR hAs.out;have h2:=rP szl;rw[HLS.out]at h2;rw[h2]at h1;exact h1
      have hIv:Ints wr (some ⟨Tv,0,none⟩) zq:=by
       have h1:=fP _ k KR hAv.out;have h2:=rP zq;rw[Db.out]at h2;rw[h2]at h1;exact h1
      have hIu:Ints wr (some ⟨Tu,0,none⟩) yV:=by
       have h1:=fP _ k KR hAu.out;have h2:=rP yV;rw[HLU.out]at h2;rw[h2]at h1;exact h1
      have wT:=Vb (some ⟨Ts,0,none⟩) (some ⟨Tv,0,none⟩) (some ⟨Tu,0,none⟩) szl zq yV k k k k wr hIs hIv hIu HLS.out Db.out HLU.out ak
      have HN2:Hid (n'<=n+2*(fl.map (Fw.cst B f)).sum):=ah (by
       have h1:=YK B f fl k
       omega)
      have oZ:=ah hSr;have HRC:=ah (show cs.size=k*7/\nH cs ks from by
       have h1:=Ie.out;rw[List.take_of_length_le (by rw[zu.out];exact aH _)]at h1
       exact h1)
      obtain⟨en,hen⟩:=aA (Fx.uV szl zq yV k);rw[hen]at wT;have HEN:=ah hen;clear hIs hIv hIu hSr Ie hn' hlt hen
      go_upto_region 15 with(go_at_call 143;(with_reducible refine wT.mono ?_);rintro e' w9 ⟨⟨bb,rfl,gbb,WB⟩,fK⟩)
      have Om:=oZ.out.after fK;have AR9:=hAr.keep fK;have AC9:=AC.keep fK;have B9:=A0.keep fK;have C9:=A4.keep fK;have Nb:=ah (aL.keep wH.out fK);have Av9:=hAv.out.keep fK;have Au9:=hAu.out.keep fK;have agQ:=ah WB;have hN9:N5<=w9.heap.size:=aJ FL fK.size;have akQ:N5<=bb:=aJ FL gbb;clear wT WB oZ hAr AC hAs hAv hAu A0 A4 wH fK gbb FL;obtain⟨m1,akR,akS⟩:∃m1,m1+1<=k/\k<=m1+1:=⟨k-1,by omega,by omega⟩;have hwk:IntKind.i64.wrap ((k:Int)-1)=(m1:Int):=by rw[IntWalk.i64_in _ ak];omega
      have ajh:(m1:Int)<(k:Int):=by omega
      have aeA:(0:Int)<(k:Int):=by omega
      have lv9:=Av9.lt;have lu9:=Au9.lt;have cv0:w9.cell? ⟨Tv,0,none⟩=some (.int .i64 (zq.getD 0 0)):=(Av9.cell 0).trans (by rw[dh _ hm0,if_pos hm0]);have cu1:w9.cell? ⟨Tu,m1,none⟩=some (.int .i64 (yV.getD m1 0)):=(Au9.cell m1).trans (by rw[dh _ ak,if_pos ak]);obtain⟨t0,ht0⟩:=aA (zq.getD 0 0);obtain⟨u1,hu1⟩:=aA (yV.getD m1 0);rw[ht0]at cv0;rw[hu1]at cu1;have HF1:Hid ((if Fw.opn s Oo 0=true then 0 else t0)=first):=ah (by rw[<-ht0];exact OC.out)
      have Af:Hid ((if Fw.opn s Oo 1=true then 0 else u1)=last):=ah (by
       rw[<-hu1];have h1:=HLA.out;rw[HLU.out,show k-1=m1 by omega]at h1
       exact h1)
      clear ht0 hu1;have hSd:Below w9 w9 w9.drew:=Below.drew aD;refine iC (S:=λX=>Below w9 w9 X) 11 ?_ ?_
      . exact hSd
      intro hx;clear hSd;refine aF 0 ?_;refine aF 1 ?_;refine aF 2 ?_;refine aF 3 ?_;refine aF 4 ?_;refine aF 5 ?_;refine aF 6 ?_;refine aF 7 ?_;refine aF 8 ?_;refine aF 9 ?_;refine aF 10 ?_;refine gZ ?_;have Wm:Below w9 w9 w9.drew:=hx;generalize w9.drew=iL at *;have mF:=Om.after Wm;have agR:=AR9.keep Wm;have yY:=AC9.keep Wm;have B10:=B9.keep Wm;have Oq:=C9.keep Wm;have vR:=ah (aL.keep Nb.out Wm);have adf:=ah (agQ.out.after Wm);have EF:N5<=iL.heap.size:=aJ hN9 Wm.size;clear hx Wm Om AR9 AC9 B9 C9 Nb agQ hN9 cv0 cu1 lv9 lu9 Av9 Au9 hwk ajh aeA;obtain⟨o0,ho0⟩:=aA (Fw.opn s Oo 0);obtain⟨o1',ho1⟩:=aA (Fw.opn s Oo 1);have EH:=Dh b0 s _ zva Oo iL vR.out;rw[ho0]at EH HF1;rw[ho1]at Af;have HO1:=ah ho1;clear ho0 ho1
      go_upto_if 140 with(go_at_call 144;(with_reducible refine EH.mono ?_);rintro e' qh ⟨rfl,fF⟩)
      have qH:=mF.after fF;have YP:=agR.keep fF;have JY:=yY.keep fF;have M8:=Oq.keep fF;have vS:=ah (aL.keep vR.out fF);have adg:=ah (adf.out.after fF);have M9:N5<=qh.heap.size:=aJ EF fF.size;clear mF agR yY B10 Oq vR adf EF fF EH;go_cut [16]from 139 to 141 (λv w2=>v=.int .i64 first/\Below qh qh w2)
      case first =>
       cases o0 with
       | true =>
         have e1:=HF1.out;rw[if_pos rfl]at e1;exact Z3a
       | false =>
         have e1:=HF1.out;rw[if_neg aW]at e1;exact Z3a
      case rest =>
       obtain⟨rfl,fF⟩:=hcut;have agS:=ah (aL.keep vS.out fF);have EH:=Df b0 s _ zva Oo wc agS.out;rw[HO1.out]at EH;have adh:=qH.after fF;have adi:=YP.keep fF;have adj:=JY.keep fF;have agT:=M8.keep fF;have YR:=ah (adg.out.after fF);have adk:N5<=wc.heap.size:=aJ M9 fF.size;clear qH YP JY M8 vS adg M9 fF
       go_upto_if 142 with(go_at_call 144;(with_reducible refine EH.mono ?_);rintro e' zl ⟨rfl,sV⟩)
       have agU:=adh.after sV;have agV:=adi.keep sV;have agW:=adj.keep sV;have C13:=agT.keep sV;have adl:=ah (YR.out.after sV);have agX:N5<=zl.heap.size:=aJ adk sV.size;clear adh adi adj agT agS YR adk sV EH;go_cut [17]from 141 to 143 (λv w2=>v=.int .i64 last/\Below zl zl w2)
       case first =>
        cases o1' with
        | true =>
          have e1:=Af.out;rw[if_pos rfl]at e1;exact Z3a
        | false =>
          have e1:=Af.out;rw[if_neg aW]at e1;exact Z3a
       case rest =>
        obtain⟨rfl,Qu⟩:=hcut;have uJ:=agU.after Qu;have Na:=agV.keep Qu;have EG:=agW.keep Qu;have Kz:=C13.keep Qu;have adn:=ah (adl.out.after Qu);have Gu:N5<=wc.heap.size:=aJ agX Qu.size;clear agU agV agW C13 adl agX Qu;obtain⟨lC,Gs,Gt⟩:=At.two EG
        go_upto_region 21 with(fail)
        clear lC Gs Gt;have YO:Hid (cs.size=k*7/\nH cs (yX (blG first szl zq yV) ks 0)):=ah (by rw[Vf];exact HRC.out);have qG:=ah (show¬ P' R from λh=>by have:=CU.out _ (xQ.out _ ak h);omega);have aji:=ah (show¬ P' (R+1)from λh=>by have:=CU.out _ (xQ.out _ lR5 h);omega);have ajj:=ah (show¬ P' (w.heap.size+1)from λh=>by have:=CU.out _ (xQ.out _ ak h);omega);have HLB:Hid ((Fx.uW szl zq yV k).length=k):=ah (Fx.qp _ _ _ _)
        go_loopw [146] (λiv wr=>∃(i:Nat) (cs2:Array Value),i<=k/\iv=.int .i64 i/\pJ Y B F w P n' P' wr/\At wr R (.cells cs2 101)/\Hid (cs2.size=k*7/\nH cs2 (yX (blG first szl zq yV) ks i))/\At wr (R+1) (.cells #[.slice R k k,()] 167)/\At wr (w.heap.size+1) (.cells #[.slice none 0 0,()] 167)/\Hid (Ints wr (some ⟨bb,0,none⟩) (Fx.uW szl zq yV k))) (λiv _=>k-(intOf iv).toNat)
        case atStart=>exact⟨0,cs,eX _,rfl,uJ,Na,YO,EG,Kz,adn⟩
        case round =>
         clear uJ Na YO EG Kz adn;obtain⟨i,cs2,hi2,rfl,hSr,hAr,Ie,AC,A4,yg⟩:=hrel;by_cases hlt:i<k
         . have hltz:(i:Int)<(k:Int):=by omega
           have oZ:=ah hSr;have hik:i<ks.length:=by rw[zu.out];exact hlt
           obtain⟨lz,cz⟩:=lints yg.out (k:=i) (by rw[HLB.out];exact hlt);rw[Fx.Dk _ _ _ hlt]at cz;obtain⟨bg,hbg⟩:=aA (Fx.nV szl zq yV i);rw[hbg]at cz;have HBG:=ah hbg;obtain⟨lC,Gs,Gt⟩:=At.two AC;have lR:=hAr.lt;have hlast:i*7+6<cs2.size:=by have:=Ie.out.1;omega
           have cR6:wr.cell? ⟨R,i*7+6,none⟩=some cs2[i*7+6]:=(hAr.cell _).trans (Array.getElem?_eq_getElem hlast);generalize cs2[i*7+6]=old at cR6;have zR6:=hAr.thaw (i*7+6);obtain⟨p,hp⟩:=aA (IntKind.i64.wrap (first+bg));have nbR:bb≠R:=by omega
           clear hSr hbg
           go_upto_region 23 with(fail)
           have hSd:Out (λb=>b=R) wr wr.drew:=(Out.refl _ _).drew;refine iC (S:=λX=>Out (λb=>b=R) wr X) 13 ?_ ?_
           . exact hSd
           intro hx;clear hSd
           (refine aj.aN (i:=0) rfl aV aV aV aV ak (by assumption) qm ?_;(try simp only[Act.put,ja1,ja2,ja3]))
           (refine aj.aN (i:=1) rfl aV aV aV aV ak (by assumption) qm ?_;(try simp only[Act.put,ja1,ja2,ja3]))
           (refine aj.aN (i:=2) rfl aV aV aV aV ak (by assumption) qm ?_;(try simp only[Act.put,ja1,ja2,ja3]))
           (refine aj.aN (i:=3) rfl aV aV aV aV ak (by assumption) qm ?_;(try simp only[Act.put,ja1,ja2,ja3]))
           (refine aj.aN (i:=4) rfl aV aV aV aV ak (by assumption) qm ?_;(try simp only[Act.put,ja1,ja2,ja3]))
           (refine aj.aN (i:=5) rfl aV aV aV aV ak (by assumption) qm ?_;(try simp only[Act.put,ja1,ja2,ja3]))
           (refine aj.aN (i:=6) rfl aV aV aV aV ak (by assumption) qm ?_;(try simp only[Act.put,ja1,ja2,ja3]))
           (refine aj.aN (i:=7) rfl aV aV aV aV ak (by assumption) qm ?_;(try simp only[Act.put,ja1,ja2,ja3]))
           (refine aj.aN (i:=8) rfl aV aV aV aV ak (by assumption) qm ?_;(try simp only[Act.put,ja1,ja2,ja3]))
           (refine aj.aN (i:=9) rfl aV aV aV aV ak (by assumption) qm ?_;(try simp only[Act.put,ja1,ja2,ja3]))
           (refine aj.aN (i:=10) rfl aV aV aV aV ak (by assumption) qm ?_;(try simp only[Act.put,ja1,ja2,ja3]))
           (refine aj.aN (i:=11) rfl aV aV aV aV ak (by assumption) qm ?_;(try simp only[Act.put,ja1,ja2,ja3]))
           refine tk1 12 ?_;refine aj.Step.skip Z3v ?_;generalize hW:ja5 _ _ _=W3;have AR3:At W3 R (.cells (cs2.setIfInBounds (i*7+6) (.int .i64 p)) 101):=hW▸At.set hAr (i*7+6) _;have hO3:Out (λb=>b=R) wr W3:=hW▸Out.set (M:=λb=>b=R) (Out.refl _ _) rfl (i*7+6) _;refine⟨λ_=>Out.drew hO3,?_⟩
           (try simp only[bM,bN,bO,tks])
           refine gZ ?_
           have ajk:Hid ((cs2.setIfInBounds (i*7+6) (.int .i64 p)).size=k*7/\nH (cs2.setIfInBounds (i*7+6) (.int .i64 p)) (yX (blG first szl zq yV) ks (i+1))):=ah (by
            refine⟨by simpa using Ie.out.1,?_⟩;have h1:=Ie.out.2.abC (k:=i) (by rw[Bo];exact hik) p;rw[YL _ _ hik]at h1;rw[<-Ve _ _ hik];have e:blG first szl zq yV i ks[i]={ ks[i]with a1:=p }:=by
             unfold blG;rw[HBG.out,<-qK,hp]
            rw[e]
            exact h1)
           have hO4:=Out.drew hO3;have AR4:=At.drew AR3;have Gi:=oZ.out.own hO4 λb hb h=>by subst h;exact⟨qG.out,by omega⟩
           have AC4:=AC.out (M:=λb=>b=R) ak hO4;have C4:=A4.out (M:=λb=>b=R) ak hO4;have abV:=ah (vP yg.out hO4 nbR);generalize W3.drew=W4 at *;generalize cs2.setIfInBounds (i*7+6) (.int .i64 p)=Ag at *;clear hW hx hO3 hO4 AR3 lC Gs Gt lR hlast cR6 zR6 cz lz hAr Ie AC A4 yg hp;go_wp2
           go_roundw
           case rel=>exact⟨i+1,Ag,by omega,by go_num,Gi,AR4,ajk,AC4,C4,abV⟩
           case measure=>simp[intOf];omega
         . obtain rfl:i=k:=by omega
           have HRF:Hid (nH cs2 xs):=ah (by
            have h1:=Ie.out.2;rw[<-zu.out,YM,HXS.out.1]at h1
            exact h1)
           have hxl:xs.length=i:=by rw[<-HXS.out.1,List.length_mapIdx,zu.out]
           obtain⟨lC,Gs,Gt⟩:=At.two AC;have zC1:=AC.thaw 1;obtain⟨q1,hq1⟩:=aA (IntKind.i64.wrap (first+en));obtain⟨q2,hq2⟩:=aA (IntKind.i64.wrap (q1+last))
           have HHI:Hid (q2=hi):=ah (by
            have h1:=HXS.out.2;rw[HEN.out,<-qK (first+en),hq1,<-qK,hq2]at h1
            exact h1)
           have oZ:=ah hSr;clear hSr Ie yg
           go_upto_region 26 with(fail)
           generalize hW:ja5 _ _ _=Vg;have EG:At Vg (R+1) (.cells #[.slice R i i,q2] 167):=hW▸At.set AC 1 _;have nR:Out (λb=>b=R+1) wr Vg:=hW▸Out.set (M:=λb=>b=R+1) (Out.refl _ _) rfl 1 _;have uJ:=oZ.out.own nR λb hb h=>by subst h;exact⟨aji.out,by omega⟩
           have Na:=hAr.out (M:=λb=>b=R+1) ak nR;have Kz:=A4.out (M:=λb=>b=R+1) ak nR;clear hW lC Gs Gt zC1 hAr AC A4 nR hq1 hq2;obtain⟨lC,Gs,Gt⟩:=At.two EG;obtain⟨l4,aeB,aeC⟩:=At.two Kz;have aaQ:=Kz.thaw 0;have aaR:=Kz.thaw 1;have ace:=ah uJ;have agY:=ah Na;clear uJ Na;go_wp2;generalize hW:ja5 _ _ _=W6;have A6:At W6 (w.heap.size+1) (.cells #[.slice R i i,q2] 167):=hW▸At.set (At.set Kz 0 _) 1 _;have MP:Out (λb=>b=w.heap.size+1) Vg W6:=by
            exact Z21
           clear hW aeB aeC aaQ aaR lC Gs Gt EG Kz;have AR6:=agY.out.out (M:=λb=>b=w.heap.size+1) ak MP;have qL:=ace.out.own MP λb hb h=>by subst h;exact⟨ajj.out,by omega⟩
           obtain⟨l4,aeB,aeC⟩:=At.two A6;have iV:=qL.fin;have KI:=qL.kp;have hNw:=qL.new;refine bodyPost_ret (v:=.agg #[.slice R i i,q2]) (by simp[results,Tryz.results111,go_sem,aeB,aeC,l4];first|done|exact⟨rfl,rfl⟩|rfl) rfl ⟨R,i,cs2,P',n',by rw[hxl,HHI.out],by omega,AR6,HRF.out,HN2.out,KI,hNw,qG.out,iV⟩
end
attribute [local go_sem] Oper.semAt_some
def Ih(n₀ B:Nat)(W W':World):Prop:=Below n₀ W W'/\∀k t v,B<k->k<B+5->t≠66->Boxed W k t v->Boxed W' k t v
theorem Ih.refl(n₀ B:Nat)(W:World):Ih n₀ B W W:=⟨Below.refl _ _,λ_ _ _ _ _ _ h=>h⟩
theorem Ih.trans{X Y Z:World}(h:Ih n₀ B X Y)(k:Ih n₀ B Y Z):Ih n₀ B X Z:=⟨h.1.trans k.1,λi t v h1 h2 h3 h4=>k.2 i t v h1 h2 h3 (h.2 i t v h1 h2 h3 h4)⟩
theorem Ih.of_below{W W':World}(h:Below W W W')(hn:n₀<=W.heap.size):Ih n₀ B W W' :=
 ⟨h.mono hn,λi t v _ _ _ hb=>(h.block i hb.lt).trans hb⟩
theorem Ih.putObj(hn:n₀<=w.heap.size)(hB:B+5<=w.heap.size)(W:World)(l:Nat)(o o':Obj)(hl:w.heap.size<=l)(h:W.heap[l]? = some o)(hc:o.isCells=false)(hw:o.isWalk=false):Ih n₀ B W (W.putObj l o') :=
 ⟨belowK_b hn W l o o' hl h hc hw,λi t v _ h2 _ hb=>(World.putObj_heap_other ak).trans hb⟩
theorem EI{W W':World}(h:Below W W W'):W.grownBy W' none:=⟨h.os,h.tape,h.output,h.size,λk hk _=>h.block k hk⟩
theorem YS(A:Option Addr)(n c:Nat)(room gap:Int)(wrap:Bool)(w:World) :
  Calls ja0 183 #[.slice A n c,room,gap,wrap] w λe w'=>e=.returned (.func (.func 211) #[] #[w,.pointer (some ⟨w.heap.size+1,0,none⟩),.pointer (some ⟨w.heap.size+2,0,none⟩),.pointer (some ⟨w.heap.size+3,0,none⟩)]) /\
   w'=(((w.alloc (.cells #[.slice A n c] 37)).alloc (.cells #[room] 3)).alloc (.cells #[gap] 3)).alloc (.cells #[wrap] 4):=by
 have Jp:=@ru;go_enter Tryz.func183,Tryz.ntmps183
 go_wp2;exact Zv
theorem Qv{P:Program}{ops:Array Oper}{Q:Exit->Act->World->Prop}{S:World->Prop}{o:Oper}{os:List Oper}{a:Act}{t:TypeId}{x:Operand}{lo hi mx:Option Operand}{v:Value}(ho:o.op=.slice t x lo hi mx)(hw:Region.wanted o (yielded ops a.tmps)=true)
  (hrun:∀w,(Instr.sliceAt t (a.eval x) (lo.map a.eval) (hi.map a.eval) (mx.map a.eval)).run P w=.ok v w) (h:aj.dJ P ops Q S k os (a.put o.dst v)):aj.dJ P ops Q S (k+1) (o::os) a :=
 aj.iG hw (λw _=>by unfold execOp;simp only[ho,Sem.run_bind,Sem.run_pure,hrun,Result.andThen_ok]) h
def agZ(x:Nat×Nat):Array Value:=#[.int .i64 (x.1:Int),.int .i64 (x.2:Int)]
theorem YT(A:Option Addr)(l:List Int)(n c:Nat)(room gap:Int)(wrap:Bool)(w:World)(q:Nat)(hI:Ints w A l)(hl:l.length=n)(h0:0<n)(hn:n<=100000)(hq:q=Li.cnt room gap wrap l) :
 Calls ja0 212 #[.slice A n c,room,gap,wrap] w λe w'=>e=.returned (.int .i64 (q:Nat))/\w=w':=hq▸U3 A l n c room gap wrap w hI hl h0 hn
theorem acg(n:Nat)(hn1:1<=n)(lp n₀ B:Nat)(A:Option Addr)(l:List Int)(m c:Nat)(room gap:Int)(wrap:Bool)(hl:l.length=m)(hm:m<=10000)(hcap:m<=c)(J Jx:List (Nat×Nat)->World->Prop)
  (hY:∀pre x W,J pre W->pre.length<(Li.brk room gap wrap l).length->YieldAt Fence.wide (n-1) ja0 lp (agZ x) W λe W' =>
   (e=.returned (.bool true)/\J (pre++[x]) W'/\Ih n₀ B W W')\/(e=.returned (.bool false)/\Jx (pre++[x]) W'))
  (W:World) (hJ:AbidesFrom W.heap.size J) (hn₀:n₀<=W.heap.size) (b1:Boxed W (B+1) 37 (.slice A m c)) (b2:Boxed W (B+2) 3 (.int .i64 room)) (b3:Boxed W (B+3) 3 (.int .i64 gap)) (b4:Boxed W (B+4) 4 (.bool wrap))
  (hI:Ints W A l) (hA:0<l.length->∀x,A=some x->x.block<n₀) (h0:J [] W) :
  CallsIn Fence.wide n ja0 211 #[.func (.yield lp) #[] #[],.pointer (some ⟨B+1,0,none⟩),.pointer (some ⟨B+2,0,none⟩),.pointer (some ⟨B+3,0,none⟩),.pointer (some ⟨B+4,0,none⟩)] W λe W'=>(∃v,e=.returned v) /\
   ((∃ys,ys=Li.brk room gap wrap l/\J ys W')\/(∃pre,True/\Jx pre W')):=by
 have HL:=ah hl;have HI:=ah hI;have HA:=ah hA;have HY:=ah hY;have HJ:=ah hJ;have HB1:=ah b1;have HB2:=ah b2;have HB3:=ah b3;have HB4:=ah b4;clear hl hI hA hY hJ b1 b2 b3 b4;refine callsIn_of_wp Tryz.func211 rfl trivial ?_ rfl;simp only[Tryz.ntmps211,jc4,ja9,List.length_nil,Nat.reduceAdd,Nat.reduceSub,Array.replicate_succ,Array.replicate_zero,jc',jc2,List.nil_append,jd1]
 gi_wp2
 gi_loopw [6,7] (λvf _ wr=>∃(k:Nat) (pre:List (Nat×Nat)),vf=.int .i64 k/\k<=m/\Hid (pre++Li.tail room gap wrap l k=Li.brk room gap wrap l)/\J pre wr/\Ih n₀ B W wr) (λvf _ _=>m-(intOf vf).toNat)
 case atStart=>exact⟨0,[],rfl,by omega,ah rfl,h0,Ih.refl _ _ _⟩
 case round =>
  obtain⟨k,pre,rfl,hk,HP,hJs,hK⟩:=hrel;have p1:=hK.2 _ _ _ ak ak aG HB1.out;have p2:=hK.2 _ _ _ ak ak aG HB2.out;have p3:=hK.2 _ _ _ ak ak aG HB3.out;have p4:=hK.2 _ _ _ ak ak aG HB4.out;have c1:=p1.cell;have c2:=p2.cell;have c3:=p3.cell;have c4:=p4.cell;have l1:=p1.lt;have l2:=p2.lt;have l3:=p3.lt;have l4:=p4.lt;clear p1 p2 p3 p4;by_cases hlt:k<m
  . have hltz:(k:Int)<(m:Int):=by omega
    have HI0:Hid (Ints wr A l):=ah (HI.out.keep hK.1 HA.out);have I1:=HI0.out.from_ k c Z4f (by rw[HL.out];exact hcap);have F1:=oV A m c k ak;generalize hA1:(if c=k then A else A.map (·.add (k*1)))=A1 at *;have HI1:=ah I1;have HF1:=ah F1;obtain⟨r,r1,r2⟩:∃r,r+k<=m/\m<=r+k:=⟨m-k,by omega,by omega⟩;have HR:Hid (m-k=r):=ah ak;have Af:Hid ((l.drop k).length=r):=ah (by rw[List.length_drop,HL.out];omega);replace HF1:=ah HF1.out;rw[HR.out]at HF1;clear hA1 I1 F1;obtain⟨s,hs⟩:∃s,s=Li.stop room gap wrap l k:=⟨_,rfl⟩;have hks:k<s:=by rw[hs];exact Li.yB _ _ _ _ _
    have hsm:s<=m:=by rw[hs,<-HL.out];exact Li.Jh _ _ _ _ (by rw[HL.out];exact hlt)
    have ht:=Li.qY room gap wrap l (at_:=k) (by rw[HL.out];exact hlt);rw[<-hs]at ht;have HT:=ah ht;obtain⟨q,hq⟩:∃q,q=Li.cnt room gap wrap (l.drop k):=⟨_,rfl⟩;have akT:s<=k+q:=by rw[hs,hq];exact aH _
    have akU:k+q<=s:=by rw[hs,hq];exact aH _
    have w1:IntKind.i64.wrap ((k:Int)+(q:Int))=(s:Int):=by rw[IntWalk.i64_in _ ak];omega
    have HQ:=ah hq;clear hs ht hq;have lw:=hK.1.size
    gi_upto_region 2 with(fail)
    refine wpIn_wide.2 ?_;refine rZ ?_
    (repeat (first|(refine Qv rfl aR (HF1.out) ?_;(try simp only[bM,bN,bO,tks]))|refine jc ?_ | refine jd ?_ (hc:=by intro w2 hS;first|with_reducible exact zn hS (YT _ _ _ _ _ _ _ _ _ (HI1.out.after hS) Af.out ak ak HQ.out))|refine je ?_))
    refine aj.bD ?_;intro w2 hS;have hJ2:=HJ.out pre wr w2 none hJs (EI hS) (λr e=>by cases e);have hK2:=hK.trans (Ih.of_below hS (aJ hn₀ lw));have hlen:pre.length<(Li.brk room gap wrap l).length:=by
     rw[<-HP.out,HT.out,ja7,ja9];omega
    obtain⟨fn,tmps,assign,body,hy,hR⟩:=HY.out pre (k,s) w2 hJ2 hlen;simp only[agZ]at hy;clear hS hJs hK c1 c2 c3 c4 l1 l2 l3 l4
    gi_wp2
    refine hR.mono ?_;rintro e W3 (⟨rfl,hJ3,hk3⟩|⟨rfl,hJx3⟩)
    . gi_wp2
      go_roundw
      case rel=>exact⟨s,pre++[(k,s)],rfl,hsm,ah (by rw[<-HP.out,HT.out,List.append_assoc];rfl),hJ3,hK2.trans hk3⟩
      case measure=>simp[intOf];omega
    . gi_wp2
      refine bodyPost_ret (results_none rfl _ _ _) rfl ?_;exact⟨⟨_,rfl⟩,.inr ⟨_,trivial,hJx3⟩⟩
  . have hltz:¬ (k:Int)<(m:Int):=by omega
    have HE:Hid (pre=Li.brk room gap wrap l):=ah (by rw[<-HP.out,Li.qX _ _ _ _ Z4f,List.append_nil])
    gi_wp2
    go_end0
    refine⟨⟨_,rfl⟩,.inl ?_⟩
    first|exact⟨_,HE.out,hJs⟩|(rw[<-HE.out];exact hJs)
end
open Go.Shelf
open List renaming length_append → ja7,length_cons → ja9,append_toArray → jc2,size_toArray → jc4,push_toArray → jc',cons_append → jd1
attribute [local go_sem] Oper.semAt_some
theorem YU:(Tryz.prog.info? 66).map (λi=>(i.zero,i.size,i.bytes))=some (some (.agg #[(),()]),2,16):=by kernel_rfl
theorem cell_two_new(w:World)(x y:Value)(t:TypeId):∀j u,[x,y][j]? = some u->(w.alloc (.cells #[x,y] t)).cell? ((⟨w,0,none⟩:Addr).add j)=some u:=by
 intro j u hj
 match j,hj with
 | 0,hj=>simp at hj;subst hj;simp[Addr.add]
 | 1,hj=>simp at hj;subst hj;simp[Addr.add]
theorem Ih.appended{n₀ B:Nat}{W w1:World}{v v':Value}{k:Nat}{xs:List Value}{tmp:Obj}(hrow:W.ownsRow n₀ 66 2 v k xs)(hgrow:(W.alloc tmp).grownBy w1 v.ownBlock)(hb:Below n₀ W (w1.setCell ⟨B,0,none⟩ v')):Ih n₀ B W (w1.setCell ⟨B,0,none⟩ v') :=
 ⟨hb,λi t u h1 h2 h3 h4=>((h4.alloc tmp).kept hgrow (h4.not_row h3 hrow)).kept (grownBy_setCell' w1 B v') (λe=>by injection e with e;omega)⟩
theorem Vh(A:Option Addr)(l:List Int)(m c:Nat)(room gap:Int)(wrap:Bool)(w:World)(hI:Ints w A l)(hl:l.length=m)(hm:m<=10000)(hcap:m<=c) :
  Calls ja0 147 #[.slice A m c,room,gap,wrap] w λe w'=>∃v,e=.returned v/\w'.ownsRow w.heap.size 66 2 v (Li.brk room gap wrap l).length ((Li.flat (Li.brk room gap wrap l)).map (Value.int .i64))/\Below w w w':=by
 obtain⟨i0,hi,hz0,hz1,hz2⟩:=info_parts YU;have HI:=ah hI;have HL:=ah hl;have HA:=ah hI.lt;clear hI hl;refine(callsIn_wide (n:=5)).1 ?_;refine callsIn_of_wp_marks Tryz.func147 rfl trivial ?_ rfl;simp only[Tryz.ntmps147,jc4,ja9,List.length_nil,Nat.reduceAdd,Nat.reduceSub,Array.replicate_succ,Array.replicate_zero,jc',jc2,List.nil_append,jd1]
 gi_wp2_with (refine⟨trivial,?_⟩;gi_at_call 183;refine(callsIn_wide.2 (YS _ _ _ _ _ _ _)).mono ?_;rintro e w' ⟨rfl,rfl⟩)
 have bT:At _ (w.heap.size+1) _:=At.new' (W:=w.alloc (.cells #[] 66)) (.cells #[.slice w 0 0] 234) aW;have bR:At _ w _:=At.new w (.cells #[] 66);have b1:At _ (w.heap.size+1+1) _:=At.new' (W:=(w.alloc (.cells #[] 66)).alloc (.cells #[.slice w 0 0] 234)) (.cells #[.slice A m c] 37) aW;have b2:At _ (w.heap.size+1+2) _:=At.new' (W:=((w.alloc (.cells #[] 66)).alloc (.cells #[.slice w 0 0] 234)).alloc (.cells #[.slice A m c] 37)) (.cells #[room] 3) aW;have b3:At _ (w.heap.size+1+3) _:=At.new' (W:=(((w.alloc (.cells #[] 66)).alloc (.cells #[.slice w 0 0] 234)).alloc (.cells #[.slice A m c] 37)).alloc (.cells #[room] 3)) (.cells #[gap] 3) aW;have b4:At _ (w.heap.size+1+4) _:=At.new' (W:=((((w.alloc (.cells #[] 66)).alloc (.cells #[.slice w 0 0] 234)).alloc (.cells #[.slice A m c] 37)).alloc (.cells #[room] 3)).alloc (.cells #[gap] 3)) (.cells #[wrap] 4) aW;replace bT:=((((bT.alloc (.cells #[.slice A m c] 37)).alloc (.cells #[room] 3)).alloc (.cells #[gap] 3)).alloc (.cells #[wrap] 4));replace bR:=(((((bR.alloc (.cells #[.slice w 0 0] 234)).alloc (.cells #[.slice A m c] 37)).alloc (.cells #[room] 3)).alloc (.cells #[gap] 3)).alloc (.cells #[wrap] 4));replace b1:=(((b1.alloc (.cells #[room] 3)).alloc (.cells #[gap] 3)).alloc (.cells #[wrap] 4));replace b2:=((b2.alloc (.cells #[gap] 3)).alloc (.cells #[wrap] 4));replace b3:=(b3.alloc (.cells #[wrap] 4));have hB0:Below w w _:=aB (aB (aB (aB (aB (aB (Below.refl _ w) (.cells #[] 66)) (.cells #[.slice w 0 0] 234)) (.cells #[.slice A m c] 37)) (.cells #[room] 3)) (.cells #[gap] 3)) (.cells #[wrap] 4);have hsz:(((((( w.alloc (.cells #[] 66)).alloc (.cells #[.slice w 0 0] 234)).alloc (.cells #[.slice A m c] 37)).alloc (.cells #[room] 3)).alloc (.cells #[gap] 3)).alloc (.cells #[wrap] 4)).heap.size=w.heap.size+6:=by simp
 generalize (((((( w.alloc (.cells #[] 66)).alloc (.cells #[.slice w 0 0] 234)).alloc (.cells #[.slice A m c] 37)).alloc (.cells #[room] 3)).alloc (.cells #[gap] 3)).alloc (.cells #[wrap] 4))=W0 at *;have ag0:W0.ownsRow w.heap.size 66 2 (.slice w 0 0) 0 []:=⟨by simp,.inr ⟨w.heap.size,0,#[],rfl,aH _,bR,aH _,by simp[maxLen],by simp,by simp⟩⟩;have hIW:=HI.out.after hB0;have hN:=Li.Dt room gap wrap l;rw[HL.out]at hN
 refine wpIn_rangeFunc_ownG (α:=Nat×Nat) rfl ak (gf:=211) (lb:=#[.pointer (some ⟨w.heap.size+1+1,0,none⟩),.pointer (some ⟨w.heap.size+1+2,0,none⟩),.pointer (some ⟨w.heap.size+1+3,0,none⟩),.pointer (some ⟨w.heap.size+1+4,0,none⟩)]) rfl trivial (enters_of Tryz.func211 aV rfl)
  (encs:=λx:Nat×Nat=>#[.int .i64 (x.1:Int),.int .i64 (x.2:Int)]) (Kp:=Ih w.heap.size (w.heap.size+1)) (S:=λys=>ys=Li.brk room gap wrap l) (Sp:=λ_=>True) (N:=(Li.brk room gap wrap l).length) (w0:=W0)
  (λlp J Jx W hW hJ hJx hY h0=>acg 4 ak lp w.heap.size (w.heap.size+1) A l m c room gap wrap HL.out hm hcap J Jx hY W hJ (by have:=hW.size;omega)
   ((hW.block _ ak).trans b1) ((hW.block _ ak).trans b2) ((hW.block _ ak).trans b3) ((hW.block _ ak).trans b4)
   (hIW.keep (hW.mono ak) HA.out) HA.out h0)
  Ih.trans (Ih.putObj ak ak) aD (λ_=>rfl)
  (λpre W=>(∃v,Boxed W (w.heap.size+1) 234 v/\W.ownsRow w.heap.size 66 2 v pre.length ((Li.flat pre).map (Value.int .i64))/\True)/\Below w w W)
  (λ_ _ _=>False)
  (OwnFrom.and (Own.from (holdsRow_own w.heap.size (w.heap.size+1) 234 66 2 (λpre:List (Nat×Nat)=>pre.length) (λpre=>(Li.flat pre).map (Value.int .i64)) (λ_ _=>True)) _) (ownFrom_below aC ak))
  (λ_ _ _ _ _ hs _ _=>hs)
  ⟨⟨_,bT,ag0,trivial⟩,hB0⟩
  (λx=>{ tmps:=#[.slice A m c,room,gap,wrap,undef,undef,undef,undef,.slice none 0 0,.pointer (some ⟨w.heap.size+1,0,none⟩),.int .i64 (x.1:Int),.int .i64 (x.2:Int),.slice w 0 0,.slice A m c,room,gap,wrap,.func (.func 211) #[] #[.pointer (some ⟨w.heap.size+1+1,0,none⟩),.pointer (some ⟨w.heap.size+1+1+1,0,none⟩),.pointer (some ⟨w.heap.size+1+1+2,0,none⟩),.pointer (some ⟨w.heap.size+1+1+3,0,none⟩)],.int .i64 (x.1:Int),.int .i64 (x.2:Int),undef,undef,undef,undef,undef,undef,undef],defers:=[] }) ?assign ?body ?done ?stop
 case assign =>
  intro lp x W K hK
  gi_wp2
  exact hK
 case body =>
  rintro lp pre x W ⟨⟨v,hv,hrow,_⟩,hB⟩ hlt;have hc:=hv.cell
  gi_wp2_with (gi_at_builtin;refine wpListIn_append_own _ rfl _ _ 234 rfl w.heap.size 66 i0 (.agg #[(),()]) 2 16 Tryz.underlying234 hi hz0 hz1 hz2 rfl aG _ _ _ rfl (hrow.alloc _) ⟨W,0,none⟩ 1 1 [.int .i64 (x.1:Int),.int .i64 (x.2:Int)] rfl rfl (cell_two_new _ _ _ _) Kv Oi ak (by have:=hB.size;simp;omega) ?_;intro v' w1 hown' hgrow _;obtain⟨g',cap',rfl⟩:=ownsRow_succ hown';obtain⟨hv1,hv2,hr2,hk2,hb2⟩:=hv.appended aG hrow hB.size ak hown' hgrow;have hc1:=hv1.cell;have hf1:=hv1.frozen)
  exact⟨hk2.from _,Ih.appended hrow hgrow hb2,⟨_,hv2,by rw[Li.TG,List.map_append,ja7];exact hr2,trivial⟩,hB.trans hb2⟩
 case done =>
  rintro D ys W hD rfl ⟨⟨v,hv,hrow,_⟩,hB⟩ hK;have hc:=hv.cell
  gi_wp2
  refine⟨by simp,.inl ⟨_,_,rfl,run_takeDeferred hK,?_⟩⟩;exact⟨_,results_tmp rfl _ _ _,v,rfl,ownsRow_putObj hrow _ hK rfl,hB.trans (belowK_b (w:=w) aC W D _ _ ak hK rfl rfl)⟩
 case stop =>
  rintro D c pre W _ _ h _;exact h.elim
end Go.Proofs.YtdnggaapcgomhaaGreat.Fix
