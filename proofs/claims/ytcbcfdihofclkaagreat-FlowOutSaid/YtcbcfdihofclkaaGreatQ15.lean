/- Proved here: what functions of the program do, in plain numbers (part 15); no conditions but those in sight. -/
import Derived.Shelf.Abstract
import Derived.Test.YtcbcfdihofclkaaGreatQK
import Derived.Test.YtcbcfdihofclkaaGreatQ01
import Derived.Test.YtcbcfdihofclkaaGreatQ06
import Derived.Test.YtcbcfdihofclkaaGreatQ07
import Derived.Test.YtcbcfdihofclkaaGreatQ10
import Derived.Test.YtcbcfdihofclkaaGreatQ14
set_option linter.unusedVariables false
set_option linter.unusedSimpArgs false
set_option linter.unusedSectionVars false
set_option maxRecDepth 100000
namespace Go.Proofs.YtcbcfdihofclkaaGreat.Fix
open Go.ChangeShapes Go.WideShapes Go.ChangeAt Go.RowKit
section
variable {W:World} {b:Nat} {s:Re.St} {fl ap:Value} {ib:Bool}
theorem At.bxi(h:aF W b s fl ap ib):b<W.heap.size/\W.cell? ⟨b,23,none⟩=some (.int .i64 (s.c 23))/\W.cell? ⟨b,24,none⟩=some (.int .i64 (s.c 24))/\W.cell? ⟨b,25,none⟩=some (.int .i64 (s.c 25))/\W.cell? ⟨b,26,none⟩=some (.int .i64 (s.c 26))/\W.cell? ⟨b,27,none⟩=some (.int .i64 (s.c 27))/\W.cell? ⟨b,28,none⟩=some (.int .i64 (s.c 28))/\W.cell? ⟨b,29,none⟩=some (.int .i64 (s.c 29))/\W.cell? ⟨b,30,none⟩=some (.int .i64 (s.c 30)) :=
 ⟨h.lt,h.int 23 aG rfl,h.int 24 aG rfl,h.int 25 aG rfl,h.int 26 aG rfl,h.int 27 aG rfl,h.int 28 aG rfl,h.int 29 aG rfl,h.int 30 aG rfl⟩
theorem aF.style(h:aF W b s fl ap ib):uh W b 0 s:=λj hj=>by rw[Nat.zero_add];exact(At.cell h j).trans (Ib _ _ _ _ hj)
theorem Below.cell_{X Y:World}(h:Below X.heap.size X Y){b:Nat}(hb:b<X.heap.size)(i:Nat):Y.cell? ⟨b,i,none⟩=X.cell? ⟨b,i,none⟩:=(kP h).1 _ _ hb
end
set_option maxHeartbeats 4000000 in
theorem Kr(b:Nat)(s:Re.St)(fl ap:Value)(ib:Bool)(r0 r1:Int)(w:World)(h:aF w b s fl ap ib):Calls Tryz.prog 179 #[.pointer (some ⟨b,0,none⟩),.agg #[.int .i64 r0,.int .i64 r1]] w λe w'=>e=.returned (.int .i64 (Fw.X9 s r0))/\Below w.heap.size w w':=by
 go_enter Tryz.func179,Tryz.ntmps179
 go_upto_region 1 with(fail)
 generalize hW:World.alloc _ _=W0;have A0:At W0 w.heap.size (.cells #[.int .i64 r0,.int .i64 r1] 108):=hW▸At.new _ _;have A2:aF W0 b s fl ap ib:=hW▸aF.alloc h _;have hB:Below w.heap.size w W0:=hW▸Below.alloc' (Below.refl _ _) _;clear hW h;obtain⟨l0,aA,aB⟩:=A0.two;obtain⟨l2,aN,aO,aP,aQ,aZ,bq,aX,aY⟩:=At.bx0 A2;have d0:=A2.int 53 aG rfl;refine xP ?_
 (repeat (first|refine nN ?_ | refine nO ?_ (hc:=by intro w2 hS;first|with_reducible exact nI hS (rR _ _ _ _ _ _ _ _ _)|with_reducible exact nI hS (dV _ _ _))|refine nP ?_))
 exact Z42
set_option maxHeartbeats 4000000 in
theorem vw(b:Nat)(s:Re.St)(fl ap:Value)(ib:Bool)(r0 r1:Int)(w:World)(h:aF w b s fl ap ib):Calls Tryz.prog 239 #[.pointer (some ⟨b,0,none⟩),.int .i64 0,.int .i64 0,.agg #[.int .i64 r0,.int .i64 r1]] w λx w'=>x=.returned (.tuple #[.int .i64 (Fw.ins s 0 0 r0),.bool (Fw.Et s 0 0 r0)])/\Below w.heap.size w w':=by
 exact Z4
set_option maxHeartbeats 4000000 in
theorem yB(b:Nat)(s:Re.St)(fl ap:Value)(ib:Bool)(r0 r1:Int)(w:World)(h:aF w b s fl ap ib):Calls Tryz.prog 239 #[.pointer (some ⟨b,0,none⟩),.int .i64 0,.int .i64 1,.agg #[.int .i64 r0,.int .i64 r1]] w λx w'=>x=.returned (.tuple #[.int .i64 (Fw.ins s 0 1 r0),.bool (Fw.Et s 0 1 r0)])/\Below w.heap.size w w':=by
 exact Z4
set_option maxHeartbeats 4000000 in
theorem uI(b:Nat)(s:Re.St)(fl ap:Value)(ib:Bool)(r0 r1:Int)(w:World)(h:aF w b s fl ap ib):Calls Tryz.prog 239 #[.pointer (some ⟨b,0,none⟩),.int .i64 1,.int .i64 0,.agg #[.int .i64 r0,.int .i64 r1]] w λx w'=>x=.returned (.tuple #[.int .i64 (Fw.ins s 1 0 r1),.bool (Fw.Et s 1 0 r1)])/\Below w.heap.size w w':=by
 exact Z4
set_option maxHeartbeats 4000000 in
theorem xU(b:Nat)(s:Re.St)(fl ap:Value)(ib:Bool)(r0 r1:Int)(w:World)(h:aF w b s fl ap ib):Calls Tryz.prog 239 #[.pointer (some ⟨b,0,none⟩),.int .i64 1,.int .i64 1,.agg #[.int .i64 r0,.int .i64 r1]] w λx w'=>x=.returned (.tuple #[.int .i64 (Fw.ins s 1 1 r1),.bool (Fw.Et s 1 1 r1)])/\Below w.heap.size w w':=by
 exact Z4
end Go.Proofs.YtcbcfdihofclkaaGreat.Fix
namespace Go.Proofs.YtcbcfdihofclkaaGreat.Fix
open Go.ChangeShapes Go.WideShapes Go.ChangeAt Go.RowKit Go.Shelf
attribute [local go_sem] Oper.semAt_some
def Jz(s:Fe.St)(j:Nat):Value :=
 if j=0 then .int .i64 s.x.b else if j=1 then .int .i64 s.x.lo else if j=2 then .int .i64 s.x.hi else if j=3 then .int .i64 s.x.g else if j=4 then .int .i64 s.x.s
 else if j=5 then .int .i64 s.z else if j=6 then .int .i64 s.m else .bool s.f
def sK(W:World)(I n:Nat)(S:Nat->Fe.St):Prop :=
 ∃vs:Array Value,At W I (.cells vs 365)/\vs.size=n*8/\∀i j,i<n->j<8->vs[i*8+j]? = some (Jz (S i) j)
theorem sK.lt{W:World}{I n:Nat}{S:Nat->Fe.St}(h:sK W I n S):I<W.heap.size:=by obtain⟨_,h,_⟩:=h;exact h.lt
theorem sK.cell{W:World}{I n:Nat}{S:Nat->Fe.St}(h:sK W I n S){i:Nat}(hi:i<n)(j:Nat)(hj:j<8):W.cell? ⟨I,i*8+j,none⟩=some (Jz (S i) j):=by
 obtain⟨vs,h,_,hc⟩:=h;rw[h.cell];exact hc i j hi hj
theorem sK.thaw{W:World}{I n:Nat}{S:Nat->Fe.St}(h:sK W I n S)(k:Nat):W.frozen? ⟨I,k,none⟩=false:=by
 obtain⟨vs,h,_⟩:=h;exact h.thaw k
theorem sK.keep{W W':World}{I n:Nat}{S:Nat->Fe.St}(h:sK W I n S)(hb:Below W.heap.size W W'):sK W' I n S:=by
 obtain⟨vs,h,r⟩:=h;exact⟨vs,h.keep hb,r⟩
theorem sK.alloc{W:World}{I n:Nat}{S:Nat->Fe.St}(h:sK W I n S)(o:Obj):sK (W.alloc o) I n S:=by
 obtain⟨vs,h,r⟩:=h;exact⟨vs,h.alloc o,r⟩
theorem sK.off{W:World}{I n b k:Nat}{S:Nat->Fe.St}(h:sK W I n S)(hne:I≠b)(v:Value):sK (W.setCell ⟨b,k,none⟩ v) I n S:=by
 obtain⟨vs,h,r⟩:=h;exact⟨vs,h.off hne k v,r⟩
theorem sK.same{W:World}{I n:Nat}{S T:Nat->Fe.St}(h:sK W I n S)(hs:∀i,i<n->S i=T i):sK W I n T:=by
 obtain⟨vs,h,hz,hc⟩:=h;exact⟨vs,h,hz,λi j hi hj=>by rw[hc i j hi hj,hs i hi]⟩
theorem sK.put{W:World}{I n:Nat}{S T:Nat->Fe.St}{i j:Nat}{v:Value}(h:sK W I n S)(hi:i<n)(hj:j<8)(hv:Jz (T i) j=v)(ho:∀q,q<8->q≠j->Jz (T i) q=Jz (S i) q)(hs:∀k,k<n->k≠i->T k=S k) :
  sK (W.setCell ⟨I,i*8+j,none⟩ v) I n T:=by
 obtain⟨vs,h,hz,hc⟩:=h;refine⟨_,h.set (i*8+j) v,by simpa using hz,λk q hk hq => ?_⟩;rw[Array.getElem?_setIfInBounds];by_cases e:i*8+j=k*8+q
 . obtain rfl:i=k:=by omega
   obtain rfl:j=q:=by omega
   rw[if_pos rfl,if_pos ak,hv]
 . rw[if_neg e,hc k q hk hq]
   by_cases hik:k=i
   . subst hik
     rw[ho q hq ak]
   . rw[hs k hk hik]
theorem sK.turn{W:World}{I n r:Nat}{S:Nat->Fe.St}(h:sK W I n S)(hne:I≠r)(o:Obj):sK (W.putObj r o) I n S:=by
 obtain⟨vs,h,r⟩:=h;exact⟨vs,(World.putObj_heap_other hne).trans h,r⟩
theorem At.turn{W:World}{b r:Nat}{x:Obj}(h:At W b x)(hne:b≠r)(o:Obj):At (W.putObj r o) b x:=(World.putObj_heap_other hne).trans h
def Nz(I n:Nat)(room way:Int):Obj:=.cells #[.slice (some ⟨I,0,none⟩) n n,.int .i64 room,.int .i64 way] 363
def abF(R I n:Nat)(room way:Int)(S:Nat->Fe.St)(i:Nat)(W:World):Prop :=
 At W R (Nz I n room way)/\I<W.heap.size/\∀k,i<=k->k<n->W.cell? ⟨I,k*8+7,none⟩=some (.bool (S k).f)
set_option maxRecDepth 100000 in
set_option maxHeartbeats 4000000 in
theorem rU(n R I N:Nat)(room way:Int)(S:Nat->Fe.St)(hN:N<=64)(lp:Nat)(J:Nat->World->Prop)(Jx:World->Prop)(W:World)
  (hV:∀i W,J i W->abF R I N room way S i W) (Pk:∀i W,i<N->(S i).f=true->J i W->J (i+1) W)
  (hY:∀i W,i<N->(S i).f=false->J i W->YieldAt Fence.wide (n-1) Tryz.prog lp #[.int .i64 (Fe.pl S i:Nat),.pointer (some ⟨I,i*8,none⟩)] W λe W'=>(e=.returned (.bool true)/\J (i+1) W')\/(e=.returned (.bool false)/\Jx W')) (h0:J 0 W) :
  CallsIn Fence.wide n Tryz.prog 314 (#[.pointer (some ⟨R,0,none⟩)] ++ #[.func (.yield lp) #[] #[]] ++ #[]) W λe W'=>(∃v,e=.returned v)/\(J N W'\/Jx W'):=by
 have HY:=Lib.hid hY;have HV:=Lib.hid hV;have HS:=Lib.hid Pk;obtain⟨a0,_,_⟩:=hV 0 W h0;have l0:=a0.lt;have c0:=a0.cell 0;replace c0:W.cell? ⟨R,0,none⟩=some (.slice (some ⟨I,0,none⟩) N N):=c0;have H0:=Lib.hid h0;clear hY hV Pk a0 h0;refine callsIn_of_wp Tryz.func314 rfl trivial ?_ rfl;simp only[Tryz.ntmps314,List.size_toArray,List.length_cons,List.length_nil,Nat.reduceAdd,Nat.reduceSub,Array.replicate_succ,Array.replicate_zero,List.push_toArray,List.append_toArray,List.nil_append,List.cons_append]
 gi_wp2
 gi_loopw [4,12] (λp i wr=>∃k:Nat,k<=N/\i=.int .i64 k/\p=.int .i64 (Fe.pl S k:Nat)/\J k wr) (λ_ i _=>N-(intOf i).toNat)
 case atStart=>exact⟨0,by omega,rfl,rfl,H0.out⟩
 case round =>
  obtain⟨k,hk,rfl,rfl,hJ⟩:=hrel;obtain⟨a1,li,cs⟩:=HV.out k wr hJ;have l1:=a1.lt;have c1:=a1.cell 0;replace c1:wr.cell? ⟨R,0,none⟩=some (.slice (some ⟨I,0,none⟩) N N):=c1;by_cases hlt:k<N
  . have hltz:(k:Int)<(N:Int):=by omega
    have cf:=cs k (ah _) hlt;have hpl:=Fe.Pb S k;cases hf:(S k).f with
    | true =>
      rw[hf]at cf;have hJ2:=HS.out k wr hlt hf hJ;have HP:Hid (Fe.pl S (k+1)=Fe.pl S k):=Lib.hid (by simp[Fe.pl,hf]);clear cs
      gi_wp2
      go_roundw
      case rel=>exact⟨k+1,by omega,by go_num,by rw[HP.out],hJ2⟩
      case measure=>simp[intOf];omega
    | false =>
      rw[hf]at cf;have HP:Hid (Fe.pl S (k+1)=Fe.pl S k+1):=Lib.hid (by simp[Fe.pl,hf]);obtain⟨fn,tmps,assign,body,hy,hR⟩:=HY.out k wr hlt hf hJ;clear cs
      gi_wp2
      refine⟨λhd=>Z5d,hR.mono ?_⟩;rintro e W3 (⟨rfl,hJ3⟩|⟨rfl,hJx3⟩)
      . gi_wp2
        go_roundw
        case rel=>exact⟨k+1,by omega,by go_num,by rw[HP.out];go_num,hJ3⟩
        case measure=>simp[intOf];omega
      . gi_wp2
        refine bodyPost_ret (results_none rfl _ _ _) rfl ?_;exact⟨⟨_,rfl⟩,.inr hJx3⟩
  . have hltz:¬ (k:Int)<(N:Int):=by omega
    obtain rfl:k=N:=by omega
    gi_wp2
    go_end0
    exact⟨⟨_,rfl⟩,.inl hJ⟩
end Go.Proofs.YtcbcfdihofclkaaGreat.Fix
namespace Go.Proofs.YtcbcfdihofclkaaGreat.Fix
open Go.ChangeShapes Go.WideShapes Go.ChangeAt Go.RowKit
def eX(W:World)(R I n:Nat)(room:Int)(gr:Bool)(S:Nat->Fe.St):Prop:=At W R (Nz I n room (Fe.sg gr))/\sK W I n S
theorem eX.keep{W W':World}{R I n:Nat}{room:Int}{gr:Bool}{S:Nat->Fe.St}(h:eX W R I n room gr S)(hb:Below W.heap.size W W'):eX W' R I n room gr S:=⟨h.1.keep hb,h.2.keep hb⟩
theorem eX.drew{W:World}{R I n:Nat}{room:Int}{gr:Bool}{S:Nat->Fe.St}(h:eX W R I n room gr S):eX W.drew R I n room gr S:=h.keep (Below.refl _ _).drew
theorem eX.cells{W:World}{R I n:Nat}{room:Int}{gr:Bool}{S:Nat->Fe.St}(h:eX W R I n room gr S) :
 R<W.heap.size/\W.cell? ⟨R,0,none⟩=some (.slice (some ⟨I,0,none⟩) n n)/\W.cell? ⟨R,1,none⟩=some (.int .i64 room)/\W.cell? ⟨R,2,none⟩=some (.int .i64 (Fe.sg gr)):=⟨h.1.lt,h.1.cell 0,h.1.cell 1,h.1.cell 2⟩
theorem sK.fields{W:World}{I n:Nat}{S:Nat->Fe.St}(h:sK W I n S){i:Nat}(hi:i<n) :
  I<W.heap.size/\W.cell? ⟨I,i*8,none⟩=some (.int .i64 (S i).x.b)/\W.cell? ⟨I,i*8+1,none⟩=some (.int .i64 (S i).x.lo)/\W.cell? ⟨I,i*8+2,none⟩=some (.int .i64 (S i).x.hi)/\W.cell? ⟨I,i*8+3,none⟩=some (.int .i64 (S i).x.g)/\W.cell? ⟨I,i*8+4,none⟩=some (.int .i64 (S i).x.s) /\
   W.cell? ⟨I,i*8+5,none⟩=some (.int .i64 (S i).z)/\W.cell? ⟨I,i*8+6,none⟩=some (.int .i64 (S i).m)/\W.cell? ⟨I,i*8+7,none⟩=some (.bool (S i).f) :=
 ⟨h.lt,h.cell hi 0 ak,h.cell hi 1 ak,h.cell hi 2 ak,h.cell hi 3 ak,h.cell hi 4 ak,h.cell hi 5 ak,h.cell hi 6 ak,h.cell hi 7 ak⟩
theorem tq(R I n i:Nat)(room:Int)(gr:Bool)(S:Nat->Fe.St)(w:World)(h:eX w R I n room gr S)(hi:i<n) :
  Calls Tryz.prog 319 #[.pointer (some ⟨R,0,none⟩),.pointer (some ⟨I,i*8,none⟩)] w λe w'=>e=.returned (.int .i64 (Fe.fac gr (S i).x))/\w=w':=by
 obtain⟨l0,c0,c1,c2⟩:=h.cells;obtain⟨l1,d0,d1,d2,d3,d4,d5,d6,d7⟩:=h.2.fields hi;clear h c0 c1 d0 d1 d2 d5 d6 d7;cases gr
 . simp only[Fe.fac,Fe.sg,Bool.false_eq_true,if_false]at *
   go_enter Tryz.func319,Tryz.ntmps319
   go_wp2;exact Eu
 . simp only[Fe.fac,Fe.sg,if_true]at *
   go_enter Tryz.func319,Tryz.ntmps319
   go_wp2;exact Eu
theorem NA(R I n i:Nat)(room:Int)(gr:Bool)(S:Nat->Fe.St)(w:World)(h:eX w R I n room gr S)(hi:i<n)(hb:(0<=(S i).x.b/\(S i).x.b<=1048576)/\0<=(S i).x.s/\(S i).x.s<=1000) :
  Calls Tryz.prog 316 #[.pointer (some ⟨R,0,none⟩),.pointer (some ⟨I,i*8,none⟩)] w λe w'=>e=.returned (.int .i64 (Fe.wt gr (S i).x))/\Below w.heap.size w w':=by
 obtain⟨l0,c0,c1,c2⟩:=h.cells;obtain⟨l1,d0,d1,d2,d3,d4,d5,d6,d7⟩:=h.2.fields hi;clear h c0 c1 d1 d2 d5 d6 d7;cases gr
 . simp only[Fe.wt,Fe.sg,Bool.false_eq_true,if_false]at *
   obtain⟨⟨b1,b2⟩,b3,b4⟩:=hb;have hp:=Fe.O8 b3 b4 b1 b2;have hw:IntKind.i64.wrap ((S i).x.s*(S i).x.b)=(S i).x.s*(S i).x.b:=IntWalk.i64_in _ ak;have hw2:wrap64 ((S i).x.s*(S i).x.b)=(S i).x.s*(S i).x.b:=IntWalk.wrap64_in _ ak;generalize (S i).x.s=s at *;generalize (S i).x.b=b at *;have HW:=Lib.hid hw2;clear hw2;go_enter Tryz.func316,Tryz.ntmps316
   go_upto_region 3 with(fail)
   refine xP ?_
   (repeat (first|refine nN ?_ | refine nO ?_ (hc:=by intro w2 hS;first|with_reducible exact JM hS (fF _ _))|refine nP ?_))
   refine aj.bZ ?_;intro w2 hS;go_wp2
   go_ret
   exact⟨bI (by first|rfl|exact HW.out),by(repeat (first|exact Below.refl _ _ | assumption|refine Below.drew ?_ | refine Below.drewN ?_ _ | refine Below.alloc' ?_ _ | refine Below.setCell ?_ Z53 _ | refine Below.ay ?_ (ah _) (by assumption)))⟩
 . simp only[Fe.wt,Fe.sg,if_true]at *
   clear hb;go_enter Tryz.func316,Tryz.ntmps316
   go_wp2
   go_ret
   exact⟨rfl,Below.refl _ _⟩
set_option maxHeartbeats 4000000 in
theorem Q6(R I n i:Nat)(room:Int)(gr:Bool)(S:Nat->Fe.St)(w:World)(h:eX w R I n room gr S)(hi:i<n)(hb:(0<=(S i).x.b/\(S i).x.b<=1048576)/\0<=(S i).z/\(S i).z<=1048576) :
  Calls Tryz.prog 315 #[.pointer (some ⟨R,0,none⟩),.pointer (some ⟨I,i*8,none⟩)] w λe w'=>e=.returned (.bool (Fe.stay gr (S i).x (S i).z))/\Below w.heap.size w w':=by
 obtain⟨l0,c0,c1,c2⟩:=h.cells;obtain⟨l1,d0,d1,d2,d3,d4,d5,d6,d7⟩:=h.2.fields hi;have HR:=Lib.hid h;have Hi:=Lib.hid hi;clear h c0 c1 d1 d2 d3 d4 d6 d7 hi;unfold Fe.stay;obtain⟨⟨b1,b2⟩,b3,b4⟩:=hb;generalize hfc:Fe.fac gr (S i).x=fc;have HFC:=Lib.hid hfc;clear hfc;generalize (S i).x.b=b at *;generalize (S i).z=z at *;have W1:Hid (IntKind.i64.wrap (Fe.sg gr*b)=Fe.sg gr*b):=Lib.hid (IntWalk.i64_in _ (by cases gr<;>simp only[Fe.sg,Bool.false_eq_true,if_false,if_true]<;>omega));have W2:Hid (IntKind.i64.wrap (Fe.sg gr*z)=Fe.sg gr*z):=Lib.hid (IntWalk.i64_in _ (by cases gr<;>simp only[Fe.sg,Bool.false_eq_true,if_false,if_true]<;>omega));generalize Fe.sg gr=way at *;by_cases h0:fc=0
 . have k0:(Fe.fac gr (S i).x==0)=true:=by rw[HFC.out];simpa using h0
   subst h0;clear HFC;go_enter Tryz.func315,Tryz.ntmps315
   go_wp2;refine aj.uW (Below.refl _ _) fV fV fV ?_
   (repeat (first|refine nN ?_ | refine nO ?_ (hc:=by intro w2 hS;first|with_reducible exact JM hS (tq _ _ _ _ _ _ _ _ (HR.out.keep hS) Hi.out))|refine nP ?_))
   try simp only[k0]
   (repeat (first|refine nN ?_ | refine nO ?_ (hc:=by intro w2 hS;first|with_reducible exact JM hS (tq _ _ _ _ _ _ _ _ (HR.out.keep hS) Hi.out))|refine nP ?_))
   refine aj.bZ ?_;intro w2 hS;go_wp2
   go_ret
   exact⟨rfl,by(repeat (first|exact Below.refl _ _ | assumption|refine Below.drew ?_ | refine Below.drewN ?_ _ | refine Below.alloc' ?_ _ | refine Below.setCell ?_ Z53 _ | refine Below.ay ?_ (ah _) (by assumption)))⟩
 . have k0:(Fe.fac gr (S i).x==0)=false:=by rw[HFC.out];simpa using h0
   go_enter Tryz.func315,Tryz.ntmps315
   go_wp2;refine aj.uW (Below.refl _ _) fV fV fV ?_
   (repeat (first|refine nN ?_ | refine nO ?_ (hc:=by intro w2 hS;first|with_reducible exact JM hS (tq _ _ _ _ _ _ _ _ (HR.out.keep hS) Hi.out))|refine nP ?_))
   try simp only[k0]
   (repeat (first|refine nN ?_ | refine nO ?_ (hc:=by intro w2 hS;first|with_reducible exact JM hS (tq _ _ _ _ _ _ _ _ (HR.out.keep hS) Hi.out))|refine nP ?_))
   refine aj.bZ ?_;intro w2 hS;go_wp2
   go_ret
   exact⟨fM (by rw[W1.out,W2.out];simp[h0]),by(repeat (first|exact Below.refl _ _ | assumption|refine Below.drew ?_ | refine Below.drewN ?_ _ | refine Below.alloc' ?_ _ | refine Below.setCell ?_ Z53 _ | refine Below.ay ?_ (ah _) (by assumption)))⟩
def Sound(S:Nat->Fe.St)(n:Nat):Prop:=∀i,i<n->((0<=(S i).x.b/\(S i).x.b<=1048576)/\0<=(S i).x.s/\(S i).x.s<=1000)/\0<=(S i).z/\(S i).z<=1048576
theorem Hg{room:Int}{S:Nat->Fe.St}{n:Nat}(h:Sound S n)(k:Nat)(hk:k<=n):room-1048576*k<=Fe.left room S k/\Fe.left room S k<=room:=by
 induction k with
 | zero=>simp[Fe.left]
 | succ k ih =>
   obtain⟨h1,h2⟩:=ih ak;obtain⟨⟨⟨b1,b2⟩,_⟩,z1,z2⟩:=h k ak;simp only[Fe.left];split<;>constructor<;>omega
set_option maxHeartbeats 4000000 in
theorem Kt(R I n:Nat)(room:Int)(gr:Bool)(S:Nat->Fe.St)(w:World)(h:eX w R I n room gr S)(hs:Sound S n)(hn:n<=64)(hr:0<=room/\room<=67108864) :
  Calls Tryz.prog 318 #[.pointer (some ⟨R,0,none⟩)] w λe w'=>e=.returned (.int .i64 (Fe.free gr room S n))/\Below w.heap.size w w':=by
 have HR:=Lib.hid h;have HS:=Lib.hid hs;obtain⟨l0,c0,c1,c2⟩:=h.cells;clear h hs c2;go_enter Tryz.func318,Tryz.ntmps318
 go_wp2;clear c0 c1
 go_loopw [3,15] (λl i wr=>∃k:Nat,k<=n/\i=.int .i64 k/\l=.int .i64 (Fe.left room S k)/\Below w.heap.size w wr) (λ_ i _=>n-(intOf i).toNat)
 case atStart=>exact⟨0,by omega,rfl,rfl,Below.refl _ _⟩
 case round =>
  obtain⟨k,hk,rfl,rfl,hB⟩:=hrel;obtain⟨l0,c0,c1,c2⟩:=(HR.out.keep hB).cells;by_cases hlt:k<n
  . obtain⟨l1,d0,d1,d2,d3,d4,d5,d6,d7⟩:=(HR.out.keep hB).2.fields hlt
    obtain⟨g1,g2⟩:=Hg (room:=room) HS.out k ak;obtain⟨⟨⟨b1,b2⟩,_⟩,z1,z2⟩:=HS.out k hlt;cases hf:(S k).f with
    | true =>
      have HL:Hid (Fe.left room S (k+1)=Fe.left room S k-(S k).z):=Lib.hid (by simp[Fe.left,hf]);exact Z1j
    | false =>
      have HL:Hid (Fe.left room S (k+1)=Fe.left room S k-(S k).x.b):=Lib.hid (by simp[Fe.left,hf]);exact Z1j
  . obtain rfl:k=n:=by omega
    obtain⟨g1,g2⟩:=Hg (room:=room) HS.out k ak;obtain⟨q,hq,HQ⟩:∃q,q=(if Fe.sg gr*Fe.left room S k<0 then 0 else Fe.sg gr*Fe.left room S k)/\Fe.free gr room S k=q:=⟨_,rfl,rfl⟩;replace HQ:=Lib.hid HQ;generalize Fe.left room S k=u at *;cases gr
    . simp only[Fe.sg,Bool.false_eq_true,if_false]at *
      go_wp2
      all_goals
       go_ret
       exact⟨bI (by rw[HQ.out,hq];(repeat' split)<;>omega),hB⟩
    . simp only[Fe.sg,if_true]at *
      go_wp2
      all_goals
       go_ret
       exact⟨bI (by rw[HQ.out,hq];(repeat' split)<;>omega),hB⟩
end Go.Proofs.YtcbcfdihofclkaaGreat.Fix
namespace Go.Proofs.YtcbcfdihofclkaaGreat.Fix
open Go.ChangeShapes Go.WideShapes Go.ChangeAt Go.RowKit Go.Shelf
attribute [local go_sem] Oper.semAt_some
theorem Below.turn{N:Nat}{w W:World}{r:Nat}{o':Obj}(h:Below N w W)(hr:N<=r)(hW:W.heap[r]? = some o')(o:Obj):Below N w (W.putObj r o) :=
 h.trans ((Below.refl N W).grown (grownBy_putObj' W r o) (by have:=(Array.getElem?_eq_some_iff.1 hW).1;omega) (λk e=>by cases e;exact hr))
theorem eX.turn{W:World}{R I n r:Nat}{room:Int}{gr:Bool}{S:Nat->Fe.St}(h:eX W R I n room gr S)(h1:R<r)(h2:I<r)(o:Obj):eX (W.putObj r o) R I n room gr S:=⟨h.1.turn ak o,h.2.turn ak o⟩
theorem eX.alloc{W:World}{R I n:Nat}{room:Int}{gr:Bool}{S:Nat->Fe.St}(h:eX W R I n room gr S)(o:Obj):eX (W.alloc o) R I n room gr S:=⟨h.1.alloc o,h.2.alloc o⟩
theorem eX.off{W:World}{R I n b k:Nat}{room:Int}{gr:Bool}{S:Nat->Fe.St}(h:eX W R I n room gr S)(h1:R≠b)(h2:I≠b)(v:Value):eX (W.setCell ⟨b,k,none⟩ v) R I n room gr S:=⟨h.1.off h1 k v,h.2.off h2 v⟩
theorem eX.sees{W:World}{R I n:Nat}{room:Int}{gr:Bool}{S:Nat->Fe.St}(h:eX W R I n room gr S)(i:Nat):abF R I n room (Fe.sg gr) S i W :=
 ⟨h.1,h.2.lt,λk _ hk=>h.2.cell hk 7 ak⟩
theorem KeepsFrom.of_below{B:Nat}{W W':World}(h:Below W.heap.size W W'):KeepsFrom B W W' :=
 ⟨h.size,λk o _ hk _=>(h.block k (Array.getElem?_eq_some_iff.1 hk).1).trans hk⟩
set_option maxRecDepth 100000 in
set_option maxHeartbeats 4000000 in
theorem BU(R I n:Nat)(room:Int)(gr:Bool)(S:Nat->Fe.St)(w:World)(h:eX w R I n room gr S)(hn:n<=64) :
  Calls Tryz.prog 308 #[.pointer (some ⟨R,0,none⟩)] w λe w'=>e=.returned (.bool (decide (0<Fe.pl S n)))/\Below w.heap.size w w':=by
 have Jy:∀(fn:Fn) (first cap:Array Value) (w:World),(Instr.makeFunc fn first cap).run Tryz.prog w=.ok (.func fn first cap) w:=λ_ _ _ _=>rfl;have hR:=h.1.lt;have hI:=h.2.lt;have HR:=Lib.hid h;clear h;refine(callsIn_wide (n:=5)).1 ?_;refine callsIn_of_wp_marks Tryz.func308 rfl trivial ?_ rfl;simp only[Tryz.ntmps308,List.size_toArray,List.length_cons,List.length_nil,Nat.reduceAdd,Nat.reduceSub,Array.replicate_succ,Array.replicate_zero,List.push_toArray,List.append_toArray,List.nil_append,List.cons_append]
 gi_wp2
 have hA:At (w.alloc (.cells #[.bool false] 4)) w.heap.size (.cells #[.bool false] 4):=At.new _ _;have hB:Below w.heap.size w (w.alloc (.cells #[.bool false] 4)):=Below.alloc' (Below.refl _ _) _;have wP:=HR.out.alloc (.cells #[.bool false] 4);have hsz:(w.alloc (.cells #[.bool false] 4)).heap.size=w.heap.size+1:=by simp
 generalize w.alloc (.cells #[.bool false] 4)=W0 at *
 refine j6 (n:=5) (gf:=314) (first:=#[.pointer (some ⟨R,0,none⟩)]) (lb:=#[]) rfl (enters_of Tryz.func314 fV rfl) n (λi=>(S i).f) (λi=>#[.int .i64 (Fe.pl S i:Nat),.pointer (some ⟨I,i*8,none⟩)]) (λ_=>rfl)
  (λi W=>eX W R I n room gr S/\At W w.heap.size (.cells #[.bool false] 4)/\Below w.heap.size w W/\Fe.pl S i=0)
  (λW=>At W w.heap.size (.cells #[.bool true] 4)/\Below w.heap.size w W/\0<Fe.pl S n)
  (λi W r o o' h hr hW _=>⟨h.1.turn ak ak o,h.2.1.turn ak o,Below.turn h.2.2.1 ak hW o,h.2.2.2⟩)
  (λW r o o' h hr hW _=>⟨h.1.turn ak o,Below.turn h.2.1 ak hW o,h.2.2⟩)
  (λo1 o2=>⟨(wP.alloc o1).alloc o2,(hA.alloc o1).alloc o2,Below.alloc' (Below.alloc' hB o1) o2,rfl⟩)
  (λlp J Jx W hV hs hY hJ=>rU 4 R I n room (Fe.sg gr) S hn lp J Jx W (λi W h=>(hV i W h).1.sees i) hs hY hJ)
  (λi W hi hf h=>⟨h.1,h.2.1,h.2.2.1,by simp[Fe.pl,hf,h.2.2.2]⟩)
  (λi t=>(t.setIfInBounds 5 (.int .i64 (Fe.pl S i:Nat))).setIfInBounds 6 (.pointer (some ⟨I,i*8,none⟩))) ?assign ?body ?done ?stop
 case assign =>
  intro l i W G hi hG;exact Z26
 case body =>
  rintro l i W hi hf ⟨pF,hA1,hB1,hp⟩;have hc:=hA1.cell 0;have hz:=hA1.thaw 0;simp only[List.setIfInBounds_toArray,List.set_cons_zero,List.set_cons_succ]
  gi_wp2
  exact⟨(KeepsOthers.setCell _ _ _).from _,hA1.set 0 _,Below.setCell hB1 (ah _) _,by have:=Fe.Pf S hi hf;omega⟩
 case done =>
  rintro D W hD ⟨pF,hA1,hB1,hp⟩ hK;have hc:=hA1.cell 0;have hz:=hA1.thaw 0
  gi_wp2
  refine⟨by simp,.inl ⟨_,_,rfl,run_takeDeferred ((KeepsOthers.setCell _ _ _).same D _ hK rfl),?_⟩⟩;have hA2:=(hA1.set 0 (.bool false)).turn (r:=D) ak (.deferred none);have hB2:=Below.turn (Below.setCell hB1 (ah _) (.bool false) (p:=⟨w.heap.size,0,none⟩)) ak ((KeepsOthers.setCell _ _ _).same D _ hK rfl) (.deferred none);have hc2:=hA2.cell 0;generalize World.putObj _ _ _=W2 at *;refine⟨.bool false,?_,by rw[hp];rfl,hB2⟩;simp[results,Tryz.results308,go_sem,hc2]
 case stop =>
  rintro D W hD ⟨hA1,hB1,hp⟩ hK;have hc:=hA1.cell 0
  gi_wp2
  refine⟨by simp,.inl ⟨_,_,rfl,run_takeDeferred hK,?_⟩⟩;have hA2:=hA1.turn (r:=D) ak (.deferred none);have hB2:=Below.turn hB1 ak hK (.deferred none);have hc2:=hA2.cell 0;generalize World.putObj _ _ _=W2 at *;refine⟨.bool true,?_,by rw[decide_eq_true hp],hB2⟩;simp[results,Tryz.results308,go_sem,hc2]
end Go.Proofs.YtcbcfdihofclkaaGreat.Fix
namespace Go.Proofs.YtcbcfdihofclkaaGreat.Fix
open Go.ChangeShapes Go.WideShapes Go.ChangeAt Go.RowKit Go.Shelf
attribute [local go_sem] Oper.semAt_some
def mO(S T:Nat->Fe.St)(i:Nat):Nat->Fe.St:=λk=>if k<i then T k else S k
theorem vZ(S T:Nat->Fe.St):mO S T 0=S:=by funext k;simp[mO]
theorem pI{S T:Nat->Fe.St}{i k:Nat}(h:i<=k):mO S T i k=S k:=by simp[mO,show¬ k<i by omega]
theorem Ga{S T:Nat->Fe.St}{i:Nat}(h:T i=S i):mO S T (i+1)=mO S T i:=by
 funext k;unfold mO;rcases Nat.lt_trichotomy k i with h'|h'|h'
 . simp[h',show k<i+1 by omega]
 . subst h';simp[h]
 . simp[show¬ k<i by omega,show¬ k<i+1 by omega]
theorem tu(S T:Nat->Fe.St)(i:Nat):mO S T (i+1) i=T i:=by simp[mO]
theorem yC(S T:Nat->Fe.St){i k:Nat}(h:k≠i):mO S T (i+1) k=mO S T i k:=by
 unfold mO;rcases Nat.lt_or_ge k i with h'|h'
 . simp[h',show k<i+1 by omega]
 . simp[show¬ k<i by omega,show¬ k<i+1 by omega]
theorem yD(S T:Nat->Fe.St)(n:Nat):∀i,i<n->mO S T n i=T i:=λi hi=>by simp[mO,hi]
theorem eX.mixed{W:World}{R I n i:Nat}{room:Int}{gr:Bool}{S T:Nat->Fe.St}(h:eX W R I n room gr (mO S T i)):abF R I n room (Fe.sg gr) S i W :=
 ⟨h.1,h.2.lt,λk hk hn=>by have:=h.2.cell hn 7 ak;rw[pI hk]at this;exact this⟩
theorem eX.ne{W:World}{R I n:Nat}{room:Int}{gr:Bool}{S:Nat->Fe.St}(h:eX W R I n room gr S):R≠I:=by
 rintro rfl;obtain⟨h1,vs,h2,_⟩:=h;unfold At Nz at h1;unfold At at h2;rw[h1]at h2;injection h2 with h2;injection h2 with _ h2;exact absurd h2 aG
theorem YN{S:Nat->Fe.St}{n:Nat}(h:∀i,i<n->-134217728<=(S i).m/\(S i).m<=134217728)(k:Nat)(hk:k<=n) : -134217728*k<=Fe.made S k/\Fe.made S k<=134217728*k:=by
 induction k with
 | zero=>simp[Fe.made]
 | succ k ih =>
   have:=ih ak;have:=h k ak;simp only[Fe.made];split<;>constructor<;>omega
set_option maxRecDepth 100000 in
set_option maxHeartbeats 4000000 in
theorem Dw(N R I n:Nat)(room:Int)(gr:Bool)(S:Nat->Fe.St)(w:World)(h:eX w R I n room gr S)(hn:n<=64)(hN:N<=I/\N<=w.heap.size)(hm:∀i,i<n->-134217728<=(S i).m/\(S i).m<=134217728) :
  Calls Tryz.prog 310 #[.pointer (some ⟨R,0,none⟩)] w λe w'=>(∃v,e=.returned v)/\eX w' R I n room gr (Fe.froze n S)/\Below N w w':=by
 have Jy:∀(fn:Fn) (first cap:Array Value) (w:World),(Instr.makeFunc fn first cap).run Tryz.prog w=.ok (.func fn first cap) w:=λ_ _ _ _=>rfl;have hR:=h.1.lt;have hI:=h.2.lt;have HR:=Lib.hid h;have HM:=Lib.hid hm;clear h hm;refine(callsIn_wide (n:=5)).1 ?_;refine callsIn_of_wp_marks Tryz.func310 rfl trivial ?_ rfl;simp only[Tryz.ntmps310,List.size_toArray,List.length_cons,List.length_nil,Nat.reduceAdd,Nat.reduceSub,Array.replicate_succ,Array.replicate_zero,List.push_toArray,List.append_toArray,List.nil_append,List.cons_append]
 gi_wp2
 obtain⟨W0,hA,hB,wP,hsz,hW⟩:∃W0,At W0 w.heap.size (.cells #[.int .i64 0] 3)/\Below N w W0/\eX W0 R I n room gr S/\W0.heap.size=w.heap.size+1/\w.alloc (.cells #[.int .i64 0] 3)=W0 :=
  ⟨_,At.new w (.cells #[.int .i64 0] 3),(Below.refl _ _).alloc hN.2 _,HR.out.alloc _,by simp,rfl⟩
 rw[hW];clear hW
 refine j6 (n:=5) (gf:=314) (first:=#[.pointer (some ⟨R,0,none⟩)]) (lb:=#[]) rfl (enters_of Tryz.func314 fV rfl) n (λi=>(S i).f) (λi=>#[.int .i64 (Fe.pl S i:Nat),.pointer (some ⟨I,i*8,none⟩)]) (λ_=>rfl)
  (λi W=>eX W R I n room gr S/\At W w.heap.size (.cells #[.int .i64 (Fe.made S i)] 3)/\Below N w W)
  (λW=>False)
  (λi W r o o' h hr hW _=>⟨h.1.turn ak ak o,h.2.1.turn ak o,Below.turn h.2.2 ak hW o⟩)
  (λW r o o' h hr hW _=>h)
  (λo1 o2=>⟨(wP.alloc o1).alloc o2,(hA.alloc o1).alloc o2,(hB.alloc ak o1).alloc jH o2⟩)
  (λlp J Jx W hV hs hY hJ=>rU 4 R I n room (Fe.sg gr) S hn lp J Jx W (λi W h=>(hV i W h).1.sees i) hs hY hJ)
  (λi W hi hf h=>⟨h.1,by simp only[Fe.made,hf,if_true];exact h.2.1,h.2.2⟩)
  (λi t=>((t.setIfInBounds 9 (.int .i64 (Fe.pl S i:Nat))).setIfInBounds 10 (.pointer (some ⟨I,i*8,none⟩))).setIfInBounds 4 (.pointer (some ⟨I,i*8,none⟩))) ?assign ?body ?done ?stop
 case assign =>
  exact Z1o
 case body =>
  rintro l i W hi hf ⟨pF,hA1,hB1⟩;have hc:=hA1.cell 0;have hz:=hA1.thaw 0;have l1:=hA1.lt;obtain⟨l2,d0,d1,d2,d3,d4,d5,d6,d7⟩:=pF.2.fields hi;have g1:=YN HM.out i ak;have g2:=HM.out i hi;have HL:Hid (Fe.made S (i+1)=Fe.made S i+(S i).m):=Lib.hid (by simp[Fe.made,hf]);have w1:IntKind.i64.wrap (Fe.made S i+(S i).m)=Fe.made S (i+1):=by rw[HL.out];exact IntWalk.i64_in _ ak
  generalize hT:Fe.made S (i+1)=T at *;have HT:=Lib.hid hT;clear hT;generalize Fe.made S i=u at *;generalize (S i).m=v at *;clear d0 d1 d2 d3 d4 d5 d7
  (simp only[List.setIfInBounds_toArray,List.set_cons_zero,List.set_cons_succ])
  gi_upto_region 3 with(fail)
  refine aj.M5 6 1 (Below.refl _ _) fV fV rfl fV fV fV (by rintro⟨_,_,hh⟩;exact hh) ?_
  (repeat (first|refine nN ?_ | refine nO ?_ (hc:=by intro w2 hS;first|with_reducible exact JM hS (fF _ _))|refine nP ?_))
  refine aj.dJ ?_;intro w2 hS;have A2:=hA1.keep hS;have z2:=A2.thaw 0;have e2:=A2.cell 0;refine xV ?_;intro K hK;go_simp;refine hK _ _ (aj.bP ?_);clear hK K
  gi_wp2
  refine⟨(KeepsFrom.of_below hS).trans ((KeepsOthers.setCell _ _ _).from _),(pF.keep hS).off ak ak _,?_,Below.setCell (Below.trans hB1 (hS.mono ak)) hN.2 _⟩;exact A2.set 0 _
 case stop=>exact λD W hD h _=>h.elim
 case done =>
  rintro D W hD ⟨pF,hA1,hB1⟩ hK;have hlD:=(Array.getElem?_eq_some_iff.1 hK).1;generalize hT:Fe.made S n=T at *;have HT:=Lib.hid hT;clear hT;have hF:∀i,Fe.froze n S i=if (S i).f then S i else ⟨(S i).x,(S i).z,(S i).m,Fe.O9 T (S i).m⟩:=λi=>by unfold Fe.froze;rw[HT.out]
  have HF:=Lib.hid hF;clear hF hA hB wP HR
  gi_wp2
  refine j6 (n:=5) (gf:=314) (first:=#[.pointer (some ⟨R,0,none⟩)]) (lb:=#[]) rfl (enters_of Tryz.func314 fV rfl) n (λi=>(S i).f) (λi=>#[.int .i64 (Fe.pl S i:Nat),.pointer (some ⟨I,i*8,none⟩)]) (λ_=>rfl)
   (λi W=>eX W R I n room gr (mO S (Fe.froze n S) i)/\At W w.heap.size (.cells #[.int .i64 T] 3)/\Below N w W/\W.heap[D]? = some (.deferred (some [])))
   (λW=>False)
   (λi W r o o' h hr hW _=>⟨h.1.turn ak ak o,h.2.1.turn ak o,Below.turn h.2.2.1 ak hW o,(World.putObj_heap_other ak).trans h.2.2.2⟩)
   (λW r o o' h hr hW _=>h)
   (λo1 o2=>⟨by rw[vZ];exact(pF.alloc o1).alloc o2,(hA1.alloc o1).alloc o2,(hB1.alloc ak o1).alloc jH o2,(At.alloc (show At W D _ from hK) o1).alloc o2⟩)
   (λlp J Jx W hV hs hY hJ=>rU 4 R I n room (Fe.sg gr) S hn lp J Jx W (λi W h=>(hV i W h).1.mixed) hs hY hJ)
   (λi W hi hf h=>⟨by rw[Ga (by rw[HF.out,hf];rfl)];exact h.1,h.2⟩)
   (λi t=>((t.setIfInBounds 19 (.int .i64 (Fe.pl S i:Nat))).setIfInBounds 20 (.pointer (some ⟨I,i*8,none⟩))).setIfInBounds 6 (.pointer (some ⟨I,i*8,none⟩))) ?assign ?body ?done ?stop
  case assign =>
   exact Z1o
  case body =>
   rintro l i W2 hi hf ⟨hR2,hA2,hB2,hD2⟩;have hc:=hA2.cell 0;have hz:=hA2.thaw 0;have l1:=hA2.lt;obtain⟨l2,d0,d1,d2,d3,d4,d5,d6,d7⟩:=hR2.2.fields hi;rw[pI (ah _)]at d6;have z7:=hR2.2.thaw (i*8+7);have HN:Hid (Fe.froze n S i=⟨(S i).x,(S i).z,(S i).m,Fe.O9 T (S i).m⟩):=Lib.hid (by rw[HF.out,hf];rfl);have hne:=hR2.ne;have fin:∀b,Fe.O9 T (S i).m=b->roundEnd W.heap.size (λW=>eX W R I n room gr (mO S (Fe.froze n S) (i+1))/\At W w.heap.size (.cells #[.int .i64 T] 3)/\Below N w W/\W.heap[D]? = some (.deferred (some []))) (λ_=>False) W2 .normal { tmps:=#[],defers:=[] } (W2.setCell ⟨I,i*8+7,none⟩ (.bool b)):=by
    intro b hb;refine⟨(KeepsOthers.setCell _ _ _).from _,⟨hR2.1.off ak _ _,?_⟩,hA2.off ak _ _,Below.setCell hB2 hN.1 _,(KeepsOthers.setCell _ _ _).same _ _ hD2 rfl⟩;refine hR2.2.put hi ak ?_ ?_ ?_
    . rw[tu,HN.out];simp[Jz,hb]
    . intro q hq hqn
      rw[tu,HN.out,pI (ah _)];unfold Jz
      (repeat' split)<;>first|rfl|omega
    . intro k hk hkn;rw[yC _ _ hkn]
   have FIN:=Lib.hid fin;clear fin d0 d1 d2 d3 d4 d5 HN;generalize (S i).m=v at *
   (simp only[List.setIfInBounds_toArray,List.set_cons_zero,List.set_cons_succ])
   rcases Int.lt_trichotomy T 0 with hT|hT|hT
   . have q1:decide (T=0)=false:=by simp;omega
     have q2:decide (0<T)=false:=by simp;omega
     have q3:decide (T<0)=true:=by simp;omega
     by_cases hv:v<0
     . gi_wp2
       refine FIN.out _ ?_;unfold Fe.O9;rw[q1,q2,q3];first|(simp;done)|(simp;omega)
     . gi_wp2
       refine FIN.out _ ?_;rw[show(T==0)=false by simp;omega];unfold Fe.O9;rw[q1,q2,q3];simp;omega
   . subst hT
     gi_wp2
     refine FIN.out _ ?_;simp[Fe.O9]
   . have q1:decide (T=0)=false:=by simp;omega
     have q2:decide (0<T)=true:=by simp;omega
     have q3:decide (T<0)=false:=by simp;omega
     by_cases hv:0<v
     . gi_wp2
       refine FIN.out _ ?_;unfold Fe.O9;rw[q1,q2,q3];first|(simp;done)|(simp;omega)
     . gi_wp2
       refine FIN.out _ ?_;rw[show(T==0)=false by simp;omega];unfold Fe.O9;rw[q1,q2,q3];simp;omega
  case stop=>exact λD W hD h _=>h.elim
  case done =>
   rintro D2 W2 hD2 ⟨hR2,hA2,hB2,hK1⟩ hK2
   gi_wp2
   have hl2:=(Array.getElem?_eq_some_iff.1 hK2).1;refine⟨by simp,.inl ⟨_,_,rfl,run_takeDeferred hK2,?_⟩⟩;have hK3:(W2.putObj D2 (.deferred none)).heap[D]? = some (.deferred (some [])):=(World.putObj_heap_other ak).trans hK1;refine⟨by simp,.inl ⟨_,_,rfl,run_takeDeferred hK3,?_⟩⟩;exact⟨_,results_none rfl _ _ _,⟨_,rfl⟩,⟨((hR2.turn ak ak _).turn ak ak _).1,(((hR2.turn ak ak _).turn ak ak _).2.same (yD _ _ _))⟩,Below.turn (Below.turn hB2 ak hK2 _) ak hK3 _⟩
end Go.Proofs.YtcbcfdihofclkaaGreat.Fix
namespace Go.Proofs.YtcbcfdihofclkaaGreat.Fix
open Go.ChangeShapes Go.WideShapes Go.ChangeAt Go.RowKit
def enc(x:Fe.It):Value:=.agg #[.int .i64 x.b,.int .i64 x.lo,.int .i64 x.hi,.int .i64 x.g,.int .i64 x.s]
theorem Py(n:Int)(w:World):Calls Tryz.prog 320 #[.int .i64 n] w λe w'=>e=.returned (.int .i64 (Fe.cw n))/\w=w':=by
 go_enter Tryz.func320,Tryz.ntmps320
 go_wp2_with (first|(go_at_call 101;with_reducible refine wL (rP _ _ _ _) ?_))
 go_ret
 exact⟨bI (Fe.TK ak ak),rfl⟩
theorem Ik(n m:Int)(w:World)(h:0<=m/\m<=1073741824):Calls Tryz.prog 101 #[.int .i64 n,.int .i64 0,.int .i64 m] w λe w'=>e=.returned (.int .i64 (Fe.to n m))/\w=w':=by
 rw[<-Fe.TK h.1 h.2];exact rP n 0 m w
theorem Ku{a b c d f a' b' c' d' f':Int}(h1:a=a')(h2:b=b')(h3:c=c')(h4:d=d')(h5:f=f'):Ending.returned (.agg #[.int .i64 a,.int .i64 b,.int .i64 c,.int .i64 d,.int .i64 f])=.returned (.agg #[.int .i64 a',.int .i64 b',.int .i64 c',.int .i64 d',.int .i64 f']):=by rw[h1,h2,h3,h4,h5]
set_option maxHeartbeats 4000000 in
theorem Kv(x:Fe.It)(w:World):Calls Tryz.prog 301 #[enc x] w λe w'=>e=.returned (enc (Fe.cnt x))/\Below w.heap.size w w':=by
 obtain⟨b,lo,hi,g,s⟩:=x;simp only[enc,Fe.cnt];go_enter Tryz.func301,Tryz.ntmps301
 go_wp2;refine QB 16 1 ?_ (h0:=by first|assumption|exact Below.refl _ _)
 (repeat (first|refine nN ?_ | refine nO ?_ (hc:=by intro w2 hS;first|with_reducible exact JM hS (Ik _ _ _ ak))|refine nP ?_))
 refine aj.dJ ?_;intro w2 hS;obtain⟨hc,hf⟩:=kP hS;refine xV ?_;intro K hK;go_simp;refine hK _ _ (aj.bP ?_);clear hK K;go_wp2;refine bodyPost_ret (v:=.agg #[.int .i64 _,.int .i64 _,.int .i64 _,.int .i64 _,.int .i64 _]) (by simp[results,Tryz.results301,go_sem, *];first|done|exact⟨rfl,rfl⟩|exact⟨rfl,rfl,rfl,rfl⟩|exact⟨rfl,rfl,rfl,rfl,rfl⟩|rfl) rfl ⟨Ku rfl rfl rfl rfl rfl,?_⟩;exact Z5
theorem tC{w:World}{b:Nat}{T:TypeId}(f:Nat->Int)(n:Nat)(hn:n<=maxLen)(h:At w b (.cells (aK f n n) T)):Ints w (some ⟨b,0,none⟩) ((List.range n).map f):=by
 refine⟨by simpa using hn,λh0=>⟨b,0,rfl,λk hk => ?_⟩⟩;simp only[List.length_map,List.length_range]at hk;rw[h.cell,Nat.zero_add,cK _ hk];simp[hk]
theorem NC(f:Nat->Int)(n:Nat)(h:∀k,k<n->f k=0):aK f n 0=aK f n n:=by
 unfold aK;congr 1;apply List.map_congr_left;intro j hj;have hj:j<n:=by simpa using hj
 simp[hj,h j hj]
set_option maxHeartbeats 4000000 in
theorem Cq(A:Option Addr)(l:List Int)(n c:Nat)(x:Int)(w:World)(hI:Ints w A l)(hl:l.length=n)(hn:n<=64) :
  Calls Tryz.prog 317 #[.int .i64 x,.slice A n c] w λe w'=>(∃b,e=.returned (.slice (some ⟨b,0,none⟩) n n)/\w.heap.size<=b/\Ints w' (some ⟨b,0,none⟩) (Fe.share x l))/\Below w.heap.size w w':=by
 obtain⟨i0,hi0,hz0,hz1,hz2⟩:=info_parts intZero;have HI:=Lib.hid hI;clear hI;have HL:=Lib.hid hl;clear hl;go_enter Tryz.func317,Tryz.ntmps317
 go_upto_region 5 with(first|first|(go_at_call 101;with_reducible refine wL (Ik _ _ _ ak) ?_)|(at_make;refine wpList_make_row _ rfl _ _ 30 rfl 3 i0 (.int .i64 0) Tryz.underlying30 hi0 hz0 hz1 rfl .i64 .i64 n rfl rfl Qr ak ?_))
 have Mg:At (w.alloc (.cells (madeCells #[.int .i64 0] n) 3)) w.heap.size (.cells (aK (Fe.part x l) n 0) 3):=by rw[<-jM];exact At.new _ _
 have hB0:Below w.heap.size w (w.alloc (.cells (madeCells #[.int .i64 0] n) 3)):=Below.alloc' (Below.refl _ _) _;generalize (w.alloc (.cells (madeCells #[.int .i64 0] n) 3))=W1 at *;have HI1:Hid (Ints W1 A l):=Lib.hid (HI.out.after hB0);obtain⟨N,hN⟩:∃N,N=Fe.to x 67108864:=⟨_,rfl⟩;have N1:0<=N:=by rw[hN];exact Fe.rH ak
 have N2:N<=67108864:=by rw[hN];exact Fe.ug ak
 rw[<-hN];have HN:=Lib.hid hN;clear hN;have HA0:=Lib.hid Mg;clear Mg;have HB0:=Lib.hid hB0;clear hB0;go_wp2
 go_loop [6,24] (λs i=>∃k:Nat,k<=n/\i=.int .i64 k/\s=.int .i64 (Fe.up l k)) (λ_ i=>n-(intOf i).toNat)
 case atStart=>exact⟨0,by omega,rfl,rfl⟩
 case round =>
  obtain⟨k,hk,rfl,rfl⟩:=hrel;by_cases hlt:k<n
  . obtain⟨b1,o1,hA1,l1,c1⟩:=HI1.out.at_ (k:=k) (by rw[HL.out];exact hlt)
    have hs:Hid (Fe.up l k+Fe.cw (l.getD k 0)=Fe.up l (k+1)):=Lib.hid rfl;have g1:=Fe.Cy l k;have g2:Fe.up l k<=68719476736:=by have:=Fe.JD l k;omega
    have g3:=Fe.TI (l.getD k 0);have g4:=Fe.TJ (l.getD k 0);generalize l.getD k 0=z at *;generalize Fe.up l k=u at *;subst hA1
    go_wp2_with (first|(go_at_call 320;with_reducible refine wL (Py _ _) ?_))
    go_round
    case rel=>exact⟨k+1,by omega,by go_num,by rw[hs.out]⟩
    case measure=>simp[intOf];omega
  . obtain rfl:k=n:=by omega
    have ha:Hid (Fe.up l k=Fe.all l):=Lib.hid (by unfold Fe.all;rw[HL.out]);have g1:=Fe.Cy l k;have g2:Fe.up l k<=68719476736:=by have:=Fe.JD l k;omega
    generalize ha':Fe.up l k=a at *;by_cases h0:a=0
    . subst h0
      go_wp2;refine bodyPost_ret (v:=.slice (some ⟨w.heap.size,0,none⟩) k k) (by simp[results,Tryz.results317,go_sem, *];first|done|exact⟨rfl,rfl⟩|rfl) rfl ⟨⟨w.heap.size,rfl,ah _,?_⟩,HB0.out⟩;unfold Fe.share;rw[HL.out];refine tC (T:=3) _ k Jv ?_;have h9:=HA0.out;rw[NC _ _ (λj _=>Fe.FQ (ha.out.symm) j)]at h9;exact h9
    . have ha1:1<=a:=by omega
      have HAA:Hid (Fe.up l k=a):=Lib.hid ha';clear ha';go_wp2
      go_loopw [9,10,38] (λh t i wr=>∃j:Nat,j<=k/\i=.int .i64 j/\h=.int .i64 (Fe.up l j)/\t=.int .i64 (Fe.so x l j)/\At wr w.heap.size (.cells (aK (Fe.part x l) k j) 3)/\Below w.heap.size w wr) (λ_ _ i _=>k-(intOf i).toNat)
      case atStart=>exact⟨0,by omega,rfl,rfl,by rw[Fe.O7],HA0.out,HB0.out⟩
      case round =>
       obtain⟨j,hj,rfl,rfl,rfl,hA,hB⟩:=hrel;by_cases hjt:j<k
       . obtain⟨b1,o1,hA1,l1,c1⟩:=(HI.out.after hB).at_ (k:=j) (by rw[HL.out];exact hjt)
         have hs:Hid (Fe.up l j+Fe.cw (l.getD j 0)=Fe.up l (j+1)):=Lib.hid rfl;have g3:=Fe.TI (l.getD j 0);have g4:=Fe.TJ (l.getD j 0);have g5:=Fe.Cy l j;have g6:Fe.up l j<=68719476736:=by have:=Fe.JD l j;omega
         have hq:Hid (N*Fe.up l (j+1)/a=Fe.so x l (j+1)):=Lib.hid (by unfold Fe.so;rw[HN.out,ha.out]);have hp:Hid (Fe.so x l (j+1)-Fe.so x l j=Fe.part x l j):=Lib.hid rfl;have q1:=Fe.aaQ x l j;have q2:=Fe.He x l (show j<=j+1 by omega);have q3:Fe.so x l (j+1)<=67108864:=Int.le_trans (Fe.aaR x l (k:=j+1) Z58) (Fe.ug ak);have p1:=Fe.adw x l (k:=j+1) ak;rw[<-HN.out]at p1;have e1:(N*Fe.up l (j+1)).tdiv a=Fe.so x l (j+1):=by
          rw[<-hq.out];exact Int.tdiv_eq_ediv_of_nonneg p1.1
         have W2:Hid (wrap64 ((wrap64 (N*Fe.up l (j+1))).tdiv a)=Fe.so x l (j+1)):=Lib.hid (by rw[IntWalk.wrap64_in (N*Fe.up l (j+1)) ak,e1];exact IntWalk.wrap64_in _ ak);have W3:Hid (wrap64 (Fe.so x l (j+1)-Fe.so x l j)=Fe.part x l j):=Lib.hid (by rw[IntWalk.wrap64_in _ ak];exact hp.out);have w3:IntKind.i64.wrap (Fe.up l j+Fe.cw (l.getD j 0))=Fe.up l (j+1):=by rw[hs.out];exact IntWalk.i64_in _ (by have:=Fe.JD l (j+1);have:=Fe.Cy l (j+1);omega)
         have hz:=hA.thaw j;have hc0:=hA.cell j;rw[cK _ hjt]at hc0;have hlb:=hA.lt;clear e1 p1 q1 q2 q3;generalize l.getD j 0=z at *;generalize hu':Fe.up l (j+1)=u' at *;have hs2:=Lib.hid hu';clear hu';generalize Fe.up l j=u at *;generalize hs':Fe.so x l (j+1)=s' at *;have hs1:=Lib.hid hs';clear hs';generalize Fe.so x l j=s at *;generalize hpp:Fe.part x l j=p at *;have HPP:=Lib.hid hpp;clear hpp;subst hA1
         go_wp2_with (first|(go_at_call 320;with_reducible refine wL (Py _ _) ?_))
         go_roundw
         case rel =>
          refine⟨j+1,by omega,by go_num,by rw[hs2.out],by rw[W2.out,hs1.out],?_,Below.setCell hB (ah _) _⟩;rw[W2.out,W3.out,<-j3 _ hjt,HPP.out];exact hA.set j _
         case measure=>simp[intOf];omega
       . obtain rfl:j=k:=by omega
         go_wp2;refine bodyPost_ret (v:=.slice (some ⟨w.heap.size,0,none⟩) j j) (by simp[results,Tryz.results317,go_sem, *];first|done|exact⟨rfl,rfl⟩|rfl) rfl ⟨⟨w.heap.size,rfl,ah _,?_⟩,hB⟩;unfold Fe.share;rw[HL.out];exact tC _ j Jv hA
end Go.Proofs.YtcbcfdihofclkaaGreat.Fix
