/- Steps of the program (7); no conditions. -/
import Derived.Test.YtdnggaapcgomhaaGreatM06
set_option linter.all false
set_option maxRecDepth 100000
set_option maxHeartbeats 16000000
namespace Go.Proofs.YtdnggaapcgomhaaGreat.Fix
open Go.ChangeShapes Go.WideShapes Go.ChangeAt Go.RowKit
open Go.Proofs.Tryz renaming prog → ja0
section
open List renaming setIfInBounds_toArray → ja1,set_cons_zero → ja2,set_cons_succ → ja3,size_toArray → jc4
variable {z:Int}
structure Pr where
 x:Int
 y:Int
 w:Int
 h:Int
def p0:Pr:=⟨0,0,0,0⟩
def Pr.ag(p:Pr):Value:=.agg #[p.x,p.y,p.w,p.h]
def Pr.arr(p:Pr):Array Value:=#[p.x,p.y,p.w,p.h]
def RM(W:World)(m:Nat)(R:Int->Option Pr):Prop:=∃n g,GM 3 W m n g/\∀z,g (.int .i64 z)=(R z).map Pr.ag
section
variable {W W':World} {m:Nat} {R:Int->Option Pr}
theorem RM.lt(h:RM W m R):m<W.heap.size:=by obtain⟨n,g,h,_⟩:=h;exact h.lt
theorem RM.out{M:Nat->Prop}(h:RM W m R)(hm:¬ M m)(q:Out M W W'):RM W' m R:=by obtain⟨n,g,h,r⟩:=h;exact⟨n,g,h.out hm q,r⟩
theorem RM.keep(h:RM W m R)(hb:Below W W W'):RM W' m R:=by obtain⟨n,g,h,r⟩:=h;exact⟨n,g,h.keep hb,r⟩
theorem RM.look(h:RM W m R)(hz:Wf z):(Instr.lookup 28 (.map (some m)) (.int .i64 z) false).run ja0 W=.ok (.agg #[.int .i64 ((R z).getD p0).x,.int .i64 ((R z).getD p0).y,.int .i64 ((R z).getD p0).w,.int .i64 ((R z).getD p0).h]) W:=by
 obtain⟨n,g,h,r⟩:=h;have k:=h.look iT Tryz.underlying28 (z:=.agg #[(),(),(),()]) aV (iA hz);rw[r]at k;rw[k];cases R z<;>rfl
theorem RM.look_ok(h:RM W m R)(hz:Wf z):(Instr.lookup 28 (.map (some m)) (.int .i64 z) true).run ja0 W=.ok (.tuple #[.agg #[.int .i64 ((R z).getD p0).x,.int .i64 ((R z).getD p0).y,.int .i64 ((R z).getD p0).w,.int .i64 ((R z).getD p0).h],.bool (R z).isSome]) W:=by
 obtain⟨n,g,h,r⟩:=h;have k:=h.look_ok iT Tryz.underlying28 (z:=.agg #[(),(),(),()]) aV (iA hz);rw[r]at k;rw[k];cases R z<;>rfl
end
theorem Bb(x y a b:Int)(w:World):Calls ja0 90 #[.agg #[x,y,a,b]] w λe w'=>e=.returned (pt x y)/\Below w w w':=by
 go_enter Tryz.func90,Tryz.ntmps90
 go_wp2_with (go_at_call 12;refine(nO _ _ _).mono ?_;rintro e w' ⟨rfl,rfl⟩)
 go_ret
 exact⟨rfl,aB aD _⟩
def cnt(T:Tr.T)(R:Int->Option Pr):Nat->Int->Bool
 | 0,_=>true
 | f+1,z=>match T z with
   | none=>true
   | some nd=>(R z).isSome&&cnt T R f nd.up
section
variable {w:World} {t n:Nat} {L:Lay} {T:Tr.T} {m:Nat} {R:Int->Option Pr}
theorem xg(h:dQ w t L T n)(hm:RM w m R)(hz:Wf z)(hn:T z=none):Calls ja0 49 #[t,.map (some m),z] w λe w'=>e=.returned (.bool false)/\w=w':=by
 have key:=eZ h hz;rw[hn]at key;clear h;go_enter Tryz.func49,Tryz.ntmps49
 exact Z1t
theorem mY(h:dQ w t L T n)(hmm:RM w m R)(hr:∀nd,T 0=some nd->nd.up = -1){d:Nat}(hd:Tr.Dp T z d):Calls ja0 49 #[t,.map (some m),z] w λe w'=>e=.returned (.bool (cnt T R (d+1) z))/\Below w w w':=by
 have hm:T (-1)=none:=by
  exact Z29
 obtain⟨nd0,hT0⟩:=hd.live;have XM:=eZ h (h.wf hT0);rw[hT0]at XM;have HR:=ah h;have HMM:=ah hmm;have GH:=ah hr;have HD:=ah hd;obtain⟨ans,eF⟩:∃x,Hid (cnt T R (d+1) z=x):=⟨_,ah rfl⟩;rw[eF.out];clear h hr hd hT0 hmm;go_enter Tryz.func49,Tryz.ntmps49
 go_wp2_with (go_at_call 59;(with_reducible refine XM.mono ?_);rintro e w' ⟨rfl,rfl⟩)
 go_loopw [2] (λi wr=>((∃(y:Int) (q:Nat),i=.int .i64 y/\Tr.Dp T y q/\cnt T R (q+1) y=ans)\/(i=.int .i64 (-1)/\ans=true))/\Below w w wr) (λi _=>uj T (intOf i))
 case atStart=>exact⟨.inl ⟨z,d,rfl,HD.out,eF.out⟩,Below.refl _ _⟩
 case round =>
  obtain⟨hrel,hB⟩:=hrel;rcases hrel with⟨y,q,rfl,hD,hs⟩|⟨rfl,rfl⟩
  . obtain⟨nd,hT⟩:=hD.live
    have h1:=HR.out.after hB;have key:=eZ h1 (h1.wf hT);rw[hT]at key;have hlk:=(HMM.out.keep hB).look_ok (h1.wf hT);have HB:=ah hB;have Rc:=ah hD;have PO:=ah hs;have HT:=ah hT;have H1:=ah h1;have ql:=λX (hb:Below wr wr X)=>nZ (h1.after hb) (h1.wf hT);have hu:Hid (iX T y=nd.up):=ah (by unfold iX;rw[hT]);generalize iX T y=u at *;obtain⟨r,hrr⟩:=aA ((R y).getD p0);obtain⟨c,hcc⟩:=aA ((R y).isSome);rw[hrr,hcc]at hlk;have HC:=ah hcc;clear hB hD hs h1 hT hrr hcc
    go_upto_region 5 with(go_at_call 59;(with_reducible refine key.mono ?_);rintro e w' ⟨rfl,rfl⟩)
    generalize hW:World.alloc _ _=w2;have hb2:Below wr wr w2:=hW▸aB aD _;have hB2:Below w w w2:=Below.ay HB.out aC hb2;clear hW hlk key;cases c
    . go_wp2
      go_ret
      refine⟨dF ?_,hB2⟩;rw[<-PO.out];show false=(match T y with|none=>true|some nd=>(R y).isSome&&cnt T R q nd.up);rw[HT.out];simp only[HC.out,Bool.false_and]
    . go_wp2_with (go_at_call 21;(with_reducible refine(ql _ hb2).mono ?_);rintro e w' ⟨rfl,rfl⟩)
      have hs:=PO.out;rw[hu.out];have hsh:cnt T R (q+1) y=cnt T R q nd.up:=by
       show(match T y with|none=>true|some nd=>(R y).isSome&&cnt T R q nd.up)=_;rw[HT.out];simp only[HC.out,Bool.true_and]
      rw[hsh]at hs;exact Zg
  . exact Z2b
end
def kf(R:Int->Option Pr)(l:List Int):List Int:=l.filter λk=>(R k).isSome
theorem abE(R:Int->Option Pr)(l:List Int)(x:Int):kf R (l++[x])=if (R x).isSome=true then kf R l++[x]else kf R l:=by
 unfold kf;rw[List.filter_append,List.filter_cons];split<;>simp
theorem adY(R:Int->Option Pr)(l:List Int)(k:Nat):(kf R (l.take k)).length<=l.length:=by
 unfold kf;have:=List.length_filter_le (λk=>(R k).isSome) (l.take k);rw[List.length_take]at this;omega
theorem UD(w:World)(e:TypeId)(sz:Nat):(w.alloc (.cells #[] e)).ownsRow w.heap.size e sz (.slice w 0 0) 0 [] :=
 ⟨by simp,.inr ⟨w.heap.size,0,#[],rfl,aH _,At.new _ _,aH _,by simp[maxLen],by simp,by simp⟩⟩
section
variable {w:World} {t n:Nat} {L:Lay} {T:Tr.T} {m:Nat} {R:Int->Option Pr}
theorem Ej(h:dQ w t L T n)(hmm:RM w m R){nd:Tr.Nd}(hT:T z=some nd)(ks:List Int)(hks:nd.kids=ks)(hw:∀x∈ks,Wf x)(hl:ks.length<=5000):Calls ja0 88 #[t,.map (some m),z] w λe w'=>(∃v,e=.returned v/\w'.ownsRow w.heap.size 3 1 v (kf R ks).length ((kf R ks).map (Value.int .i64)))/\Below w w w':=by
 have HM:=ah hmm;have HW:=ah hw;have HL:=ah hl;have qC:=λX (hb:Below w w X)=>Hg (h.after hb) (h.wf hT);rw[hT]at qC;simp only[Option.elim_some,hks]at qC;clear hks h hT hmm hw hl;go_enter Tryz.func88,Tryz.ntmps88
 go_upto_region 2 with(fail)
 have ho0:=UD w 3 1;have hB0:Below w w (w.alloc (.cells #[] 3)):=aB aD _;have hs0:w.heap.size+1=(w.alloc (.cells #[] 3)).heap.size:=by simp
 generalize w.alloc (.cells #[] 3)=w0 at *
 go_upto_region 3 with(go_at_call 28;(with_reducible refine(qC _ hB0).mono ?_);rintro e w1 ⟨⟨v1,rfl,ho1⟩,hb1⟩;obtain⟨A1,c1,rfl⟩:=dY ho1)
 have hB1:=hB0.trans (hb1.mono hB0.size);have hk1:=dP (base':=w.heap.size) ho1 hB0.size;have IV:Apart (.slice A1 ks.length c1) (.slice w 0 0):=by
  by_cases hn:(Value.slice A1 ks.length c1).ownBlock=none
  . exact .inl hn
  . refine .inr (.inr λe => ?_)
    have:=(ho1.lt w.heap.size (by rw[e];rfl)).1;omega
 have ho2:=bG (M:=λ_=>False) ho0 (λ_ _ q=>q) (Out.of_below hb1);clear ho0 ho1 hb1 hB0 qC hs0
 go_loopw [7,17] (λv i wr=>∃k:Nat,k<=ks.length/\i=.int .i64 (k:Nat)/\wr.ownsRow w.heap.size 3 1 v (kf R (ks.take k)).length ((kf R (ks.take k)).map (Value.int .i64))/\wr.ownsRow w.heap.size 3 1 (.slice A1 ks.length c1) ks.length (ks.map (Value.int .i64))/\Apart (.slice A1 ks.length c1) v/\Below w w wr) (λ_ i _=>ks.length-(intOf i).toNat)
 case atStart=>exact⟨0,by omega,rfl,by simpa[kf]using ho2,hk1,IV,hB1⟩
 case round =>
  clear ho2 hk1 IV hB1;obtain⟨k,hkl,rfl,hv,hu,hap,hB⟩:=hrel;by_cases hlt:k<ks.length
  . obtain⟨A6,c6,e6,hI6,-⟩:=KS.ints (show KS wr (.slice A1 ks.length c1) ks from dP hu oI)
    injection e6 with e7 e8 e9;subst e7;obtain⟨b0,o0,Ue,l0,c0⟩:=hI6.at_ (k:=k) hlt;obtain⟨x,hx⟩:=aA (ks.getD k 0);have hxx:ks[k]=x:=by rw[<-hx,List.getD_eq_getElem?_getD,List.getElem?_eq_getElem hlt];rfl
    have hwx:Wf x:=HW.out x (hxx▸List.getElem_mem _);have htk:ks.take (k+1)=ks.take k++[x]:=by rw[List.take_succ_eq_append_getElem hlt,hxx]
    have hlk:=(HM.out.keep hB).look_ok hwx;have hkn:=adY R ks k;have Db:=ah hlt;have hlenL:=HL.out;have hwk:wrap64 ((k:Int)+1)=(k:Int)+1:=IntWalk.wrap64_in _ ak;have hsn:=abE R (ks.take k) x;obtain⟨r,hrr⟩:=aA ((R x).getD p0);obtain⟨c,hcc⟩:=aA ((R x).isSome);rw[hrr,hcc]at hlk;rw[hcc,<-htk]at hsn;subst Ue;rw[hx]at c0;clear hrr hcc hx hxx htk hI6 e8 e9
    go_upto_region 6 with(fail)
    have hB3:Below wr wr (wr.alloc (.cells #[r.x,r.y,r.w,r.h] 40)):=aB aD _;have hv3:=hv.alloc (.cells #[r.x,r.y,r.w,r.h] 40);have hu3:=hu.alloc (.cells #[r.x,r.y,r.w,r.h] 40);have hB4:=Below.ay hB aC hB3;generalize wr.alloc (.cells #[r.x,r.y,r.w,r.h] 40)=w3 at *;clear hlk hv hu hB c0 l0;cases c
    . rw[if_neg aG]at hsn
      have HSN:=ah hsn;clear hsn;go_wp2
      go_roundw
      case rel =>
       refine⟨k+1,Nat.succ_le_of_lt Db.out,by go_num,?_⟩
       . rw[HSN.out]
         exact⟨hv3,hu3,hap,hB4⟩
      case measure =>
       exact uT Db.out
    . rw[if_pos rfl]at hsn
      have HSN:=ah hsn;obtain⟨g,c,w4,hr,ho4,hp4,ha4,hb4,hs4⟩:=xB x hv3 hu3 hap hB4.size ak;have HRR:=ah hr;obtain⟨A7,c7,rfl⟩:=dY hv3;clear hr hsn hv3 hu3
      go_wp2_with (at_builtin;refine wpList_append_run aR _ _ 37 rfl rfl rfl HRR.out ?_)
      (try simp only[bM,bN,bO,tks])
      (try simp only[Act.put,ja1,ja2,ja3,jc4,Array.getD_eq_getD_getElem?])
      go_roundw
      case rel =>
       refine⟨k+1,Nat.succ_le_of_lt Db.out,by go_num,?_⟩
       . rw[HSN.out]
         exact⟨by rw[List.length_append];exact ho4,hp4,ha4,hB4.trans hb4⟩
      case measure =>
       exact uT Db.out
  . obtain rfl:k=ks.length:=by omega
    rw[List.take_length]at hv;go_wp2
    go_ret
    exact⟨⟨_,rfl,hv⟩,hB⟩
end
end
section
open Go.Shelf
open List renaming length_cons → ja9,append_toArray → jc2,size_toArray → jc4,push_toArray → jc',cons_append → jd1
open World renaming putObj_heap_other → jc7
variable {S:Nat->Fe.St}{W:World}{I n:Nat}
attribute [local go_sem] Oper.semAt_some
def KV(s:Fe.St)(j:Nat):Value :=
 if j=0 then .int .i64 s.x.b else if j=1 then .int .i64 s.x.lo else if j=2 then .int .i64 s.x.hi else if j=3 then .int .i64 s.x.g else if j=4 then .int .i64 s.x.s
 else if j=5 then .int .i64 s.z else if j=6 then .int .i64 s.m else .bool s.f
def rX(W:World)(I n:Nat)(S:Nat->Fe.St):Prop :=
 ∃vs:Array Value,At W I (.cells vs 318)/\vs.size=n*8/\∀i j,i<n->j<8->vs[i*8+j]? = some (KV (S i) j)
theorem rX.lt(h:rX W I n S):I<W.heap.size:=by obtain⟨_,h,_⟩:=h;exact h.lt
theorem rX.cell(h:rX W I n S){i:Nat}(hi:i<n)(j:Nat)(hj:j<8):W.cell? ⟨I,i*8+j,none⟩=some (KV (S i) j):=by
 obtain⟨vs,h,_,hc⟩:=h;rw[h.cell];exact hc i j hi hj
theorem rX.thaw(h:rX W I n S)(k:Nat):W.frozen? ⟨I,k,none⟩=false:=by
 obtain⟨vs,h,_⟩:=h;exact h.thaw k
theorem rX.keep{W W':World}(h:rX W I n S)(hb:Below W W W'):rX W' I n S:=by
 obtain⟨vs,h,r⟩:=h;exact⟨vs,h.keep hb,r⟩
theorem rX.alloc(h:rX W I n S)(o:Obj):rX (W.alloc o) I n S:=by
 obtain⟨vs,h,r⟩:=h;exact⟨vs,h.alloc o,r⟩
theorem rX.off{I n b k:Nat}(h:rX W I n S)(hne:I≠b)(v:Value):rX (W.setCell ⟨b,k,none⟩ v) I n S:=by
 obtain⟨vs,h,r⟩:=h;exact⟨vs,h.off hne k v,r⟩
theorem rX.same{S T:Nat->Fe.St}(h:rX W I n S)(hs:∀i,i<n->S i=T i):rX W I n T:=by
 obtain⟨vs,h,hz,hc⟩:=h;exact⟨vs,h,hz,λi j hi hj=>by rw[hc i j hi hj,hs i hi]⟩
theorem rX.put{S T:Nat->Fe.St}{i j:Nat}{v:Value}(h:rX W I n S)(hi:i<n)(hj:j<8)(hv:KV (T i) j=v)(ho:∀q,q<8->q≠j->KV (T i) q=KV (S i) q)(hs:∀k,k<n->k≠i->T k=S k) :
  rX (W.setCell ⟨I,i*8+j,none⟩ v) I n T:=by
 obtain⟨vs,h,hz,hc⟩:=h;refine⟨_,h.set (i*8+j) v,by simpa using hz,λk q hk hq => ?_⟩;rw[Array.getElem?_setIfInBounds];by_cases e:i*8+j=k*8+q
 . obtain rfl:i=k:=by omega
   obtain rfl:j=q:=by omega
   rw[if_pos rfl,if_pos ak,hv]
 . rw[if_neg e,hc k q hk hq]
   by_cases hik:k=i
   . subst hik
     rw[ho q hq ak]
   . rw[hs k hk hik]
theorem rX.turn{I n r:Nat}(h:rX W I n S)(hne:I≠r)(o:Obj):rX (W.putObj r o) I n S:=by
 obtain⟨vs,h,r⟩:=h;exact⟨vs,(jc7 hne).trans h,r⟩
theorem At.turn{b r:Nat}{x:Obj}(h:At W b x)(hne:b≠r)(o:Obj):At (W.putObj r o) b x:=(jc7 hne).trans h
def PX(I n:Nat)(room way:Int):Obj:=.cells #[.slice I n n,room,way] 316
def adZ(R I n:Nat)(room way:Int)(S:Nat->Fe.St)(i:Nat)(W:World):Prop :=
 At W R (PX I n room way)/\I<W.heap.size/\∀k,i<=k->k<n->W.cell? ⟨I,k*8+7,none⟩=some (.bool (S k).f)
theorem rG(n R I N:Nat)(room way:Int)(S:Nat->Fe.St)(hN:N<=64)(lp:Nat)(J:Nat->World->Prop)(Jx:World->Prop)(W:World)
  (hV:∀i W,J i W->adZ R I N room way S i W) (Ry:∀i W,i<N->(S i).f=true->J i W->J (i+1) W)
  (hY:∀i W,i<N->(S i).f=false->J i W->YieldAt Fence.wide (n-1) ja0 lp #[.int .i64 (Fe.pl S i:Nat),.pointer (some ⟨I,i*8,none⟩)] W λe W'=>(e=.returned (.bool true)/\J (i+1) W')\/(e=.returned (.bool false)/\Jx W')) (h0:J 0 W) :
  CallsIn Fence.wide n ja0 225 (#[.pointer R] ++ #[.func (.yield lp) #[] #[]] ++ #[]) W λe W'=>(∃v,e=.returned v)/\(J N W'\/Jx W'):=by
 have HY:=ah hY;have HV:=ah hV;have HS:=ah Ry;obtain⟨a0,_,_⟩:=hV 0 W h0;have l0:=a0.lt;have c0:=a0.cell 0;replace c0:W.cell? ⟨R,0,none⟩=some (.slice I N N):=c0;have H0:=ah h0;clear hY hV Ry a0 h0;refine callsIn_of_wp Tryz.func225 rfl trivial ?_ rfl;simp only[Tryz.ntmps225,jc4,ja9,List.length_nil,Nat.reduceAdd,Nat.reduceSub,Array.replicate_succ,Array.replicate_zero,jc',jc2,List.nil_append,jd1]
 gi_wp2
 gi_loopw [4,12] (λp i wr=>∃k:Nat,k<=N/\i=.int .i64 k/\p=.int .i64 (Fe.pl S k:Nat)/\J k wr) (λ_ i _=>N-(intOf i).toNat)
 case atStart=>exact⟨0,by omega,rfl,rfl,H0.out⟩
 case round =>
  obtain⟨k,hk,rfl,rfl,hJ⟩:=hrel;obtain⟨a1,li,cs⟩:=HV.out k wr hJ;have l1:=a1.lt;have c1:=a1.cell 0;replace c1:wr.cell? ⟨R,0,none⟩=some (.slice I N N):=c1;by_cases hlt:k<N
  . have hltz:(k:Int)<(N:Int):=by omega
    have cf:=cs k aC hlt;have hpl:=Fe.Rs S k;cases hf:(S k).f with
    | true =>
      rw[hf]at cf;have hJ2:=HS.out k wr hlt hf hJ;have HP:Hid (Fe.pl S (k+1)=Fe.pl S k):=ah (by simp[Fe.pl,hf]);clear cs
      gi_wp2
      go_roundw
      case rel=>exact⟨k+1,by omega,by go_num,by rw[HP.out],hJ2⟩
      case measure=>simp[intOf];omega
    | false =>
      rw[hf]at cf;have HP:Hid (Fe.pl S (k+1)=Fe.pl S k+1):=ah (by simp[Fe.pl,hf]);obtain⟨fn,tmps,assign,body,hy,hR⟩:=HY.out k wr hlt hf hJ;clear cs
      gi_wp2
      refine⟨λhd=>Z4l,hR.mono ?_⟩;rintro e W3 (⟨rfl,hJ3⟩|⟨rfl,hJx3⟩)
      . gi_wp2
        go_roundw
        case rel=>exact⟨k+1,by omega,by go_num,by rw[HP.out];go_num,hJ3⟩
        case measure=>simp[intOf];omega
      . gi_wp2
        refine bodyPost_ret (results_none rfl _ _ _) rfl ?_;exact⟨⟨_,rfl⟩,.inr hJx3⟩
  . have hltz:¬ (k:Int)<(N:Int):=by omega
    obtain rfl:k=N:=by omega
    gi_wp2
    go_end0
    exact⟨⟨_,rfl⟩,.inl hJ⟩
end
section
variable {S:Nat->Fe.St}{room:Int}{R I n:Nat}
def eH(W:World)(R I n:Nat)(room:Int)(gr:Bool)(S:Nat->Fe.St):Prop:=At W R (PX I n room (Fe.sg gr))/\rX W I n S
theorem eH.keep{W W':World}{gr:Bool}(h:eH W R I n room gr S)(hb:Below W W W'):eH W' R I n room gr S:=⟨h.1.keep hb,h.2.keep hb⟩
theorem eH.drew{W:World}{gr:Bool}(h:eH W R I n room gr S):eH W.drew R I n room gr S:=h.keep (Below.refl _ _).drew
theorem eH.cells{W:World}{gr:Bool}(h:eH W R I n room gr S) :
 R<W.heap.size/\W.cell? ⟨R,0,none⟩=some (.slice I n n)/\W.cell? ⟨R,1,none⟩=some (.int .i64 room)/\W.cell? ⟨R,2,none⟩=some (.int .i64 (Fe.sg gr)):=⟨h.1.lt,h.1.cell 0,h.1.cell 1,h.1.cell 2⟩
theorem rX.fields{W:World}{I n:Nat}(h:rX W I n S){i:Nat}(hi:i<n) :
  I<W.heap.size/\W.cell? ⟨I,i*8,none⟩=some (.int .i64 (S i).x.b)/\W.cell? ⟨I,i*8+1,none⟩=some (.int .i64 (S i).x.lo)/\W.cell? ⟨I,i*8+2,none⟩=some (.int .i64 (S i).x.hi)/\W.cell? ⟨I,i*8+3,none⟩=some (.int .i64 (S i).x.g)/\W.cell? ⟨I,i*8+4,none⟩=some (.int .i64 (S i).x.s) /\
   W.cell? ⟨I,i*8+5,none⟩=some (.int .i64 (S i).z)/\W.cell? ⟨I,i*8+6,none⟩=some (.int .i64 (S i).m)/\W.cell? ⟨I,i*8+7,none⟩=some (.bool (S i).f) :=
 ⟨h.lt,h.cell hi 0 ak,h.cell hi 1 ak,h.cell hi 2 ak,h.cell hi 3 ak,h.cell hi 4 ak,h.cell hi 5 ak,h.cell hi 6 ak,h.cell hi 7 ak⟩
theorem sZ(R I n i:Nat)(room:Int)(gr:Bool)(S:Nat->Fe.St)(w:World)(h:eH w R I n room gr S)(hi:i<n) :
  Calls ja0 230 #[R,.pointer (some ⟨I,i*8,none⟩)] w λe w'=>e=.returned (.int .i64 (Fe.fac gr (S i).x))/\w=w':=by
 obtain⟨l0,c0,c1,c2⟩:=h.cells;obtain⟨l1,d0,d1,d2,d3,d4,d5,d6,d7⟩:=h.2.fields hi;clear h c0 c1 d0 d1 d2 d5 d6 d7;cases gr
 . simp only[Fe.fac,Fe.sg,Bool.false_eq_true,if_false]at *
   go_enter Tryz.func230,Tryz.ntmps230
   go_wp2;exact Zv
 . simp only[Fe.fac,Fe.sg,if_true]at *
   go_enter Tryz.func230,Tryz.ntmps230
   go_wp2;exact Zv
theorem PY(R I n i:Nat)(room:Int)(gr:Bool)(S:Nat->Fe.St)(w:World)(h:eH w R I n room gr S)(hi:i<n)(hb:(0<=(S i).x.b/\(S i).x.b<=1048576)/\0<=(S i).x.s/\(S i).x.s<=1000) :
  Calls ja0 227 #[R,.pointer (some ⟨I,i*8,none⟩)] w λe w'=>e=.returned (.int .i64 (Fe.wt gr (S i).x))/\Below w w w':=by
 obtain⟨l0,c0,c1,c2⟩:=h.cells;obtain⟨l1,d0,d1,d2,d3,d4,d5,d6,d7⟩:=h.2.fields hi;clear h c0 c1 d1 d2 d5 d6 d7;cases gr
 . simp only[Fe.wt,Fe.sg,Bool.false_eq_true,if_false]at *
   obtain⟨⟨b1,b2⟩,b3,b4⟩:=hb;have hp:=Fe.Rp b3 b4 b1 b2;have hw:IntKind.i64.wrap ((S i).x.s*(S i).x.b)=(S i).x.s*(S i).x.b:=IntWalk.i64_in _ ak;have hw2:wrap64 ((S i).x.s*(S i).x.b)=(S i).x.s*(S i).x.b:=IntWalk.wrap64_in _ ak;generalize (S i).x.s=s at *;generalize (S i).x.b=b at *;have HW:=ah hw2;clear hw2;go_enter Tryz.func227,Tryz.ntmps227
   go_upto_region 3 with(fail)
   refine rZ ?_
   (repeat (first|refine jc ?_ | refine jd ?_ (hc:=by intro w2 hS;first|with_reducible exact zn hS (eu _ _))|refine je ?_))
   refine aj.bD ?_;intro w2 hS;go_wp2
   go_ret
   exact⟨bA (by first|rfl|exact HW.out),by(repeat (first|exact Below.refl _ _ | assumption|refine Below.drew ?_ | refine Below.drewN ?_ _ | refine aB ?_ _ | refine Below.setCell ?_ Z46 _ | refine Below.ay ?_ aC (by assumption)))⟩
 . simp only[Fe.wt,Fe.sg,if_true]at *
   clear hb;go_enter Tryz.func227,Tryz.ntmps227
   go_wp2
   go_ret
   exact⟨rfl,Below.refl _ _⟩
theorem UE(R I n i:Nat)(room:Int)(gr:Bool)(S:Nat->Fe.St)(w:World)(h:eH w R I n room gr S)(hi:i<n)(hb:(0<=(S i).x.b/\(S i).x.b<=1048576)/\0<=(S i).z/\(S i).z<=1048576) :
  Calls ja0 226 #[R,.pointer (some ⟨I,i*8,none⟩)] w λe w'=>e=.returned (.bool (Fe.stay gr (S i).x (S i).z))/\Below w w w':=by
 obtain⟨l0,c0,c1,c2⟩:=h.cells;obtain⟨l1,d0,d1,d2,d3,d4,d5,d6,d7⟩:=h.2.fields hi;have HR:=ah h;have Hi:=ah hi;clear h c0 c1 d1 d2 d3 d4 d6 d7 hi;unfold Fe.stay;obtain⟨⟨b1,b2⟩,b3,b4⟩:=hb;generalize hfc:Fe.fac gr (S i).x=fc;have HFC:=ah hfc;clear hfc;generalize (S i).x.b=b at *;generalize (S i).z=z at *;have W1:Hid (IntKind.i64.wrap (Fe.sg gr*b)=Fe.sg gr*b):=ah (IntWalk.i64_in _ (by cases gr<;>simp only[Fe.sg,Bool.false_eq_true,if_false,if_true]<;>omega));have W2:Hid (IntKind.i64.wrap (Fe.sg gr*z)=Fe.sg gr*z):=ah (IntWalk.i64_in _ (by cases gr<;>simp only[Fe.sg,Bool.false_eq_true,if_false,if_true]<;>omega));generalize Fe.sg gr=way at *;by_cases h0:fc=0
 . have k0:(Fe.fac gr (S i).x==0)=true:=by rw[HFC.out];simpa using h0
   subst h0;clear HFC;go_enter Tryz.func226,Tryz.ntmps226
   go_wp2;refine aj.vB aD aV aV aV ?_
   (repeat (first|refine jc ?_ | refine jd ?_ (hc:=by intro w2 hS;first|with_reducible exact zn hS (sZ _ _ _ _ _ _ _ _ (HR.out.keep hS) Hi.out))|refine je ?_))
   try simp only[k0]
   (repeat (first|refine jc ?_ | refine jd ?_ (hc:=by intro w2 hS;first|with_reducible exact zn hS (sZ _ _ _ _ _ _ _ _ (HR.out.keep hS) Hi.out))|refine je ?_))
   refine aj.bD ?_;intro w2 hS;go_wp2
   go_ret
   exact⟨rfl,by(repeat (first|exact Below.refl _ _ | assumption|refine Below.drew ?_ | refine Below.drewN ?_ _ | refine aB ?_ _ | refine Below.setCell ?_ Z46 _ | refine Below.ay ?_ aC (by assumption)))⟩
 . have k0:(Fe.fac gr (S i).x==0)=false:=by rw[HFC.out];simpa using h0
   go_enter Tryz.func226,Tryz.ntmps226
   go_wp2;refine aj.vB aD aV aV aV ?_
   (repeat (first|refine jc ?_ | refine jd ?_ (hc:=by intro w2 hS;first|with_reducible exact zn hS (sZ _ _ _ _ _ _ _ _ (HR.out.keep hS) Hi.out))|refine je ?_))
   try simp only[k0]
   (repeat (first|refine jc ?_ | refine jd ?_ (hc:=by intro w2 hS;first|with_reducible exact zn hS (sZ _ _ _ _ _ _ _ _ (HR.out.keep hS) Hi.out))|refine je ?_))
   refine aj.bD ?_;intro w2 hS;go_wp2
   go_ret
   exact⟨dF (by rw[W1.out,W2.out];simp[h0]),by(repeat (first|exact Below.refl _ _ | assumption|refine Below.drew ?_ | refine Below.drewN ?_ _ | refine aB ?_ _ | refine Below.setCell ?_ Z46 _ | refine Below.ay ?_ aC (by assumption)))⟩
def Sound(S:Nat->Fe.St)(n:Nat):Prop:=∀i,i<n->((0<=(S i).x.b/\(S i).x.b<=1048576)/\0<=(S i).x.s/\(S i).x.s<=1000)/\0<=(S i).z/\(S i).z<=1048576
theorem Jf{n:Nat}(h:Sound S n)(k:Nat)(hk:k<=n):room-1048576*k<=Fe.left room S k/\Fe.left room S k<=room:=by
 induction k with
 | zero=>simp[Fe.left]
 | succ k ih =>
   obtain⟨h1,h2⟩:=ih ak;obtain⟨⟨⟨b1,b2⟩,_⟩,z1,z2⟩:=h k ak;simp only[Fe.left];split<;>constructor<;>omega
theorem Mx(R I n:Nat)(room:Int)(gr:Bool)(S:Nat->Fe.St)(w:World)(h:eH w R I n room gr S)(hs:Sound S n)(hn:n<=64)(hr:0<=room/\room<=67108864) :
  Calls ja0 229 #[R] w λe w'=>e=.returned (.int .i64 (Fe.free gr room S n))/\Below w w w':=by
 have HR:=ah h;have HS:=ah hs;obtain⟨l0,c0,c1,c2⟩:=h.cells;clear h hs c2;go_enter Tryz.func229,Tryz.ntmps229
 go_wp2;clear c0 c1
 go_loopw [3,15] (λl i wr=>∃k:Nat,k<=n/\i=.int .i64 k/\l=.int .i64 (Fe.left room S k)/\Below w w wr) (λ_ i _=>n-(intOf i).toNat)
 case atStart=>exact⟨0,by omega,rfl,rfl,Below.refl _ _⟩
 case round =>
  obtain⟨k,hk,rfl,rfl,hB⟩:=hrel;obtain⟨l0,c0,c1,c2⟩:=(HR.out.keep hB).cells;by_cases hlt:k<n
  . obtain⟨l1,d0,d1,d2,d3,d4,d5,d6,d7⟩:=(HR.out.keep hB).2.fields hlt
    obtain⟨g1,g2⟩:=Jf (room:=room) HS.out k ak;obtain⟨⟨⟨b1,b2⟩,_⟩,z1,z2⟩:=HS.out k hlt;cases hf:(S k).f with
    | true =>
      have HL:Hid (Fe.left room S (k+1)=Fe.left room S k-(S k).z):=ah (by simp[Fe.left,hf]);exact Zt
    | false =>
      have HL:Hid (Fe.left room S (k+1)=Fe.left room S k-(S k).x.b):=ah (by simp[Fe.left,hf]);exact Zt
  . obtain rfl:k=n:=by omega
    obtain⟨g1,g2⟩:=Jf (room:=room) HS.out k ak;obtain⟨q,hq,HQ⟩:∃q,q=(if Fe.sg gr*Fe.left room S k<0 then 0 else Fe.sg gr*Fe.left room S k)/\Fe.free gr room S k=q:=⟨_,rfl,rfl⟩;replace HQ:=ah HQ;generalize Fe.left room S k=u at *;cases gr
    . simp only[Fe.sg,Bool.false_eq_true,if_false]at *
      go_wp2
      all_goals
       go_ret
       exact⟨bA (by rw[HQ.out,hq];(repeat' split)<;>omega),hB⟩
    . simp only[Fe.sg,if_true]at *
      go_wp2
      all_goals
       go_ret
       exact⟨bA (by rw[HQ.out,hq];(repeat' split)<;>omega),hB⟩
end
section
open Go.Shelf
open List renaming setIfInBounds_toArray → ja1,set_cons_zero → ja2,set_cons_succ → ja3,length_cons → ja9,append_toArray → jc2,size_toArray → jc4,push_toArray → jc',cons_append → jd1
variable {S:Nat->Fe.St}{room:Int}{W:World}{gr:Bool}
attribute [local go_sem] Oper.semAt_some
theorem Below.turn{N:Nat}{w W:World}{r:Nat}{o':Obj}(h:Below N w W)(hr:N<=r)(hW:W.heap[r]? = some o')(o:Obj):Below N w (W.putObj r o) :=
 h.trans ((Below.refl N W).grown (grownBy_putObj' W r o) (by have:=(Array.getElem?_eq_some_iff.1 hW).1;omega) (λk e=>by cases e;exact hr))
theorem eH.turn{R I n r:Nat}(h:eH W R I n room gr S)(h1:R<r)(h2:I<r)(o:Obj):eH (W.putObj r o) R I n room gr S:=⟨h.1.turn ak o,h.2.turn ak o⟩
theorem eH.alloc{R I n:Nat}(h:eH W R I n room gr S)(o:Obj):eH (W.alloc o) R I n room gr S:=⟨h.1.alloc o,h.2.alloc o⟩
theorem eH.off{R I n b k:Nat}(h:eH W R I n room gr S)(h1:R≠b)(h2:I≠b)(v:Value):eH (W.setCell ⟨b,k,none⟩ v) R I n room gr S:=⟨h.1.off h1 k v,h.2.off h2 v⟩
theorem eH.sees{R I n:Nat}(h:eH W R I n room gr S)(i:Nat):adZ R I n room (Fe.sg gr) S i W :=
 ⟨h.1,h.2.lt,λk _ hk=>h.2.cell hk 7 ak⟩
theorem KeepsFrom.of_below{B:Nat}{W W':World}(h:Below W W W'):KeepsFrom B W W' :=
 ⟨h.size,λk o _ hk _=>(h.block k (Array.getElem?_eq_some_iff.1 hk).1).trans hk⟩
theorem CP(R I n:Nat)(room:Int)(gr:Bool)(S:Nat->Fe.St)(w:World)(h:eH w R I n room gr S)(hn:n<=64) :
  Calls ja0 219 #[R] w λe w'=>e=.returned (.bool (decide (0<Fe.pl S n)))/\Below w w w':=by
 have Jp:=@ru;have hR:=h.1.lt;have hI:=h.2.lt;have HR:=ah h;clear h;refine(callsIn_wide (n:=5)).1 ?_;refine callsIn_of_wp_marks Tryz.func219 rfl trivial ?_ rfl;simp only[Tryz.ntmps219,jc4,ja9,List.length_nil,Nat.reduceAdd,Nat.reduceSub,Array.replicate_succ,Array.replicate_zero,jc',jc2,List.nil_append,jd1]
 gi_wp2
 have hA:At (w.alloc (.cells #[false] 4)) w.heap.size (.cells #[false] 4):=At.new _ _;have hB:Below w w (w.alloc (.cells #[false] 4)):=aB aD _;have xk:=HR.out.alloc (.cells #[false] 4);have hsz:(w.alloc (.cells #[false] 4)).heap.size=w.heap.size+1:=by simp
 generalize w.alloc (.cells #[false] 4)=W0 at *
 refine jH (n:=5) (gf:=225) (first:=#[R]) (lb:=#[]) rfl (enters_of Tryz.func225 aV rfl) n (λi=>(S i).f) (λi=>#[.int .i64 (Fe.pl S i:Nat),.pointer (some ⟨I,i*8,none⟩)]) (λ_=>rfl)
  (λi W=>eH W R I n room gr S/\At W w (.cells #[false] 4)/\Below w w W/\Fe.pl S i=0)
  (λW=>At W w (.cells #[true] 4)/\Below w w W/\0<Fe.pl S n)
  (λi W r o o' h hr hW _=>⟨h.1.turn ak ak o,h.2.1.turn ak o,Below.turn h.2.2.1 ak hW o,h.2.2.2⟩)
  (λW r o o' h hr hW _=>⟨h.1.turn ak o,Below.turn h.2.1 ak hW o,h.2.2⟩)
  (λo1 o2=>⟨(xk.alloc o1).alloc o2,(hA.alloc o1).alloc o2,aB (aB hB o1) o2,rfl⟩)
  (λlp J Jx W hV hs hY hJ=>rG 4 R I n room (Fe.sg gr) S hn lp J Jx W (λi W h=>(hV i W h).1.sees i) hs hY hJ)
  (λi W hi hf h=>⟨h.1,h.2.1,h.2.2.1,by simp[Fe.pl,hf,h.2.2.2]⟩)
  (λi t=>(t.setIfInBounds 5 (.int .i64 (Fe.pl S i:Nat))).setIfInBounds 6 (.pointer (some ⟨I,i*8,none⟩))) ?assign ?body ?done ?stop
 case assign =>
  intro l i W G hi hG;exact Z1j
 case body =>
  rintro l i W hi hf ⟨sU,hA1,hB1,hp⟩;have hc:=hA1.cell 0;have hz:=hA1.thaw 0;simp only[ja1,ja2,ja3]
  gi_wp2
  exact⟨(KeepsOthers.setCell _ _ _).from _,hA1.set 0 _,Below.setCell hB1 aC _,by have:=Fe.Rt S hi hf;omega⟩
 case done =>
  rintro D W hD ⟨sU,hA1,hB1,hp⟩ hK;have hc:=hA1.cell 0;have hz:=hA1.thaw 0
  gi_wp2
  refine⟨by simp,.inl ⟨_,_,rfl,run_takeDeferred ((KeepsOthers.setCell _ _ _).same D _ hK rfl),?_⟩⟩;have hA2:=(hA1.set 0 (.bool false)).turn (r:=D) ak (.deferred none);have hB2:=Below.turn (Below.setCell hB1 aC (.bool false) (p:=⟨w,0,none⟩)) ak ((KeepsOthers.setCell _ _ _).same D _ hK rfl) (.deferred none);have hc2:=hA2.cell 0;generalize World.putObj _ _ _=W2 at *;refine⟨.bool false,?_,by rw[hp];rfl,hB2⟩;simp[results,Tryz.results219,go_sem,hc2]
 case stop =>
  rintro D W hD ⟨hA1,hB1,hp⟩ hK;have hc:=hA1.cell 0
  gi_wp2
  refine⟨by simp,.inl ⟨_,_,rfl,run_takeDeferred hK,?_⟩⟩;have hA2:=hA1.turn (r:=D) ak (.deferred none);have hB2:=Below.turn hB1 ak hK (.deferred none);have hc2:=hA2.cell 0;generalize World.putObj _ _ _=W2 at *;refine⟨.bool true,?_,by rw[decide_eq_true hp],hB2⟩;simp[results,Tryz.results219,go_sem,hc2]
end
section
open Go.Shelf
open List renaming setIfInBounds_toArray → ja1,set_cons_zero → ja2,set_cons_succ → ja3,length_cons → ja9,append_toArray → jc2,size_toArray → jc4,push_toArray → jc',cons_append → jd1
open World renaming putObj_heap_other → jc7
variable {S T:Nat->Fe.St}
attribute [local go_sem] Oper.semAt_some
def kX(S T:Nat->Fe.St)(i:Nat):Nat->Fe.St:=λk=>if k<i then T k else S k
theorem wJ(S T:Nat->Fe.St):kX S T 0=S:=by funext k;simp[kX]
theorem oo{i k:Nat}(h:i<=k):kX S T i k=S k:=by simp[kX,show¬ k<i by omega]
theorem Hw{i:Nat}(h:T i=S i):kX S T (i+1)=kX S T i:=by
 funext k;unfold kX;rcases Nat.lt_trichotomy k i with h'|h'|h'
 . simp[h',show k<i+1 by omega]
 . subst h';simp[h]
 . simp[show¬ k<i by omega,show¬ k<i+1 by omega]
theorem tq(S T:Nat->Fe.St)(i:Nat):kX S T (i+1) i=T i:=by simp[kX]
theorem yN(S T:Nat->Fe.St){i k:Nat}(h:k≠i):kX S T (i+1) k=kX S T i k:=by
 unfold kX;rcases Nat.lt_or_ge k i with h'|h'
 . simp[h',show k<i+1 by omega]
 . simp[show¬ k<i by omega,show¬ k<i+1 by omega]
theorem yO(S T:Nat->Fe.St)(n:Nat):∀i,i<n->kX S T n i=T i:=λi hi=>by simp[kX,hi]
theorem eH.mixed{W:World}{R I n i:Nat}{room:Int}{gr:Bool}(h:eH W R I n room gr (kX S T i)):adZ R I n room (Fe.sg gr) S i W :=
 ⟨h.1,h.2.lt,λk hk hn=>by have:=h.2.cell hn 7 ak;rw[oo hk]at this;exact this⟩
theorem eH.ne{W:World}{R I n:Nat}{room:Int}{gr:Bool}{S:Nat->Fe.St}(h:eH W R I n room gr S):R≠I:=by
 rintro rfl;obtain⟨h1,vs,h2,_⟩:=h;unfold At PX at h1;unfold At at h2;rw[h1]at h2;injection h2 with h2;injection h2 with _ h2;exact absurd h2 aG
theorem abF{S:Nat->Fe.St}{n:Nat}(h:∀i,i<n->-134217728<=(S i).m/\(S i).m<=134217728)(k:Nat)(hk:k<=n) : -134217728*k<=Fe.made S k/\Fe.made S k<=134217728*k:=by
 induction k with
 | zero=>simp[Fe.made]
 | succ k ih =>
   have:=ih ak;have:=h k ak;simp only[Fe.made];split<;>constructor<;>omega
theorem El(N R I n:Nat)(room:Int)(gr:Bool)(S:Nat->Fe.St)(w:World)(h:eH w R I n room gr S)(hn:n<=64)(hN:N<=I/\N<=w.heap.size)(hm:∀i,i<n->-134217728<=(S i).m/\(S i).m<=134217728) :
  Calls ja0 221 #[R] w λe w'=>(∃v,e=.returned v)/\eH w' R I n room gr (Fe.froze n S)/\Below N w w':=by
 have Jp:=@ru;have hR:=h.1.lt;have hI:=h.2.lt;have HR:=ah h;have HM:=ah hm;clear h hm;refine(callsIn_wide (n:=5)).1 ?_;refine callsIn_of_wp_marks Tryz.func221 rfl trivial ?_ rfl;simp only[Tryz.ntmps221,jc4,ja9,List.length_nil,Nat.reduceAdd,Nat.reduceSub,Array.replicate_succ,Array.replicate_zero,jc',jc2,List.nil_append,jd1]
 gi_wp2
 obtain⟨W0,hA,hB,xk,hsz,hW⟩:∃W0,At W0 w (.cells #[()] 3)/\Below N w W0/\eH W0 R I n room gr S/\W0.heap.size=w.heap.size+1/\w.alloc (.cells #[()] 3)=W0 :=
  ⟨_,At.new w (.cells #[()] 3),(Below.refl _ _).alloc hN.2 _,HR.out.alloc _,by simp,rfl⟩
 rw[hW];clear hW
 refine jH (n:=5) (gf:=225) (first:=#[R]) (lb:=#[]) rfl (enters_of Tryz.func225 aV rfl) n (λi=>(S i).f) (λi=>#[.int .i64 (Fe.pl S i:Nat),.pointer (some ⟨I,i*8,none⟩)]) (λ_=>rfl)
  (λi W=>eH W R I n room gr S/\At W w (.cells #[.int .i64 (Fe.made S i)] 3)/\Below N w W)
  (λW=>False)
  (λi W r o o' h hr hW _=>⟨h.1.turn ak ak o,h.2.1.turn ak o,Below.turn h.2.2 ak hW o⟩)
  (λW r o o' h hr hW _=>h)
  (λo1 o2=>⟨(xk.alloc o1).alloc o2,(hA.alloc o1).alloc o2,(hB.alloc ak o1).alloc iJ o2⟩)
  (λlp J Jx W hV hs hY hJ=>rG 4 R I n room (Fe.sg gr) S hn lp J Jx W (λi W h=>(hV i W h).1.sees i) hs hY hJ)
  (λi W hi hf h=>⟨h.1,by simp only[Fe.made,hf,if_true];exact h.2.1,h.2.2⟩)
  (λi t=>((t.setIfInBounds 9 (.int .i64 (Fe.pl S i:Nat))).setIfInBounds 10 (.pointer (some ⟨I,i*8,none⟩))).setIfInBounds 4 (.pointer (some ⟨I,i*8,none⟩))) ?assign ?body ?done ?stop
 case assign =>
  exact Z13
 case body =>
  rintro l i W hi hf ⟨sU,hA1,hB1⟩;have hc:=hA1.cell 0;have hz:=hA1.thaw 0;have l1:=hA1.lt;obtain⟨l2,d0,d1,d2,d3,d4,d5,d6,d7⟩:=sU.2.fields hi;have g1:=abF HM.out i ak;have g2:=HM.out i hi;have HL:Hid (Fe.made S (i+1)=Fe.made S i+(S i).m):=ah (by simp[Fe.made,hf]);have w1:IntKind.i64.wrap (Fe.made S i+(S i).m)=Fe.made S (i+1):=by rw[HL.out];exact IntWalk.i64_in _ ak
  generalize hT:Fe.made S (i+1)=T at *;have HT:=ah hT;clear hT;generalize Fe.made S i=u at *;generalize (S i).m=v at *;clear d0 d1 d2 d3 d4 d5 d7
  (simp only[ja1,ja2,ja3])
  gi_upto_region 3 with(fail)
  refine aj.O5 6 1 aD aV aV rfl aV aV aV (by rintro⟨_,_,hh⟩;exact hh) ?_
  (repeat (first|refine jc ?_ | refine jd ?_ (hc:=by intro w2 hS;first|with_reducible exact zn hS (eu _ _))|refine je ?_))
  refine aj.bL ?_;intro w2 hS;have A2:=hA1.keep hS;have z2:=A2.thaw 0;have e2:=A2.cell 0;refine wz ?_;intro K hK;go_simp;refine hK _ _ (aj.bC ?_);clear hK K
  gi_wp2
  refine⟨(KeepsFrom.of_below hS).trans ((KeepsOthers.setCell _ _ _).from _),(sU.keep hS).off ak ak _,?_,Below.setCell (Below.trans hB1 (hS.mono ak)) hN.2 _⟩;exact A2.set 0 _
 case stop=>exact λD W hD h _=>h.elim
 case done =>
  rintro D W hD ⟨sU,hA1,hB1⟩ hK;have hlD:=(Array.getElem?_eq_some_iff.1 hK).1;generalize hT:Fe.made S n=T at *;have HT:=ah hT;clear hT;have hF:∀i,Fe.froze n S i=if (S i).f then S i else ⟨(S i).x,(S i).z,(S i).m,Fe.Rq T (S i).m⟩:=λi=>by unfold Fe.froze;rw[HT.out]
  have HF:=ah hF;clear hF hA hB xk HR
  gi_wp2
  refine jH (n:=5) (gf:=225) (first:=#[R]) (lb:=#[]) rfl (enters_of Tryz.func225 aV rfl) n (λi=>(S i).f) (λi=>#[.int .i64 (Fe.pl S i:Nat),.pointer (some ⟨I,i*8,none⟩)]) (λ_=>rfl)
   (λi W=>eH W R I n room gr (kX S (Fe.froze n S) i)/\At W w (.cells #[T] 3)/\Below N w W/\W.heap[D]? = some (.deferred (some [])))
   (λW=>False)
   (λi W r o o' h hr hW _=>⟨h.1.turn ak ak o,h.2.1.turn ak o,Below.turn h.2.2.1 ak hW o,(jc7 ak).trans h.2.2.2⟩)
   (λW r o o' h hr hW _=>h)
   (λo1 o2=>⟨by rw[wJ];exact(sU.alloc o1).alloc o2,(hA1.alloc o1).alloc o2,(hB1.alloc ak o1).alloc iJ o2,(At.alloc (show At W D _ from hK) o1).alloc o2⟩)
   (λlp J Jx W hV hs hY hJ=>rG 4 R I n room (Fe.sg gr) S hn lp J Jx W (λi W h=>(hV i W h).1.mixed) hs hY hJ)
   (λi W hi hf h=>⟨by rw[Hw (by rw[HF.out,hf];rfl)];exact h.1,h.2⟩)
   (λi t=>((t.setIfInBounds 19 (.int .i64 (Fe.pl S i:Nat))).setIfInBounds 20 (.pointer (some ⟨I,i*8,none⟩))).setIfInBounds 6 (.pointer (some ⟨I,i*8,none⟩))) ?assign ?body ?done ?stop
  case assign =>
   exact Z13
  case body =>
   rintro l i W2 hi hf ⟨hR2,hA2,hB2,hD2⟩;have hc:=hA2.cell 0;have hz:=hA2.thaw 0;have l1:=hA2.lt;obtain⟨l2,d0,d1,d2,d3,d4,d5,d6,d7⟩:=hR2.2.fields hi;rw[oo (aH _)]at d6;have z7:=hR2.2.thaw (i*8+7);have HN:Hid (Fe.froze n S i=⟨(S i).x,(S i).z,(S i).m,Fe.Rq T (S i).m⟩):=ah (by rw[HF.out,hf];rfl);have hne:=hR2.ne;have fin:∀b,Fe.Rq T (S i).m=b->roundEnd W.heap.size (λW=>eH W R I n room gr (kX S (Fe.froze n S) (i+1))/\At W w (.cells #[T] 3)/\Below N w W/\W.heap[D]? = some (.deferred (some []))) (λ_=>False) W2 .normal { tmps:=#[],defers:=[] } (W2.setCell ⟨I,i*8+7,none⟩ (.bool b)):=by
    intro b hb;refine⟨(KeepsOthers.setCell _ _ _).from _,⟨hR2.1.off ak _ _,?_⟩,hA2.off ak _ _,Below.setCell hB2 hN.1 _,(KeepsOthers.setCell _ _ _).same _ _ hD2 rfl⟩;refine hR2.2.put hi ak ?_ ?_ ?_
    . rw[tq,HN.out];simp[KV,hb]
    . intro q hq hqn
      rw[tq,HN.out,oo (aH _)];unfold KV
      (repeat' split)<;>first|rfl|omega
    . intro k hk hkn;rw[yN _ _ hkn]
   have FIN:=ah fin;clear fin d0 d1 d2 d3 d4 d5 HN;generalize (S i).m=v at *
   (simp only[ja1,ja2,ja3])
   rcases Int.lt_trichotomy T 0 with hT|hT|hT
   . have q1:decide (T=0)=false:=by simp;omega
     have q2:decide (0<T)=false:=by simp;omega
     have q3:decide (T<0)=true:=by simp;omega
     by_cases hv:v<0
     . gi_wp2
       refine FIN.out _ ?_;unfold Fe.Rq;rw[q1,q2,q3];first|(simp;done)|(simp;omega)
     . gi_wp2
       refine FIN.out _ ?_;rw[show(T==0)=false by simp;omega];unfold Fe.Rq;rw[q1,q2,q3];simp;omega
   . subst hT
     gi_wp2
     refine FIN.out _ ?_;simp[Fe.Rq]
   . have q1:decide (T=0)=false:=by simp;omega
     have q2:decide (0<T)=true:=by simp;omega
     have q3:decide (T<0)=false:=by simp;omega
     by_cases hv:0<v
     . gi_wp2
       refine FIN.out _ ?_;unfold Fe.Rq;rw[q1,q2,q3];first|(simp;done)|(simp;omega)
     . gi_wp2
       refine FIN.out _ ?_;rw[show(T==0)=false by simp;omega];unfold Fe.Rq;rw[q1,q2,q3];simp;omega
  case stop=>exact λD W hD h _=>h.elim
  case done =>
   rintro D2 W2 hD2 ⟨hR2,hA2,hB2,hK1⟩ hK2
   gi_wp2
   have hl2:=(Array.getElem?_eq_some_iff.1 hK2).1;refine⟨by simp,.inl ⟨_,_,rfl,run_takeDeferred hK2,?_⟩⟩;have hK3:(W2.putObj D2 (.deferred none)).heap[D]? = some (.deferred (some [])):=(jc7 ak).trans hK1;refine⟨by simp,.inl ⟨_,_,rfl,run_takeDeferred hK3,?_⟩⟩;exact⟨_,results_none rfl _ _ _,⟨_,rfl⟩,⟨((hR2.turn ak ak _).turn ak ak _).1,(((hR2.turn ak ak _).turn ak ak _).2.same (yO _ _ _))⟩,Below.turn (Below.turn hB2 ak hK2 _) ak hK3 _⟩
end
section
open List renaming range → jb'
def enc(x:Fe.It):Value:=.agg #[x.b,x.lo,x.hi,x.g,x.s]
theorem RU(n:Int)(w:World):Calls ja0 231 #[n] w λe w'=>e=.returned (.int .i64 (Fe.cw n))/\w=w':=by
 go_enter Tryz.func231,Tryz.ntmps231
 go_wp2_with (first|(go_at_call 47;with_reducible refine mI (oF _ _ _ _) ?_))
 go_ret
 exact⟨bA (Fe.Xe ak ak),rfl⟩
theorem JF(n m:Int)(w:World)(h:0<=m/\m<=1073741824):Calls ja0 47 #[n,(),m] w λe w'=>e=.returned (.int .i64 (Fe.to n m))/\w=w':=by
 rw[<-Fe.Xe h.1 h.2];exact oF n 0 m w
theorem MB{a b c d f a' b' c' d' f':Int}(h1:a=a')(h2:b=b')(h3:c=c')(h4:d=d')(h5:f=f'):Ending.returned (.agg #[.int .i64 a,.int .i64 b,.int .i64 c,.int .i64 d,.int .i64 f])=.returned (.agg #[a',b',c',d',f']):=by rw[h1,h2,h3,h4,h5]
theorem MC(x:Fe.It)(w:World):Calls ja0 213 #[enc x] w λe w'=>e=.returned (enc (Fe.cnt x))/\Below w w w':=by
 obtain⟨b,lo,hi,g,s⟩:=x;simp only[enc,Fe.cnt];go_enter Tryz.func213,Tryz.ntmps213
 go_wp2;refine yw 16 1 ?_ (h0:=by first|assumption|exact Below.refl _ _)
 (repeat (first|refine jc ?_ | refine jd ?_ (hc:=by intro w2 hS;first|with_reducible exact zn hS (JF _ _ _ ak))|refine je ?_))
 refine aj.bL ?_;intro w2 hS;obtain⟨hc,hf⟩:=fO hS;refine wz ?_;intro K hK;go_simp;refine hK _ _ (aj.bC ?_);clear hK K;go_wp2;refine bodyPost_ret (v:=.agg #[_,_,_,_,_]) (by simp[results,Tryz.results213,go_sem, *];first|done|exact⟨rfl,rfl⟩|exact⟨rfl,rfl,rfl,rfl⟩|exact⟨rfl,rfl,rfl,rfl,rfl⟩|rfl) rfl ⟨MB rfl rfl rfl rfl rfl,?_⟩;exact Z0
theorem tu{w:World}{b:Nat}{T:TypeId}(f:Nat->Int)(n:Nat)(hn:n<=maxLen)(h:At w b (.cells (aX f n n) T)):Ints w (some ⟨b,0,none⟩) ((jb' n).map f):=by
 refine⟨by simpa using hn,λh0=>⟨b,0,rfl,λk hk => ?_⟩⟩;simp only[List.length_map,List.length_range]at hk;rw[h.cell,Nat.zero_add,dh _ hk];simp[hk]
theorem PZ(f:Nat->Int)(n:Nat)(h:∀k,k<n->f k=0):aX f n 0=aX f n n:=by
 unfold aX;congr 1;apply List.map_congr_left;intro j hj;have hj:j<n:=by simpa using hj
 simp[hj,h j hj]
theorem Dc(A:Option Addr)(l:List Int)(n c:Nat)(x:Int)(w:World)(hI:Ints w A l)(hl:l.length=n)(hn:n<=64) :
  Calls ja0 228 #[x,.slice A n c] w λe w'=>(∃b,e=.returned (.slice (some ⟨b,0,none⟩) n n)/\w.heap.size<=b/\Ints w' (some ⟨b,0,none⟩) (Fe.share x l))/\Below w w w':=by
 obtain⟨i0,hi0,hz0,hz1,hz2⟩:=info_parts intZero;have HI:=ah hI;clear hI;have HL:=ah hl;clear hl;go_enter Tryz.func228,Tryz.ntmps228
 go_upto_region 5 with(first|first|(go_at_call 47;with_reducible refine mI (JF _ _ _ ak) ?_)|(at_make;refine wpList_make_row _ rfl _ _ 37 rfl 3 i0 (.int .i64 0) Tryz.underlying37 hi0 hz0 hz1 rfl .i64 .i64 n rfl rfl Te ak ?_))
 have Ue:At (w.alloc (.cells (madeCells #[()] n) 3)) w.heap.size (.cells (aX (Fe.part x l) n 0) 3):=by rw[<-jk];exact At.new _ _
 have hB0:Below w w (w.alloc (.cells (madeCells #[()] n) 3)):=aB aD _;generalize (w.alloc (.cells (madeCells #[()] n) 3))=W1 at *;have HI1:Hid (Ints W1 A l):=ah (HI.out.after hB0);obtain⟨N,hN⟩:∃N,N=Fe.to x 67108864:=⟨_,rfl⟩;have N1:0<=N:=by rw[hN];exact Fe.qV ak
 have N2:N<=67108864:=by rw[hN];exact Fe.um ak
 rw[<-hN];have HN:=ah hN;clear hN;have HA0:=ah Ue;clear Ue;have HB0:=ah hB0;clear hB0;go_wp2
 go_loop [6,24] (λs i=>∃k:Nat,k<=n/\i=.int .i64 k/\s=.int .i64 (Fe.up l k)) (λ_ i=>n-(intOf i).toNat)
 case atStart=>exact⟨0,by omega,rfl,rfl⟩
 case round =>
  obtain⟨k,hk,rfl,rfl⟩:=hrel;by_cases hlt:k<n
  . obtain⟨b1,o1,hA1,l1,c1⟩:=HI1.out.at_ (k:=k) (by rw[HL.out];exact hlt)
    have hs:Hid (Fe.up l k+Fe.cw (l.getD k 0)=Fe.up l (k+1)):=ah rfl;have g1:=Fe.Dn l k;have g2:Fe.up l k<=68719476736:=by have:=Fe.Lg l k;omega
    have g3:=Fe.Xc (l.getD k 0);have g4:=Fe.Xd (l.getD k 0);generalize l.getD k 0=z at *;generalize Fe.up l k=u at *;subst hA1
    go_wp2_with (first|(go_at_call 231;with_reducible refine mI (RU _ _) ?_))
    go_round
    case rel=>exact⟨k+1,by omega,by go_num,by rw[hs.out]⟩
    case measure=>simp[intOf];omega
  . obtain rfl:k=n:=by omega
    have ha:Hid (Fe.up l k=Fe.all l):=ah (by unfold Fe.all;rw[HL.out]);have g1:=Fe.Dn l k;have g2:Fe.up l k<=68719476736:=by have:=Fe.Lg l k;omega
    generalize ha':Fe.up l k=a at *;by_cases h0:a=0
    . subst h0
      go_wp2;refine bodyPost_ret (v:=.slice w k k) (by simp[results,Tryz.results228,go_sem, *];first|done|exact⟨rfl,rfl⟩|rfl) rfl ⟨⟨w.heap.size,rfl,aH _,?_⟩,HB0.out⟩;unfold Fe.share;rw[HL.out];refine tu (T:=3) _ k KR ?_;have h9:=HA0.out;rw[PZ _ _ (λj _=>Fe.GR (ha.out.symm) j)]at h9;exact h9
    . have ha1:1<=a:=by omega
      have HAA:Hid (Fe.up l k=a):=ah ha';clear ha';go_wp2
      go_loopw [9,10,38] (λh t i wr=>∃j:Nat,j<=k/\i=.int .i64 j/\h=.int .i64 (Fe.up l j)/\t=.int .i64 (Fe.so x l j)/\At wr w (.cells (aX (Fe.part x l) k j) 3)/\Below w w wr) (λ_ _ i _=>k-(intOf i).toNat)
      case atStart=>exact⟨0,by omega,rfl,rfl,by rw[Fe.Ro],HA0.out,HB0.out⟩
      case round =>
       obtain⟨j,hj,rfl,rfl,rfl,hA,hB⟩:=hrel;by_cases hjt:j<k
       . obtain⟨b1,o1,hA1,l1,c1⟩:=(HI.out.after hB).at_ (k:=j) (by rw[HL.out];exact hjt)
         have hs:Hid (Fe.up l j+Fe.cw (l.getD j 0)=Fe.up l (j+1)):=ah rfl;have g3:=Fe.Xc (l.getD j 0);have g4:=Fe.Xd (l.getD j 0);have g5:=Fe.Dn l j;have g6:Fe.up l j<=68719476736:=by have:=Fe.Lg l j;omega
         have hq:Hid (N*Fe.up l (j+1)/a=Fe.so x l (j+1)):=ah (by unfold Fe.so;rw[HN.out,ha.out]);have hp:Hid (Fe.so x l (j+1)-Fe.so x l j=Fe.part x l j):=ah rfl;have q1:=Fe.ac0 x l j;have q2:=Fe.Jd x l (show j<=j+1 by omega);have q3:Fe.so x l (j+1)<=67108864:=Int.le_trans (Fe.ac1 x l (k:=j+1) Z4f) (Fe.um ak);have p1:=Fe.afS x l (k:=j+1) ak;rw[<-HN.out]at p1;have e1:(N*Fe.up l (j+1)).tdiv a=Fe.so x l (j+1):=by
          rw[<-hq.out];exact Int.tdiv_eq_ediv_of_nonneg p1.1
         have W2:Hid (wrap64 ((wrap64 (N*Fe.up l (j+1))).tdiv a)=Fe.so x l (j+1)):=ah (by rw[IntWalk.wrap64_in (N*Fe.up l (j+1)) ak,e1];exact IntWalk.wrap64_in _ ak);have W3:Hid (wrap64 (Fe.so x l (j+1)-Fe.so x l j)=Fe.part x l j):=ah (by rw[IntWalk.wrap64_in _ ak];exact hp.out);have w3:IntKind.i64.wrap (Fe.up l j+Fe.cw (l.getD j 0))=Fe.up l (j+1):=by rw[hs.out];exact IntWalk.i64_in _ (by have:=Fe.Lg l (j+1);have:=Fe.Dn l (j+1);omega)
         have hz:=hA.thaw j;have hc0:=hA.cell j;rw[dh _ hjt]at hc0;have hlb:=hA.lt;clear e1 p1 q1 q2 q3;generalize l.getD j 0=z at *;generalize hu':Fe.up l (j+1)=u' at *;have hs2:=ah hu';clear hu';generalize Fe.up l j=u at *;generalize hs':Fe.so x l (j+1)=s' at *;have hs1:=ah hs';clear hs';generalize Fe.so x l j=s at *;generalize hpp:Fe.part x l j=p at *;have HPP:=ah hpp;clear hpp;subst hA1
         go_wp2_with (first|(go_at_call 231;with_reducible refine mI (RU _ _) ?_))
         go_roundw
         case rel =>
          refine⟨j+1,by omega,by go_num,by rw[hs2.out],by rw[W2.out,hs1.out],?_,Below.setCell hB aC _⟩;rw[W2.out,W3.out,<-jE _ hjt,HPP.out];exact hA.set j _
         case measure=>simp[intOf];omega
       . obtain rfl:j=k:=by omega
         go_wp2;refine bodyPost_ret (v:=.slice w j j) (by simp[results,Tryz.results228,go_sem, *];first|done|exact⟨rfl,rfl⟩|rfl) rfl ⟨⟨w.heap.size,rfl,aH _,?_⟩,hB⟩;unfold Fe.share;rw[HL.out];exact tu _ j KR hA
theorem At.five{W:World}{b:Nat}{x y z u v:Value}{T:TypeId}(h:At W b (.cells #[x,y,z,u,v] T)):b<W.heap.size/\W.cell? ⟨b,0,none⟩=some x/\W.cell? ⟨b,1,none⟩=some y/\W.cell? ⟨b,2,none⟩=some z/\W.cell? ⟨b,3,none⟩=some u/\W.cell? ⟨b,4,none⟩=some v:=⟨h.lt,h.cell 0,h.cell 1,h.cell 2,h.cell 3,h.cell 4⟩
theorem XZ(n lo hi:Int)(w:World)(h:(0<=lo/\lo<=1048576)/\0<=hi/\hi<=1048576):Calls ja0 47 #[n,lo,hi] w λe w'=>e=.returned (.int .i64 (Fe.inn lo hi n))/\w=w':=by
 rw[<-Fe.aa8 h.1.1 h.1.2 h.2.1 h.2.2];exact oF n lo hi w
theorem ME(b lo hi g s:Int)(w:World):Calls ja0 213 #[.agg #[b,lo,hi,g,s]] w λe w'=>e=.returned (enc (Fe.cnt ⟨b,lo,hi,g,s⟩))/\Below w w w':=MC ⟨b,lo,hi,g,s⟩ w
theorem P6(x:Fe.It)(n:Int)(w:World):Calls ja0 185 #[enc x,n] w λe w'=>e=.returned (.int .i64 (Fe.clamp x n))/\Below w w w':=by
 obtain⟨b,lo,hi,g,s⟩:=x;obtain⟨d1,d2,d3,d4,d5,d6,d7,d8,d9,d10⟩:=Fe.Ja ⟨b,lo,hi,g,s⟩;unfold Fe.clamp;have HC:Hid (Fe.cnt ⟨b,lo,hi,g,s⟩=Fe.cnt ⟨b,lo,hi,g,s⟩):=ah rfl;generalize hc:Fe.cnt ⟨b,lo,hi,g,s⟩=c at *;obtain⟨b',lo',hi',g',s'⟩:=c;simp only at d1 d2 d3 d4 d5 d6;have HE:=ah hc;clear hc HC d7 d8 d9 d10;simp only[enc];go_enter Tryz.func185,Tryz.ntmps185
 go_upto_region 1 with(fail)
 generalize hW:World.alloc _ _=W0;have A0:At W0 w (.cells #[b,lo,hi,g,s] 230):=hW▸At.new _ _;have hB:Below w w W0:=hW▸aB aD _;clear hW;obtain⟨l0,c0,c1,c2,c3,c4⟩:=A0.five
 go_upto_region 2 with(go_at_call 213;(with_reducible refine(ME _ _ _ _ _ _).mono ?_);rintro e w' ⟨rfl,hb⟩;rw[HE.out];simp only[enc];clear l0 c0 c1 c2 c3 c4;replace A0:=A0.keep hb;replace hB:=Below.ay hB aC hb;clear hb;obtain⟨l0,c0,c1,c2,c3,c4⟩:=A0.five;have z0:=A0.thaw 0;have z1:=A0.thaw 1;have z2:=A0.thaw 2;have z3:=A0.thaw 3;have z4:=A0.thaw 4)
 go_wp2_with (first|(go_at_call 47;with_reducible refine mI (XZ _ _ _ _ ⟨by omega,by omega⟩) ?_))
 go_ret
 exact⟨bA (by unfold Fe.inn;(repeat' split)<;>omega),by(repeat (first|exact Below.refl _ _ | assumption|refine Below.drew ?_ | refine Below.drewN ?_ _ | refine aB ?_ _ | refine Below.setCell ?_ Z46 _ | refine Below.ay ?_ aC (by assumption)))⟩
end
section
open Go.Shelf
open List renaming setIfInBounds_toArray → ja1,set_cons_zero → ja2,set_cons_succ → ja3,length_cons → ja9,append_toArray → jc2,size_toArray → jc4,push_toArray → jc',cons_append → jd1
open World renaming putObj_heap_other → jc7
variable {xs:List Value}{v:Value}{W w:World}{base k:Nat}{l:List Int}
attribute [local go_sem] Oper.semAt_some
theorem ownsRow_below{base:Nat}{e:TypeId}{sz:Nat}{k:Nat}(h:W.ownsRow base e sz v k xs)(hb:Below W W w):w.ownsRow base e sz v k xs:=by
 refine h.kept (row:=none) ⟨hb.os,hb.tape,hb.output,hb.size,λk hk _=>hb.block k hk⟩ ?_;rcases h.2 with⟨rfl,_⟩|⟨g,cap,cur,rfl,_⟩
 . exact .inl rfl
 . exact .inr (by simp[Value.ownBlock])
theorem At.row{b base k:Nat}{vs:Array Value}{T:TypeId}(h:At W b (.cells vs T))(hT:T≠3)(ho:W.ownsRow base 3 1 v k xs)(hg:W.grownBy w v.ownBlock):At w b (.cells vs T):=by
 refine(hg.block b h.lt λe => ?_).trans h;rcases ho.2 with⟨rfl,_⟩|⟨g,cap,cur,rfl,_,hgb,_⟩
 . simp[Value.ownBlock]at e
 . have e':b=g:=by simpa[Value.ownBlock]using e
   subst e';unfold At at h;rw[h]at hgb;injection hgb with hgb;injection hgb with _ hgb;exact hT hgb
theorem rX.row{I n base k:Nat}{S:Nat->Fe.St}(h:rX W I n S)(ho:W.ownsRow base 3 1 v k xs)(hg:W.grownBy w v.ownBlock):rX w I n S:=by
 obtain⟨vs,h,r⟩:=h;exact⟨vs,h.row aG ho hg,r⟩
theorem MF{W:World}{xs:List Int}(x:Int)(hown:W.ownsRow base 3 1 v k (xs.map (Value.int .i64)))(hbase:base<=W.heap.size)(hk:k<=10000) :
  ∃g c w',(Builtin.append_ #[37,37] 37 #[v,.slice W 1 1]).run ja0 (W.alloc (.cells #[x] 3))=.ok (.slice (some ⟨g,0,none⟩) (k+1) c) w' /\
   w'.ownsRow base 3 1 (.slice g (k+1) c) (k+1) ((xs++[x]).map (Value.int .i64))/\(W.alloc (.cells #[x] 3)).grownBy w' v.ownBlock:=by
 obtain⟨i0,hi0,hz0,hz1,hz2⟩:=info_parts intZero
 obtain⟨v',w',hr,ho,hg,_,_⟩:=run_append_own_at (P:=ja0) (w:=W.alloc (.cells #[x] 3)) base 37 37 3 i0 (.int .i64 0) 1 8 Tryz.underlying37 hi0 hz0 hz1 hz2 rfl aG v k _ (hown.alloc _) ⟨W,0,none⟩ 1 1 [.int .i64 x] rfl
  (by intro j u hj
      match j,hj with
      | 0,hj=>simp at hj;subst hj;simp[Addr.add])
  Kv Oi ak iJ
 obtain⟨g,c,rfl⟩:=ownsRow_succ ho;exact⟨g,c,w',hr,by rw[List.map_append];exact ho,hg⟩
theorem Below.row{N:Nat}{w0 W w:World}(h:Below N w0 W)(ho:W.ownsRow base 3 1 v k xs)(hg:W.grownBy w v.ownBlock)(hN:N<=base)(hW:N<=W.heap.size):Below N w0 w:=by
 refine h.grown hg hW (λj e => ?_);rcases ho.2 with⟨rfl,_⟩|⟨g,cap,cur,rfl,hb,_⟩
 . simp[Value.ownBlock]at e
 . have e':j=g:=by simpa[Value.ownBlock,eq_comm]using e
   omega
theorem KeepsOthers.row(ho:W.ownsRow base 3 1 v k xs)(hg:W.grownBy w v.ownBlock):KeepsOthers W w :=
 KeepsOthers.of_grownBy hg λj o ej hj=>by
  rcases ho.2 with⟨rfl,_⟩|⟨g,cap,cur,rfl,_,hgb,_⟩
  . simp[Value.ownBlock]at ej
  . obtain rfl:g=j:=by simpa[Value.ownBlock]using ej
    rw[hgb]at hj;cases hj;rfl
theorem BZ{w:World}{base:Nat}{n:Nat}(h:w.ownsRow base 3 1 v n (l.map (Value.int .i64)))(hm:n<=maxLen):∃A c,v=.slice A n c/\Ints w A l/\l.length=n:=by
 have hl:l.length=n:=by simpa using h.1
 obtain⟨A,c,rfl,hI⟩:=vg h hm;exact⟨A,c,by rw[hl],hI,hl⟩
theorem Ints.turn{W:World}{A:Option Addr}{r:Nat}{o':Obj}(h:Ints W A l)(hW:W.heap[r]? = some o')(hc:o'.isCells=false)(o:Obj):Ints (W.putObj r o) A l:=by
 refine⟨h.1,λh0 => ?_⟩;obtain⟨b,off,rfl,hcell⟩:=h.2 h0;exact⟨b,off,rfl,λk hk=>cell_kept (hcell k hk) (grownBy_putObj' W r o) (λr' e=>by cases e;exact⟨o',hW,hc⟩)⟩
theorem Ints.off{W:World}{b off g k:Nat}(h:Ints W (some ⟨b,off,none⟩) l)(hne:b≠g)(v:Value):Ints (W.setCell ⟨g,k,none⟩ v) (some ⟨b,off,none⟩) l:=by
 refine⟨h.1,λh0 => ?_⟩;obtain⟨b',off',e,hcell⟩:=h.2 h0;injection e with e;injection e with e1 e2;subst e1;subst e2;exact⟨b,off,rfl,λk' hk=>(World.cell?_of_block (Below.heap_setCell W ⟨g,k,none⟩ v b hne)).trans (hcell k' hk)⟩
theorem Em{P:Program}{w w':World}{o:Oper}{a:Act}(s x:Operand)(t:TypeId)(ho:o.op=.call { callee:=.builtin .append,args:=#[s,x],argTypes:=#[t,t] }){v u v':Value}(hs:a.eval s=v)(hx:a.eval x=u)
  (hrun:(Builtin.append_ #[t,t] o.type #[v,u]).run P w=.ok v' w'):(execOp a.eval o).run P w=.ok (.value v') w':=by
 exact Z1a
theorem CQ(b lo hi g s n:Int)(w:World):Calls ja0 185 #[.agg #[b,lo,hi,g,s],n] w λe w'=>e=.returned (.int .i64 (Fe.clamp ⟨b,lo,hi,g,s⟩ n))/\Below w w w':=P6 ⟨b,lo,hi,g,s⟩ n w
theorem En(N R I n:Nat)(room:Int)(gr:Bool)(S:Nat->Fe.St)(w:World)(h:eH w R I n room gr S)(hn:n<=64)(hN:N<=I/\N<=w.heap.size)(hs:Sound S n)(hr:0<=room/\room<=67108864) :
  Calls ja0 220 #[R] w λe w'=>(∃v,e=.returned v)/\eH w' R I n room gr (Fe.shared gr room n S)/\Below N w w':=by
 have Jp:=@ru;have hR:=h.1.lt;have hI:=h.2.lt;have HR:=ah h;have HS:=ah hs;clear h hs;refine(callsIn_wide (n:=5)).1 ?_;refine callsIn_of_wp_marks Tryz.func220 rfl trivial ?_ rfl;simp only[Tryz.ntmps220,jc4,ja9,List.length_nil,Nat.reduceAdd,Nat.reduceSub,Array.replicate_succ,Array.replicate_zero,jc',jc2,List.nil_append,jd1]
 gi_wp2
 obtain⟨W0,hA1,hA2,hrow,hB,xk,hsz,hW⟩:∃W0,At W0 w (.cells #[R] 308)/\At W0 (w.heap.size+1+1) (.cells #[.slice (some ⟨w.heap.size+1,0,none⟩) 0 0] 37) /\
   W0.ownsRow w.heap.size 3 1 (.slice (some ⟨w.heap.size+1,0,none⟩) 0 0) 0 []/\Below N w W0/\eH W0 R I n room gr S/\W0.heap.size=w.heap.size+3 /\
   (((w.alloc (.cells #[R] 308)).alloc (.cells #[] 3)).alloc (.cells #[.slice (some ⟨w.heap.size+1,0,none⟩) 0 0] 37))=W0:=by
  refine⟨_,((At.new w _).alloc _).alloc _,At.new' _ aW,?_,(((Below.refl _ _).alloc hN.2 _).alloc iJ _).alloc iJ _,((HR.out.alloc _).alloc _).alloc _,by simp,rfl⟩;have bR:At ((w.alloc (.cells #[R] 308)).alloc (.cells #[] 3)) (w.heap.size+1) (.cells #[] 3):=At.new' _ aW;exact⟨by simp,.inr ⟨w.heap.size+1,0,#[],rfl,by omega,bR.alloc _,aH _,by simp[maxLen],by simp,by simp⟩⟩
 rw[hW];clear hW
 refine jH (n:=5) (gf:=225) (first:=#[R]) (lb:=#[]) rfl (enters_of Tryz.func225 aV rfl) n (λi=>(S i).f) (λi=>#[.int .i64 (Fe.pl S i:Nat),.pointer (some ⟨I,i*8,none⟩)]) (λ_=>rfl)
  (λi W=>eH W R I n room gr S/\At W w (.cells #[R] 308)/\(∃v,At W (w.heap.size+1+1) (.cells #[v] 37)/\W.ownsRow w.heap.size 3 1 v (Fe.pl S i) ((Fe.ws gr S i).map (Value.int .i64)))/\Below N w W)
  (λW=>False)
  (λi W r o o' h hr hW hc=>⟨h.1.turn ak ak o,h.2.1.turn ak o,by obtain⟨v,h1,h2⟩:=h.2.2.1;exact⟨v,h1.turn ak o,ownsRow_putObj h2 o hW hc⟩,Below.turn h.2.2.2 ak hW o⟩)
  (λW r o o' h hr hW _=>h)
  (λo1 o2=>⟨(xk.alloc o1).alloc o2,(hA1.alloc o1).alloc o2,⟨_,(hA2.alloc o1).alloc o2,(hrow.alloc o1).alloc o2⟩,(hB.alloc ak o1).alloc iJ o2⟩)
  (λlp J Jx W hV hs hY hJ=>rG 4 R I n room (Fe.sg gr) S hn lp J Jx W (λi W h=>(hV i W h).1.sees i) hs hY hJ)
  (λi W hi hf h=>⟨h.1,h.2.1,by simp only[Fe.pl,Fe.ws,hf,if_true];exact h.2.2.1,h.2.2.2⟩)
  (λi t=>((t.setIfInBounds 12 (.int .i64 (Fe.pl S i:Nat))).setIfInBounds 13 (.pointer (some ⟨I,i*8,none⟩))).setIfInBounds 4 (.pointer (some ⟨I,i*8,none⟩))) ?assign ?body ?done ?stop
 case assign =>
  exact Z13
 case body =>
  rintro l i W hi hf ⟨sU,hB1,⟨v,hV,hown⟩,hBl⟩;have hb1:=hB1.lt;have hb2:=hV.lt;have hpl:=Fe.Rs S i;obtain⟨hs1,_⟩:=HS.out i hi;have hP:Fe.pl S (i+1)=Fe.pl S i+1:=by simp[Fe.pl,hf]
  have hWs:Fe.ws gr S (i+1)=Fe.ws gr S i++[Fe.wt gr (S i).x]:=by simp[Fe.ws,hf]
  have HP:=ah hP;have HWs:=ah hWs;clear hP hWs
  (simp only[ja1,ja2,ja3])
  gi_upto_region 4 with(fail)
  refine aj.TV (S:=(λW'=>W'.cell? ⟨w.heap.size+1+1,0,none⟩=some v/\W'.cell? ⟨w,0,none⟩=some (.pointer R))) 6 aV aV (by rintro⟨_,_,hh⟩;exact hh) ?_ ?_
  . exact⟨hV.cell 0,hB1.cell 0⟩
  intro hS0;refine aO 0 ?_;refine aO 1 ?_;refine aO 2 ?_;refine tk1 3 ?_;refine aj.Step.call eD (PY R I n i room gr S _ sU.drew hi hs1) ?_;rintro e w3 ⟨rfl,hb⟩;replace hb:Below W W w3:=Below.ay (Below.refl _ _).drew aC hb;have hV3:=hV.keep hb;have hB3:=hB1.keep hb;have hown3:=ownsRow_below hown hb;have FQ:=sU.keep hb;have aiN:=Below.trans hBl (hb.mono ak);have hz3:=hb.size;refine⟨_,rfl,λ_=>⟨hV3.cell 0,hB3.cell 0⟩,?_⟩
  (try simp only[bM,bN,bO,tks])
  obtain⟨g,c,w4,hrun,ac',hg4⟩:=MF (Fe.wt gr (S i).x) hown3 ak ak;refine tk1 4 ?_;refine uG ?_ (hS:=by first|(intro hlt;exact absurd hlt aG)|(intro _;exact⟨(hV3.alloc _).cell 0,(hB3.alloc _).cell 0⟩));have hV4:=(hV3.alloc (.cells #[.int .i64 (Fe.wt gr (S i).x)] 3)).row aG (hown3.alloc _) hg4;have hB4:=(hB3.alloc (.cells #[.int .i64 (Fe.wt gr (S i).x)] 3)).row aG (hown3.alloc _) hg4;have hz4:=hV4.thaw 0;have hc4:w4.cell? ⟨w.heap.size+1+1,0,none⟩=some v:=hV4.cell 0;have hl4:=hV4.lt;refine tk1 5 ?_;refine aj.Step.value (Em (.tmp 14) (.tmp 18) 37 rfl rfl rfl hrun) ⟨λ_=>⟨hV4.cell 0,hB4.cell 0⟩,?_⟩
  (try simp only[bM,bN,bO,tks])
  refine tk1 6 ?_;refine aj.Step.skip Z3v ?_;refine⟨by first|(intro hlt;exact absurd hlt aG)|(intro _;omega),?_⟩;(try simp only[Act.put]);refine gZ ?_
  gi_wp2
  refine⟨(KeepsFrom.of_below hb).trans ((((KeepsOthers.alloc _ _).trans (KeepsOthers.row (hown3.alloc _) hg4)).trans (KeepsOthers.setCell _ _ _)).from _),?_,?_,⟨_,hV4.set 0 _,?_⟩,?_⟩
  . exact eH.off ⟨At.row (FQ.1.alloc _) aG (hown3.alloc _) hg4,(FQ.2.alloc _).row (hown3.alloc _) hg4⟩ ak ak _
  . exact hB4.off ak _ _
  . rw[HP.out,HWs.out]
    exact ac'.kept (grownBy_setCell' w4 _ _) (.inr (Boxed.not_row (show Boxed w4 _ _ _ from hV4) aG ac').symm)
  . exact Below.setCell (Below.row (aiN.alloc ak _) (hown3.alloc _) hg4 hN.2 iJ) iJ _
 case stop=>exact λD W hD h _=>h.elim
 case done =>
  rintro D W hD ⟨sU,hB1,⟨v,hV,hown⟩,hBl⟩ hK;have hlD:=(Array.getElem?_eq_some_iff.1 hK).1;have hpl:=Fe.Rs S n;obtain⟨A,c,rfl,hIw,hL⟩:=BZ hown KR;have hb1:=hB1.lt;have hb2:=hV.lt;clear hown hA1 hA2 hrow hB xk HR
  gi_upto_region 5 with(fail)
  refine wpIn_wide.2 (aj.fQ (λa0 a W5=>∃b B5,a={ a0 with tmps:=((((a0.tmps.setIfInBounds 20 (.pointer R)).setIfInBounds 21 (.int .i64 (Fe.free gr room S n))).setIfInBounds 22 (.slice A (Fe.pl S n) c)).setIfInBounds 23 (.slice (some ⟨b,0,none⟩) (Fe.pl S n) (Fe.pl S n))).setIfInBounds 5 (.pointer (some ⟨B5,0,none⟩)) } /\
   W.heap.size<=b/\W.heap.size<=B5/\At W5 B5 (.cells #[.slice b (Fe.pl S n) (Fe.pl S n)] 37)/\Ints W5 (some ⟨b,0,none⟩) (Fe.parts gr room S n)/\Below W W W5) ?_ ?_)
  . refine iC (S:=(λW'=>W'.cell? ⟨w.heap.size+1+1,0,none⟩=some (.slice A (Fe.pl S n) c)/\W'.cell? ⟨w,0,none⟩=some (.pointer R))) 5 ?_ ?_
    . exact⟨hV.cell 0,hB1.cell 0⟩
    intro hS0;have hx:Below W W W.drew:=(Below.refl _ _).drew;refine aO 0 ?_;refine aO 2 ?_;refine tk2 1 4 ?_ ?_
    . refine aj.Step.call eD (Mx R I n room gr S _ (sU.keep hx) HS.out hn hr) ?_
      rintro e w3 ⟨rfl,hb⟩;replace hx:=Below.ay hx aC hb;clear hb;refine⟨_,rfl,λ_=>⟨(hV.keep hx).cell 0,(hB1.keep hx).cell 0⟩,?_⟩
      (try simp only[bM,bN,bO,tks])
      refine tk2 3 4 ?_ ?_
      . refine aj.Step.call eD (Dc A (Fe.ws gr S n) _ c (Fe.free gr room S n) _ (hIw.after hx) hL ak) ?_
        rintro e w4 ⟨⟨b,rfl,hbb,WB⟩,hb⟩;have hx3:=hx.size;replace hx:=Below.ay hx aC hb;clear hb;refine⟨_,rfl,λ_=>⟨(hV.keep hx).cell 0,(hB1.keep hx).cell 0⟩,?_⟩
        (try simp only[bM,bN,bO,tks])
        refine tk1 4 ?_;refine uG ?_ (hS:=by first|(intro hlt;exact absurd hlt aG)|(intro _;exact⟨((hV.keep hx).alloc _).cell 0,((hB1.keep hx).alloc _).cell 0⟩));have hx4:=hx.size;refine tk1 5 ?_;refine aj.Step.skip Z3v ?_;refine⟨by first|(intro hlt;exact absurd hlt aG)|(intro _;omega),?_⟩;(try simp only[Act.put]);refine gZ ?_;exact⟨rfl,b,w4.heap.size,rfl,by omega,by omega,At.new _ _,WB.after (aB aD _),aB hx _⟩
      . refine aj.Step.value (u:=.pointer w3) (w':=w3.alloc (.cells #[.slice none 0 0] 37)) eD ?_
        obtain⟨w9,uM,pI,fK,hz0,hs9⟩:∃w9,w9=w3.alloc (.cells #[.slice none 0 0] 37)/\At w9 w3 (.cells #[.slice none 0 0] 37)/\Below w3 w3 w9/\w9.heap.size=w3.heap.size+1/\W.heap.size<=w3.heap.size:=⟨_,rfl,At.new _ _,aB aD _,by simp,hx.size⟩;rw[<-uM];clear uM;generalize w3.heap.size=B5 at *;replace hx:=Below.trans hx (fK.mono ak);clear fK;refine⟨λ_=>⟨(hV.keep hx).cell 0,(hB1.keep hx).cell 0⟩,?_⟩;exact Zk
    . refine aj.Step.value (u:=.pointer W.drew) (w':=W.drew.alloc (.cells #[.slice none 0 0] 37)) eD ?_
      obtain⟨w9,uM,pI,fK,hz0,hs9⟩:∃w9,w9=W.drew.alloc (.cells #[.slice none 0 0] 37)/\At w9 W.drew (.cells #[.slice none 0 0] 37)/\Below W.drew W.drew w9/\w9.heap.size=W.drew.heap.size+1/\W.heap.size<=W.drew.heap.size:=⟨_,rfl,At.new _ _,aB aD _,by simp,hx.size⟩;rw[<-uM];clear uM;generalize W.drew.heap.size=B5 at *;replace hx:=Below.trans hx (fK.mono ak);clear fK;refine⟨λ_=>⟨(hV.keep hx).cell 0,(hB1.keep hx).cell 0⟩,?_⟩
      (try simp only[bM,bN,bO,tks])
      refine tk1 1 ?_;refine aj.Step.call eD (Mx R I n room gr S _ (sU.keep hx) HS.out hn hr) ?_;rintro e w3 ⟨rfl,hb⟩;replace hx:=Below.ay hx aC hb;replace pI:=pI.keep hb;have hl9:=pI.lt;clear hb;refine⟨_,rfl,λ_=>⟨(hV.keep hx).cell 0,(hB1.keep hx).cell 0⟩,?_⟩;exact Zk
  . rintro a W5 ⟨b,B5,rfl,hbb,kr,xJ,hI5,hx⟩
    simp only[ja1,ja2,ja3];have hcB:W5.cell? ⟨w,0,none⟩=some (.pointer R):=(hB1.keep hx).cell 0;have hlB:=(hB1.keep hx).lt
    gi_wp2
    have hx5:=hx.size;have hlW:=hBl.size
    refine jH (n:=5) (gf:=225) (first:=#[R]) (lb:=#[]) rfl (enters_of Tryz.func225 aV rfl) n (λi=>(S i).f) (λi=>#[.int .i64 (Fe.pl S i:Nat),.pointer (some ⟨I,i*8,none⟩)]) (λ_=>rfl)
     (λi W=>eH W R I n room gr (kX S (Fe.gP gr (Fe.parts gr room S n) S) i)/\At W w (.cells #[R] 308)/\At W B5 (.cells #[.slice b (Fe.pl S n) (Fe.pl S n)] 37)/\Ints W (some ⟨b,0,none⟩) (Fe.parts gr room S n)/\Below N w W/\W.heap[D]? = some (.deferred (some [])))
     (λW=>False)
     (λi W r o o' h hr hW hc=>⟨h.1.turn ak ak o,h.2.1.turn ak o,h.2.2.1.turn (by have:=xJ.lt;omega) o,h.2.2.2.1.turn hW hc o,Below.turn h.2.2.2.2.1 ak hW o,(jc7 ak).trans h.2.2.2.2.2⟩)
     (λW r o o' h hr hW _=>h)
     (λo1 o2=>⟨by rw[wJ];exact((sU.keep hx).alloc o1).alloc o2,((hB1.keep hx).alloc o1).alloc o2,(xJ.alloc o1).alloc o2,(hI5.after (aB aD o1)).after (aB aD o2),((Below.trans hBl (hx.mono ak)).alloc ak o1).alloc iJ o2,(At.alloc (At.keep (show At W D _ from hK) hx) o1).alloc o2⟩)
     (λlp J Jx W hV hs hY hJ=>rG 4 R I n room (Fe.sg gr) S hn lp J Jx W (λi W h=>(hV i W h).1.mixed) hs hY hJ)
     (λi W hi hf h=>⟨by rw[Hw (by simp[Fe.gP,hf])];exact h.1,h.2⟩)
     (λi t=>(((t.setIfInBounds 26 (.int .i64 (Fe.pl S i:Nat))).setIfInBounds 27 (.pointer (some ⟨I,i*8,none⟩))).setIfInBounds 6 (.int .i64 (Fe.pl S i:Nat))).setIfInBounds 7 (.pointer (some ⟨I,i*8,none⟩))) ?assign ?body ?done ?stop
    case assign =>
     exact Z13
    case stop=>exact λD W hD h _=>h.elim
    case done =>
     rintro D2 W2 hD2 ⟨hR2,hB2,hA2,hI2,abG,hK1⟩ hK2
     gi_wp2
     have hl2:=(Array.getElem?_eq_some_iff.1 hK2).1;refine⟨by simp,.inl ⟨_,_,rfl,run_takeDeferred hK2,?_⟩⟩;have hK3:(W2.putObj D2 (.deferred none)).heap[D]? = some (.deferred (some [])):=(jc7 ak).trans hK1;refine⟨by simp,.inl ⟨_,_,rfl,run_takeDeferred hK3,?_⟩⟩;exact⟨_,results_none rfl _ _ _,⟨_,rfl⟩,⟨((hR2.turn ak ak _).turn ak ak _).1,(((hR2.turn ak ak _).turn ak ak _).2.same (yO _ _ _))⟩,Below.turn (Below.turn abG ak hK2 _) ak hK3 _⟩
    case body =>
     rintro l i W6 hi hf ⟨hR2,hB2,hA2,hI2,abG,hD2⟩;have hne:=hR2.ne;have hp:=Fe.Rt S hi hf;obtain⟨⟨⟨hb1,hb2⟩,_⟩,_⟩:=HS.out i hi;have hpn:(Fe.parts gr room S n).length=Fe.pl S n:=by unfold Fe.parts;rw[Fe.Jc,Fe.qW]
     have hpv:0<=(Fe.parts gr room S n).getD (Fe.pl S i) 0/\(Fe.parts gr room S n).getD (Fe.pl S i) 0<=67108864:=by
      unfold Fe.parts;rw[Fe.GY _ _ (by rw[Fe.qW];exact hp)];exact Fe.Cv _ _ (by rw[Fe.qW];exact hp)
     obtain⟨b',o',eA,hbl,hpc⟩:=hI2.at_ (k:=Fe.pl S i) (by rw[hpn];exact hp);injection eA with eA;injection eA with e1 e2;subst e1;subst e2;rw[Nat.zero_add]at hpc;obtain⟨l2,d0,d1,d2,d3,d4,d5,d6,d7⟩:=hR2.2.fields hi;obtain⟨l3,r0,r1,r2⟩:=hR2.cells;have hcB:W6.cell? ⟨w,0,none⟩=some (.pointer R):=hB2.cell 0;have hlB:=hB2.lt;have hcA:W6.cell? ⟨B5,0,none⟩=some (.slice b (Fe.pl S n) (Fe.pl S n)):=hA2.cell 0;have hlA:=hA2.lt;rw[oo (aH _)]at d0 d1 d2 d3 d4 d5 d6 d7;have HT:Hid (Fe.gP gr (Fe.parts gr room S n) S i=⟨(S i).x,Fe.clamp (S i).x (Fe.want gr (Fe.parts gr room S n) S i),Fe.clamp (S i).x (Fe.want gr (Fe.parts gr room S n) S i)-Fe.want gr (Fe.parts gr room S n) S i,false⟩):=ah (by simp[Fe.gP,hf])
     have HWt:Hid (IntKind.i64.wrap ((S i).x.b+IntKind.i64.wrap (Fe.sg gr*(Fe.parts gr room S n).getD (Fe.pl S i) 0))=Fe.want gr (Fe.parts gr room S n) S i/\-67108864<=Fe.want gr (Fe.parts gr room S n) S i/\Fe.want gr (Fe.parts gr room S n) S i<=68157440):=ah (by
      unfold Fe.want;have hq : -67108864<=Fe.sg gr*(Fe.parts gr room S n).getD (Fe.pl S i) 0/\Fe.sg gr*(Fe.parts gr room S n).getD (Fe.pl S i) 0<=67108864:=by cases gr<;>simp only[Fe.sg,Bool.false_eq_true,if_false,if_true]<;>omega
      rw[IntWalk.i64_in (Fe.sg gr*_) ak,IntWalk.i64_in _ ak]
      exact⟨rfl,by omega,by omega⟩)
     have FIN:∀(W8:World) (cl wt:Int),cl=Fe.clamp (S i).x (Fe.want gr (Fe.parts gr room S n) S i)->wt=Fe.want gr (Fe.parts gr room S n) S i->Below W6 W6 W8 ->
       roundEnd W5.heap.size (λW=>eH W R I n room gr (kX S (Fe.gP gr (Fe.parts gr room S n) S) (i+1))/\At W w (.cells #[R] 308)/\At W B5 (.cells #[.slice b (Fe.pl S n) (Fe.pl S n)] 37)/\Ints W (some ⟨b,0,none⟩) (Fe.parts gr room S n)/\Below N w W/\W.heap[D]? = some (.deferred (some []))) (λ_=>False) W6 .normal { tmps:=#[],defers:=[] }
        ((W8.setCell ⟨I,i*8+5,none⟩ (.int .i64 cl)).setCell ⟨I,i*8+6,none⟩ (.int .i64 (cl-wt))):=by
      intro W8 cl wt hcl hwt oq;have Wj:=hR2.keep oq;have b1:rX (W8.setCell ⟨I,i*8+5,none⟩ (.int .i64 cl)) I n (λk=>if k=i then ⟨(S i).x,cl,(S i).m,false⟩else kX S (Fe.gP gr (Fe.parts gr room S n) S) i k):=by
       refine Wj.2.put hi ak (by simp[KV]) ?_ (λk hk hkn=>by simp[hkn]);intro q hq hqn;simp only[if_true];rw[oo (aH _)];unfold KV;rw[hf]
       (repeat' split)<;>first|rfl|omega
      have b2:rX ((W8.setCell ⟨I,i*8+5,none⟩ (.int .i64 cl)).setCell ⟨I,i*8+6,none⟩ (.int .i64 (cl-wt))) I n (kX S (Fe.gP gr (Fe.parts gr room S n) S) (i+1)):=by
       refine b1.put hi ak ?_ ?_ ?_
       . rw[tq,HT.out,hcl,hwt];simp[KV]
       . intro q hq hqn
         rw[tq,HT.out,<-hcl,<-hwt];simp only[if_true];unfold KV
         (repeat' split)<;>first|rfl|omega
       . intro k hk hkn
         rw[yN _ _ hkn];simp[hkn]
      have hz8:=oq.size;refine⟨((KeepsFrom.of_below oq).trans (((KeepsOthers.setCell _ _ _).trans (KeepsOthers.setCell _ _ _)).from _)),⟨(Wj.1.off ak _ _).off ak _ _,b2⟩,((hB2.keep oq).off ak _ _).off ak _ _,((hA2.keep oq).off ak _ _).off ak _ _,((hI2.after oq).off ak _).off ak _,Below.setCell (Below.setCell (Below.trans abG (oq.mono (by have:=abG.size;omega))) hN.1 _) hN.1 _,?_⟩;exact(KeepsOthers.setCell _ _ _).same _ _ ((KeepsOthers.setCell _ _ _).same _ _ ((oq.block D (Array.getElem?_eq_some_iff.1 hD2).1).trans hD2) rfl) rfl
     replace FIN:=ah FIN;clear d5 d6 d7 hI2 hA2 HT hpv hpn hb1 hb2;have HR2:=ah hR2;clear hR2;generalize Wm:(S i).x=x at *;have HX:=ah Wm;clear Wm;obtain⟨x0,x1,x2,x3,x4⟩:=x;dsimp only at d0 d1 d2 d3 d4 HWt;generalize hwt:Fe.want gr (Fe.parts gr room S n) S i=wt at *;replace hwt:=ah hwt;generalize (Fe.parts gr room S n).getD (Fe.pl S i) 0=pv at *;generalize Fe.sg gr=way at *;have akB:(Fe.pl S i:Int)<(Fe.pl S n:Int):=by omega
     simp only[ja1,ja2,ja3]
     gi_upto_region 9 with(fail)
     refine aj.O6 aD aV aV aV aV (by rintro⟨_,_,hh⟩;exact hh) ?_
     (repeat (first|refine jc ?_ | refine jd ?_ (hc:=by intro w2 hS;first|with_reducible exact zn hS (eu _ _))|refine je ?_))
     refine aj.bD ?_;intro w2 hS;rw[HWt.out.1];obtain⟨l4,e0,e1,e2,e3,e4,e5,e6,e7⟩:=(HR2.out.keep hS).2.fields hi;rw[oo (aH _)]at e0 e1 e2 e3 e4;rw[HX.out]at e0 e1 e2 e3 e4;dsimp only at e0 e1 e2 e3 e4;obtain⟨t1,t2⟩:=HWt.out.2;have k1:=(Fe.nA ⟨x0,x1,x2,x3,x4⟩ wt).1;have k2:=(Fe.nA ⟨x0,x1,x2,x3,x4⟩ wt).2;obtain⟨cl,hcl⟩:∃cl,cl=Fe.clamp ⟨x0,x1,x2,x3,x4⟩ wt:=⟨_,rfl⟩;rw[<-hcl]at k1 k2;have uM:IntKind.i64.wrap (cl-wt)=cl-wt:=IntWalk.i64_in _ ak;have Rz:=ah hcl;clear hcl e5 e6 e7 d0 d1 d2 d3 d4 r0 r1 r2 hcB hcA hpc
     gi_upto_region 11 with(refine⟨trivial,?_⟩;gi_at_call 185;refine(CallsIn.inRound l (callsIn_wide.2 (CQ x0 x1 x2 x3 x4 wt _))).mono ?_;rintro e w7 ⟨rfl,nW⟩;rw[<-Rz.out];have hx7:=Below.ay hS aC nW;clear nW hS e0 e1 e2 e3 e4 l4;obtain⟨l5,-, -, -, -, -, e5,e6,-⟩:=(HR2.out.keep hx7).2.fields hi;have z5:=(HR2.out.keep hx7).2.thaw (i*8+5);have z6:=(HR2.out.keep hx7).2.thaw (i*8+6))
     gi_wp2
     exact FIN.out w7 cl wt Rz.out rfl hx7
end
section
open Go.Shelf
open List renaming length_cons → ja9,size_toArray → jc4
variable {W:World}
attribute [local go_sem] Oper.semAt_some
def Items(w:World)(A:Option Addr)(l:Nat->Fe.It)(n:Nat):Prop :=
 0<n->∃b off,A=some ⟨b,off,none⟩/\b<w.heap.size/\∀k,k<n->w.cell? ⟨b,off+k*5,none⟩=some (.int .i64 (l k).b)/\w.cell? ⟨b,off+k*5+1,none⟩=some (.int .i64 (l k).lo)/\w.cell? ⟨b,off+k*5+2,none⟩=some (.int .i64 (l k).hi)/\w.cell? ⟨b,off+k*5+3,none⟩=some (.int .i64 (l k).g)/\w.cell? ⟨b,off+k*5+4,none⟩=some (.int .i64 (l k).s)
theorem Items.after{W w:World}{A:Option Addr}{l:Nat->Fe.It}{n:Nat}(h:Items W A l n)(hb:Below W W w):Items w A l n:=λh0=>by
 obtain⟨b,off,rfl,hl,hc⟩:=h h0;refine⟨b,off,rfl,aT hl hb.size,λk hk => ?_⟩;obtain⟨c0,c1,c2,c3,c4⟩:=hc k hk;exact⟨(hb.cell (p:=⟨b,off+k*5,none⟩) hl).trans c0,(hb.cell (p:=⟨b,off+k*5+1,none⟩) hl).trans c1,(hb.cell (p:=⟨b,off+k*5+2,none⟩) hl).trans c2,(hb.cell (p:=⟨b,off+k*5+3,none⟩) hl).trans c3,(hb.cell (p:=⟨b,off+k*5+4,none⟩) hl).trans c4⟩
theorem rX.step{I n k j:Nat}{S:Nat->Fe.St}{s:Fe.St}{v:Value}(t:Fe.St)(h:rX W I n (λi=>if i=k then s else S i))(hk:k<n)(hj:j<8)(hv:KV t j=v)(ho:∀q,q<8->q≠j->KV t q=KV s q) :
  rX (W.setCell ⟨I,k*8+j,none⟩ v) I n (λi=>if i=k then t else S i) :=
 h.put hk hj (by simpa using hv) (λq hq hqn=>by simpa using ho q hq hqn) (λi _ hi=>by simp[hi])
theorem rX.X0{I n k:Nat}{S:Nat->Fe.St}(h:rX W I n S)(hk:k<n)(b lo hi g s z:Int) :
  rX ((((((((W.setCell ⟨I,k*8,none⟩ (.int .i64 b)).setCell ⟨I,k*8+1,none⟩ (.int .i64 lo)).setCell ⟨I,k*8+2,none⟩ (.int .i64 hi)).setCell ⟨I,k*8+3,none⟩ (.int .i64 g)).setCell ⟨I,k*8+4,none⟩ (.int .i64 s)).setCell ⟨I,k*8+5,none⟩ (.int .i64 z)).setCell ⟨I,k*8+6,none⟩ (.int .i64 0)).setCell ⟨I,k*8+7,none⟩ (.bool false)) I n
   (λi=>if i=k then ⟨⟨b,lo,hi,g,s⟩,z,0,false⟩else S i):=by
 have h0:rX W I n (λi=>if i=k then S k else S i):=h.same λi _=>by by_cases e:i=k<;>simp[e]
 generalize S k=s0 at h0;obtain⟨⟨b0,lo0,hi0,g0,s00⟩,z0,m0,f0⟩:=s0;have h1:=h0.step (j:=0) (v:=.int .i64 b) ⟨⟨b,lo0,hi0,g0,s00⟩,z0,m0,f0⟩ hk ak rfl Z3u;have h2:=h1.step (j:=1) (v:=.int .i64 lo) ⟨⟨b,lo,hi0,g0,s00⟩,z0,m0,f0⟩ hk ak rfl Z3u;have h3:=h2.step (j:=2) (v:=.int .i64 hi) ⟨⟨b,lo,hi,g0,s00⟩,z0,m0,f0⟩ hk ak rfl Z3u;have h4:=h3.step (j:=3) (v:=.int .i64 g) ⟨⟨b,lo,hi,g,s00⟩,z0,m0,f0⟩ hk ak rfl Z3u;have h5:=h4.step (j:=4) (v:=.int .i64 s) ⟨⟨b,lo,hi,g,s⟩,z0,m0,f0⟩ hk ak rfl Z3u;have h6:=h5.step (j:=5) (v:=.int .i64 z) ⟨⟨b,lo,hi,g,s⟩,z,m0,f0⟩ hk ak rfl Z3u;have h7:=h6.step (j:=6) (v:=.int .i64 0) ⟨⟨b,lo,hi,g,s⟩,z,0,f0⟩ hk ak rfl Z3u;exact h7.step (j:=7) (v:=.bool false) ⟨⟨b,lo,hi,g,s⟩,z,0,false⟩ hk ak rfl Z3u
theorem At.af8{I k c:Nat}{o:Obj}(h:At W c o)(hne:c≠I)(b lo hi g s z:Int):At ((((((((W.setCell ⟨I,k*8,none⟩ (.int .i64 b)).setCell ⟨I,k*8+1,none⟩ (.int .i64 lo)).setCell ⟨I,k*8+2,none⟩ (.int .i64 hi)).setCell ⟨I,k*8+3,none⟩ (.int .i64 g)).setCell ⟨I,k*8+4,none⟩ (.int .i64 s)).setCell ⟨I,k*8+5,none⟩ (.int .i64 z)).setCell ⟨I,k*8+6,none⟩ (.int .i64 0)).setCell ⟨I,k*8+7,none⟩ (.bool false)) c o :=
 (((((((h.off hne _ _).off hne _ _).off hne _ _).off hne _ _).off hne _ _).off hne _ _).off hne _ _).off hne _ _
theorem eH.X0{R I n k:Nat}{room:Int}{gr:Bool}{S T:Nat->Fe.St}(h:eH W R I n room gr (kX S T k))(hk:k<n)(b lo hi g s z:Int)(hT:T k=⟨⟨b,lo,hi,g,s⟩,z,0,false⟩) :
  eH ((((((((W.setCell ⟨I,k*8,none⟩ (.int .i64 b)).setCell ⟨I,k*8+1,none⟩ (.int .i64 lo)).setCell ⟨I,k*8+2,none⟩ (.int .i64 hi)).setCell ⟨I,k*8+3,none⟩ (.int .i64 g)).setCell ⟨I,k*8+4,none⟩ (.int .i64 s)).setCell ⟨I,k*8+5,none⟩ (.int .i64 z)).setCell ⟨I,k*8+6,none⟩ (.int .i64 0)).setCell ⟨I,k*8+7,none⟩ (.bool false)) R I n room gr (kX S T (k+1)) :=
 ⟨At.af8 h.1 h.ne b lo hi g s z,(h.2.X0 hk b lo hi g s z).same λi _=>by
  by_cases e:i=k
  . subst e;rw[tq,hT];simp
  . rw[yN _ _ e];simp[e]⟩
theorem Below.X0{N:Nat}{w W:World}{I k:Nat}(h:Below N w W)(hN:N<=I)(b lo hi g s z:Int):Below N w ((((((((W.setCell ⟨I,k*8,none⟩ (.int .i64 b)).setCell ⟨I,k*8+1,none⟩ (.int .i64 lo)).setCell ⟨I,k*8+2,none⟩ (.int .i64 hi)).setCell ⟨I,k*8+3,none⟩ (.int .i64 g)).setCell ⟨I,k*8+4,none⟩ (.int .i64 s)).setCell ⟨I,k*8+5,none⟩ (.int .i64 z)).setCell ⟨I,k*8+6,none⟩ (.int .i64 0)).setCell ⟨I,k*8+7,none⟩ (.bool false)) :=
 Below.setCell (Below.setCell (Below.setCell (Below.setCell (Below.setCell (Below.setCell (Below.setCell (Below.setCell h hN _) hN _) hN _) hN _) hN _) hN _) hN _) hN _
theorem At.ad1{b:Nat}{x y z u v:Value}{T:TypeId}(h:At W b (.cells #[x,y,z,u,v] T))(x' y' z' u' v':Value) :
 At (((((W.setCell ⟨b,0,none⟩ x').setCell ⟨b,1,none⟩ y').setCell ⟨b,2,none⟩ z').setCell ⟨b,3,none⟩ u').setCell ⟨b,4,none⟩ v') b (.cells #[x',y',z',u',v'] T):=((((h.set 0 x').set 1 y').set 2 z').set 3 u').set 4 v'
theorem Below.ad1{N:Nat}{w W:World}{b:Nat}(h:Below N w W)(hN:N<=b)(x' y' z' u' v':Value):Below N w (((((W.setCell ⟨b,0,none⟩ x').setCell ⟨b,1,none⟩ y').setCell ⟨b,2,none⟩ z').setCell ⟨b,3,none⟩ u').setCell ⟨b,4,none⟩ v') :=
 Below.setCell (Below.setCell (Below.setCell (Below.setCell (Below.setCell h hN _) hN _) hN _) hN _) hN _
theorem UF:(Tryz.prog.info? 318).map (λi=>(i.zero,i.size,i.bytes))=some (some (.agg #[(),(),(),(),(),(),(),false]),8,64):=by kernel_rfl
def P7:Fe.St:=⟨⟨0,0,0,0,0⟩,0,0,false⟩
theorem X3(w:World)(n:Nat):rX (w.alloc (.cells (madeCells #[(),(),(),(),(),(),(),false] (n*8)) 318)) w.heap.size n (λ_=>P7):=by
 refine⟨_,At.new _ _,size_madeCells _ _,λi j hi hj => ?_⟩;have e:(i*8+j)%8=j:=by omega
 have hlt:i*8+j<n*8:=by omega
 simp only[madeCells,Array.getElem?_map,Array.getElem?_range,hlt,if_true,Option.map_some,jc4,ja9,List.length_nil,Nat.reduceAdd,Nat.zero_add,e];rcases(show j=0\/j=1\/j=2\/j=3\/j=4\/j=5\/j=6\/j=7 by omega)with rfl|rfl|rfl|rfl|rfl|rfl|rfl|rfl<;>rfl
theorem abH(l:Nat->Fe.It)(k:Nat):0<=Fe.yA l k/\Fe.yA l k<=1048576*k:=by
 induction k with
 | zero=>simp[Fe.yA]
 | succ k ih =>
   have:=Fe.nA (l k) (Fe.cnt (l k)).b;simp only[Fe.yA];constructor<;>omega
theorem vK{F:Fence}{m:Nat}{P:Program}(w:World){ops:Array Oper}{rest:List Oper}{o:Oper}{a:Act}{Q:Exit->Act->World->Prop}(hro:F.round=none)(hw:Region.wanted o (yielded ops a.tmps)=true)
  (l c:Operand) (t:TypeId) (hop:o.op=Op.makeSlice t l c) {v:Value} {w':World} (hrun:(Instr.makeSlice t (a.eval l) (a.eval c)).run P w=.ok v w') (hK:wpListIn F m P ops Q rest (a.put o.dst v) w'):wpListIn F m P ops Q (o::rest) a w:=by
 unfold wpListIn;rw[if_pos hw];unfold Oper.wpIn;refine⟨λf hf => ?_,?_⟩
 . unfold Oper.about at hf
   simp[hop]at hf
 . rw[hro,Oper.semAt_none]
   unfold execOp;simp only[hop,Sem.run_bind,hrun,Result.andThen_ok,Sem.run_pure];exact hK
end
section
open Go.Shelf
open List renaming setIfInBounds_toArray → ja1,set_cons_zero → ja2,set_cons_succ → ja3,length_cons → ja9,append_toArray → jc2,size_toArray → jc4,push_toArray → jc',cons_append → jd1
attribute [local go_sem] Oper.semAt_some
theorem UG(A:Option Addr)(l:Nat->Fe.It)(n c:Nat)(room:Int)(w:World)(hI:Items w A l n)(hn:n<=64)(hr:0<=room/\room<=67108864) :
  Calls ja0 218 #[.slice A n c,room] w λe w'=>(∃R I,e=.returned (.pointer (some ⟨R,0,none⟩))/\w.heap.size<=I/\eH w' R I n room (Fe.Dq l n room) (Fe.begun (Fe.Dq l n room) l))/\Below w w w':=by
 have Jp:=@ru;obtain⟨i0,hi0,hz0,hz1,hz2⟩:=info_parts UF;have HI:=ah hI;clear hI;have hrun:=run_make (P:=ja0) w 314 318 i0 _ Tryz.underlying314 hi0 hz0 .i64 .i64 n n ak (Int.le_refl _) Te ak;rw[hz1,Int.toNat_natCast]at hrun;simp only[Value.cells]at hrun;have zF:=ah hrun;clear hrun;refine(callsIn_wide (n:=5)).1 ?_;refine callsIn_of_wp_marks Tryz.func218 rfl trivial ?_ rfl;simp only[Tryz.ntmps218,jc4,ja9,List.length_nil,Nat.reduceAdd,Nat.reduceSub,Array.replicate_succ,Array.replicate_zero,jc',jc2,List.nil_append,jd1]
 gi_upto_region 2 with(refine vK _ rfl aR _ _ 314 rfl zF.out ?_)
 obtain⟨W0,hA1,xk,hB,hsz,hW⟩:∃W0,At W0 (w.heap.size+1+1) (.cells #[.pointer (some ⟨w.heap.size+1,0,none⟩)] 308)/\eH W0 (w.heap.size+1) w.heap.size n room false (λ_=>P7)/\Below w w W0/\W0.heap.size=w.heap.size+3 /\
   (((w.alloc (.cells (madeCells #[(),(),(),(),(),(),(),false] (n*8)) 318)).alloc (.cells #[.slice w n n,room,.int .i64 (-1)] 316)).alloc (.cells #[.pointer (some ⟨w.heap.size+1,0,none⟩)] 308))=W0 :=
  ⟨_,At.new' _ aW,⟨(At.new' (.cells #[.slice w n n,room,.int .i64 (-1)] 316) aW).alloc _,((X3 w n).alloc _).alloc _⟩,aB (aB (aB aD _) _) _,by simp,rfl⟩
 rw[hW];clear hW zF hi0 hz0 hz1 hz2 i0
 gi_wp2
 gi_loopw [6,20] (λs i wr=>∃k:Nat,k<=n/\i=.int .i64 k/\s=.int .i64 (Fe.yA l k)/\eH wr (w.heap.size+1) w.heap.size n room false (kX (λ_=>P7) (Fe.fresh l) k)/\At wr (w.heap.size+1+1) (.cells #[.pointer (some ⟨w.heap.size+1,0,none⟩)] 308)/\Below w w wr) (λ_ i _=>n-(intOf i).toNat)
 case atStart=>exact⟨0,by omega,rfl,rfl,by rw[wJ];exact xk,hA1,hB⟩
 case round =>
  obtain⟨k,hk,rfl,rfl,hR,hA,hB⟩:=hrel;have hwr:=hB.size;have sU:=hR.1.lt;have hA1:=hA.lt;by_cases hlt:k<n
  . have hltz:(k:Int)<(n:Int):=by omega
    obtain⟨b,off,rfl,hbl,hc⟩:=(HI.out.after hB) ak;obtain⟨c0,c1,c2,c3,c4⟩:=hc k hlt;clear hc;obtain⟨s1,s2⟩:=abH l k;obtain⟨k1,k2⟩:=Fe.nA (l k) (Fe.cnt (l k)).b;have HZ:Hid (Fe.yA l (k+1)=Fe.yA l k+Fe.clamp (l k) (Fe.cnt (l k)).b):=ah rfl;have HF:Hid (Fe.fresh l k=⟨Fe.cnt (l k),Fe.clamp (l k) (Fe.cnt (l k)).b,0,false⟩):=ah rfl;have HCC:=ah (Fe.Tz (l k) (Fe.cnt (l k)).b);generalize hl9:l k=x at *;have HX:=ah hl9;clear hl9;generalize hcx:Fe.cnt x=y at *;have HY:=ah hcx;clear hcx;generalize hz:Fe.clamp x y.b=z at *;clear hz;obtain⟨x0,x1,x2,x3,x4⟩:=x;obtain⟨y0,y1,y2,y3,y4⟩:=y;dsimp only at c0 c1 c2 c3 c4 HCC;generalize Fe.yA l k=u at *
    gi_upto_region 6 with(fail)
    obtain⟨W1,pI,hb,hs1,hW⟩:∃W1,At W1 wr (.cells #[x0,x1,x2,x3,x4] 230)/\Below wr wr W1/\wr.heap.size<W1.heap.size /\
     wr.alloc (.cells #[x0,x1,x2,x3,x4] 230)=W1:=⟨_,At.new _ _,aB aD _,by simp,rfl⟩
    rw[hW];clear hW c0 c1 c2 c3 c4;generalize hX9:wr.heap.size=X at *;obtain⟨l9,a0,a1,a2,a3,a4⟩:=pI.five
    gi_upto_region 7 with(refine⟨trivial,?_⟩;gi_at_call 213;refine(callsIn_wide.2 (ME x0 x1 x2 x3 x4 _)).mono ?_;rintro e w2 ⟨rfl,hb2⟩;rw[HY.out];simp only[enc];clear l9 a0 a1 a2 a3 a4;replace hb:=Below.trans hb (hb2.mono ak);replace pI:=pI.keep hb2;clear hb2;obtain⟨l9,a0,a1,a2,a3,a4⟩:=pI.five;have z0:=pI.thaw 0;have z1:=pI.thaw 1;have z2:=pI.thaw 2;have z3:=pI.thaw 3;have z4:=pI.thaw 4)
    replace pI:=pI.ad1 (.int .i64 y0) (.int .i64 y1) (.int .i64 y2) (.int .i64 y3) (.int .i64 y4);replace hb:=Below.ad1 hb (aH X) (.int .i64 y0) (.int .i64 y1) (.int .i64 y2) (.int .i64 y3) (.int .i64 y4);clear l9 a0 a1 a2 a3 a4 z0 z1 z2 z3 z4;generalize World.setCell _ _ _=W2 at *;obtain⟨l9,a0,a1,a2,a3,a4⟩:=pI.five
    gi_upto_region 8 with(refine⟨trivial,?_⟩;gi_at_call 185;refine(callsIn_wide.2 (CQ y0 y1 y2 y3 y4 y0 _)).mono ?_;rintro e w3 ⟨rfl,hb3⟩;rw[HCC.out];replace hb:=Below.trans hb (hb3.mono ak);clear l9 a0 a1 a2 a3 a4;replace pI:=pI.keep hb3;clear hb3;obtain⟨l9,a0,a1,a2,a3,a4⟩:=pI.five)
    have wR:=hR.keep (hX9▸hb);have hAw:=hA.keep (hX9▸hb);have hBw:=Below.trans hB (hb.mono ak);obtain⟨g0,r0,-, -⟩:=wR.cells;have cB:_=some (Value.pointer (some ⟨w.heap.size+1,0,none⟩)):=hAw.cell 0;have gB:=hAw.lt;have gI:=wR.2.lt;refine wpIn_wide.2 ?_;refine yw 9 1 ?_
    (repeat (first|refine jc ?_ | refine jd ?_ (hc:=by intro w2 hS;first|with_reducible exact zn hS (eu _ _))|refine je ?_))
    refine aj.bL ?_;intro w2 hS;have Jt:=wR.keep hS;have xJ:=hAw.keep hS;have kr:=Below.ay hBw aC hS;have h95:=pI.keep hS;obtain⟨gI5,e0,e1,e2,e3,e4,e5,e6,e7⟩:=Jt.2.fields hlt;have t0:=Jt.2.thaw (k*8);have t1:=Jt.2.thaw (k*8+1);have t2:=Jt.2.thaw (k*8+2);have t3:=Jt.2.thaw (k*8+3);have t4:=Jt.2.thaw (k*8+4);have t5:=Jt.2.thaw (k*8+5);have t6:=Jt.2.thaw (k*8+6);have t7:=Jt.2.thaw (k*8+7);refine wz ?_;intro K hK;go_simp;refine hK _ _ (aj.bC ?_);clear hK K;have hR6:=Jt.X0 hlt y0 y1 y2 y3 y4 z HF.out;have xK:=xJ.af8 (I:=w.heap.size) (k:=k) ak y0 y1 y2 y3 y4 z;have zm:=Below.X0 (I:=w.heap.size) (k:=k) kr aC y0 y1 y2 y3 y4 z;clear hR hA hB wR hAw hBw Jt xJ kr h95 pI hb hS r0 cB e0 e1 e2 e3 e4 e5 e6 e7 t0 t1 t2 t3 t4 t5 t6 t7 l9 a0 a1 a2 a3 a4
    first|generalize World.setCell _ _ _=W6 at * | (trace_state;fail)
    gi_wp2
    go_roundw
    case rel=>exact⟨k+1,by omega,by go_num,by rw[HZ.out],hR6,xK,zm⟩
    case measure=>simp[intOf];omega
  . have hltz:¬ (k:Int)<(n:Int):=by omega
    obtain rfl:k=n:=by omega
    have hR2:eH wr (w.heap.size+1) w.heap.size k room false (Fe.fresh l):=⟨hR.1,hR.2.same (yO _ _ _)⟩;have hne:=hR.ne;obtain⟨g0,-, -, c2⟩:=hR2.cells;have z2:=hR2.1.thaw 2;clear hR;refine(Decidable.em (Fe.yA l k<room)).elim (λhg => ?_) (λhg => ?_)
    all_goals
     first
      | have HG:Hid (Fe.Dq l k room=true):=ah (decide_eq_true hg)
      | have HG:Hid (Fe.Dq l k room=false):=ah (decide_eq_false hg)
     have cB:wr.cell? ⟨w.heap.size+1+1,0,none⟩=some (.pointer (some ⟨w.heap.size+1,0,none⟩)):=hA.cell 0
     gi_wp2
     first
      | (obtain⟨W7,hR7,Oj,CG,hW⟩:∃W7,eH W7 (w.heap.size+1) w.heap.size k room (Fe.Dq l k room) (Fe.fresh l)/\At W7 (w.heap.size+1+1) (.cells #[.pointer (some ⟨w.heap.size+1,0,none⟩)] 308)/\Below w w W7/\wr.setCell ⟨w.heap.size+1,2,none⟩ (.int .i64 1)=W7 :=
        ⟨_,by rw[HG.out];exact⟨hR2.1.set 2 _,hR2.2.off ak _⟩,hA.off ak _ _,Below.setCell hB aW _,rfl⟩
         rw[hW]
         clear hW)
      | (obtain⟨W7,hR7,Oj,CG,hW⟩:∃W7,eH W7 (w.heap.size+1) w.heap.size k room (Fe.Dq l k room) (Fe.fresh l)/\At W7 (w.heap.size+1+1) (.cells #[.pointer (some ⟨w.heap.size+1,0,none⟩)] 308)/\Below w w W7/\wr=W7 :=
        ⟨_,by rw[HG.out];exact hR2,hA,hB,rfl⟩
         subst hW)
     clear hA1 hR2 z2 c2 xk HI HG cB hA hB hg sU g0 hwr;have hs7:=CG.size;have hI7:=hR7.2.lt;have hQ7:=Oj.lt;have akC:=hR7.ne
     refine jH (n:=5) (gf:=225) (first:=#[.pointer (some ⟨w.heap.size+1,0,none⟩)]) (lb:=#[]) rfl (enters_of Tryz.func225 aV rfl) k (λi=>(Fe.fresh l i).f) (λi=>#[.int .i64 (Fe.pl (Fe.fresh l) i:Nat),.pointer (some ⟨w,i*8,none⟩)]) (λ_=>rfl)
      (λi W=>eH W (w.heap.size+1) w.heap.size k room (Fe.Dq l k room) (kX (Fe.fresh l) (Fe.begun (Fe.Dq l k room) l) i)/\At W (w.heap.size+1+1) (.cells #[.pointer (some ⟨w.heap.size+1,0,none⟩)] 308)/\Below w w W)
      (λW=>False)
      (λi W r o o' h hr hW hc=>⟨h.1.turn ak ak o,h.2.1.turn ak o,Below.turn h.2.2 ak hW o⟩)
      (λW r o o' h hr hW _=>h)
      (λo1 o2=>⟨by rw[wJ];exact(hR7.alloc o1).alloc o2,(Oj.alloc o1).alloc o2,aB (aB CG o1) o2⟩)
      (λlp J Jx W hV hs hY hJ=>rG 4 (w.heap.size+1) w.heap.size k room (Fe.sg (Fe.Dq l k room)) (Fe.fresh l) hn lp J Jx W (λi W h=>(hV i W h).1.mixed) hs hY hJ)
      (λi W hi hf h=>by cases hf)
      (λi t=>((t.setIfInBounds 52 (.int .i64 (Fe.pl (Fe.fresh l) i:Nat))).setIfInBounds 53 (.pointer (some ⟨w,i*8,none⟩))).setIfInBounds 11 (.pointer (some ⟨w,i*8,none⟩))) ?assign ?body ?done ?stop
     case assign =>
      exact Z13
     case stop=>exact λD W hD h _=>h.elim
     case body =>
      rintro lp i W hi hf ⟨Wj,Po,X4⟩;have cB:W.cell? ⟨w.heap.size+1+1,0,none⟩=some (.pointer (some ⟨w.heap.size+1,0,none⟩)):=Po.cell 0;have lB:=Po.lt;have hbd:((0<=(kX (Fe.fresh l) (Fe.begun (Fe.Dq l k room) l) i i).x.b/\(kX (Fe.fresh l) (Fe.begun (Fe.Dq l k room) l) i i).x.b<=1048576)/\0<=(kX (Fe.fresh l) (Fe.begun (Fe.Dq l k room) l) i i).z/\(kX (Fe.fresh l) (Fe.begun (Fe.Dq l k room) l) i i).z<=1048576):=by
       rw[oo (aH _)];obtain⟨q1,q2,_⟩:=Fe.Ja (l i);exact⟨⟨q1,q2⟩,Fe.nA (l i) _⟩
      have HST:Hid (Fe.stay (Fe.Dq l k room) (kX (Fe.fresh l) (Fe.begun (Fe.Dq l k room) l) i i).x (kX (Fe.fresh l) (Fe.begun (Fe.Dq l k room) l) i i).z=(Fe.begun (Fe.Dq l k room) l i).f):=ah (by rw[oo (aH _)];rfl)
      (simp only[ja1,ja2,ja3])
      gi_wp2_with (refine⟨trivial,?_⟩;gi_at_call 226;refine(CallsIn.inRound lp (callsIn_wide.2 (UE _ _ k i room _ _ _ Wj hi hbd))).mono ?_;rintro e w9 ⟨rfl,fK⟩;rw[HST.out];have l9:=(Wj.keep fK).2.lt;obtain⟨-, -, -, -, -, -, -, -, e7⟩:=(Wj.keep fK).2.fields hi;have z7:=(Wj.keep fK).2.thaw (i*8+7))
      have hz9:=fK.size;refine⟨(KeepsFrom.of_below fK).trans ((KeepsOthers.setCell _ _ _).from _),⟨(Wj.1.keep fK).off ak _ _,?_⟩,(Po.keep fK).off ak _ _,Below.setCell (Below.ay X4 ak fK) aC _⟩;refine(Wj.2.keep fK).put hi ak ?_ ?_ ?_
      . rw[tq];simp[KV]
      . intro q hq hqn
        rw[tq,oo (aH _)];unfold KV
        (repeat' split)<;>first|rfl|omega
      . intro j hj hjn;rw[yN _ _ hjn]
     case done =>
      rintro D W hD ⟨Wj,Po,X4⟩ hK;have cB:W.cell? ⟨w.heap.size+1+1,0,none⟩=some (.pointer (some ⟨w.heap.size+1,0,none⟩)):=Po.cell 0;have lB:=Po.lt
      gi_wp2
      refine⟨by simp,.inl ⟨_,_,rfl,run_takeDeferred hK,?_⟩⟩;exact⟨_,results_tmp rfl _ _ _,⟨w.heap.size+1,w.heap.size,rfl,aH _,⟨(Wj.turn ak ak _).1,(Wj.turn ak ak _).2.same (yO _ _ _)⟩⟩,Below.turn X4 ak hK _⟩
end
open List renaming range → jb'
variable {S:Nat->Fe.St}{room:Int}{gr:Bool}
def kF(l:Nat->Fe.It)(n:Nat)(x:Int):List Int:=(jb' n).map λi=>(Fe.fin l n (Fe.to x 67108864) i).z
def vL(S:Nat->Fe.St)(n:Nat):Prop:=Sound S n/\∀i,i<n->-134217728<=(S i).m/\(S i).m<=134217728
theorem MG(gr:Bool)(l:Nat->Fe.It)(n:Nat):vL (Fe.begun gr l) n:=by
 refine⟨λi _ => ?_,λi _=>⟨by show -134217728<=(0:Int);omega,by show(0:Int)<=134217728;omega⟩⟩;obtain⟨q1,q2,_,_,_,_,_,_,q3,q4⟩:=Fe.Ja (l i);exact⟨⟨⟨q1,q2⟩,q3,q4⟩,Fe.nA (l i) _⟩
theorem abI{n i:Nat}(h:Sound S n)(hi:i<n)(hf:(S i).f=false) : -67108864<=Fe.want gr (Fe.parts gr room S n) S i/\Fe.want gr (Fe.parts gr room S n) S i<=68157440:=by
 have hp:=Fe.Rt S hi hf;obtain⟨⟨⟨hb1,hb2⟩,_⟩,_⟩:=h i hi;have hpv:0<=(Fe.parts gr room S n).getD (Fe.pl S i) 0/\(Fe.parts gr room S n).getD (Fe.pl S i) 0<=67108864:=by
  unfold Fe.parts;rw[Fe.GY _ _ (by rw[Fe.qW];exact hp)];exact Fe.Cv _ _ (by rw[Fe.qW];exact hp)
 unfold Fe.want;have hq : -67108864<=Fe.sg gr*(Fe.parts gr room S n).getD (Fe.pl S i) 0/\Fe.sg gr*(Fe.parts gr room S n).getD (Fe.pl S i) 0<=67108864:=by cases gr<;>simp only[Fe.sg,Bool.false_eq_true,if_false,if_true]<;>omega
 omega
theorem tC{n:Nat}(h:vL S n):vL (Fe.shared gr room n S) n:=by
 constructor
 . intro i hi
   obtain⟨h1,h2⟩:=h.1 i hi;unfold Fe.shared Fe.gP;cases hf:(S i).f
   . simp only[Bool.false_eq_true,if_false]
     exact⟨h1,Fe.nA _ _⟩
   . simp only[if_true]
     exact⟨h1,h2⟩
 . intro i hi
   have h3:=h.2 i hi;unfold Fe.shared Fe.gP;cases hf:(S i).f
   . simp only[Bool.false_eq_true,if_false]
     have:=abI (gr:=gr) (room:=room) h.1 hi hf;have:=Fe.nA (S i).x (Fe.want gr (Fe.parts gr room S n) S i);omega
   . simp only[if_true]
     exact h3
theorem MH{n:Nat}(h:vL S n):vL (Fe.froze n S) n:=by
 constructor
 . intro i hi
   have h1:=h.1 i hi;unfold Fe.froze;cases hf:(S i).f<;>simp only[Bool.false_eq_true,if_false,if_true]<;>exact h1
 . intro i hi
   have h1:=h.2 i hi;unfold Fe.froze;cases hf:(S i).f<;>simp only[Bool.false_eq_true,if_false,if_true]<;>exact h1
theorem JG{n:Nat}(h:vL S n)(k:Nat):vL (Fe.rounds gr room n S k) n:=by
 induction k with
 | zero=>exact h
 | succ k ih=>exact MH (tC ih)
theorem Hy(R I n:Nat)(room:Int)(gr:Bool)(S:Nat->Fe.St)(w:World)(h:eH w R I n room gr S)(hn:n<=64) :
  Calls ja0 222 #[R] w λe w'=>(∃b,e=.returned (.slice (some ⟨b,0,none⟩) n n)/\w.heap.size<=b/\Ints w' (some ⟨b,0,none⟩) ((jb' n).map λi=>(S i).z))/\Below w w w':=by
 obtain⟨i0,hi0,hz0,hz1,hz2⟩:=info_parts intZero;have HR:=ah h;obtain⟨l0,c0,c1,c2⟩:=h.cells;clear h c1 c2;go_enter Tryz.func222,Tryz.ntmps222
 go_upto_region 2 with(at_make;refine wpList_make_row _ rfl _ _ 37 rfl 3 i0 (.int .i64 0) Tryz.underlying37 hi0 hz0 hz1 rfl .i64 .i64 n rfl rfl Te ak ?_)
 have Ue:At (w.alloc (.cells (madeCells #[()] n) 3)) w.heap.size (.cells (aX (λi=>(S i).z) n 0) 3):=by rw[<-jk];exact At.new _ _
 have hB0:Below w w (w.alloc (.cells (madeCells #[()] n) 3)):=aB aD _;generalize (w.alloc (.cells (madeCells #[()] n) 3))=W1 at *;obtain⟨l0',c0',-, -⟩:=(HR.out.keep hB0).cells;go_wp2
 go_loopw [17] (λi wr=>∃k:Nat,k<=n/\i=.int .i64 k/\At wr w (.cells (aX (λi=>(S i).z) n k) 3)/\Below w w wr) (λi _=>n-(intOf i).toNat)
 case atStart=>exact⟨0,by omega,rfl,Ue,hB0⟩
 case round =>
  obtain⟨k,hk,rfl,hA,hB⟩:=hrel;by_cases hlt:k<n
  . obtain⟨l1,d0,d1,d2,d3,d4,d5,d6,d7⟩:=(HR.out.keep hB).2.fields hlt
    have HZ:Hid ((λi=>(S i).z) k=(S k).z):=ah rfl;have hz:=hA.thaw k;have hc0:=hA.cell k;rw[dh _ hlt]at hc0;simp only[Nat.lt_irrefl,if_false]at hc0;have hlb:=hA.lt;have hsz:=hB.size
    have fin:∀(W5:World),Below wr wr W5->At (W5.setCell ⟨w,k,none⟩ (.int .i64 (S k).z)) w.heap.size (.cells (aX (λi=>(S i).z) n (k+1)) 3)/\Below w w (W5.setCell ⟨w,k,none⟩ (.int .i64 (S k).z)):=λW5 hb =>
     ⟨by rw[<-jE _ hlt];exact(hA.keep hb).set k _,Below.setCell (Below.trans hB (hb.mono ak)) aC _⟩
    have FIN:=ah fin;clear fin;generalize (S k).x.b=v0 at *;generalize (S k).x.lo=v1 at *;generalize (S k).x.hi=v2 at *;generalize (S k).x.g=v3 at *;generalize (S k).x.s=v4 at *;generalize (S k).z=v5 at *;generalize (S k).m=v6 at *;generalize (S k).f=v7 at *;go_wp2
    go_roundw
    case rel=>exact⟨k+1,by omega,by go_num,(FIN.out wr aD).1.alloc _,aB (FIN.out wr aD).2 _⟩
    case measure=>simp[intOf];omega
  . obtain rfl:k=n:=by omega
    go_wp2;refine bodyPost_ret (v:=.slice w k k) (by simp[results,Tryz.results222,go_sem, *];first|done|exact⟨rfl,rfl⟩|rfl) rfl ⟨⟨w.heap.size,rfl,aH _,tu _ k KR hA⟩,hB⟩
def abJ(W:World)(I:Nat):Nat->Nat
 | 0=>0
 | k+1=>abJ W I k+(match W.cell? ⟨I,k*8+7,none⟩with
   | some (.bool false)=>1
   | _=>0)
def yP(W:World)(v:Value):Nat :=
 match v with
 | .pointer (some p)=>(match W.cell? ⟨p.block,0,none⟩with
   | some (.slice (some q) n _)=>abJ W q.block n
   | _=>0)
 | _=>0
theorem Bc{W:World}{R I n:Nat}(h:eH W R I n room gr S):yP W (.pointer R)=Fe.pl S n:=by
 have c:∀k,k<=n->abJ W I k=Fe.pl S k:=by
  intro k hk
  induction k with
  | zero=>rfl
  | succ k ih =>
    have h7:W.cell? ⟨I,k*8+7,none⟩=some (.bool (S k).f):=h.2.cell (show k<n by omega) 7 ak;simp only[abJ,Fe.pl,ih ak,h7];cases (S k).f<;>simp
 simp only[yP,h.cells.2.1];exact c n aC
theorem Oz(A:Option Addr)(l:Nat->Fe.It)(n c:Nat)(x:Int)(w:World)(hI:Items w A l n)(hn:n<=64) :
  Calls ja0 214 #[.slice A n c,x] w λe w'=>(∃b,e=.returned (.slice (some ⟨b,0,none⟩) n n)/\w.heap.size<=b/\Ints w' (some ⟨b,0,none⟩) (kF l n x))/\Below w w w':=by
 obtain⟨room,hroom⟩:∃room,room=Fe.to x 67108864:=⟨_,rfl⟩;have r1:0<=room:=by rw[hroom];exact Fe.qV ak
 have r2:room<=67108864:=by rw[hroom];exact Fe.um ak
 have HRM:=ah hroom;clear hroom;have HI:=ah hI;clear hI;obtain⟨gr,hgr⟩:∃gr,gr=Fe.Dq l n room:=⟨_,rfl⟩;have HS:Hid (∀k,vL (Fe.rounds gr room n (Fe.begun gr l) k) n):=ah (λk=>JG (MG gr l n) k)
 have HF:Hid (∀k,k<=n->Fe.pl (Fe.rounds gr room n (Fe.begun gr l) k) n=0->(jb' n).map (λi=>(Fe.rounds gr room n (Fe.begun gr l) k i).z)=kF l n x):=ah (by
  intro k hk h0;unfold kF Fe.fin;rw[<-HRM.out,<-hgr];apply List.map_congr_left;intro i hi;have hi:i<n:=by simpa using hi
  rw[Fe.Je (Fe.abb h0 i hi) n hk])
 have HG:=ah hgr;clear hgr;go_enter Tryz.func214,Tryz.ntmps214
 go_wp2
 refine wp_scope_jumps 0 (λa' w'=>∃(R I k:Nat) (u8 u13 u14 u15 u16 u17 u18 u19 u20:Value),a'={ tmps:=#[.slice A n c,x,undef,undef,.slice none 0 0,R,.slice A n c,.int .i64 n,u8,.slice A n c,x,room,R,u13,u14,u15,u16,u17,u18,u19,u20],defers:=[] } /\
  w.heap.size<=I/\eH w' R I n room gr (Fe.rounds gr room n (Fe.begun gr l) k)/\Below w w w'/\k+Fe.pl (Fe.rounds gr room n (Fe.begun gr l) k) n<=n) (λa' w'=>yP w' (a'.tmps.getD 5 undef)) rfl ?_ ?_
 . go_wp2_with (first|(go_at_call 47;refine(JF _ _ _ ak).mono ?_;rintro e w' ⟨rfl,rfl⟩;rw[<-HRM.out])|(go_at_call 218;refine(UG A l n c room _ HI.out hn ⟨r1,r2⟩).mono ?_;rintro e w1 ⟨⟨R,I,rfl,hIw,xk⟩,hB⟩;rw[<-HG.out]at xk))
   go_step3;replace xk:eH w1 R I n room gr (Fe.rounds gr room n (Fe.begun gr l) 0):=xk;have hS:=HS.out 0;by_cases hp:0<Fe.pl (Fe.rounds gr room n (Fe.begun gr l) 0) n
   . go_wp2_with (first|(go_at_call 219;refine(CP R I n room gr _ _ xk hn).mono ?_;rintro e w2 ⟨rfl,hb2⟩;rw[decide_eq_true hp];replace xk:=xk.keep hb2;replace hB:=Below.ay hB aC hb2;clear hb2)|(go_at_call 220;refine(En w.heap.size R I n room gr _ _ xk hn ⟨hIw,hB.size⟩ hS.1 ⟨r1,r2⟩).mono ?_;rintro e w3 ⟨⟨v3,rfl⟩,ad2,hb3⟩;replace hB:=Below.trans hB hb3;clear hb3)|(go_at_call 221;refine(El w.heap.size R I n room gr _ _ ad2 hn ⟨hIw,hB.size⟩ (tC hS).2).mono ?_;rintro e w4 ⟨⟨v4,rfl⟩,abK,hb4⟩;replace hB:=Below.trans hB hb4;clear hb4))
     go_step3;have hless:=Fe.Dr gr room hp;refine⟨rfl,R,I,1,_,_,_,_,_,_,_,_,_,rfl,hIw,abK,hB,?_⟩;have h1:=Fe.Rs (Fe.rounds gr room n (Fe.begun gr l) 0) n;change 1+Fe.pl (Fe.round gr room n (Fe.rounds gr room n (Fe.begun gr l) 0)) n<=n;omega
   . have h0:Fe.pl (Fe.rounds gr room n (Fe.begun gr l) 0) n=0:=by omega
     go_wp2_with (first|(go_at_call 219;refine(CP R I n room gr _ _ xk hn).mono ?_;rintro e w2 ⟨rfl,hb2⟩;rw[decide_eq_false hp];replace xk:=xk.keep hb2;replace hB:=Below.ay hB aC hb2;clear hb2)|(go_at_call 222;refine(Hy R I n room gr _ _ xk hn).mono ?_;rintro e w3 ⟨⟨b,rfl,hbb,WB⟩,hb3⟩;rw[HF.out 0 ak h0]at WB;have hsz:=hB.size;replace hB:=Below.ay hB aC hb3;clear hb3))
     exact Z2d
 . rintro a' w' ⟨R,I,k,u8,u13,u14,u15,u16,u17,u18,u19,u20,rfl,hIw,xk,hB,hk⟩
   have HLO:=ah (Bc xk);have hS:=HS.out k;by_cases hp:0<Fe.pl (Fe.rounds gr room n (Fe.begun gr l) k) n
   . go_wp2_with (first|(go_at_call 219;refine(CP R I n room gr _ _ xk hn).mono ?_;rintro e w2 ⟨rfl,hb2⟩;rw[decide_eq_true hp];replace xk:=xk.keep hb2;replace hB:=Below.ay hB aC hb2;clear hb2)|(go_at_call 220;refine(En w.heap.size R I n room gr _ _ xk hn ⟨hIw,hB.size⟩ hS.1 ⟨r1,r2⟩).mono ?_;rintro e w3 ⟨⟨v3,rfl⟩,ad2,hb3⟩;replace hB:=Below.trans hB hb3;clear hb3)|(go_at_call 221;refine(El w.heap.size R I n room gr _ _ ad2 hn ⟨hIw,hB.size⟩ (tC hS).2).mono ?_;rintro e w4 ⟨⟨v4,rfl⟩,abK,hb4⟩;replace hB:=Below.trans hB hb4;clear hb4))
     go_step3;have hless:=Fe.Dr gr room hp;refine⟨rfl,⟨R,I,k+1,_,_,_,_,_,_,_,_,_,rfl,hIw,abK,hB,?_⟩,?_⟩
     . change k+1+Fe.pl (Fe.round gr room n (Fe.rounds gr room n (Fe.begun gr l) k)) n<=n
       omega
     . show yP _ (.pointer R)<yP _ (.pointer R)
       rw[Bc abK,HLO.out];exact hless
   . have h0:Fe.pl (Fe.rounds gr room n (Fe.begun gr l) k) n=0:=by omega
     go_wp2_with (first|(go_at_call 219;refine(CP R I n room gr _ _ xk hn).mono ?_;rintro e w2 ⟨rfl,hb2⟩;rw[decide_eq_false hp];replace xk:=xk.keep hb2;replace hB:=Below.ay hB aC hb2;clear hb2)|(go_at_call 222;refine(Hy R I n room gr _ _ xk hn).mono ?_;rintro e w3 ⟨⟨b,rfl,hbb,WB⟩,hb3⟩;rw[HF.out k ak h0]at WB;have hsz:=hB.size;replace hB:=Below.ay hB aC hb3;clear hb3))
     exact Z2d
end Go.Proofs.YtdnggaapcgomhaaGreat.Fix
