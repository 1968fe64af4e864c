/- Proved here: what functions of the program do, in plain numbers (part 37); no conditions but those in sight. -/
import Derived.Test.YtcbcfdihofclkaaGreatQK
import Derived.Test.YtcbcfdihofclkaaGreatQ07
import Derived.Test.YtcbcfdihofclkaaGreatQ08
import Derived.Test.YtcbcfdihofclkaaGreatQ36
set_option linter.unusedVariables false
set_option linter.unusedSimpArgs false
set_option linter.unusedSectionVars false
set_option maxRecDepth 100000
namespace Go.Proofs.YtcbcfdihofclkaaGreat.Fix
open Go.ChangeShapes Go.WideShapes Go.ChangeAt Go.RowKit
def Qc(k n:Int):Bool := !((decide (k=1)&&(decide (1048576<n)||decide (n < -1048576)))||(decide (k=2)&&decide (10000<n)))
def uw(t:Re.St):Bool:=Re.lens.all λi=>Qc (t.c i) (t.c (i+1))
theorem qI{W:World}{base n:Nat}{v:Value}{xs:List Value}(y0 y1 y2 y3:Int)(hown:W.ownsRow base 43 2 v n xs)(hbase:base<=W.heap.size)(hn:n<=1000) :
  ∃A c w',(Builtin.append_ #[132,132] 132 #[v,.slice (some ⟨W.heap.size,0,none⟩) 2 2]).run Tryz.prog (W.alloc (.cells #[.int .i64 y0,.int .i64 y1,.int .i64 y2,.int .i64 y3] 43))=.ok (.slice A (n+2) c) w'/\w'.ownsRow base 43 2 (.slice A (n+2) c) (n+2) (xs++[.int .i64 y0,.int .i64 y1,.int .i64 y2,.int .i64 y3])/\Below base W w'/\base<=w'.heap.size:=by
 obtain⟨i0,hi0,hz0,hz1,hz2⟩:=info_parts Pm;have hA:=At.new W (.cells #[.int .i64 y0,.int .i64 y1,.int .i64 y2,.int .i64 y3] 43)
 obtain⟨v',w',hr,ho,hg,_,_⟩:=run_append_own_at (P:=Tryz.prog) (w:=W.alloc (.cells #[.int .i64 y0,.int .i64 y1,.int .i64 y2,.int .i64 y3] 43)) base 132 132 43 i0 _ 2 16 Tryz.underlying132 hi0 hz0 hz1 hz2 rfl aG v n _ (hown.alloc _) ⟨W.heap.size,0,none⟩ 2 2 [.int .i64 y0,.int .i64 y1,.int .i64 y2,.int .i64 y3] rfl
  (by intro j u hj
      rw[addr_add,Nat.zero_add,hA.cell,<-hj]
      simp)
  Jk OZ ak jH
 obtain⟨A,c,rfl⟩:=fH ho;have hB:Below base W (W.alloc (.cells #[.int .i64 y0,.int .i64 y1,.int .i64 y2,.int .i64 y3] 43)):=Below.alloc (Below.refl _ _) hbase _;refine⟨A,c,w',hr,ho,hB.grown hg jH (λg hgg=>(hown.lt g hgg).1),?_⟩;have h1:=hg.size;have h2:W.heap.size<=(W.alloc (.cells #[.int .i64 y0,.int .i64 y1,.int .i64 y2,.int .i64 y3] 43)).heap.size:=by simp
 omega
set_option maxRecDepth 100000 in
set_option maxHeartbeats 4000000 in
theorem xI(t:Re.St)(w:World):Calls Tryz.prog 22 #[.agg (cells t)] w λe w'=>e=.returned (.bool (uw t))/\Below w.heap.size w w':=by
 go_enter Tryz.func22,Tryz.ntmps22
 go_upto_region 1 with(fail)
 have hA:At (w.alloc (.cells (cells t) 51)) w.heap.size (.cells (cells t) 51):=At.new _ _;have hB:Below w.heap.size w (w.alloc (.cells (cells t) 51)):=Below.alloc' (Below.refl _ _) _;generalize w.alloc (.cells (cells t) 51)=W1 at *;generalize Uk:w.heap.size=bx at *;have lb:=hA.lt;have XT:=Lib.hid Uk;clear Uk;have d3:=hA.st 3 aG rfl;have d4:=hA.st 4 aG rfl;have d5:=hA.st 5 aG rfl;have d6:=hA.st 6 aG rfl;have d7:=hA.st 7 aG rfl;have d8:=hA.st 8 aG rfl;have d9:=hA.st 9 aG rfl;have d10:=hA.st 10 aG rfl;have d11:=hA.st 11 aG rfl;have d12:=hA.st 12 aG rfl;have d13:=hA.st 13 aG rfl;have d14:=hA.st 14 aG rfl;have d41:=hA.st 41 aG rfl;have d42:=hA.st 42 aG rfl;have n1:(W1.alloc (.cells #[.int .i64 (t.c 3),.int .i64 (t.c 4),.int .i64 (t.c 5),.int .i64 (t.c 6),.int .i64 (t.c 7),.int .i64 (t.c 8),.int .i64 (t.c 9),.int .i64 (t.c 10),.int .i64 (t.c 11),.int .i64 (t.c 12),.int .i64 (t.c 13),.int .i64 (t.c 14),.int .i64 (t.c 41),.int .i64 (t.c 42)] 43)).ownsRow W1.heap.size 43 2 (.slice (some ⟨W1.heap.size,0,none⟩) 7 7) 7 (iV t (lp 0)):=yx (ah _) rfl aG;have hA2:=At.alloc hA (.cells #[.int .i64 (t.c 3),.int .i64 (t.c 4),.int .i64 (t.c 5),.int .i64 (t.c 6),.int .i64 (t.c 7),.int .i64 (t.c 8),.int .i64 (t.c 9),.int .i64 (t.c 10),.int .i64 (t.c 11),.int .i64 (t.c 12),.int .i64 (t.c 13),.int .i64 (t.c 14),.int .i64 (t.c 41),.int .i64 (t.c 42)] 43);have hB2:Below W1.heap.size W1 (W1.alloc (.cells #[.int .i64 (t.c 3),.int .i64 (t.c 4),.int .i64 (t.c 5),.int .i64 (t.c 6),.int .i64 (t.c 7),.int .i64 (t.c 8),.int .i64 (t.c 9),.int .i64 (t.c 10),.int .i64 (t.c 11),.int .i64 (t.c 12),.int .i64 (t.c 13),.int .i64 (t.c 14),.int .i64 (t.c 41),.int .i64 (t.c 42)] 43)):=Below.alloc' (Below.refl _ _) _;have N1:=Lib.hid n1;clear n1
 go_upto_region 2 with(fail)
 generalize hbase:W1.heap.size=base at *;have lbx:=Lib.hid (show bx<base from hbase▸lb);generalize World.alloc W1 _=W2 at *;have hsz2:base<=W2.heap.size:=hbase▸hB2.size;clear hbase;clear d3 d4 d5 d6 d7 d8 d9 d10 d11 d12 d13 d14 d41 d42;go_wp2
 go_loopw [3,4] (λv i wr=>∃(k n:Nat) (A:Option Addr) (c:Nat),k<=4/\i=.int .i64 k/\v=.slice A n c/\Hid (n=7+2*k)/\Hid (wr.ownsRow base 43 2 (.slice A n c) n (iV t (lp k)))/\At wr bx (.cells (cells t) 51)/\Below base W1 wr/\base<=wr.heap.size) (λ_ i _=>4-(intOf i).toNat)
 case atStart=>exact⟨0,7,_,_,by omega,rfl,rfl,Lib.hid rfl,N1,hA2,hB2,hsz2⟩
 case round =>
  obtain⟨k,n,A,c,hk,rfl,rfl,HN,O1,a,hB3,hsz⟩:=hrel;obtain rfl|rfl|rfl|rfl|rfl:k=0\/k=1\/k=2\/k=3\/k=4:=by omega
  . obtain rfl:n=7:=by have:=HN.out;omega
    obtain⟨A',c',w1,jO,s1,s2,s3⟩:=qI (W:=wr.drew) (t.c 15) (t.c 16) (t.c 23) (t.c 24) O1.out hsz aG;have jP:∀W',Below base wr W'->W'.cell? ⟨bx,15,none⟩=some (.int .i64 (t.c 15))/\W'.cell? ⟨bx,16,none⟩=some (.int .i64 (t.c 16))/\W'.cell? ⟨bx,23,none⟩=some (.int .i64 (t.c 23))/\W'.cell? ⟨bx,24,none⟩=some (.int .i64 (t.c 24)):=λW' h=>⟨(aW a lbx.out h).st 15 aG rfl,(aW a lbx.out h).st 16 aG rfl,(aW a lbx.out h).st 23 aG rfl,(aW a lbx.out h).st 24 aG rfl⟩;have E1:Hid (w1.ownsRow base 43 2 (.slice A' 9 c') 9 (iV t (lp 1))):=Lib.hid s1;have B1:Below base wr w1:=(Below.drew (Below.refl base wr)).trans s2;have a1:=Lib.hid (show At w1 bx _ from aW a lbx.out B1);have hB4:Below base W1 w1:=hB3.trans B1;have K1:=Lib.hid jP;have R1:=Lib.hid jO;have HB1:=Lib.hid B1;clear s1 s2 jP jO B1 a
    go_upto_region 5 with(fail)
    refine kQ (S:=(λW'=>W'.cell? ⟨bx,15,none⟩=some (.int .i64 (t.c 15))/\W'.cell? ⟨bx,16,none⟩=some (.int .i64 (t.c 16))/\W'.cell? ⟨bx,23,none⟩=some (.int .i64 (t.c 23))/\W'.cell? ⟨bx,24,none⟩=some (.int .i64 (t.c 24)))) 11 ?_ ?_
    . exact Z2v
    intro hS0;refine aT 0 ?_;refine aT 1 ?_;refine aT 2 ?_;refine aT 3 ?_;refine aT 4 ?_;refine aT 5 ?_;refine aT 6 ?_;refine aT 7 ?_;refine aT 8 ?_;refine tk1 9 ?_;refine uF ?_ (hS:=by first|(intro hlt;exact absurd hlt aG)|(intro _;exact K1.out _ (Below.alloc (Below.drew (Below.refl _ _)) hsz _)));refine tk1 10 ?_;refine aj.Step.value (dI (.tmp 25) (.tmp 34) 132 rfl rfl rfl R1.out) ⟨λ_=>K1.out _ HB1.out,?_⟩
    (try simp only[bF,bG,bH,tks])
    refine tk1 11 ?_;refine uF ?_ (hS:=by first|(intro hlt;exact absurd hlt aG)|(intro _;omega));refine jY ?_;go_wp2
    go_roundw
    case rel=>exact⟨1,9,_,_,by omega,by go_num,rfl,Lib.hid rfl,E1,a1.out,hB4,s3⟩
    case measure=>simp[intOf]
  . obtain rfl:n=9:=by have:=HN.out;omega
    obtain⟨A',c',w1,jO,s1,s2,s3⟩:=qI (W:=wr.drew) (t.c 17) (t.c 18) (t.c 25) (t.c 26) O1.out hsz aG;have jP:∀W',Below base wr W'->W'.cell? ⟨bx,17,none⟩=some (.int .i64 (t.c 17))/\W'.cell? ⟨bx,18,none⟩=some (.int .i64 (t.c 18))/\W'.cell? ⟨bx,25,none⟩=some (.int .i64 (t.c 25))/\W'.cell? ⟨bx,26,none⟩=some (.int .i64 (t.c 26)):=λW' h=>⟨(aW a lbx.out h).st 17 aG rfl,(aW a lbx.out h).st 18 aG rfl,(aW a lbx.out h).st 25 aG rfl,(aW a lbx.out h).st 26 aG rfl⟩;have E1:Hid (w1.ownsRow base 43 2 (.slice A' 11 c') 11 (iV t (lp 2))):=Lib.hid s1;have B1:Below base wr w1:=(Below.drew (Below.refl base wr)).trans s2;have a1:=Lib.hid (show At w1 bx _ from aW a lbx.out B1);have hB4:Below base W1 w1:=hB3.trans B1;have K1:=Lib.hid jP;have R1:=Lib.hid jO;have HB1:=Lib.hid B1;clear s1 s2 jP jO B1 a
    go_upto_region 5 with(fail)
    refine kQ (S:=(λW'=>W'.cell? ⟨bx,17,none⟩=some (.int .i64 (t.c 17))/\W'.cell? ⟨bx,18,none⟩=some (.int .i64 (t.c 18))/\W'.cell? ⟨bx,25,none⟩=some (.int .i64 (t.c 25))/\W'.cell? ⟨bx,26,none⟩=some (.int .i64 (t.c 26)))) 11 ?_ ?_
    . exact Z2v
    intro hS0;refine aT 0 ?_;refine aT 1 ?_;refine aT 2 ?_;refine aT 3 ?_;refine aT 4 ?_;refine aT 5 ?_;refine aT 6 ?_;refine aT 7 ?_;refine aT 8 ?_;refine tk1 9 ?_;refine uF ?_ (hS:=by first|(intro hlt;exact absurd hlt aG)|(intro _;exact K1.out _ (Below.alloc (Below.drew (Below.refl _ _)) hsz _)));refine tk1 10 ?_;refine aj.Step.value (dI (.tmp 25) (.tmp 34) 132 rfl rfl rfl R1.out) ⟨λ_=>K1.out _ HB1.out,?_⟩
    (try simp only[bF,bG,bH,tks])
    refine tk1 11 ?_;refine uF ?_ (hS:=by first|(intro hlt;exact absurd hlt aG)|(intro _;omega));refine jY ?_;go_wp2
    go_roundw
    case rel=>exact⟨2,11,_,_,by omega,by go_num,rfl,Lib.hid rfl,E1,a1.out,hB4,s3⟩
    case measure=>simp[intOf]
  . obtain rfl:n=11:=by have:=HN.out;omega
    obtain⟨A',c',w1,jO,s1,s2,s3⟩:=qI (W:=wr.drew) (t.c 19) (t.c 20) (t.c 27) (t.c 28) O1.out hsz aG;have jP:∀W',Below base wr W'->W'.cell? ⟨bx,19,none⟩=some (.int .i64 (t.c 19))/\W'.cell? ⟨bx,20,none⟩=some (.int .i64 (t.c 20))/\W'.cell? ⟨bx,27,none⟩=some (.int .i64 (t.c 27))/\W'.cell? ⟨bx,28,none⟩=some (.int .i64 (t.c 28)):=λW' h=>⟨(aW a lbx.out h).st 19 aG rfl,(aW a lbx.out h).st 20 aG rfl,(aW a lbx.out h).st 27 aG rfl,(aW a lbx.out h).st 28 aG rfl⟩;have E1:Hid (w1.ownsRow base 43 2 (.slice A' 13 c') 13 (iV t (lp 3))):=Lib.hid s1;have B1:Below base wr w1:=(Below.drew (Below.refl base wr)).trans s2;have a1:=Lib.hid (show At w1 bx _ from aW a lbx.out B1);have hB4:Below base W1 w1:=hB3.trans B1;have K1:=Lib.hid jP;have R1:=Lib.hid jO;have HB1:=Lib.hid B1;clear s1 s2 jP jO B1 a
    go_upto_region 5 with(fail)
    refine kQ (S:=(λW'=>W'.cell? ⟨bx,19,none⟩=some (.int .i64 (t.c 19))/\W'.cell? ⟨bx,20,none⟩=some (.int .i64 (t.c 20))/\W'.cell? ⟨bx,27,none⟩=some (.int .i64 (t.c 27))/\W'.cell? ⟨bx,28,none⟩=some (.int .i64 (t.c 28)))) 11 ?_ ?_
    . exact Z2v
    intro hS0;refine aT 0 ?_;refine aT 1 ?_;refine aT 2 ?_;refine aT 3 ?_;refine aT 4 ?_;refine aT 5 ?_;refine aT 6 ?_;refine aT 7 ?_;refine aT 8 ?_;refine tk1 9 ?_;refine uF ?_ (hS:=by first|(intro hlt;exact absurd hlt aG)|(intro _;exact K1.out _ (Below.alloc (Below.drew (Below.refl _ _)) hsz _)));refine tk1 10 ?_;refine aj.Step.value (dI (.tmp 25) (.tmp 34) 132 rfl rfl rfl R1.out) ⟨λ_=>K1.out _ HB1.out,?_⟩
    (try simp only[bF,bG,bH,tks])
    refine tk1 11 ?_;refine uF ?_ (hS:=by first|(intro hlt;exact absurd hlt aG)|(intro _;omega));refine jY ?_;go_wp2
    go_roundw
    case rel=>exact⟨3,13,_,_,by omega,by go_num,rfl,Lib.hid rfl,E1,a1.out,hB4,s3⟩
    case measure=>simp[intOf]
  . obtain rfl:n=13:=by have:=HN.out;omega
    obtain⟨A',c',w1,jO,s1,s2,s3⟩:=qI (W:=wr.drew) (t.c 21) (t.c 22) (t.c 29) (t.c 30) O1.out hsz aG;have jP:∀W',Below base wr W'->W'.cell? ⟨bx,21,none⟩=some (.int .i64 (t.c 21))/\W'.cell? ⟨bx,22,none⟩=some (.int .i64 (t.c 22))/\W'.cell? ⟨bx,29,none⟩=some (.int .i64 (t.c 29))/\W'.cell? ⟨bx,30,none⟩=some (.int .i64 (t.c 30)):=λW' h=>⟨(aW a lbx.out h).st 21 aG rfl,(aW a lbx.out h).st 22 aG rfl,(aW a lbx.out h).st 29 aG rfl,(aW a lbx.out h).st 30 aG rfl⟩;have E1:Hid (w1.ownsRow base 43 2 (.slice A' 15 c') 15 (iV t (lp 4))):=Lib.hid s1;have B1:Below base wr w1:=(Below.drew (Below.refl base wr)).trans s2;have a1:=Lib.hid (show At w1 bx _ from aW a lbx.out B1);have hB4:Below base W1 w1:=hB3.trans B1;have K1:=Lib.hid jP;have R1:=Lib.hid jO;have HB1:=Lib.hid B1;clear s1 s2 jP jO B1 a
    go_upto_region 5 with(fail)
    refine kQ (S:=(λW'=>W'.cell? ⟨bx,21,none⟩=some (.int .i64 (t.c 21))/\W'.cell? ⟨bx,22,none⟩=some (.int .i64 (t.c 22))/\W'.cell? ⟨bx,29,none⟩=some (.int .i64 (t.c 29))/\W'.cell? ⟨bx,30,none⟩=some (.int .i64 (t.c 30)))) 11 ?_ ?_
    . exact Z2v
    intro hS0;refine aT 0 ?_;refine aT 1 ?_;refine aT 2 ?_;refine aT 3 ?_;refine aT 4 ?_;refine aT 5 ?_;refine aT 6 ?_;refine aT 7 ?_;refine aT 8 ?_;refine tk1 9 ?_;refine uF ?_ (hS:=by first|(intro hlt;exact absurd hlt aG)|(intro _;exact K1.out _ (Below.alloc (Below.drew (Below.refl _ _)) hsz _)));refine tk1 10 ?_;refine aj.Step.value (dI (.tmp 25) (.tmp 34) 132 rfl rfl rfl R1.out) ⟨λ_=>K1.out _ HB1.out,?_⟩
    (try simp only[bF,bG,bH,tks])
    refine tk1 11 ?_;refine uF ?_ (hS:=by first|(intro hlt;exact absurd hlt aG)|(intro _;omega));refine jY ?_;go_wp2
    go_roundw
    case rel=>exact⟨4,15,_,_,by omega,by go_num,rfl,Lib.hid rfl,E1,a1.out,hB4,s3⟩
    case measure=>simp[intOf]
  . obtain rfl:n=15:=by have:=HN.out;omega
    obtain⟨g,rfl,hg1,hg2,hgc⟩:=zD O1.out aG
    have CL:Hid (∀(k p:Nat),Re.lens[k]? = some p->wr.cell? ⟨g,k*2,none⟩=some (.int .i64 (t.c p))/\wr.cell? ⟨g,k*2+1,none⟩=some (.int .i64 (t.c (p+1)))):=Lib.hid λk p hp=>by
     obtain⟨q0,q1⟩:=uX t (l:=Re.lens) hp;exact⟨hgc _ _ q0,hgc _ _ q1⟩
    have HBW:=Lib.hid (hB.trans (hB3.mono (uH lbx.out)));clear O1 N1 hgc hA hA2 hB2 hB a hB3 hg1;generalize wr=W5 at *;go_wp2
    go_loopw [5] (λi wr=>∃k:Nat,k<=15/\i=.int .i64 k/\Hid (((Re.lens.take k).all λi=>Qc (t.c i) (t.c (i+1)))=true)/\wr=W5) (λi _=>15-(intOf i).toNat)
    case atStart=>exact⟨0,by omega,rfl,Lib.hid rfl,rfl⟩
    case round =>
     obtain⟨k,hk,rfl,HF,rfl⟩:=hrel;by_cases hlt:k<15
     . have hltz:(k:Int)<15:=by omega
       obtain⟨p,hp⟩:∃p,Re.lens[k]? = some p:=⟨_,List.getElem?_eq_getElem (show k<Re.lens.length from hlt)⟩;obtain⟨c0,c1⟩:=CL.out k p hp;have HS:Hid ((Re.lens.take (k+1)).all (λi=>Qc (t.c i) (t.c (i+1)))=Qc (t.c p) (t.c (p+1))):=Lib.hid (by rw[List.take_add_one,hp,List.all_append,HF.out];simp)
       have HT:Hid (Qc (t.c p) (t.c (p+1))=false->uw t=false):=Lib.hid λh=>by
        by_cases e:uw t=true
        . exfalso
          have:=List.all_eq_true.1 e p (List.mem_of_getElem? hp);rw[h]at this;cases this
        . simpa using e
       clear hp;generalize t.c p=x at *;generalize t.c (p+1)=y at *;by_cases h1:x=1
       . subst h1
         by_cases h2:(1048576:Int)<y
         . have HV:=Lib.hid (HT.out (by simp[Qc,h2]))
           exact Z2y
         . by_cases h3:y < -1048576
           . have HV:=Lib.hid (HT.out (by simp[Qc,h3]))
             exact Z2y
           . have HV:=Lib.hid (show Qc 1 y=true by simp[Qc,h2,h3])
             exact Z2o
       . by_cases h4:x=2
         . subst h4
           by_cases h5:(10000:Int)<y
           . have HV:=Lib.hid (HT.out (by simp[Qc,h5]))
             exact Z2y
           . have HV:=Lib.hid (show Qc 2 y=true by simp[Qc,h5])
             exact Z2o
         . have HV:=Lib.hid (show Qc x y=true by simp[Qc,h1,h4])
           exact Z2o
     . obtain rfl:k=15:=by omega
       have HV:Hid (uw t=true):=Lib.hid HF.out;exact Z2y
end Go.Proofs.YtcbcfdihofclkaaGreat.Fix
namespace Go.Proofs.YtcbcfdihofclkaaGreat.Fix
theorem Ej{t:Re.St}(h:Re.valid t=true){i:Nat}(hi:i∈Re.sizes):0<=t.c i/\t.c i<=1048576:=by
 have hs:Re.Cv t=true:=by
  unfold Re.valid at h;simp only[Bool.and_eq_true]at h;exact h.1.1.1.2
 have:=List.all_eq_true.1 hs i hi;simpa[Re.inn]using this
theorem OB{t:Re.St}(h:Re.valid t=true):0<=t.c 0/\t.c 0<=3:=by
 unfold Re.valid Re.gM at h;simp only[Bool.and_eq_true,Re.inn,decide_eq_true_eq]at h;exact h.1.1.1.1.1.1.1.1.1.1.1
theorem sI{t:Re.St}(h:Re.valid t=true){i:Nat}(hi:i<4):0<=Fw.ed t i/\Fw.ed t i<=2097152:=by
 have h1:=Ej h (i:=31+i) (by rcases(by omega:i=0\/i=1\/i=2\/i=3)with rfl|rfl|rfl|rfl<;>decide);have h2:=Ej h (i:=35+i) (by rcases(by omega:i=0\/i=1\/i=2\/i=3)with rfl|rfl|rfl|rfl<;>decide);unfold Fw.ed Fw.wr;omega
end Go.Proofs.YtcbcfdihofclkaaGreat.Fix
namespace Go.Proofs.YtcbcfdihofclkaaGreat.Fix
open Go.ChangeShapes Go.WideShapes Go.ChangeAt Go.RowKit
theorem zV{g h:Int->Nat}:∀{l:List Int},(∀k∈l,g k<=h k)->(l.map g).sum<=(l.map h).sum
 | [],_=>ah _
 | k::l,H=>by
   simp only[List.map_cons,List.sum_cons];have h1:=H k eY;have h2:=zV (l:=l) λk hk=>H k (by simp[hk]);omega
theorem Ja(c:Nat)(g:Int->Nat):∀l:List Int,(l.map λk=>c*g k).sum=c*(l.map g).sum
 | []=>rfl
 | k::l=>by simp only[List.map_cons,List.sum_cons,Ja c g l,Nat.mul_add]
theorem Jb(p q:Int->Bool)(g:Int->Nat):∀l:List Int,((l.filter λk=>p k && !q k).map g).sum+((l.filter λk=>p k&&q k).map g).sum<=(l.map g).sum
 | []=>ah _
 | k::l=>by
   have ih:=Jb p q g l;simp only[List.filter_cons,List.map_cons,List.sum_cons];cases p k<;>cases q k<;>simp<;>omega
theorem El(g:Int->List Int):∀l:List Int,(l.flatMap g).length=(l.map λk=>(g k).length).sum
 | []=>rfl
 | k::l=>by simp only[List.flatMap_cons,List.length_append,List.map_cons,List.sum_cons,El g l]
section
variable {T:Tr.T} (H:Tr.WF T)
include H
theorem Ch:∀{f:Nat} {a x:Int},Tr.Fit T f a->x∈jy T f a->Tr.Ew T a x:=by
 intro f
 induction f with
 | zero=>intro a x h;exact h.elim
 | succ f ih =>
   intro a x h hx;obtain⟨nd,hT,hk⟩:=h;rcases sD hx with rfl|⟨c,hc,hx⟩
   . exact .refl hT
   . have hm:=jX hT hc
     exact(H.TP hT hm).trans (ih (hk c hm) hx)
theorem Gz:∀{f:Nat} {a:Int},Tr.Fit T f a->(jy T f a).Nodup:=by
 intro f
 induction f with
 | zero=>intro a hf;exact hf.elim
 | succ f ih =>
   intro a hf;obtain⟨nd,h1,hk⟩:=hf;obtain⟨n,_,hd⟩:=H.deep a nd h1;have e:bS T a=nd.kids:=by unfold bS;rw[h1];rfl
   have hn:=H.nodup a nd h1
   have hall:∀k,k∈ny T nd.kids++oZ T nd.kids->k∈nd.kids:=λk hk=>by
    rcases List.mem_append.1 hk with h|h
    . exact(List.mem_filter.1 h).1
    . exact(List.mem_filter.1 h).1
   have hnd:(ny T nd.kids++oZ T nd.kids).Nodup:=by
    refine List.nodup_append.2 ⟨hn.filter _,hn.filter _,λx hx y hy e => ?_⟩;subst e;have q1:=(List.mem_filter.1 hx).2;have q2:=(List.mem_filter.1 hy).2;simp only[Bool.and_eq_true,Bool.not_eq_true']at q1 q2;rw[q1.2]at q2;exact absurd q2.2 aG
   rw[jy,e,<-List.flatMap_append,List.nodup_cons];refine⟨λhm => ?_,?_⟩
   . obtain⟨k,hkm,hx⟩:=List.mem_flatMap.1 hm
     have:=((Ch H (hk k (hall k hkm)) hx).le (H.rM h1 (hall k hkm) hd) hd).1;omega
   . refine List.pairwise_flatMap.2 ⟨λk hkm=>ih (hk k (hall k hkm)),?_⟩
     have hq:∀l:List Int,(∀k∈l,k∈nd.kids)->l.Nodup->l.Pairwise (λa₁ a₂=>∀x∈jy T f a₁,∀y∈jy T f a₂,x≠y):=by
      intro l
      induction l with
      | nil=>intro _ _;exact .nil
      | cons k l ihl =>
        intro hl hn;refine .cons (λk' hk' x hx y hy e => ?_) (ihl (λj hj=>hl j (List.mem_cons_of_mem _ hj)) (List.nodup_cons.1 hn).2);subst e;have m1:=hl k List.mem_cons_self;have m2:=hl k' (List.mem_cons_of_mem _ hk');have a1:=Ch H (hk k m1) hx;have a2:=Ch H (hk k' m2) hy;obtain⟨ndx,hlx⟩:=a1.live;obtain⟨q,_,TQ⟩:=H.deep x ndx hlx;have e:=a1.uniq a2 (H.rM h1 m1 hd) (H.rM h1 m2 hd) TQ;exact(List.nodup_cons.1 hn).1 (e▸hk')
     exact hq _ hall hnd
theorem adb{f:Nat}{a:Int}(hf:Tr.Fit T f a):(jy T f a).length<=(Tr.sub T f a).length :=
 (Gz H hf).length_le_of_subset λx hx=>(H.gP hf).2 (Ch H hf hx)
variable (hd8:∀x d,Tr.Dp T x d->d<=8)
include hd8
theorem WM:∀(f:Nat) (z:Int) (d:Nat),Tr.Dp T z d->Fw.cst (iN T) f z<=3^(9-d)*(Tr.sub T (f+1) z).length:=by
 intro f
 induction f with
 | zero =>
   intro z d h;obtain⟨nd,hT⟩:=h.live;rw[Tr.fP hT];have:=Nat.one_le_two_pow (n:=0);have h3:1<=3^(9-d):=Nat.one_le_pow _ _ aG;have h4:1<=(z::nd.kids.flatMap (Tr.sub T 0)).length:=by simp
   exact aC (by show 1<=1*1;decide) (Nat.mul_le_mul h3 h4)
 | succ f ih =>
   intro z d h;obtain⟨nd,hT⟩:=h.live;have e:bS T z=nd.kids:=by unfold bS;rw[hT];rfl
   have hd:=hd8 z d h;have h1:((ny T nd.kids).map (Fw.cst (iN T) f)).sum<=(nd.kids.map (Fw.cst (iN T) f)).sum:=aC (Nat.le_add_right _ _) (Jb (λk=>(eB T k).c 0 != 3) (λk=>oM (eB T k)) _ nd.kids)
   have h2:(nd.kids.map (Fw.cst (iN T) f)).sum<=(nd.kids.map λk=>3^(8-d)*(Tr.sub T (f+1) k).length).sum:=zV λk hk=>by
    have:=ih k (d+1) (H.rM hT hk h)
    rwa [show 9-(d+1)=8-d by omega]at this
   rw[Ja (3^(8-d)) (λk=>(Tr.sub T (f+1) k).length)]at h2;have h3:Fw.cst (iN T) (f+1) z=1+3*((ny T nd.kids).map (Fw.cst (iN T) f)).sum:=by
    rw[Fw.cst];show 1+3*((ny T (bS T z)).map _).sum=_;rw[e]
   have h4:(Tr.sub T (f+1+1) z).length=1+(nd.kids.map λk=>(Tr.sub T (f+1) k).length).sum:=by
    rw[Tr.fP hT,List.length_cons,El];omega
   rw[h3,h4,show 9-d=(8-d)+1 by omega,Nat.pow_succ];generalize (nd.kids.map λk=>(Tr.sub T (f+1) k).length).sum=S at *;have h5:1<=3^(8-d):=Nat.one_le_pow _ _ aG;generalize 3^(8-d)=p at *;have h6:p*3*(1+S)=3*p+3*(p*S):=by
    rw[Nat.mul_add,Nat.mul_one,Nat.mul_right_comm,Nat.mul_comm (p*S) 3,Nat.mul_comm p 3]
   omega
theorem aay:∀(f:Nat) (z:Int) (d:Nat),Tr.Dp T z d->jG (iN T) f z<=39366*(9-d)*(Tr.sub T (f+1) z).length:=by
 have hc:∀f z d,Tr.Dp T z d->Fw.cst (iN T) f z<=19683*(Tr.sub T (f+1) z).length:=λf z d h =>
  aC (WM H hd8 f z d h) (Nat.mul_le_mul_right _ (aC (Nat.pow_le_pow_right aG (show 9-d<=9 by omega)) aG))
 intro f
 induction f with
 | zero =>
   intro z d h;obtain⟨nd,hT⟩:=h.live;have hd:=hd8 z d h;rw[Tr.fP hT];have h4:1<=(z::nd.kids.flatMap (Tr.sub T 0)).length:=by simp
   have h3:1<=39366*(9-d):=by omega
   exact aC (by show 1<=1*1;decide) (Nat.mul_le_mul h3 h4)
 | succ f ih =>
   intro z d h;obtain⟨nd,hT⟩:=h.live;have e:bS T z=nd.kids:=by unfold bS;rw[hT];rfl
   have hd:=hd8 z d h;obtain⟨G,hG⟩:∃G:Int->Nat,G=λk=>(19683+39366*(8-d))*(Tr.sub T (f+1) k).length:=⟨_,rfl⟩
   have g1:∀k∈nd.kids,Fw.cst (iN T) f k+jG (iN T) f k<=G k:=λk hk=>by
    have hk:=H.rM hT hk h;have a:=hc f k _ hk;have b:=ih k (d+1) hk;rw[show 9-(d+1)=8-d by omega]at b;rw[hG];show _<=(19683+39366*(8-d))*_;rw[Nat.add_mul];omega
   have h1:((ny T nd.kids).map (jG (iN T) f)).sum<=((ny T nd.kids).map G).sum:=zV λk hk=>by have:=g1 k (List.mem_filter.1 hk).1;omega
   have h2:((oZ T nd.kids).map λk=>Fw.cst (iN T) f k+jG (iN T) f k).sum<=((oZ T nd.kids).map G).sum:=zV λk hk=>g1 k (List.mem_filter.1 hk).1;have h3:((ny T nd.kids).map G).sum+((oZ T nd.kids).map G).sum<=(nd.kids.map G).sum:=Jb (λk=>(eB T k).c 0 != 3) (λk=>oM (eB T k)) G nd.kids;have h4:(Tr.sub T (f+1+1) z).length=1+(nd.kids.map λk=>(Tr.sub T (f+1) k).length).sum:=by
    rw[Tr.fP hT,List.length_cons,El];omega
   have h5:=hc (f+1) z d h;have h6:jG (iN T) (f+1) z=Fw.cst (iN T) (f+1) z+((ny T nd.kids).map (jG (iN T) f)).sum+((oZ T nd.kids).map λk=>Fw.cst (iN T) f k+jG (iN T) f k).sum:=by
    rw[jG];show _+((ny T (bS T z)).map _).sum+((oZ T (bS T z)).map _).sum=_;rw[e]
   have hGk:(nd.kids.map G).sum=(19683+39366*(8-d))*(nd.kids.map λk=>(Tr.sub T (f+1) k).length).sum:=by rw[hG];exact Ja _ _ _
   rw[hGk]at h3;rw[h4]at h5 ⊢;rw[h6,show 9-d=(8-d)+1 by omega];clear hG hGk;generalize (nd.kids.map λk=>(Tr.sub T (f+1) k).length).sum=S at *;have h7:39366*(8-d+1)*(1+S)=39366*(8-d)+39366+(39366*(8-d)+39366)*S:=by
    rw[Nat.mul_add,Nat.mul_one,Nat.mul_add,Nat.mul_one]
   have h8:(39366*(8-d)+39366)*S=(19683+39366*(8-d))*S+19683*S:=by
    rw[<-Nat.add_mul];congr 1;omega
   omega
end
theorem CB(B:Int->Fw.Bx)(f:Nat)(z r0 r1 t0 t1:Int):(Fw.lay B f z r0 r1 t0 t1).id=z:=rfl
theorem OC(T:Tr.T)(ww wh:Int):∀(f:Nat) (x:Fw.Ld),(tl (iN T) ww wh f x).map (·.id)=jy T (f+1) x.id:=by
 intro f
 induction f with
 | zero =>
   intro x;have e:∀l:List Int,l.flatMap (jy T 0)=[]:=λl=>List.flatMap_eq_nil_iff.2 λ_ _=>rfl;rw[jy,e,e];rfl
 | succ f ih =>
   intro x;have hc:=Fw.D8 (iN T) (f+1) x.id x.i0 x.i1 (λh=>by omega);rw[tl,jy,List.map_cons,List.map_append,List.map_flatMap,List.map_flatMap];congr 1;congr 1
   . rw[<-show(iN T x.id).fl=ny T (bS T x.id)from rfl,<-hc,List.flatMap_map]
     exact congrArg (λg=>List.flatMap g _) (funext λk=>ih _)
   . exact congrArg (λg=>List.flatMap g _) (funext λk=>ih _)
structure vP(T:Tr.T)(n:Nat):Prop where
 wf:Tr.WF T
 num:(Tr.ord T).length=n
 few:n<=64
 deep:∀x d,Tr.Dp T x d->d<=8
 val:∀z nd,T z=some nd->Re.valid nd.sty=true
theorem vP.Qd{T:Tr.T}{n:Nat}(h:vP T n):Tr.Fit T 65 0/\Tr.sub T 65 0=Tr.ord T:=by
 have:=Tr.Fit.mono h.wf.qy 65 aG;exact⟨this.1,this.2.1⟩
theorem zW(B:Int->Fw.Bx){w:World}{t n n0:Nat}{L:Lay}{T:Tr.T}(g:Good w t L T n n0)(M:vP T n)(hBT:∀z,Ww T z->B z=iN T z)(ww wh:Int)
  (h1:Fw.cst B 64 0+jG B 64 0<maxLen) (h2:((tl B (max ww 0) (max wh 0) 64 (sF B (max ww 0) (max wh 0))).map (·.id)).Nodup) (h3:∀z∈(tl B (max ww 0) (max wh 0) 64 (sF B (max ww 0) (max wh 0))).map (·.id),0<=z/\z<4096) :
  Calls Tryz.prog 17 #[.pointer (some ⟨t,0,none⟩),.int .i64 ww,.int .i64 wh] w λe w'=>(∃b,e=.returned (.map (some b))/\w.heap.size<=b/\GM 3 w' b (nT T B (max ww 0) (max wh 0)).length (ql T B (max ww 0) (max wh 0)))/\Below w.heap.size w w':=by
 have b3:(jy T 64 0).length<=64:=by
  have:=adb M.wf M.wf.qy;have hn:=M.num;unfold Tr.ord at hn;rw[hn]at this;exact aC this M.few
 have hk:∀z nd,T z=some nd->nd.kids.length<=64:=λz nd h=>by
  have:=M.wf.qE h;rw[M.num]at this;exact aC this M.few
 have hl:=Tr.yc h2 h3;rw[List.length_map]at hl;have k:=Gv B g.inv.rep M.wf hk (λz nd h=>OB (M.val z nd h)) hBT ww wh h1 Jv Jv;refine k.mono ?_;rintro e w' ⟨⟨b,nr,rfl,hb,hG,hle⟩,hB⟩;refine⟨⟨b,rfl,hb,?_⟩,hB⟩
 have hsub:∀z∈(nT T B (max ww 0) (max wh 0)).map (·.id),z∈(tl B (max ww 0) (max wh 0) 64 (sF B (max ww 0) (max wh 0))).map (·.id):=λz hz=>by
  unfold nT at hz;split at hz
  . exact hz
  . simp at hz
 have hnd:((nT T B (max ww 0) (max wh 0)).map (·.id)).Nodup:=by
  unfold nT;split
  . exact h2
  . exact .nil
 have hge:(nT T B (max ww 0) (max wh 0)).length<=nr:=by
  have:=hG.ge (l:=(nT T B (max ww 0) (max wh 0)).map (·.id)) hnd λz hz=>by
   refine⟨(eT _).2 (by have:=h3 z (hsub z hz);omega),?_⟩;obtain⟨x,hx,rfl⟩:=List.mem_map.1 hz;unfold ql;rw[vN _ _ x hnd hx];rfl
  rwa [List.length_map]at this
 rwa [show(nT T B (max ww 0) (max wh 0)).length=nr by omega]
theorem vP.bd{T:Tr.T}{n:Nat}(M:vP T n):Fw.cst (iN T) 64 0+jG (iN T) 64 0<maxLen:=by
 obtain⟨rd,hrd,hru⟩:=M.wf.root;have h0:Tr.Dp T 0 0:=.root hrd;have ah4:(Tr.sub T 65 0).length<=64:=by rw[M.Qd.2,M.num];exact M.few
 have b1:=WM M.wf M.deep 64 0 0 h0;have b2:=aay M.wf M.deep 64 0 0 h0;rw[show 3^(9-0)=19683 from rfl]at b1;have e65:Tr.sub T (64+1) 0=Tr.sub T 65 0:=rfl;rw[e65]at b1 b2;generalize (Tr.sub T 65 0).length=q at *;generalize Fw.cst (iN T) 64 0=x at *;generalize jG (iN T) 64 0=y at *;unfold maxLen;omega
theorem vP.qm{T:Tr.T}{n:Nat}(M:vP T n)(ww wh:Int):((tl (iN T) ww wh 64 (nH T ww wh)).map (·.id)).Nodup/\∀z∈(tl (iN T) ww wh 64 (nH T ww wh)).map (·.id),0<=z/\z<4096:=by
 have e:=OC T ww wh 64 (nH T ww wh);rw[show(nH T ww wh).id=0 from rfl]at e;rw[e];refine⟨Gz M.wf M.Qd.1,λz hz => ?_⟩;obtain⟨nd,h⟩:=nG M.Qd.1 hz;exact M.wf.range z nd h
theorem yQ{w:World}{t n n0:Nat}{L:Lay}{T:Tr.T}(g:Good w t L T n n0)(M:vP T n)(ww wh:Int) :
  Calls Tryz.prog 17 #[.pointer (some ⟨t,0,none⟩),.int .i64 ww,.int .i64 wh] w λe w'=>(∃b,e=.returned (.map (some b))/\w.heap.size<=b/\GM 3 w' b (oW T (max ww 0) (max wh 0)).length (qA T (max ww 0) (max wh 0)))/\Below w.heap.size w w' :=
 zW (iN T) g M (λ_ _=>rfl) ww wh M.bd (M.qm _ _).1 (M.qm _ _).2
theorem OD(l:List Fw.Ld):∀(g:Lit->Option Value) (k:Lit),(∀v,g k=some v->∃x,v=rcv x)->∀v,iZ g l k=some v->∃x,v=rcv x:=by
 induction l with
 | nil=>intro g k h v hv;exact h v hv
 | cons x l ih =>
   intro g k h v hv;refine ih (xB g (.int .i64 x.id) (rcv x)) k (λu hu => ?_) v hv;by_cases e:k=.int .i64 x.id
   . rw[e,jm]at hu
     injection hu with hu;exact⟨x,hu.symm⟩
   . rw[jK e]at hu
     exact h u hu
theorem xJ(T:Tr.T)(B:Int->Fw.Bx)(ww wh:Int)(k:Lit):ql T B ww wh k=none\/∃x,ql T B ww wh k=some (rcv x):=by
 cases h:ql T B ww wh k with
 | none=>exact .inl rfl
 | some v =>
   obtain⟨x,rfl⟩:=OD _ (λ_=>none) k (λv h=>by cases h) v h;exact .inr ⟨x,rfl⟩
theorem Sg(p:Int->Bool){x:Int}(h:p x=false)(l:List Int)(i:Nat):(Tr.wi l i x).filter p=l.filter p:=by
 unfold Tr.wi;rw[List.filter_append,List.filter_cons,if_neg (by rw[h];decide),<-List.filter_append,List.take_append_drop]
theorem LX{T:Tr.T}{x y:Int}(s:Re.St)(h:y≠x):Tr.wD T x s y=T y:=by
 unfold Tr.wD;cases T x with
 | none=>rfl
 | some q=>exact Tr.aD _ _ h
theorem aaz{T:Tr.T}{x:Int}{s:Re.St}{nd:Tr.Nd}(h:Tr.wD T x s x=some nd):∃q,T x=some q/\nd={ q with sty:=s }:=by
 unfold Tr.wD at h;cases hq:T x with
 | none =>
   rw[hq]at h;have h:T x=some nd:=h;rw[hq]at h;cases h
 | some q =>
   rw[hq]at h;have h:Tr.set T x { q with sty:=s } x=some nd:=h;rw[Tr.aJ]at h;injection h with h;exact⟨q,rfl,h.symm⟩
def Ext(T T':Tr.T):Prop:=∀z nd,T z=some nd->∃nd',T' z=some nd'/\nd'.sty=nd.sty/\nd'.up=nd.up/\nd'.kids.filter (λk=>(T k).isSome)=nd.kids
section
variable {T T':Tr.T}
theorem Ext.refl(H:Tr.WF T):Ext T T:=λz nd h=>⟨nd,h,rfl,rfl,List.filter_eq_self.2 λk hk=>by
 obtain⟨_,q,hq,_⟩:=H.kid z nd k h hk
 rw[hq];rfl⟩
theorem Ext.dead(E:Ext T T'){x:Int}(h:T' x=none):T x=none:=by
 cases hx:T x with
 | none=>rfl
 | some nd=>obtain⟨nd',h',_⟩:=E x nd hx;rw[h]at h';cases h'
theorem Ext.add(E:Ext T T'){x u:Int}{i:Nat}{p:Tr.Nd}(hu:T' u=some p)(hx:T' x=none):Ext T (Tr.nZ T' x u i):=λz nd h=>by
 obtain⟨nd',h1,h2,h3,h4⟩:=E z nd h;have hzx:z≠x:=λe=>by rw[e,hx]at h1;cases h1
 rw[Tr.uR hu hx z,if_neg hzx];by_cases e:z=u
 . subst e
   rw[hu]at h1;injection h1 with h1;subst h1;rw[if_pos rfl];exact⟨_,rfl,h2,h3,by rw[<-h4];exact Sg _ (by rw[E.dead hx];rfl) _ _⟩
 . rw[if_neg e]
   exact⟨nd',h1,h2,h3,h4⟩
theorem Ext.bU(E:Ext T T')(H:Tr.WF T')(u a:Int):Ext T (Tr.bU T' u a):=by
 unfold Tr.bU;split
 . rename_i he
   unfold Tr.iW at he;cases hu:T' u with
   | none=>rw[hu]at he;cases he
   | some p=>exact E.add hu H.j5.1.2.1
 . exact E
theorem Ext.sty(E:Ext T T'){x:Int}(hx:T x=none)(s:Re.St):Ext T (dG T' x s):=by
 unfold Fix.dG;split
 . intro z nd h
   have hzx:z≠x:=λe=>by rw[e,hx]at h;cases h
   rw[LX s hzx];exact E z nd h
 . exact E
variable (E:Ext T T') (H:Tr.WF T) (H':Tr.WF T') (hid:∀z nd' k,T z≠none->T' z=some nd'->k∈nd'.kids->T k=none->(eB T' k).c 0=3)
include E
theorem Ext.oC{z:Int}{nd:Tr.Nd}(h:T z=some nd):eB T' z=eB T z:=by
 obtain⟨nd',h1,h2,_⟩:=E z nd h;unfold eB;rw[h1,h];exact h2
include H H' hid
theorem GA{z:Int}{nd:Tr.Nd}(h:T z=some nd):ny T' (bS T' z)=ny T (bS T z)/\oZ T' (bS T' z)=oZ T (bS T z):=by
 obtain⟨nd',h1,h2,h3,h4⟩:=E z nd h;have e1:bS T' z=nd'.kids:=by unfold bS;rw[h1];rfl
 have e2:bS T z=nd.kids:=by unfold bS;rw[h];rfl
 rw[e1,e2,<-h4];unfold ny oZ;rw[List.filter_filter,List.filter_filter];refine⟨List.filter_congr λk hk => ?_,List.filter_congr λk hk => ?_⟩
 . cases hT:T k with
   | none=>simp[hid z nd' k (by rw[h];simp) h1 hk hT]
   | some q=>rw[E.oC hT];simp
 . cases hT:T k with
   | none=>simp[hid z nd' k (by rw[h];simp) h1 hk hT]
   | some q=>rw[E.oC hT];simp
theorem WO:∀(f:Nat) (z:Int) (nd:Tr.Nd),T z=some nd->jy T' f z=jy T f z:=by
 intro f
 induction f with
 | zero=>intro z nd h;rfl
 | succ f ih =>
   intro z nd h;obtain⟨a,b⟩:=GA E H H' hid h;rw[jy,jy,a,b];have q:∀l:List Int,(∀k∈l,k∈nd.kids)->l.flatMap (jy T' f)=l.flatMap (jy T f):=by
    intro l
    induction l with
    | nil=>intro _;rfl
    | cons k l ihl =>
      intro hl;obtain⟨_,kd,hk,_⟩:=H.kid z nd k h (hl k eY);rw[List.flatMap_cons,List.flatMap_cons,ih k kd hk,ihl λj hj=>hl j (by simp[hj])]
   rw[q _ λk hk=>jX h (.inl hk),q _ λk hk=>jX h (.inr hk)]
theorem aaA(z:Int)(hz:Ww T' z):iN T z=iN T' z:=by
 obtain⟨rd,hrd,hru⟩:=H.root;unfold Ww at hz;rw[WO E H H' hid 64 0 rd hrd]at hz;obtain⟨nd,h⟩:=nG H.qy hz;obtain⟨a,b⟩:=GA E H H' hid h;obtain⟨nd',h1,h2,h3,h4⟩:=E z nd h;have hib:vM T' z=vM T z:=by
  have e1:RY T' z=nd.up:=by unfold RY;rw[h1];exact h3
  have e2:RY T z=nd.up:=by unfold RY;rw[h];rfl
  unfold vM;rw[e1,e2,E.oC h];by_cases h0:z=0
  . subst h0
    rw[h]at hrd;injection hrd with hrd;rw[hrd,hru,H.low aG,H'.low aG];rfl
  . obtain⟨p,hp,_⟩:=H.up z nd h h0
    obtain⟨p',hp',_⟩:=E _ p hp;rw[hp,hp',E.oC hp];rfl
 unfold iN;rw[E.oC h,a,b,hib]
theorem WQ:su T' 1 0=su T 1 0:=by
 obtain⟨rd,hrd,hru⟩:=H.root;obtain⟨rd',h1,h2,_⟩:=E 0 rd hrd;simp only[su,hrd,h1,h2]
end
def iM:Re.St:=⟨λi=>if i=0 then 3 else 0,λ_=>false⟩
theorem WR:Re.valid iM=true:=by decide +kernel
theorem Ext.dp{T T':Tr.T}(E:Ext T T'){x:Int}{d:Nat}(h:Tr.Dp T x d):Tr.Dp T' x d:=by
 induction h with
 | root h=>obtain⟨nd',h1,_⟩:=E _ _ h;exact .root h1
 | step h h0 _ ih =>
   obtain⟨nd',h1,_,h3,_⟩:=E _ _ h;exact .step h1 h0 (by rw[h3];exact ih)
theorem WS{T:Tr.T}(H:Tr.WF T)(hn:(Tr.ord T).length<=40)(hdp:∀x d,Tr.Dp T x d->d<=6){u a:Int}(he:Tr.iW T u a=0) :
  oI (Tr.bU T u a) (Tr.free T) iM=0/\Tr.iW (dG (Tr.bU T u a) (Tr.free T) iM) (Tr.free T) 0=0/\∀s:Re.St,
   Ext T (dG (Tr.bU (dG (Tr.bU T u a) (Tr.free T) iM) (Tr.free T) 0) (Tr.free (dG (Tr.bU T u a) (Tr.free T) iM)) s) /\
   (∀z nd' k,T z≠none->dG (Tr.bU (dG (Tr.bU T u a) (Tr.free T) iM) (Tr.free T) 0) (Tr.free (dG (Tr.bU T u a) (Tr.free T) iM)) s z=some nd'->k∈nd'.kids->T k=none->(eB (dG (Tr.bU (dG (Tr.bU T u a) (Tr.free T) iM) (Tr.free T) 0) (Tr.free (dG (Tr.bU T u a) (Tr.free T) iM)) s) k).c 0=3) /\
   ∀x d,Tr.Dp (dG (Tr.bU (dG (Tr.bU T u a) (Tr.free T) iM) (Tr.free T) 0) (Tr.free (dG (Tr.bU T u a) (Tr.free T) iM)) s) x d->d<=8:=by
 obtain⟨H1,hn1⟩:=H.bU u a ak;have hx:=H.j5.1.2.1;have hlive:∃p,T u=some p:=by
  unfold Tr.iW at he;cases hu:T u with
  | none=>rw[hu]at he;cases he
  | some p=>exact⟨p,rfl⟩
 obtain⟨p,hu⟩:=hlive;have e1:Tr.bU T u a=Tr.nZ T (Tr.free T) u a.toNat:=by unfold Tr.bU;rw[if_pos he]
 have E1:Ext T (Tr.bU T u a):=(Ext.refl H).bU H u a;have S1:∀y,Tr.bU T u a y=if y=Tr.free T then some ⟨u,[],Re.zero⟩else if y=u then some { p with kids:=Tr.wi p.kids a.toNat (Tr.free T) }else T y:=λy=>by rw[e1];exact Tr.uR hu hx y
 generalize Tr.bU T u a=T1 at *;generalize Tr.free T=id at *;have hne:id≠0:=λe=>by obtain⟨rd,hrd,_⟩:=H.root;rw[e,hrd]at hx;cases hx
 have hs1:T1 id=some ⟨u,[],Re.zero⟩:=by rw[S1,if_pos rfl]
 have q1:oI T1 id iM=0:=by
  unfold oI;rw[hs1,if_neg eY,if_neg (by rw[WR];decide)]
 have q2:dG T1 id iM=Tr.set T1 id ⟨u,[],iM⟩:=by
  unfold Fix.dG Tr.wD;rw[q1,if_pos rfl,hs1]
 have H2:=H1.alike (mP T1 id iM);have E2:=E1.sty hx iM;have hn2:(Tr.ord (dG T1 id iM)).length<=41:=by
  rw[zU H1 (mP T1 id iM),hn1];split<;>omega
 have S2:∀y nd,dG T1 id iM y=some nd->T y≠none\/(y=id/\nd=⟨u,[],iM⟩):=λy nd h=>by
  exact Z2w
 have hs2:dG T1 id iM id=some ⟨u,[],iM⟩:=by rw[q2,Tr.aJ]
 clear q2 S1 e1 hs1 E1 H1 hn1;refine⟨q1,?_⟩;clear q1;generalize dG T1 id iM=T2 at *;obtain⟨du,hdu⟩:=(show∃d,Tr.Dp T u d by obtain⟨d,_,h⟩:=H.deep u p hu;exact⟨d,h⟩);have d2:Tr.Dp T2 id (du+1):=.step hs2 hne (E2.dp hdu);have ah5:=hdp u du hdu;have q3:Tr.iW T2 id 0=0:=by
  unfold Tr.iW;rw[hs2];dsimp only;rw[if_neg eY,if_neg (by rw[H2.CO d2];omega)]
 refine⟨q3,λs => ?_⟩;obtain⟨H3,_⟩:=H2.bU id 0 ak;have hk:=H2.j5.1.2.1;have e3:Tr.bU T2 id 0=Tr.nZ T2 (Tr.free T2) id (0:Int).toNat:=by unfold Tr.bU;rw[if_pos q3]
 have E3:Ext T (Tr.bU T2 id 0):=E2.bU H2 id 0;have hkT:=E2.dead hk
 have S3:∀y nd,Tr.bU T2 id 0 y=some nd->T y≠none\/(y=id/\nd.up=u/\nd.sty=iM)\/(y=Tr.free T2/\nd.up=id):=λy nd h=>by
  rw[e3,Tr.uR hs2 hk y]at h;split at h
  . rename_i e
    injection h with h;exact .inr (.inr ⟨e,by rw[<-h]⟩)
  . split at h
    . rename_i e
      injection h with h;exact .inr (.inl ⟨e,by rw[<-h],by rw[<-h]⟩)
    . rcases S2 y nd h with h|⟨e,h⟩
      . exact .inl h
      . exact .inr (.inl ⟨e,by rw[h],by rw[h]⟩)
 have hki:Tr.free T2≠id:=λe=>by rw[e,hs2]at hk;cases hk
 generalize Tr.bU T2 id 0=T3 at *;generalize Tr.free T2=kid at *;have H4:=H3.alike (mP T3 kid s);have E4:=E3.sty hkT s
 have S4:∀y nd,dG T3 kid s y=some nd->T y≠none\/(y=id/\nd.up=u/\nd.sty=iM)\/(y=kid/\nd.up=id):=λy nd h=>by
  unfold Fix.dG at h;split at h
  . by_cases e:y=kid
    . subst e
      obtain⟨q,hq,rfl⟩:=aaz h;rcases S3 y q hq with h1|⟨h1,_⟩|⟨_,h1⟩
      . exact .inl h1
      . exact absurd h1 hki
      . exact .inr (.inr ⟨rfl,h1⟩)
    . rw[LX s e]at h
      exact S3 y nd h
  . exact S3 y nd h
 refine⟨E4,λz nd' k hz h1 h2 h3 => ?_,λx d h => ?_⟩
 . obtain⟨_,ndk,h4,h5⟩:=H4.kid z nd' k h1 h2
   rcases S4 k ndk h4 with h|⟨_,_,h⟩|⟨_,h⟩
   . exact absurd h3 h
   . unfold eB
     rw[h4];show ndk.sty.c 0=3;rw[h];rfl
   . rw[h5]at h
     rw[h]at hz;exact absurd hx hz
 . have low:∀x d,T x≠none->Tr.Dp (dG T3 kid s) x d->d<=6:=λx d hx h=>by
    cases hT:T x with
    | none=>exact absurd hT hx
    | some nd =>
      obtain⟨d',_,h'⟩:=H.deep x nd hT;have:=(E4.dp h').TN h;have:=hdp x d' h';omega
   have mid:∀d,Tr.Dp (dG T3 kid s) id d->d<=7:=λd h=>by
    cases h with
    | root h=>omega
    | step h h0 hd =>
      rcases S4 _ _ h with h|⟨_,h,_⟩|⟨h,_⟩
      . exact absurd hx h
      . rw[h]at hd
        have:=low u _ (by rw[hu];simp) hd;omega
      . exact absurd h.symm hki
   by_cases hT:T x=none
   . obtain⟨nd,hl⟩:=h.live
     rcases S4 x nd hl with h1|⟨h1,_⟩|⟨h1,h2⟩
     . exact absurd hT h1
     . subst h1;have:=mid d h;omega
     . cases h with
       | root h=>omega
       | step h h0 hd =>
         rw[hl]at h;injection h with h;rw[<-h,h2]at hd;have:=mid _ hd;omega
   . have:=low x d hT h;omega
end Go.Proofs.YtcbcfdihofclkaaGreat.Fix
namespace Go.Proofs.YtcbcfdihofclkaaGreat.Fix
open Go.ChangeShapes Go.WideShapes Go.ChangeAt Go.RowKit Go.Deep Go.Joins Go.Shelf
theorem Good.low{W:World}{t n n0 n1:Nat}{L:Lay}{T:Tr.T}(h:Good W t L T n n0)(hl:n1<=n0):Good W t L T n n1:=⟨h.inv,λb hb=>aC hl (h.own b hb),h.fit⟩
section
variable {w:World} {t n n0:Nat} {L:Lay} {T:Tr.T}
end
theorem Kept.cells{W:World}{t:Nat}{L:Lay}{T:Tr.T}{v:Value}{l:List Int}(h:Kept W t L T v l)(h0:0<l.length):∃g c,v=.slice (some ⟨g,0,none⟩) l.length c/\g<W.heap.size/\∀k,k<l.length->W.cell? ⟨g,k,none⟩=some (.int .i64 (l.getD k 0)):=by
 rcases h.row.cases with⟨_,rfl⟩|⟨g,c,rfl,hr⟩
 . simp at h0
 . obtain⟨b,o,e,hc⟩:=hr.ints.2 h0
   injection e with e;injection e with e1 e2 _;subst e1 e2;exact⟨g,c,rfl,hr.lt,λk hk=>by rw[<-hc k hk,Nat.zero_add]⟩
section
variable {ops:Array Oper} {rest:List Oper} {o:Oper} {a:Act} {w:World} {Q:Exit->Act->World->Prop} {s t:Re.St}
end
end Go.Proofs.YtcbcfdihofclkaaGreat.Fix
