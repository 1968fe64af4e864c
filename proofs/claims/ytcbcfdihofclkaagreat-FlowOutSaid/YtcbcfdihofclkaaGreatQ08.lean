/- Proved here: what functions of the program do, in plain numbers (part 8); no conditions but those in sight. -/
import Derived.BigRegion
import Derived.Deep.CutRange
import Derived.Test.YtcbcfdihofclkaaGreatQK
import Derived.Test.YtcbcfdihofclkaaGreatQ01
import Derived.Test.YtcbcfdihofclkaaGreatQ05
import Derived.Test.YtcbcfdihofclkaaGreatQ06
import Derived.Test.YtcbcfdihofclkaaGreatQ07
set_option linter.unusedVariables false
set_option linter.unusedSimpArgs false
set_option linter.unusedSectionVars false
set_option maxRecDepth 100000
namespace Go.Proofs.YtcbcfdihofclkaaGreat.Fix
open Go.ChangeShapes Go.WideShapes Go.ChangeAt Go.RowKit
theorem At.st{W:World}{b:Nat}{t:Re.St}{T:TypeId}(h:At W b (.cells (cells t) T))(i:Nat)(hi:i<55)(hb:Re.sJ i=false):W.cell? ⟨b,i,none⟩=some (.int .i64 (t.c i)):=(h.cell i).trans (bE t hi hb)
theorem At.bt{W:World}{b:Nat}{t:Re.St}{T:TypeId}(h:At W b (.cells (cells t) T))(i:Nat)(hi:i<55)(hb:Re.sJ i=true):W.cell? ⟨b,i,none⟩=some (.bool (t.b i)):=(h.cell i).trans (sU t hi hb)
def lp(k:Nat):List Nat:=[3,5,7,9,11,13,41]++(List.range k).flatMap λj=>[15+2*j,23+2*j]
def sp(k:Nat):List Nat:=[46,53,54]++(List.range k).flatMap λj=>[31+j,35+j]
def iV(t:Re.St)(l:List Nat):List Value:=l.flatMap λp=>[.int .i64 (t.c p),.int .i64 (t.c (p+1))]
def oH(t:Re.St)(l:List Nat):List Value:=l.map λp => .int .i64 (t.c p)
theorem uX(t:Re.St):∀{l:List Nat} {k p:Nat},l[k]? = some p->(iV t l)[k*2]? = some (.int .i64 (t.c p))/\(iV t l)[k*2+1]? = some (.int .i64 (t.c (p+1)))
 | [],_,_,h=>by simp at h
 | a::l,0,p,h=>by
   simp at h;subst h;exact⟨rfl,rfl⟩
 | a::l,k+1,p,h=>by
   have ih:=uX t (l:=l) (k:=k) (p:=p) (by simpa using h);have e:iV t (a::l)=.int .i64 (t.c a) :: .int .i64 (t.c (a+1))::iV t l:=rfl;rw[e,show(k+1)*2=k*2+1+1 by omega];simpa using ih
theorem Pm:(Tryz.prog.info? 43).map (λi=>(i.zero,i.size,i.bytes))=some (some (.agg #[.int .i64 0,.int .i64 0]),2,16):=by kernel_rfl
theorem aW{W W':World}{b base:Nat}{o:Obj}(h:At W b o)(hl:b<base)(hb:Below base W W'):At W' b o:=(hb.block b hl).trans h
set_option maxRecDepth 100000 in
set_option maxHeartbeats 4000000 in
theorem EL(t:Re.St)(w:World):Calls Tryz.prog 169 #[.agg (cells t)] w λe w'=>e=.returned (.bool (Re.valid t))/\Below w.heap.size w w':=by
 go_enter Tryz.func169,Tryz.ntmps169
 go_upto_region 1 with(fail)
 have hA:At (w.alloc (.cells (cells t) 51)) w.heap.size (.cells (cells t) 51):=At.new _ _;have hB:Below w.heap.size w (w.alloc (.cells (cells t) 51)):=Below.alloc' (Below.refl _ _) _;generalize w.alloc (.cells (cells t) 51)=W1 at *;generalize Uk:w.heap.size=bx at *;have lb:=hA.lt;have XT:=Lib.hid Uk;clear Uk;have d0:=hA.st 0 aG rfl;have d1:=hA.st 1 aG rfl;have d2:=hA.st 2 aG rfl;have d43:=hA.st 43 aG rfl;have d44:=hA.st 44 aG rfl;have d49:=hA.st 49 aG rfl;have d50:=hA.st 50 aG rfl;go_cut [3]from 9 (λv w2=>v=.bool (Re.gM t)/\w2=W1)
 case first =>
  cases e0:Re.inn (t.c 0) 0 3
  . have HK:=Lib.hid (show Re.gM t=false by unfold Re.gM;simp only[e0,Bool.false_and])
    exact Z17
  . skip
    cases e1:Re.inn (t.c 1) 0 4
    . have HK:=Lib.hid (show Re.gM t=false by unfold Re.gM;simp only[e0,e1,Bool.false_and,Bool.and_false])
      exact Z17
    . skip
      cases e2:Re.inn (t.c 2) 0 2
      . have HK:=Lib.hid (show Re.gM t=false by unfold Re.gM;simp only[e0,e1,e2,Bool.false_and,Bool.and_false])
        exact Z17
      . skip
        cases e3:Re.inn (t.c 43) 0 5
        . have HK:=Lib.hid (show Re.gM t=false by unfold Re.gM;simp only[e0,e1,e2,e3,Bool.false_and,Bool.and_false])
          exact Z17
        . skip
          cases e4:Re.inn (t.c 44) 0 3
          . have HK:=Lib.hid (show Re.gM t=false by unfold Re.gM;simp only[e0,e1,e2,e3,e4,Bool.false_and,Bool.and_false])
            exact Z17
          . skip
            cases e5:Re.inn (t.c 49) 0 2
            . have HK:=Lib.hid (show Re.gM t=false by unfold Re.gM;simp only[e0,e1,e2,e3,e4,e5,Bool.false_and,Bool.and_false])
              exact Z17
            . skip
              cases e6:Re.inn (t.c 50) 0 3
              . have HK:=Lib.hid (show Re.gM t=false by unfold Re.gM;simp only[e0,e1,e2,e3,e4,e5,e6,Bool.and_false])
                exact Z17
              . have HK:=Lib.hid (show Re.gM t=true by unfold Re.gM;simp only[e0,e1,e2,e3,e4,e5,e6,Bool.and_true])
                exact Z17
 case rest =>
  obtain⟨rfl,rfl⟩:=hcut;clear d0 d1 d2 d43 d44 d49 d50;generalize hkq:Re.gM t=q at *;have HQ:=Lib.hid hkq;clear hkq;have d3:=hA.st 3 aG rfl;have d4:=hA.st 4 aG rfl;have d5:=hA.st 5 aG rfl;have d6:=hA.st 6 aG rfl;have d7:=hA.st 7 aG rfl;have d8:=hA.st 8 aG rfl;have d9:=hA.st 9 aG rfl;have d10:=hA.st 10 aG rfl;have d11:=hA.st 11 aG rfl;have d12:=hA.st 12 aG rfl;have d13:=hA.st 13 aG rfl;have d14:=hA.st 14 aG rfl;have d41:=hA.st 41 aG rfl;have d42:=hA.st 42 aG rfl;have d46:=hA.st 46 aG rfl;have d53:=hA.st 53 aG rfl;have d54:=hA.st 54 aG rfl;have n1:(wc.alloc (.cells #[.int .i64 (t.c 3),.int .i64 (t.c 4),.int .i64 (t.c 5),.int .i64 (t.c 6),.int .i64 (t.c 7),.int .i64 (t.c 8),.int .i64 (t.c 9),.int .i64 (t.c 10),.int .i64 (t.c 11),.int .i64 (t.c 12),.int .i64 (t.c 13),.int .i64 (t.c 14),.int .i64 (t.c 41),.int .i64 (t.c 42)] 43)).ownsRow wc.heap.size 43 2 (.slice (some ⟨wc.heap.size,0,none⟩) 7 7) 7 (iV t (lp 0)):=yx (ah _) rfl aG;have n2:((wc.alloc (.cells #[.int .i64 (t.c 3),.int .i64 (t.c 4),.int .i64 (t.c 5),.int .i64 (t.c 6),.int .i64 (t.c 7),.int .i64 (t.c 8),.int .i64 (t.c 9),.int .i64 (t.c 10),.int .i64 (t.c 11),.int .i64 (t.c 12),.int .i64 (t.c 13),.int .i64 (t.c 14),.int .i64 (t.c 41),.int .i64 (t.c 42)] 43)).alloc (.cells #[.int .i64 (t.c 46),.int .i64 (t.c 53),.int .i64 (t.c 54)] 3)).ownsRow wc.heap.size 3 1 (.slice (some ⟨wc.heap.size+1,0,none⟩) 3 3) 3 (oH t (sp 0)):=QL eY eY rfl aG;have N1:=Lib.hid (n1.alloc (.cells #[.int .i64 (t.c 46),.int .i64 (t.c 53),.int .i64 (t.c 54)] 3));have N2:=Lib.hid n2;clear n1 n2;obtain⟨i0,hi0,hz0,hz1,hz2⟩:=info_parts Pm;obtain⟨g0,gi0,gz0,gz1,gz2⟩:=info_parts intZero
  go_upto_region 4 with(fail)
  have hA2:At ((wc.alloc (.cells #[.int .i64 (t.c 3),.int .i64 (t.c 4),.int .i64 (t.c 5),.int .i64 (t.c 6),.int .i64 (t.c 7),.int .i64 (t.c 8),.int .i64 (t.c 9),.int .i64 (t.c 10),.int .i64 (t.c 11),.int .i64 (t.c 12),.int .i64 (t.c 13),.int .i64 (t.c 14),.int .i64 (t.c 41),.int .i64 (t.c 42)] 43)).alloc (.cells #[.int .i64 (t.c 46),.int .i64 (t.c 53),.int .i64 (t.c 54)] 3)) bx (.cells (cells t) 51):=(hA.alloc _).alloc _;have hB2:Below wc.heap.size wc ((wc.alloc (.cells #[.int .i64 (t.c 3),.int .i64 (t.c 4),.int .i64 (t.c 5),.int .i64 (t.c 6),.int .i64 (t.c 7),.int .i64 (t.c 8),.int .i64 (t.c 9),.int .i64 (t.c 10),.int .i64 (t.c 11),.int .i64 (t.c 12),.int .i64 (t.c 13),.int .i64 (t.c 14),.int .i64 (t.c 41),.int .i64 (t.c 42)] 43)).alloc (.cells #[.int .i64 (t.c 46),.int .i64 (t.c 53),.int .i64 (t.c 54)] 3)):=Below.alloc' (Below.alloc' (Below.refl _ _) _) _;generalize hbase:wc.heap.size=base at *;have ahi:=Lib.hid hbase;generalize World.alloc (World.alloc _ _) _=W2 at *;have lbx:=Lib.hid (show bx<base from hbase▸lb);have hsz2:base<=W2.heap.size:=hbase▸hB2.size;clear hbase;go_wp2
  go_loopw [4,5,6] (λv u i wr=>∃(k n m:Nat) (A:Option Addr) (c:Nat) (B:Option Addr) (e:Nat),k<=4/\i=.int .i64 k/\v=.slice A n c/\u=.slice B m e/\Hid (n=7+2*k)/\Hid (m=3+2*k)/\Hid (wr.ownsRow base 43 2 (.slice A n c) n (iV t (lp k)))/\Hid (wr.ownsRow base 3 1 (.slice B m e) m (oH t (sp k)))/\Hid (qR (.slice B m e) (.slice A n c))/\At wr bx (.cells (cells t) 51)/\Below base wc wr/\base<=wr.heap.size) (λ_ _ i _=>4-(intOf i).toNat)
  case atStart=>exact⟨0,7,3,_,_,_,_,by omega,rfl,rfl,rfl,Lib.hid rfl,Lib.hid rfl,N1,N2,Lib.hid (.inr (.inr (by simp[Value.ownBlock]))),hA2,hB2,hsz2⟩
  case round =>
   obtain⟨k,n,m,A,c,B,e,hk,rfl,rfl,rfl,HN,HM,O1,O2,AP,a,hB3,hsz⟩:=hrel;obtain rfl|rfl|rfl|rfl|rfl:k=0\/k=1\/k=2\/k=3\/k=4:=by omega
   . obtain rfl:n=7:=by have:=HN.out;omega
     obtain rfl:m=3:=by have:=HM.out;omega
     obtain⟨A',c',w1,jO,s1,s2,s3,s4,s5⟩:=jf (t:=132) (T:=43) (W:=wr.drew) (m:=2) (news:=[.int .i64 (t.c 15),.int .i64 (t.c 16),.int .i64 (t.c 23),.int .i64 (t.c 24)]) Tryz.underlying132 hi0 hz0 hz1 hz2 rfl aG aG O1.out O2.out AP.out hsz rfl Jk aG;have a1:At w1 bx _:=aW (W:=wr.drew) a lbx.out s4;obtain⟨B',e',w2,uY,t1,t2,t3,t4,t5⟩:=jf (t:=30) (T:=3) (W:=w1.drew) (m:=2) (news:=[.int .i64 (t.c 31),.int .i64 (t.c 35)]) Tryz.underlying30 gi0 gz0 gz1 gz2 rfl aG aG s2 s1 s3.symm s5 rfl Jk aG;have a2:At w2 bx _:=aW (W:=w1.drew) a1 lbx.out t4;have B1:Below base wr w1:=(Below.drew (Below.refl base wr)).trans s4;have B2:Below base w1 w2:=(Below.drew (Below.refl base w1)).trans t4;have jP:∀W',Below base wr W'->W'.cell? ⟨bx,15,none⟩=some (.int .i64 (t.c 15))/\W'.cell? ⟨bx,16,none⟩=some (.int .i64 (t.c 16))/\W'.cell? ⟨bx,23,none⟩=some (.int .i64 (t.c 23))/\W'.cell? ⟨bx,24,none⟩=some (.int .i64 (t.c 24)):=λW' h=>⟨(aW a lbx.out h).st 15 aG rfl,(aW a lbx.out h).st 16 aG rfl,(aW a lbx.out h).st 23 aG rfl,(aW a lbx.out h).st 24 aG rfl⟩;have uZ:∀W',Below base w1 W'->W'.cell? ⟨bx,31,none⟩=some (.int .i64 (t.c 31))/\W'.cell? ⟨bx,35,none⟩=some (.int .i64 (t.c 35)):=λW' h=>⟨(aW a1 lbx.out h).st 31 aG rfl,(aW a1 lbx.out h).st 35 aG rfl⟩;have E1:Hid (w2.ownsRow base 43 2 (.slice A' 9 c') 9 (iV t (lp 1))):=Lib.hid t2;have E2:Hid (w2.ownsRow base 3 1 (.slice B' 5 e') 5 (oH t (sp 1))):=Lib.hid t1;have E3:Hid (qR (.slice B' 5 e') (.slice A' 9 c')):=Lib.hid t3.symm;have hB4:Below base wc w2:=hB3.trans (B1.trans B2);have hs2:base<=w2.heap.size:=t5;have HA2:=Lib.hid a2;have K1:=Lib.hid jP;have K2:=Lib.hid uZ;have R1:=Lib.hid jO;have R2:=Lib.hid uY;have hsd:base<=w1.heap.size:=s5;clear t1 t2 t3 t4 t5 s1 s2 s3 s4 s5 a1 a2 a jP uZ jO uY
     go_upto_region 7 with(fail)
     refine kQ (S:=(λW'=>W'.cell? ⟨bx,15,none⟩=some (.int .i64 (t.c 15))/\W'.cell? ⟨bx,16,none⟩=some (.int .i64 (t.c 16))/\W'.cell? ⟨bx,23,none⟩=some (.int .i64 (t.c 23))/\W'.cell? ⟨bx,24,none⟩=some (.int .i64 (t.c 24)))) 11 ?_ ?_
     . exact Z2v
     intro hS0;refine aT 0 ?_;refine aT 1 ?_;refine aT 2 ?_;refine aT 3 ?_;refine aT 4 ?_;refine aT 5 ?_;refine aT 6 ?_;refine aT 7 ?_;refine aT 8 ?_;refine tk1 9 ?_;refine uF ?_ (hS:=by first|(intro hlt;exact absurd hlt aG)|(intro _;exact K1.out _ (Below.alloc (Below.drew (Below.refl _ _)) hsz _)));refine tk1 10 ?_;refine aj.Step.value (dI (.tmp 70) (.tmp 79) 132 rfl rfl rfl R1.out) ⟨λ_=>K1.out _ (by assumption),?_⟩
     (try simp only[bF,bG,bH,tks])
     refine tk1 11 ?_;refine uF ?_ (hS:=by first|(intro hlt;exact absurd hlt aG)|(intro _;omega));refine jY ?_
     go_upto_region 8 with(fail)
     refine kQ (S:=(λW'=>W'.cell? ⟨bx,31,none⟩=some (.int .i64 (t.c 31))/\W'.cell? ⟨bx,35,none⟩=some (.int .i64 (t.c 35)))) 11 ?_ ?_
     . exact K2.out _ (Below.drew (Below.refl _ _))
     intro hS0;refine aT 0 ?_;refine aT 1 ?_;refine aT 2 ?_;refine aT 3 ?_;refine aT 4 ?_;refine aT 5 ?_;refine aT 6 ?_;refine aT 7 ?_;refine aT 8 ?_;refine tk1 9 ?_;refine uF ?_ (hS:=by first|(intro hlt;exact absurd hlt aG)|(intro _;exact K2.out _ (Below.alloc (Below.drew (Below.refl _ _)) hsd _)));refine tk1 10 ?_;refine aj.Step.value (dI (.tmp 81) (.tmp 90) 30 rfl rfl rfl R2.out) ⟨λ_=>K2.out _ (by assumption),?_⟩
     (try simp only[bF,bG,bH,tks])
     refine tk1 11 ?_;refine uF ?_ (hS:=by first|(intro hlt;exact absurd hlt aG)|(intro _;omega));refine jY ?_;go_wp2
     go_roundw
     case rel=>exact⟨1,9,5,_,_,_,_,by omega,by go_num,rfl,rfl,Lib.hid rfl,Lib.hid rfl,E1,E2,E3,HA2.out,hB4,hs2⟩
     case measure=>simp[intOf]
   . obtain rfl:n=9:=by have:=HN.out;omega
     obtain rfl:m=5:=by have:=HM.out;omega
     obtain⟨A',c',w1,jO,s1,s2,s3,s4,s5⟩:=jf (t:=132) (T:=43) (W:=wr.drew) (m:=2) (news:=[.int .i64 (t.c 17),.int .i64 (t.c 18),.int .i64 (t.c 25),.int .i64 (t.c 26)]) Tryz.underlying132 hi0 hz0 hz1 hz2 rfl aG aG O1.out O2.out AP.out hsz rfl Jk aG;have a1:At w1 bx _:=aW (W:=wr.drew) a lbx.out s4;obtain⟨B',e',w2,uY,t1,t2,t3,t4,t5⟩:=jf (t:=30) (T:=3) (W:=w1.drew) (m:=2) (news:=[.int .i64 (t.c 32),.int .i64 (t.c 36)]) Tryz.underlying30 gi0 gz0 gz1 gz2 rfl aG aG s2 s1 s3.symm s5 rfl Jk aG;have a2:At w2 bx _:=aW (W:=w1.drew) a1 lbx.out t4;have B1:Below base wr w1:=(Below.drew (Below.refl base wr)).trans s4;have B2:Below base w1 w2:=(Below.drew (Below.refl base w1)).trans t4;have jP:∀W',Below base wr W'->W'.cell? ⟨bx,17,none⟩=some (.int .i64 (t.c 17))/\W'.cell? ⟨bx,18,none⟩=some (.int .i64 (t.c 18))/\W'.cell? ⟨bx,25,none⟩=some (.int .i64 (t.c 25))/\W'.cell? ⟨bx,26,none⟩=some (.int .i64 (t.c 26)):=λW' h=>⟨(aW a lbx.out h).st 17 aG rfl,(aW a lbx.out h).st 18 aG rfl,(aW a lbx.out h).st 25 aG rfl,(aW a lbx.out h).st 26 aG rfl⟩;have uZ:∀W',Below base w1 W'->W'.cell? ⟨bx,32,none⟩=some (.int .i64 (t.c 32))/\W'.cell? ⟨bx,36,none⟩=some (.int .i64 (t.c 36)):=λW' h=>⟨(aW a1 lbx.out h).st 32 aG rfl,(aW a1 lbx.out h).st 36 aG rfl⟩;have E1:Hid (w2.ownsRow base 43 2 (.slice A' 11 c') 11 (iV t (lp 2))):=Lib.hid t2;have E2:Hid (w2.ownsRow base 3 1 (.slice B' 7 e') 7 (oH t (sp 2))):=Lib.hid t1;have E3:Hid (qR (.slice B' 7 e') (.slice A' 11 c')):=Lib.hid t3.symm;have hB4:Below base wc w2:=hB3.trans (B1.trans B2);have hs2:base<=w2.heap.size:=t5;have HA2:=Lib.hid a2;have K1:=Lib.hid jP;have K2:=Lib.hid uZ;have R1:=Lib.hid jO;have R2:=Lib.hid uY;have hsd:base<=w1.heap.size:=s5;clear t1 t2 t3 t4 t5 s1 s2 s3 s4 s5 a1 a2 a jP uZ jO uY
     go_upto_region 7 with(fail)
     refine kQ (S:=(λW'=>W'.cell? ⟨bx,17,none⟩=some (.int .i64 (t.c 17))/\W'.cell? ⟨bx,18,none⟩=some (.int .i64 (t.c 18))/\W'.cell? ⟨bx,25,none⟩=some (.int .i64 (t.c 25))/\W'.cell? ⟨bx,26,none⟩=some (.int .i64 (t.c 26)))) 11 ?_ ?_
     . exact Z2v
     intro hS0;refine aT 0 ?_;refine aT 1 ?_;refine aT 2 ?_;refine aT 3 ?_;refine aT 4 ?_;refine aT 5 ?_;refine aT 6 ?_;refine aT 7 ?_;refine aT 8 ?_;refine tk1 9 ?_;refine uF ?_ (hS:=by first|(intro hlt;exact absurd hlt aG)|(intro _;exact K1.out _ (Below.alloc (Below.drew (Below.refl _ _)) hsz _)));refine tk1 10 ?_;refine aj.Step.value (dI (.tmp 70) (.tmp 79) 132 rfl rfl rfl R1.out) ⟨λ_=>K1.out _ (by assumption),?_⟩
     (try simp only[bF,bG,bH,tks])
     refine tk1 11 ?_;refine uF ?_ (hS:=by first|(intro hlt;exact absurd hlt aG)|(intro _;omega));refine jY ?_
     go_upto_region 8 with(fail)
     refine kQ (S:=(λW'=>W'.cell? ⟨bx,32,none⟩=some (.int .i64 (t.c 32))/\W'.cell? ⟨bx,36,none⟩=some (.int .i64 (t.c 36)))) 11 ?_ ?_
     . exact K2.out _ (Below.drew (Below.refl _ _))
     intro hS0;refine aT 0 ?_;refine aT 1 ?_;refine aT 2 ?_;refine aT 3 ?_;refine aT 4 ?_;refine aT 5 ?_;refine aT 6 ?_;refine aT 7 ?_;refine aT 8 ?_;refine tk1 9 ?_;refine uF ?_ (hS:=by first|(intro hlt;exact absurd hlt aG)|(intro _;exact K2.out _ (Below.alloc (Below.drew (Below.refl _ _)) hsd _)));refine tk1 10 ?_;refine aj.Step.value (dI (.tmp 81) (.tmp 90) 30 rfl rfl rfl R2.out) ⟨λ_=>K2.out _ (by assumption),?_⟩
     (try simp only[bF,bG,bH,tks])
     refine tk1 11 ?_;refine uF ?_ (hS:=by first|(intro hlt;exact absurd hlt aG)|(intro _;omega));refine jY ?_;go_wp2
     go_roundw
     case rel=>exact⟨2,11,7,_,_,_,_,by omega,by go_num,rfl,rfl,Lib.hid rfl,Lib.hid rfl,E1,E2,E3,HA2.out,hB4,hs2⟩
     case measure=>simp[intOf]
   . obtain rfl:n=11:=by have:=HN.out;omega
     obtain rfl:m=7:=by have:=HM.out;omega
     obtain⟨A',c',w1,jO,s1,s2,s3,s4,s5⟩:=jf (t:=132) (T:=43) (W:=wr.drew) (m:=2) (news:=[.int .i64 (t.c 19),.int .i64 (t.c 20),.int .i64 (t.c 27),.int .i64 (t.c 28)]) Tryz.underlying132 hi0 hz0 hz1 hz2 rfl aG aG O1.out O2.out AP.out hsz rfl Jk aG;have a1:At w1 bx _:=aW (W:=wr.drew) a lbx.out s4;obtain⟨B',e',w2,uY,t1,t2,t3,t4,t5⟩:=jf (t:=30) (T:=3) (W:=w1.drew) (m:=2) (news:=[.int .i64 (t.c 33),.int .i64 (t.c 37)]) Tryz.underlying30 gi0 gz0 gz1 gz2 rfl aG aG s2 s1 s3.symm s5 rfl Jk aG;have a2:At w2 bx _:=aW (W:=w1.drew) a1 lbx.out t4;have B1:Below base wr w1:=(Below.drew (Below.refl base wr)).trans s4;have B2:Below base w1 w2:=(Below.drew (Below.refl base w1)).trans t4;have jP:∀W',Below base wr W'->W'.cell? ⟨bx,19,none⟩=some (.int .i64 (t.c 19))/\W'.cell? ⟨bx,20,none⟩=some (.int .i64 (t.c 20))/\W'.cell? ⟨bx,27,none⟩=some (.int .i64 (t.c 27))/\W'.cell? ⟨bx,28,none⟩=some (.int .i64 (t.c 28)):=λW' h=>⟨(aW a lbx.out h).st 19 aG rfl,(aW a lbx.out h).st 20 aG rfl,(aW a lbx.out h).st 27 aG rfl,(aW a lbx.out h).st 28 aG rfl⟩;have uZ:∀W',Below base w1 W'->W'.cell? ⟨bx,33,none⟩=some (.int .i64 (t.c 33))/\W'.cell? ⟨bx,37,none⟩=some (.int .i64 (t.c 37)):=λW' h=>⟨(aW a1 lbx.out h).st 33 aG rfl,(aW a1 lbx.out h).st 37 aG rfl⟩;have E1:Hid (w2.ownsRow base 43 2 (.slice A' 13 c') 13 (iV t (lp 3))):=Lib.hid t2;have E2:Hid (w2.ownsRow base 3 1 (.slice B' 9 e') 9 (oH t (sp 3))):=Lib.hid t1;have E3:Hid (qR (.slice B' 9 e') (.slice A' 13 c')):=Lib.hid t3.symm;have hB4:Below base wc w2:=hB3.trans (B1.trans B2);have hs2:base<=w2.heap.size:=t5;have HA2:=Lib.hid a2;have K1:=Lib.hid jP;have K2:=Lib.hid uZ;have R1:=Lib.hid jO;have R2:=Lib.hid uY;have hsd:base<=w1.heap.size:=s5;clear t1 t2 t3 t4 t5 s1 s2 s3 s4 s5 a1 a2 a jP uZ jO uY
     go_upto_region 7 with(fail)
     refine kQ (S:=(λW'=>W'.cell? ⟨bx,19,none⟩=some (.int .i64 (t.c 19))/\W'.cell? ⟨bx,20,none⟩=some (.int .i64 (t.c 20))/\W'.cell? ⟨bx,27,none⟩=some (.int .i64 (t.c 27))/\W'.cell? ⟨bx,28,none⟩=some (.int .i64 (t.c 28)))) 11 ?_ ?_
     . exact Z2v
     intro hS0;refine aT 0 ?_;refine aT 1 ?_;refine aT 2 ?_;refine aT 3 ?_;refine aT 4 ?_;refine aT 5 ?_;refine aT 6 ?_;refine aT 7 ?_;refine aT 8 ?_;refine tk1 9 ?_;refine uF ?_ (hS:=by first|(intro hlt;exact absurd hlt aG)|(intro _;exact K1.out _ (Below.alloc (Below.drew (Below.refl _ _)) hsz _)));refine tk1 10 ?_;refine aj.Step.value (dI (.tmp 70) (.tmp 79) 132 rfl rfl rfl R1.out) ⟨λ_=>K1.out _ (by assumption),?_⟩
     (try simp only[bF,bG,bH,tks])
     refine tk1 11 ?_;refine uF ?_ (hS:=by first|(intro hlt;exact absurd hlt aG)|(intro _;omega));refine jY ?_
     go_upto_region 8 with(fail)
     refine kQ (S:=(λW'=>W'.cell? ⟨bx,33,none⟩=some (.int .i64 (t.c 33))/\W'.cell? ⟨bx,37,none⟩=some (.int .i64 (t.c 37)))) 11 ?_ ?_
     . exact K2.out _ (Below.drew (Below.refl _ _))
     intro hS0;refine aT 0 ?_;refine aT 1 ?_;refine aT 2 ?_;refine aT 3 ?_;refine aT 4 ?_;refine aT 5 ?_;refine aT 6 ?_;refine aT 7 ?_;refine aT 8 ?_;refine tk1 9 ?_;refine uF ?_ (hS:=by first|(intro hlt;exact absurd hlt aG)|(intro _;exact K2.out _ (Below.alloc (Below.drew (Below.refl _ _)) hsd _)));refine tk1 10 ?_;refine aj.Step.value (dI (.tmp 81) (.tmp 90) 30 rfl rfl rfl R2.out) ⟨λ_=>K2.out _ (by assumption),?_⟩
     (try simp only[bF,bG,bH,tks])
     refine tk1 11 ?_;refine uF ?_ (hS:=by first|(intro hlt;exact absurd hlt aG)|(intro _;omega));refine jY ?_;go_wp2
     go_roundw
     case rel=>exact⟨3,13,9,_,_,_,_,by omega,by go_num,rfl,rfl,Lib.hid rfl,Lib.hid rfl,E1,E2,E3,HA2.out,hB4,hs2⟩
     case measure=>simp[intOf]
   . obtain rfl:n=13:=by have:=HN.out;omega
     obtain rfl:m=9:=by have:=HM.out;omega
     obtain⟨A',c',w1,jO,s1,s2,s3,s4,s5⟩:=jf (t:=132) (T:=43) (W:=wr.drew) (m:=2) (news:=[.int .i64 (t.c 21),.int .i64 (t.c 22),.int .i64 (t.c 29),.int .i64 (t.c 30)]) Tryz.underlying132 hi0 hz0 hz1 hz2 rfl aG aG O1.out O2.out AP.out hsz rfl Jk aG;have a1:At w1 bx _:=aW (W:=wr.drew) a lbx.out s4;obtain⟨B',e',w2,uY,t1,t2,t3,t4,t5⟩:=jf (t:=30) (T:=3) (W:=w1.drew) (m:=2) (news:=[.int .i64 (t.c 34),.int .i64 (t.c 38)]) Tryz.underlying30 gi0 gz0 gz1 gz2 rfl aG aG s2 s1 s3.symm s5 rfl Jk aG;have a2:At w2 bx _:=aW (W:=w1.drew) a1 lbx.out t4;have B1:Below base wr w1:=(Below.drew (Below.refl base wr)).trans s4;have B2:Below base w1 w2:=(Below.drew (Below.refl base w1)).trans t4;have jP:∀W',Below base wr W'->W'.cell? ⟨bx,21,none⟩=some (.int .i64 (t.c 21))/\W'.cell? ⟨bx,22,none⟩=some (.int .i64 (t.c 22))/\W'.cell? ⟨bx,29,none⟩=some (.int .i64 (t.c 29))/\W'.cell? ⟨bx,30,none⟩=some (.int .i64 (t.c 30)):=λW' h=>⟨(aW a lbx.out h).st 21 aG rfl,(aW a lbx.out h).st 22 aG rfl,(aW a lbx.out h).st 29 aG rfl,(aW a lbx.out h).st 30 aG rfl⟩;have uZ:∀W',Below base w1 W'->W'.cell? ⟨bx,34,none⟩=some (.int .i64 (t.c 34))/\W'.cell? ⟨bx,38,none⟩=some (.int .i64 (t.c 38)):=λW' h=>⟨(aW a1 lbx.out h).st 34 aG rfl,(aW a1 lbx.out h).st 38 aG rfl⟩;have E1:Hid (w2.ownsRow base 43 2 (.slice A' 15 c') 15 (iV t (lp 4))):=Lib.hid t2;have E2:Hid (w2.ownsRow base 3 1 (.slice B' 11 e') 11 (oH t (sp 4))):=Lib.hid t1;have E3:Hid (qR (.slice B' 11 e') (.slice A' 15 c')):=Lib.hid t3.symm;have hB4:Below base wc w2:=hB3.trans (B1.trans B2);have hs2:base<=w2.heap.size:=t5;have HA2:=Lib.hid a2;have K1:=Lib.hid jP;have K2:=Lib.hid uZ;have R1:=Lib.hid jO;have R2:=Lib.hid uY;have hsd:base<=w1.heap.size:=s5;clear t1 t2 t3 t4 t5 s1 s2 s3 s4 s5 a1 a2 a jP uZ jO uY
     go_upto_region 7 with(fail)
     refine kQ (S:=(λW'=>W'.cell? ⟨bx,21,none⟩=some (.int .i64 (t.c 21))/\W'.cell? ⟨bx,22,none⟩=some (.int .i64 (t.c 22))/\W'.cell? ⟨bx,29,none⟩=some (.int .i64 (t.c 29))/\W'.cell? ⟨bx,30,none⟩=some (.int .i64 (t.c 30)))) 11 ?_ ?_
     . exact Z2v
     intro hS0;refine aT 0 ?_;refine aT 1 ?_;refine aT 2 ?_;refine aT 3 ?_;refine aT 4 ?_;refine aT 5 ?_;refine aT 6 ?_;refine aT 7 ?_;refine aT 8 ?_;refine tk1 9 ?_;refine uF ?_ (hS:=by first|(intro hlt;exact absurd hlt aG)|(intro _;exact K1.out _ (Below.alloc (Below.drew (Below.refl _ _)) hsz _)));refine tk1 10 ?_;refine aj.Step.value (dI (.tmp 70) (.tmp 79) 132 rfl rfl rfl R1.out) ⟨λ_=>K1.out _ (by assumption),?_⟩
     (try simp only[bF,bG,bH,tks])
     refine tk1 11 ?_;refine uF ?_ (hS:=by first|(intro hlt;exact absurd hlt aG)|(intro _;omega));refine jY ?_
     go_upto_region 8 with(fail)
     refine kQ (S:=(λW'=>W'.cell? ⟨bx,34,none⟩=some (.int .i64 (t.c 34))/\W'.cell? ⟨bx,38,none⟩=some (.int .i64 (t.c 38)))) 11 ?_ ?_
     . exact K2.out _ (Below.drew (Below.refl _ _))
     intro hS0;refine aT 0 ?_;refine aT 1 ?_;refine aT 2 ?_;refine aT 3 ?_;refine aT 4 ?_;refine aT 5 ?_;refine aT 6 ?_;refine aT 7 ?_;refine aT 8 ?_;refine tk1 9 ?_;refine uF ?_ (hS:=by first|(intro hlt;exact absurd hlt aG)|(intro _;exact K2.out _ (Below.alloc (Below.drew (Below.refl _ _)) hsd _)));refine tk1 10 ?_;refine aj.Step.value (dI (.tmp 81) (.tmp 90) 30 rfl rfl rfl R2.out) ⟨λ_=>K2.out _ (by assumption),?_⟩
     (try simp only[bF,bG,bH,tks])
     refine tk1 11 ?_;refine uF ?_ (hS:=by first|(intro hlt;exact absurd hlt aG)|(intro _;omega));refine jY ?_;go_wp2
     go_roundw
     case rel=>exact⟨4,15,11,_,_,_,_,by omega,by go_num,rfl,rfl,Lib.hid rfl,Lib.hid rfl,E1,E2,E3,HA2.out,hB4,hs2⟩
     case measure=>simp[intOf]
   . obtain rfl:n=15:=by have:=HN.out;omega
     obtain rfl:m=11:=by have:=HM.out;omega
     obtain⟨g,rfl,hg1,hg2,hgc⟩:=zD O1.out aG;obtain⟨g',rfl,hg1',adC,adD⟩:=zD O2.out aG
     have CL:Hid (∀W:World,Below wr.heap.size wr W->∀(k p:Nat),Re.lens[k]? = some p->W.cell? ⟨g,k*2,none⟩=some (.int .i64 (t.c p))/\W.cell? ⟨g,k*2+1,none⟩=some (.int .i64 (t.c (p+1)))):=Lib.hid λW hb k p hp=>by
      obtain⟨q0,q1⟩:=uX t (l:=Re.lens) hp;exact⟨(hb.cell (p:=⟨g,k*2,none⟩) hg2).trans (hgc _ _ q0),(hb.cell (p:=⟨g,k*2+1,none⟩) hg2).trans (hgc _ _ q1)⟩
     have CS:Hid (∀W:World,Below wr.heap.size wr W->∀(k p:Nat),Re.sizes[k]? = some p->W.cell? ⟨g',k,none⟩=some (.int .i64 (t.c p))):=Lib.hid λW hb k p hp=>(hb.cell (p:=⟨g',k,none⟩) adC).trans (adD _ _ (by show(oH t Re.sizes)[k]? = _;simp[oH,hp]));have hBx:Below wr.heap.size wr wr:=Below.refl _ _;have AX:=Lib.hid a;have HBW:=Lib.hid (hB.trans (hB3.mono (uH lbx.out)));clear O1 O2 AP N1 N2 hgc adD hi0 hz0 hz1 hz2 gi0 gz0 gz1 gz2 hA hA2 hB2 hB a hB3 hg1 hg1';generalize wr=W5 at *;go_wp2
     go_loopw [3,7] (λf i wr=>∃(k:Nat) (fl:Bool),k<=15/\i=.int .i64 k/\f=.bool fl/\Hid (fl=(q&&(Re.lens.take k).all λi=>Fx.valid (t.c i) (t.c (i+1))))/\Below W5.heap.size W5 wr) (λ_ i _=>15-(intOf i).toNat)
     case atStart=>exact⟨0,q,by omega,rfl,rfl,Lib.hid eY,hBx⟩
     case round =>
      obtain⟨k,fl,hk,rfl,rfl,HF,ru⟩:=hrel;by_cases hlt:k<15
      . have hltz:(k:Int)<15:=by omega
        obtain⟨p,hp⟩:∃p,Re.lens[k]? = some p:=⟨_,List.getElem?_eq_getElem (show k<Re.lens.length from hlt)⟩;obtain⟨c0,c1⟩:=CL.out wr ru k p hp;have HS:Hid ((Re.lens.take (k+1)).all (λi=>Fx.valid (t.c i) (t.c (i+1)))=((Re.lens.take k).all (λi=>Fx.valid (t.c i) (t.c (i+1)))&&Fx.valid (t.c p) (t.c (p+1)))):=Lib.hid (by rw[List.take_add_one,hp,List.all_append];simp);have hgl:g<wr.heap.size:=aR hg2 ru.size;clear hp;generalize t.c p=x at *;generalize t.c (p+1)=y at *;cases fl
        . go_wp2
          go_roundw
          case rel=>exact⟨k+1,false,by omega,by go_num,rfl,Lib.hid Z56,ru⟩
          case measure=>simp[intOf];omega
        . go_wp2_with (go_at_call 220;(with_reducible refine(MR _ _ _).mono ?_);rintro e w2 ⟨rfl,hb⟩;have ED:=ru.trans (hb.mono ru.size))
          go_roundw
          case rel=>exact⟨k+1,Fx.valid x y,by omega,by go_num,rfl,Lib.hid Z56,ED⟩
          case measure=>simp[intOf];omega
      . have hltz:¬ (k:Int)<15:=by omega
        have af6:=Lib.hid (show k=15 by omega);have HF2:Hid (fl=(q&&Re.JB t)):=Lib.hid (by rw[HF.out,af6.out];rfl);clear HF CL;generalize k=k7 at *;have qw:=ru;have hg6:g'<wr.heap.size:=aR adC ru.size
        rename_i W7
        go_wp2;generalize wr=W6 at *
        go_loopw [3,8] (λf i wr=>∃(k:Nat) (f2:Bool),k<=11/\i=.int .i64 k/\f=.bool f2/\Hid (f2=(fl&&(Re.sizes.take k).all λi=>Re.inn (t.c i) 0 1048576))/\Below W6.heap.size W6 wr) (λ_ i _=>11-(intOf i).toNat)
        case atStart=>exact⟨0,fl,by omega,rfl,rfl,Lib.hid eY,Below.refl _ _⟩
        case round =>
         obtain⟨k,f2,hk,rfl,rfl,HF,ED⟩:=hrel;have M7:=qw.trans (ED.mono qw.size);have hg7:g'<wr.heap.size:=aR hg6 ED.size;by_cases hlt:k<11
         . have hltz:(k:Int)<11:=by omega
           obtain⟨p,hp⟩:∃p,Re.sizes[k]? = some p:=⟨_,List.getElem?_eq_getElem (show k<Re.sizes.length from hlt)⟩;have c0:=CS.out _ M7 k p hp;have HS:Hid ((Re.sizes.take (k+1)).all (λi=>Re.inn (t.c i) 0 1048576)=((Re.sizes.take k).all (λi=>Re.inn (t.c i) 0 1048576)&&Re.inn (t.c p) 0 1048576)):=Lib.hid (by rw[List.take_add_one,hp,List.all_append];simp);clear hp;generalize t.c p=x at *;cases f2
           . go_wp2
             go_roundw
             case rel=>exact⟨k+1,false,by omega,by go_num,rfl,Lib.hid Z56,ED⟩
             case measure=>simp[intOf];omega
           . go_wp2_with (first|(go_at_call 219;with_reducible refine wL (zl _ _ _ _) ?_))
             go_roundw
             case rel=>exact⟨k+1,Re.inn x 0 1048576,by omega,by go_num,rfl,Lib.hid Z56,ED⟩
             case measure=>simp[intOf];omega
         . obtain rfl:k=11:=by omega
           have HF3:Hid (f2=(Re.gM t&&Re.JB t&&Re.Cv t)):=Lib.hid (by rw[HF.out,HF2.out,HQ.out];rfl);have AY:=AX.out.keep M7;have d39:=AY.st 39 aG rfl;have d40:=AY.st 40 aG rfl;have d48:=AY.st 48 aG rfl;have HV:Hid (Re.valid t=(f2&&Re.inn (t.c 39) 0 1000&&Re.inn (t.c 40) 0 1000&&Re.inn (t.c 48) (-1048576) 1048576)):=Lib.hid (by rw[HF3.out];rfl);have HE:=Lib.hid (HBW.out.trans (M7.mono (aC (uH lbx.out) hsz)));clear AY HF HF3 CS qw M7;cases f2
           . go_wp2
             go_ret
             exact⟨fM (by rw[HV.out];rfl),by rw[XT.out];exact HE.out⟩
           . cases e1:Re.inn (t.c 39) 0 1000
             . rw[e1]at HV
               exact Z29
             . rw[e1]at HV
               cases e2:Re.inn (t.c 40) 0 1000
               . rw[e2]at HV
                 exact Z29
               . rw[e2]at HV
                 exact Z29
theorem uJ(x:Int):wrap64 x=Fw.wr x:=by unfold Fw.wr wrap64;rfl
theorem dV(a b:Int)(w:World):Calls Tryz.prog 123 #[.agg #[.int .i64 a,.int .i64 b]] w λe w'=>e=.returned (.int .i64 (Fw.wr (a+b)))/\Below w.heap.size w w':=by
 go_enter Tryz.func123,Tryz.ntmps123
 go_wp2
 go_ret
 refine⟨bI (uJ _),?_⟩;exact Z5
theorem jh(w:World):Calls Tryz.prog 238 #[.int .i64 0,.int .i64 0] w λx w'=>x=.returned (.int .i64 3)/\Below w.heap.size w w':=by
 exact Z36
theorem GJ(w:World):Calls Tryz.prog 238 #[.int .i64 0,.int .i64 1] w λx w'=>x=.returned (.int .i64 1)/\Below w.heap.size w w':=by
 exact Z36
theorem GK(w:World):Calls Tryz.prog 238 #[.int .i64 1,.int .i64 0] w λx w'=>x=.returned (.int .i64 0)/\Below w.heap.size w w':=by
 exact Z36
theorem GL(w:World):Calls Tryz.prog 238 #[.int .i64 1,.int .i64 1] w λx w'=>x=.returned (.int .i64 2)/\Below w.heap.size w w':=by
 exact Z36
theorem rR(k0 n0 k1 n1 k2 n2 n base:Int)(w:World):Calls Tryz.prog 122 #[.agg #[.int .i64 k0,.int .i64 n0,.int .i64 k1,.int .i64 n1,.int .i64 k2,.int .i64 n2],.int .i64 n,.int .i64 base] w λe w'=>e=.returned (.int .i64 (Fx.limit n k1 n1 k2 n2 base))/\Below w.heap.size w w':=by
 go_enter Tryz.func122,Tryz.ntmps122
 go_wp2_with (first|(go_at_call 183;(with_reducible refine(F4 _ _ _ _ _ _ _).mono ?_);rintro e w' ⟨rfl,hb⟩;(try replace hb:=Below.after (by assumption) hb);obtain⟨hc,hf⟩:=kP hb;have hz:=hb.size;(try simp at hz)))
 go_ret
 refine⟨rfl,?_⟩;exact Z5
theorem ji(k0 n0 k1 n1 k2 n2 base:Int)(w:World):Calls Tryz.prog 178 #[.agg #[.int .i64 k0,.int .i64 n0,.int .i64 k1,.int .i64 n1,.int .i64 k2,.int .i64 n2],.int .i64 base] w λe w'=>e=.returned (.bool (Fx.mX k0 base))/\Below w.heap.size w w':=by
 go_enter Tryz.func178,Tryz.ntmps178
 go_wp2_with (first|(go_at_call 240;(with_reducible refine(rA _ _ _ _).mono ?_);rintro e w' ⟨rfl,hb⟩;(try replace hb:=Below.after (by assumption) hb);obtain⟨hc,hf⟩:=kP hb;have hz:=hb.size;(try simp at hz)))
 go_ret
 refine⟨rfl,?_⟩;exact Z5
set_option maxHeartbeats 4000000 in
theorem Ul(a b c d:Int)(w:World):(Instr.index 36 (.agg #[.int .i64 a,.int .i64 b,.int .i64 c,.int .i64 d]) (.int .i64 0)).run Tryz.prog w=.ok (.int .i64 a) w:=by kernel_rfl
set_option maxHeartbeats 4000000 in
theorem Um(a b c d:Int)(w:World):(Instr.index 36 (.agg #[.int .i64 a,.int .i64 b,.int .i64 c,.int .i64 d]) (.int .i64 1)).run Tryz.prog w=.ok (.int .i64 b) w:=by kernel_rfl
set_option maxHeartbeats 4000000 in
theorem Un(a b c d:Int)(w:World):(Instr.index 36 (.agg #[.int .i64 a,.int .i64 b,.int .i64 c,.int .i64 d]) (.int .i64 2)).run Tryz.prog w=.ok (.int .i64 c) w:=by kernel_rfl
set_option maxHeartbeats 4000000 in
theorem Uo(a b c d:Int)(w:World):(Instr.index 36 (.agg #[.int .i64 a,.int .i64 b,.int .i64 c,.int .i64 d]) (.int .i64 3)).run Tryz.prog w=.ok (.int .i64 d) w:=by kernel_rfl
set_option maxHeartbeats 4000000 in
theorem xu(s:Re.St)(w:World):Calls Tryz.prog 20 #[.agg (cells s)] w λe w'=>e=.returned (.agg #[.int .i64 (Fw.ed s 0),.int .i64 (Fw.ed s 1),.int .i64 (Fw.ed s 2),.int .i64 (Fw.ed s 3)])/\Below w.heap.size w w':=by
 go_enter Tryz.func20,Tryz.ntmps20
 go_upto_region 1 with(fail)
 generalize hW:World.alloc _ _=W0;have A0:At W0 w.heap.size (.cells (cells s) 51):=hW▸At.alloc (At.new _ _) _;have A1:At W0 (w.heap.size+1) (.cells #[.int .i64 0,.int .i64 0,.int .i64 0,.int .i64 0] 36):=hW▸At.new' _ eY;have hB:Below w.heap.size w W0:=hW▸Below.alloc' (Below.alloc' (Below.refl _ _) _) _;clear hW;have l0:=A0.lt;have p0:W0.cell? ⟨w.heap.size,31,none⟩=some (.int .i64 (s.c 31)):=A0.st 31 ak rfl;have p1:W0.cell? ⟨w.heap.size,32,none⟩=some (.int .i64 (s.c 32)):=A0.st 32 ak rfl;have p2:W0.cell? ⟨w.heap.size,33,none⟩=some (.int .i64 (s.c 33)):=A0.st 33 ak rfl;have p3:W0.cell? ⟨w.heap.size,34,none⟩=some (.int .i64 (s.c 34)):=A0.st 34 ak rfl;have q0:W0.cell? ⟨w.heap.size,35,none⟩=some (.int .i64 (s.c 35)):=A0.st 35 ak rfl;have q1:W0.cell? ⟨w.heap.size,36,none⟩=some (.int .i64 (s.c 36)):=A0.st 36 ak rfl;have q2:W0.cell? ⟨w.heap.size,37,none⟩=some (.int .i64 (s.c 37)):=A0.st 37 ak rfl;have q3:W0.cell? ⟨w.heap.size,38,none⟩=some (.int .i64 (s.c 38)):=A0.st 38 ak rfl;clear A0;have i0:=Ul (s.c 35) (s.c 36) (s.c 37) (s.c 38);have i1:=Um (s.c 35) (s.c 36) (s.c 37) (s.c 38);have i2:=Un (s.c 35) (s.c 36) (s.c 37) (s.c 38);have i3:=Uo (s.c 35) (s.c 36) (s.c 37) (s.c 38);obtain⟨l1,aL,aM,gD,gF⟩:=At.four A1;have fI:=A1.thaw 0;have fJ:=A1.thaw 1;have gZ:=A1.thaw 2;have iq:=A1.thaw 3;go_wp2;refine wp_loop_rounds 5 ?_;rw[rounds_succ];go_wp2;rw[rounds_succ];go_wp2;rw[rounds_succ];go_wp2;rw[rounds_succ];go_wp2;rw[rounds_succ];go_wp2;refine bodyPost_ret (v:=.agg #[.int .i64 _,.int .i64 _,.int .i64 _,.int .i64 _]) (by simp[results,Tryz.results20,go_sem, *];first|done|exact⟨rfl,rfl⟩|exact⟨rfl,rfl,rfl,rfl⟩|rfl) rfl ⟨yg (uJ _) (uJ _) (uJ _) (uJ _),?_⟩;exact Z5
set_option maxHeartbeats 4000000 in
theorem iO(a b c d:Int)(w:World):Calls Tryz.prog 174 #[.agg #[.int .i64 a,.int .i64 b,.int .i64 c,.int .i64 d]] w λe w'=>e=.returned (.agg #[.int .i64 d,.int .i64 b,.int .i64 a,.int .i64 c])/\Below w.heap.size w w':=by
 go_enter Tryz.func174,Tryz.ntmps174
 go_upto_region 3 with(fail)
 generalize hW:World.alloc _ _=W0;have A0:At W0 w.heap.size (.cells #[.int .i64 a,.int .i64 b,.int .i64 c,.int .i64 d] 36):=hW▸At.alloc (At.alloc (At.new _ _) _) _;have A1:At W0 (w.heap.size+1) (.cells #[.int .i64 0,.int .i64 0,.int .i64 0,.int .i64 0] 193):=hW▸At.alloc (At.new' _ eY) _;have A2:At W0 (w.heap.size+1+1) (.cells #[.int .i64 0,.int .i64 0,.int .i64 0,.int .i64 0] 193):=hW▸At.new' _ eY;have hB:Below w.heap.size w W0:=hW▸Below.alloc' (Below.alloc' (Below.alloc' (Below.refl _ _) _) _) _;clear hW;have g0:=hB.size;obtain⟨l0,aA,aB,bB,lM⟩:=At.four A0;obtain⟨l1,aL,aM,gD,gF⟩:=At.four A1;have fI:=A1.thaw 0;have fJ:=A1.thaw 1;have gZ:=A1.thaw 2;have iq:=A1.thaw 3;obtain⟨l2,aN,aO,aP,aQ⟩:=At.four A2;have kW:=A2.thaw 0;have kX:=A2.thaw 1;have kZ:=A2.thaw 2;have lD:=A2.thaw 3;refine wp_loop_rounds 3 ?_;rw[rounds_succ]
 go_upto_region 5 with(fail)
 refine QB 11 1 ?_
 (repeat (first|refine nN ?_ | refine nO ?_ (hc:=by intro w2 hS;first|with_reducible exact nI hS (jh _)|with_reducible exact nI hS (GJ _)|with_reducible exact nI hS (GK _)|with_reducible exact nI hS (GL _))|refine nP ?_))
 refine aj.dJ ?_;intro w2 hS
 (clear l0 aA aB bB lM l1 aL aM gD gF fI fJ gZ iq l2 aN aO aP aQ kW kX kZ lD);(replace hB:=Below.ay yT (ah _) hS);replace A0:=At.keep BJ hS;replace A1:=At.keep zn hS;replace A2:=At.keep AZ hS;clear hS;obtain⟨l0,aA,aB,bB,lM⟩:=At.four A0;obtain⟨l1,aL,aM,gD,gF⟩:=At.four A1;have fI:=A1.thaw 0;have fJ:=A1.thaw 1;have gZ:=A1.thaw 2;have iq:=A1.thaw 3;obtain⟨l2,aN,aO,aP,aQ⟩:=At.four A2;have kW:=A2.thaw 0;have kX:=A2.thaw 1;have kZ:=A2.thaw 2;have lD:=A2.thaw 3
 refine xV ?_;intro K hK;go_simp;refine hK _ _ (aj.bP ?_);clear hK K;generalize hW:World.setCell _ _ _=W1;clear l0 aA aB bB lM l1 aL aM gD gF fI fJ gZ iq l2 aN aO aP aQ kW kX kZ lD;replace A2:At W1 (w.heap.size+1+1) (.cells #[.int .i64 d,.int .i64 b,.int .i64 0,.int .i64 0] 193):=hW▸At.set (At.set (A2) 0 _) 1 _;replace A0:At W1 w.heap.size (.cells #[.int .i64 a,.int .i64 b,.int .i64 c,.int .i64 d] 36):=hW▸At.off (At.off (A0) ak _ _) ak _ _;replace A1:At W1 (w.heap.size+1) (.cells #[.int .i64 0,.int .i64 0,.int .i64 0,.int .i64 0] 193):=hW▸At.off (At.off (A1) ak _ _) ak _ _;replace hB:Below w.heap.size w W1:=hW▸Below.setCell (Below.setCell (hB) jH _) jH _;clear hW;obtain⟨l2,aN,aO,aP,aQ⟩:=At.four A2;have kW:=A2.thaw 0;have kX:=A2.thaw 1;have kZ:=A2.thaw 2;have lD:=A2.thaw 3;obtain⟨l0,aA,aB,bB,lM⟩:=At.four A0;obtain⟨l1,aL,aM,gD,gF⟩:=At.four A1;have fI:=A1.thaw 0;have fJ:=A1.thaw 1;have gZ:=A1.thaw 2;have iq:=A1.thaw 3;go_wp2;rw[rounds_succ]
 go_upto_region 5 with(fail)
 refine QB 11 1 ?_
 (repeat (first|refine nN ?_ | refine nO ?_ (hc:=by intro w2 hS;first|with_reducible exact nI hS (jh _)|with_reducible exact nI hS (GJ _)|with_reducible exact nI hS (GK _)|with_reducible exact nI hS (GL _))|refine nP ?_))
 refine aj.dJ ?_;intro w2 hS
 (clear l0 aA aB bB lM l1 aL aM gD gF fI fJ gZ iq l2 aN aO aP aQ kW kX kZ lD);(replace hB:=Below.ay yT (ah _) hS);replace A0:=At.keep BJ hS;replace A1:=At.keep zn hS;replace A2:=At.keep AZ hS;clear hS;obtain⟨l0,aA,aB,bB,lM⟩:=At.four A0;obtain⟨l1,aL,aM,gD,gF⟩:=At.four A1;have fI:=A1.thaw 0;have fJ:=A1.thaw 1;have gZ:=A1.thaw 2;have iq:=A1.thaw 3;obtain⟨l2,aN,aO,aP,aQ⟩:=At.four A2;have kW:=A2.thaw 0;have kX:=A2.thaw 1;have kZ:=A2.thaw 2;have lD:=A2.thaw 3
 refine xV ?_;intro K hK;go_simp;refine hK _ _ (aj.bP ?_);clear hK K;generalize hW:World.setCell _ _ _=W1;clear l0 aA aB bB lM l1 aL aM gD gF fI fJ gZ iq l2 aN aO aP aQ kW kX kZ lD;replace A2:At W1 (w.heap.size+1+1) (.cells #[.int .i64 d,.int .i64 b,.int .i64 a,.int .i64 c] 193):=hW▸At.set (At.set (A2) 2 _) 3 _;replace A0:At W1 w.heap.size (.cells #[.int .i64 a,.int .i64 b,.int .i64 c,.int .i64 d] 36):=hW▸At.off (At.off (A0) ak _ _) ak _ _;replace A1:At W1 (w.heap.size+1) (.cells #[.int .i64 0,.int .i64 0,.int .i64 0,.int .i64 0] 193):=hW▸At.off (At.off (A1) ak _ _) ak _ _;replace hB:Below w.heap.size w W1:=hW▸Below.setCell (Below.setCell (hB) jH _) jH _;clear hW;obtain⟨l2,aN,aO,aP,aQ⟩:=At.four A2;have kW:=A2.thaw 0;have kX:=A2.thaw 1;have kZ:=A2.thaw 2;have lD:=A2.thaw 3;obtain⟨l0,aA,aB,bB,lM⟩:=At.four A0;obtain⟨l1,aL,aM,gD,gF⟩:=At.four A1;have fI:=A1.thaw 0;have fJ:=A1.thaw 1;have gZ:=A1.thaw 2;have iq:=A1.thaw 3;go_wp2;rw[rounds_succ];go_wp2;refine bodyPost_ret (v:=.agg #[.int .i64 _,.int .i64 _,.int .i64 _,.int .i64 _]) (by simp[results,Tryz.results174,go_sem, *];first|done|exact⟨rfl,rfl⟩|exact⟨rfl,rfl,rfl,rfl⟩|rfl) rfl ⟨yg rfl rfl rfl rfl,?_⟩;exact Z5
end Go.Proofs.YtcbcfdihofclkaaGreat.Fix
