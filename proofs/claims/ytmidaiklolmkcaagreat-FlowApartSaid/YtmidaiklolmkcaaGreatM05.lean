/- What functions of the program do, in plain numbers, part 5; no conditions. -/
import Derived.Test.YtmidaiklolmkcaaGreatM04
set_option linter.unusedVariables false
set_option linter.unusedSimpArgs false
set_option linter.unusedSectionVars false
set_option maxRecDepth 100000
set_option maxHeartbeats 16000000
namespace Go.Proofs.YtmidaiklolmkcaaGreat.Fix
open Go.ChangeShapes Go.WideShapes Go.ChangeAt Go.RowKit
theorem At.st{W:World}{b:Nat}{t:Re.St}{T:TypeId}(h:At W b (.cells (cells t) T))(i:Nat)(hi:i<55)(hb:Re.sO i=false):W.cell? ⟨b,i,none⟩=some (.int .i64 (t.c i)):=(h.cell i).trans (bG t hi hb)
theorem At.bt{W:World}{b:Nat}{t:Re.St}{T:TypeId}(h:At W b (.cells (cells t) T))(i:Nat)(hi:i<55)(hb:Re.sO i=true):W.cell? ⟨b,i,none⟩=some (.bool (t.b i)):=(h.cell i).trans (tH t hi hb)
def lp(k:Nat):List Nat:=[3,5,7,9,11,13,41]++(List.range k).flatMap λj=>[15+2*j,23+2*j]
def sp(k:Nat):List Nat:=[46,53,54]++(List.range k).flatMap λj=>[31+j,35+j]
def iW(t:Re.St)(l:List Nat):List Value:=l.flatMap λp=>[.int .i64 (t.c p),.int .i64 (t.c (p+1))]
def oP(t:Re.St)(l:List Nat):List Value:=l.map λp => .int .i64 (t.c p)
theorem vo(t:Re.St):∀{l:List Nat} {k p:Nat},l[k]? = some p->(iW t l)[k*2]? = some (.int .i64 (t.c p))/\(iW t l)[k*2+1]? = some (.int .i64 (t.c (p+1)))
 | [],_,_,h=>by simp at h
 | a::l,0,p,h=>by
   simp at h;subst h;exact⟨rfl,rfl⟩
 | a::l,k+1,p,h=>by
   have ih:=vo t (l:=l) (k:=k) (p:=p) (by simpa using h);have e:iW t (a::l)=.int .i64 (t.c a) :: .int .i64 (t.c (a+1))::iW t l:=rfl;rw[e,show(k+1)*2=k*2+1+1 by omega];simpa using ih
theorem PX:(Tryz.prog.info? 37).map (λi=>(i.zero,i.size,i.bytes))=some (some (.agg #[.int .i64 0,.int .i64 0]),2,16):=by kernel_rfl
theorem bE{W W':World}{b base:Nat}{o:Obj}(h:At W b o)(hl:b<base)(hb:Below base W W'):At W' b o:=(hb.block b hl).trans h
set_option maxRecDepth 100000 in
theorem E8(t:Re.St)(w:World):Calls Tryz.prog 64 #[.agg (cells t)] w λe w'=>e=.returned (.bool (Re.valid t))/\Below w.heap.size w w':=by
 go_enter Tryz.func64,Tryz.ntmps64
 go_upto_region 1 with(fail)
 have hA:At (w.alloc (.cells (cells t) 46)) w.heap.size (.cells (cells t) 46):=At.new _ _;have hB:Below w.heap.size w (w.alloc (.cells (cells t) 46)):=Below.alloc' aF _;generalize w.alloc (.cells (cells t) 46)=W1 at *;generalize UQ:w.heap.size=bx at *;have lb:=hA.lt;have YH:=ah UQ;clear UQ;have d0:=hA.st 0 aH rfl;have d1:=hA.st 1 aH rfl;have d2:=hA.st 2 aH rfl;have d43:=hA.st 43 aH rfl;have d44:=hA.st 44 aH rfl;have d49:=hA.st 49 aH rfl;have d50:=hA.st 50 aH rfl;go_cut [3]from 9 (λv w2=>v=.bool (Re.gD t)/\w2=W1)
 case first =>
  cases e0:Re.inn (t.c 0) 0 3
  . have HK:=ah (show Re.gD t=false by unfold Re.gD;simp only[e0,Bool.false_and])
    exact Z18
  . skip
    cases e1:Re.inn (t.c 1) 0 4
    . have HK:=ah (show Re.gD t=false by unfold Re.gD;simp only[e0,e1,Bool.false_and,Bool.and_false])
      exact Z18
    . skip
      cases e2:Re.inn (t.c 2) 0 2
      . have HK:=ah (show Re.gD t=false by unfold Re.gD;simp only[e0,e1,e2,Bool.false_and,Bool.and_false])
        exact Z18
      . skip
        cases e3:Re.inn (t.c 43) 0 5
        . have HK:=ah (show Re.gD t=false by unfold Re.gD;simp only[e0,e1,e2,e3,Bool.false_and,Bool.and_false])
          exact Z18
        . skip
          cases e4:Re.inn (t.c 44) 0 3
          . have HK:=ah (show Re.gD t=false by unfold Re.gD;simp only[e0,e1,e2,e3,e4,Bool.false_and,Bool.and_false])
            exact Z18
          . skip
            cases e5:Re.inn (t.c 49) 0 2
            . have HK:=ah (show Re.gD t=false by unfold Re.gD;simp only[e0,e1,e2,e3,e4,e5,Bool.false_and,Bool.and_false])
              exact Z18
            . skip
              cases e6:Re.inn (t.c 50) 0 3
              . have HK:=ah (show Re.gD t=false by unfold Re.gD;simp only[e0,e1,e2,e3,e4,e5,e6,Bool.and_false])
                exact Z18
              . have HK:=ah (show Re.gD t=true by unfold Re.gD;simp only[e0,e1,e2,e3,e4,e5,e6,Bool.and_true])
                exact Z18
 case rest =>
  obtain⟨rfl,rfl⟩:=hcut;clear d0 d1 d2 d43 d44 d49 d50;generalize hkq:Re.gD t=q at *;have HQ:=ah hkq;clear hkq;have d3:=hA.st 3 aH rfl;have d4:=hA.st 4 aH rfl;have d5:=hA.st 5 aH rfl;have d6:=hA.st 6 aH rfl;have d7:=hA.st 7 aH rfl;have d8:=hA.st 8 aH rfl;have d9:=hA.st 9 aH rfl;have d10:=hA.st 10 aH rfl;have d11:=hA.st 11 aH rfl;have d12:=hA.st 12 aH rfl;have d13:=hA.st 13 aH rfl;have d14:=hA.st 14 aH rfl;have d41:=hA.st 41 aH rfl;have d42:=hA.st 42 aH rfl;have d46:=hA.st 46 aH rfl;have d53:=hA.st 53 aH rfl;have d54:=hA.st 54 aH rfl;have n1:(wc.alloc (.cells #[.int .i64 (t.c 3),.int .i64 (t.c 4),.int .i64 (t.c 5),.int .i64 (t.c 6),.int .i64 (t.c 7),.int .i64 (t.c 8),.int .i64 (t.c 9),.int .i64 (t.c 10),.int .i64 (t.c 11),.int .i64 (t.c 12),.int .i64 (t.c 13),.int .i64 (t.c 14),.int .i64 (t.c 41),.int .i64 (t.c 42)] 37)).ownsRow wc.heap.size 37 2 (.slice (some ⟨wc.heap.size,0,none⟩) 7 7) 7 (iW t (lp 0)):=yL aD rfl aH;have n2:((wc.alloc (.cells #[.int .i64 (t.c 3),.int .i64 (t.c 4),.int .i64 (t.c 5),.int .i64 (t.c 6),.int .i64 (t.c 7),.int .i64 (t.c 8),.int .i64 (t.c 9),.int .i64 (t.c 10),.int .i64 (t.c 11),.int .i64 (t.c 12),.int .i64 (t.c 13),.int .i64 (t.c 14),.int .i64 (t.c 41),.int .i64 (t.c 42)] 37)).alloc (.cells #[.int .i64 (t.c 46),.int .i64 (t.c 53),.int .i64 (t.c 54)] 3)).ownsRow wc.heap.size 3 1 (.slice (some ⟨wc.heap.size+1,0,none⟩) 3 3) 3 (oP t (sp 0)):=Rj eZ eZ rfl aH;have N1:=ah (n1.alloc (.cells #[.int .i64 (t.c 46),.int .i64 (t.c 53),.int .i64 (t.c 54)] 3));have N2:=ah n2;clear n1 n2;obtain⟨i0,hi0,hz0,hz1,hz2⟩:=info_parts PX;obtain⟨g0,gi0,gz0,gz1,gz2⟩:=info_parts intZero
  go_upto_region 4 with(fail)
  have hA2:At ((wc.alloc (.cells #[.int .i64 (t.c 3),.int .i64 (t.c 4),.int .i64 (t.c 5),.int .i64 (t.c 6),.int .i64 (t.c 7),.int .i64 (t.c 8),.int .i64 (t.c 9),.int .i64 (t.c 10),.int .i64 (t.c 11),.int .i64 (t.c 12),.int .i64 (t.c 13),.int .i64 (t.c 14),.int .i64 (t.c 41),.int .i64 (t.c 42)] 37)).alloc (.cells #[.int .i64 (t.c 46),.int .i64 (t.c 53),.int .i64 (t.c 54)] 3)) bx (.cells (cells t) 46):=(hA.alloc _).alloc _;have hB2:Below wc.heap.size wc ((wc.alloc (.cells #[.int .i64 (t.c 3),.int .i64 (t.c 4),.int .i64 (t.c 5),.int .i64 (t.c 6),.int .i64 (t.c 7),.int .i64 (t.c 8),.int .i64 (t.c 9),.int .i64 (t.c 10),.int .i64 (t.c 11),.int .i64 (t.c 12),.int .i64 (t.c 13),.int .i64 (t.c 14),.int .i64 (t.c 41),.int .i64 (t.c 42)] 37)).alloc (.cells #[.int .i64 (t.c 46),.int .i64 (t.c 53),.int .i64 (t.c 54)] 3)):=Below.alloc' (Below.alloc' aF _) _;generalize hbase:wc.heap.size=base at *;have aiJ:=ah hbase;generalize World.alloc (World.alloc _ _) _=W2 at *;have lbx:=ah (show bx<base from hbase▸lb);have hsz2:base<=W2.heap.size:=hbase▸hB2.size;clear hbase;go_wp2
  go_loopw [4,5,6] (λv u i wr=>∃(k n m:Nat) (A:Option Addr) (c:Nat) (B:Option Addr) (e:Nat),k<=4/\i=.int .i64 k/\v=.slice A n c/\u=.slice B m e/\Hid (n=7+2*k)/\Hid (m=3+2*k)/\Hid (wr.ownsRow base 37 2 (.slice A n c) n (iW t (lp k)))/\Hid (wr.ownsRow base 3 1 (.slice B m e) m (oP t (sp k)))/\Hid (qZ (.slice B m e) (.slice A n c))/\At wr bx (.cells (cells t) 46)/\Below base wc wr/\base<=wr.heap.size) (λ_ _ i _=>4-(intOf i).toNat)
  case atStart=>exact⟨0,7,3,_,_,_,_,by omega,rfl,rfl,rfl,ah rfl,ah rfl,N1,N2,ah (.inr (.inr (by simp[Value.ownBlock]))),hA2,hB2,hsz2⟩
  case round =>
   obtain⟨k,n,m,A,c,B,e,hk,rfl,rfl,rfl,HN,HM,O1,O2,AP,a,hB3,hsz⟩:=hrel;obtain rfl|rfl|rfl|rfl|rfl:k=0\/k=1\/k=2\/k=3\/k=4:=by omega
   . obtain rfl:n=7:=by have:=HN.out;omega
     obtain rfl:m=3:=by have:=HM.out;omega
     obtain⟨A',c',w1,jV,s1,s2,s3,s4,s5⟩:=jl (t:=105) (T:=37) (W:=wr.drew) (m:=2) (news:=[.int .i64 (t.c 15),.int .i64 (t.c 16),.int .i64 (t.c 23),.int .i64 (t.c 24)]) Tryz.underlying105 hi0 hz0 hz1 hz2 rfl aH aH O1.out O2.out AP.out hsz rfl JB aH;have a1:At w1 bx _:=bE (W:=wr.drew) a lbx.out s4;obtain⟨B',e',w2,vv,t1,t2,t3,t4,t5⟩:=jl (t:=30) (T:=3) (W:=w1.drew) (m:=2) (news:=[.int .i64 (t.c 31),.int .i64 (t.c 35)]) Tryz.underlying30 gi0 gz0 gz1 gz2 rfl aH aH s2 s1 s3.symm s5 rfl JB aH;have a2:At w2 bx _:=bE (W:=w1.drew) a1 lbx.out t4;have B1:Below base wr w1:=(Below.drew (Below.refl base wr)).trans s4;have B2:Below base w1 w2:=(Below.drew (Below.refl base w1)).trans t4;have jW:∀W',Below base wr W'->W'.cell? ⟨bx,15,none⟩=some (.int .i64 (t.c 15))/\W'.cell? ⟨bx,16,none⟩=some (.int .i64 (t.c 16))/\W'.cell? ⟨bx,23,none⟩=some (.int .i64 (t.c 23))/\W'.cell? ⟨bx,24,none⟩=some (.int .i64 (t.c 24)):=λW' h=>⟨(bE a lbx.out h).st 15 aH rfl,(bE a lbx.out h).st 16 aH rfl,(bE a lbx.out h).st 23 aH rfl,(bE a lbx.out h).st 24 aH rfl⟩;have vw:∀W',Below base w1 W'->W'.cell? ⟨bx,31,none⟩=some (.int .i64 (t.c 31))/\W'.cell? ⟨bx,35,none⟩=some (.int .i64 (t.c 35)):=λW' h=>⟨(bE a1 lbx.out h).st 31 aH rfl,(bE a1 lbx.out h).st 35 aH rfl⟩;have E1:Hid (w2.ownsRow base 37 2 (.slice A' 9 c') 9 (iW t (lp 1))):=ah t2;have E2:Hid (w2.ownsRow base 3 1 (.slice B' 5 e') 5 (oP t (sp 1))):=ah t1;have E3:Hid (qZ (.slice B' 5 e') (.slice A' 9 c')):=ah t3.symm;have hB4:Below base wc w2:=hB3.trans (B1.trans B2);have hs2:base<=w2.heap.size:=t5;have HA2:=ah a2;have K1:=ah jW;have K2:=ah vw;have R1:=ah jV;have R2:=ah vv;have hsd:base<=w1.heap.size:=s5;clear t1 t2 t3 t4 t5 s1 s2 s3 s4 s5 a1 a2 a jW vw jV vv
     go_upto_region 7 with(fail)
     refine lF (S:=(λW'=>W'.cell? ⟨bx,15,none⟩=some (.int .i64 (t.c 15))/\W'.cell? ⟨bx,16,none⟩=some (.int .i64 (t.c 16))/\W'.cell? ⟨bx,23,none⟩=some (.int .i64 (t.c 23))/\W'.cell? ⟨bx,24,none⟩=some (.int .i64 (t.c 24)))) 11 ?_ ?_
     . exact Z2v
     intro hS0;refine aW 0 ?_;refine aW 1 ?_;refine aW 2 ?_;refine aW 3 ?_;refine aW 4 ?_;refine aW 5 ?_;refine aW 6 ?_;refine aW 7 ?_;refine aW 8 ?_;refine tk1 9 ?_;refine uM ?_ (hS:=by first|(intro hlt;exact absurd hlt aH)|(intro _;exact K1.out _ (Below.alloc (Below.drew aF) hsz _)));refine tk1 10 ?_;refine ak.Step.value (dL (.tmp 70) (.tmp 79) 105 rfl rfl rfl R1.out) ⟨λ_=>K1.out _ (by assumption),?_⟩
     (try simp only[bL,bM,bN,tks])
     refine tk1 11 ?_;refine uM ?_ (hS:=by first|(intro hlt;exact absurd hlt aH)|(intro _;omega));refine ko ?_
     go_upto_region 8 with(fail)
     refine lF (S:=(λW'=>W'.cell? ⟨bx,31,none⟩=some (.int .i64 (t.c 31))/\W'.cell? ⟨bx,35,none⟩=some (.int .i64 (t.c 35)))) 11 ?_ ?_
     . exact K2.out _ (Below.drew aF)
     intro hS0;refine aW 0 ?_;refine aW 1 ?_;refine aW 2 ?_;refine aW 3 ?_;refine aW 4 ?_;refine aW 5 ?_;refine aW 6 ?_;refine aW 7 ?_;refine aW 8 ?_;refine tk1 9 ?_;refine uM ?_ (hS:=by first|(intro hlt;exact absurd hlt aH)|(intro _;exact K2.out _ (Below.alloc (Below.drew aF) hsd _)));refine tk1 10 ?_;refine ak.Step.value (dL (.tmp 81) (.tmp 90) 30 rfl rfl rfl R2.out) ⟨λ_=>K2.out _ (by assumption),?_⟩
     (try simp only[bL,bM,bN,tks])
     refine tk1 11 ?_;refine uM ?_ (hS:=by first|(intro hlt;exact absurd hlt aH)|(intro _;omega));refine ko ?_;go_wp2
     go_roundw
     case rel=>exact⟨1,9,5,_,_,_,_,by omega,by go_num,rfl,rfl,ah rfl,ah rfl,E1,E2,E3,HA2.out,hB4,hs2⟩
     case measure=>simp[intOf]
   . obtain rfl:n=9:=by have:=HN.out;omega
     obtain rfl:m=5:=by have:=HM.out;omega
     obtain⟨A',c',w1,jV,s1,s2,s3,s4,s5⟩:=jl (t:=105) (T:=37) (W:=wr.drew) (m:=2) (news:=[.int .i64 (t.c 17),.int .i64 (t.c 18),.int .i64 (t.c 25),.int .i64 (t.c 26)]) Tryz.underlying105 hi0 hz0 hz1 hz2 rfl aH aH O1.out O2.out AP.out hsz rfl JB aH;have a1:At w1 bx _:=bE (W:=wr.drew) a lbx.out s4;obtain⟨B',e',w2,vv,t1,t2,t3,t4,t5⟩:=jl (t:=30) (T:=3) (W:=w1.drew) (m:=2) (news:=[.int .i64 (t.c 32),.int .i64 (t.c 36)]) Tryz.underlying30 gi0 gz0 gz1 gz2 rfl aH aH s2 s1 s3.symm s5 rfl JB aH;have a2:At w2 bx _:=bE (W:=w1.drew) a1 lbx.out t4;have B1:Below base wr w1:=(Below.drew (Below.refl base wr)).trans s4;have B2:Below base w1 w2:=(Below.drew (Below.refl base w1)).trans t4;have jW:∀W',Below base wr W'->W'.cell? ⟨bx,17,none⟩=some (.int .i64 (t.c 17))/\W'.cell? ⟨bx,18,none⟩=some (.int .i64 (t.c 18))/\W'.cell? ⟨bx,25,none⟩=some (.int .i64 (t.c 25))/\W'.cell? ⟨bx,26,none⟩=some (.int .i64 (t.c 26)):=λW' h=>⟨(bE a lbx.out h).st 17 aH rfl,(bE a lbx.out h).st 18 aH rfl,(bE a lbx.out h).st 25 aH rfl,(bE a lbx.out h).st 26 aH rfl⟩;have vw:∀W',Below base w1 W'->W'.cell? ⟨bx,32,none⟩=some (.int .i64 (t.c 32))/\W'.cell? ⟨bx,36,none⟩=some (.int .i64 (t.c 36)):=λW' h=>⟨(bE a1 lbx.out h).st 32 aH rfl,(bE a1 lbx.out h).st 36 aH rfl⟩;have E1:Hid (w2.ownsRow base 37 2 (.slice A' 11 c') 11 (iW t (lp 2))):=ah t2;have E2:Hid (w2.ownsRow base 3 1 (.slice B' 7 e') 7 (oP t (sp 2))):=ah t1;have E3:Hid (qZ (.slice B' 7 e') (.slice A' 11 c')):=ah t3.symm;have hB4:Below base wc w2:=hB3.trans (B1.trans B2);have hs2:base<=w2.heap.size:=t5;have HA2:=ah a2;have K1:=ah jW;have K2:=ah vw;have R1:=ah jV;have R2:=ah vv;have hsd:base<=w1.heap.size:=s5;clear t1 t2 t3 t4 t5 s1 s2 s3 s4 s5 a1 a2 a jW vw jV vv
     go_upto_region 7 with(fail)
     refine lF (S:=(λW'=>W'.cell? ⟨bx,17,none⟩=some (.int .i64 (t.c 17))/\W'.cell? ⟨bx,18,none⟩=some (.int .i64 (t.c 18))/\W'.cell? ⟨bx,25,none⟩=some (.int .i64 (t.c 25))/\W'.cell? ⟨bx,26,none⟩=some (.int .i64 (t.c 26)))) 11 ?_ ?_
     . exact Z2v
     intro hS0;refine aW 0 ?_;refine aW 1 ?_;refine aW 2 ?_;refine aW 3 ?_;refine aW 4 ?_;refine aW 5 ?_;refine aW 6 ?_;refine aW 7 ?_;refine aW 8 ?_;refine tk1 9 ?_;refine uM ?_ (hS:=by first|(intro hlt;exact absurd hlt aH)|(intro _;exact K1.out _ (Below.alloc (Below.drew aF) hsz _)));refine tk1 10 ?_;refine ak.Step.value (dL (.tmp 70) (.tmp 79) 105 rfl rfl rfl R1.out) ⟨λ_=>K1.out _ (by assumption),?_⟩
     (try simp only[bL,bM,bN,tks])
     refine tk1 11 ?_;refine uM ?_ (hS:=by first|(intro hlt;exact absurd hlt aH)|(intro _;omega));refine ko ?_
     go_upto_region 8 with(fail)
     refine lF (S:=(λW'=>W'.cell? ⟨bx,32,none⟩=some (.int .i64 (t.c 32))/\W'.cell? ⟨bx,36,none⟩=some (.int .i64 (t.c 36)))) 11 ?_ ?_
     . exact K2.out _ (Below.drew aF)
     intro hS0;refine aW 0 ?_;refine aW 1 ?_;refine aW 2 ?_;refine aW 3 ?_;refine aW 4 ?_;refine aW 5 ?_;refine aW 6 ?_;refine aW 7 ?_;refine aW 8 ?_;refine tk1 9 ?_;refine uM ?_ (hS:=by first|(intro hlt;exact absurd hlt aH)|(intro _;exact K2.out _ (Below.alloc (Below.drew aF) hsd _)));refine tk1 10 ?_;refine ak.Step.value (dL (.tmp 81) (.tmp 90) 30 rfl rfl rfl R2.out) ⟨λ_=>K2.out _ (by assumption),?_⟩
     (try simp only[bL,bM,bN,tks])
     refine tk1 11 ?_;refine uM ?_ (hS:=by first|(intro hlt;exact absurd hlt aH)|(intro _;omega));refine ko ?_;go_wp2
     go_roundw
     case rel=>exact⟨2,11,7,_,_,_,_,by omega,by go_num,rfl,rfl,ah rfl,ah rfl,E1,E2,E3,HA2.out,hB4,hs2⟩
     case measure=>simp[intOf]
   . obtain rfl:n=11:=by have:=HN.out;omega
     obtain rfl:m=7:=by have:=HM.out;omega
     obtain⟨A',c',w1,jV,s1,s2,s3,s4,s5⟩:=jl (t:=105) (T:=37) (W:=wr.drew) (m:=2) (news:=[.int .i64 (t.c 19),.int .i64 (t.c 20),.int .i64 (t.c 27),.int .i64 (t.c 28)]) Tryz.underlying105 hi0 hz0 hz1 hz2 rfl aH aH O1.out O2.out AP.out hsz rfl JB aH;have a1:At w1 bx _:=bE (W:=wr.drew) a lbx.out s4;obtain⟨B',e',w2,vv,t1,t2,t3,t4,t5⟩:=jl (t:=30) (T:=3) (W:=w1.drew) (m:=2) (news:=[.int .i64 (t.c 33),.int .i64 (t.c 37)]) Tryz.underlying30 gi0 gz0 gz1 gz2 rfl aH aH s2 s1 s3.symm s5 rfl JB aH;have a2:At w2 bx _:=bE (W:=w1.drew) a1 lbx.out t4;have B1:Below base wr w1:=(Below.drew (Below.refl base wr)).trans s4;have B2:Below base w1 w2:=(Below.drew (Below.refl base w1)).trans t4;have jW:∀W',Below base wr W'->W'.cell? ⟨bx,19,none⟩=some (.int .i64 (t.c 19))/\W'.cell? ⟨bx,20,none⟩=some (.int .i64 (t.c 20))/\W'.cell? ⟨bx,27,none⟩=some (.int .i64 (t.c 27))/\W'.cell? ⟨bx,28,none⟩=some (.int .i64 (t.c 28)):=λW' h=>⟨(bE a lbx.out h).st 19 aH rfl,(bE a lbx.out h).st 20 aH rfl,(bE a lbx.out h).st 27 aH rfl,(bE a lbx.out h).st 28 aH rfl⟩;have vw:∀W',Below base w1 W'->W'.cell? ⟨bx,33,none⟩=some (.int .i64 (t.c 33))/\W'.cell? ⟨bx,37,none⟩=some (.int .i64 (t.c 37)):=λW' h=>⟨(bE a1 lbx.out h).st 33 aH rfl,(bE a1 lbx.out h).st 37 aH rfl⟩;have E1:Hid (w2.ownsRow base 37 2 (.slice A' 13 c') 13 (iW t (lp 3))):=ah t2;have E2:Hid (w2.ownsRow base 3 1 (.slice B' 9 e') 9 (oP t (sp 3))):=ah t1;have E3:Hid (qZ (.slice B' 9 e') (.slice A' 13 c')):=ah t3.symm;have hB4:Below base wc w2:=hB3.trans (B1.trans B2);have hs2:base<=w2.heap.size:=t5;have HA2:=ah a2;have K1:=ah jW;have K2:=ah vw;have R1:=ah jV;have R2:=ah vv;have hsd:base<=w1.heap.size:=s5;clear t1 t2 t3 t4 t5 s1 s2 s3 s4 s5 a1 a2 a jW vw jV vv
     go_upto_region 7 with(fail)
     refine lF (S:=(λW'=>W'.cell? ⟨bx,19,none⟩=some (.int .i64 (t.c 19))/\W'.cell? ⟨bx,20,none⟩=some (.int .i64 (t.c 20))/\W'.cell? ⟨bx,27,none⟩=some (.int .i64 (t.c 27))/\W'.cell? ⟨bx,28,none⟩=some (.int .i64 (t.c 28)))) 11 ?_ ?_
     . exact Z2v
     intro hS0;refine aW 0 ?_;refine aW 1 ?_;refine aW 2 ?_;refine aW 3 ?_;refine aW 4 ?_;refine aW 5 ?_;refine aW 6 ?_;refine aW 7 ?_;refine aW 8 ?_;refine tk1 9 ?_;refine uM ?_ (hS:=by first|(intro hlt;exact absurd hlt aH)|(intro _;exact K1.out _ (Below.alloc (Below.drew aF) hsz _)));refine tk1 10 ?_;refine ak.Step.value (dL (.tmp 70) (.tmp 79) 105 rfl rfl rfl R1.out) ⟨λ_=>K1.out _ (by assumption),?_⟩
     (try simp only[bL,bM,bN,tks])
     refine tk1 11 ?_;refine uM ?_ (hS:=by first|(intro hlt;exact absurd hlt aH)|(intro _;omega));refine ko ?_
     go_upto_region 8 with(fail)
     refine lF (S:=(λW'=>W'.cell? ⟨bx,33,none⟩=some (.int .i64 (t.c 33))/\W'.cell? ⟨bx,37,none⟩=some (.int .i64 (t.c 37)))) 11 ?_ ?_
     . exact K2.out _ (Below.drew aF)
     intro hS0;refine aW 0 ?_;refine aW 1 ?_;refine aW 2 ?_;refine aW 3 ?_;refine aW 4 ?_;refine aW 5 ?_;refine aW 6 ?_;refine aW 7 ?_;refine aW 8 ?_;refine tk1 9 ?_;refine uM ?_ (hS:=by first|(intro hlt;exact absurd hlt aH)|(intro _;exact K2.out _ (Below.alloc (Below.drew aF) hsd _)));refine tk1 10 ?_;refine ak.Step.value (dL (.tmp 81) (.tmp 90) 30 rfl rfl rfl R2.out) ⟨λ_=>K2.out _ (by assumption),?_⟩
     (try simp only[bL,bM,bN,tks])
     refine tk1 11 ?_;refine uM ?_ (hS:=by first|(intro hlt;exact absurd hlt aH)|(intro _;omega));refine ko ?_;go_wp2
     go_roundw
     case rel=>exact⟨3,13,9,_,_,_,_,by omega,by go_num,rfl,rfl,ah rfl,ah rfl,E1,E2,E3,HA2.out,hB4,hs2⟩
     case measure=>simp[intOf]
   . obtain rfl:n=13:=by have:=HN.out;omega
     obtain rfl:m=9:=by have:=HM.out;omega
     obtain⟨A',c',w1,jV,s1,s2,s3,s4,s5⟩:=jl (t:=105) (T:=37) (W:=wr.drew) (m:=2) (news:=[.int .i64 (t.c 21),.int .i64 (t.c 22),.int .i64 (t.c 29),.int .i64 (t.c 30)]) Tryz.underlying105 hi0 hz0 hz1 hz2 rfl aH aH O1.out O2.out AP.out hsz rfl JB aH;have a1:At w1 bx _:=bE (W:=wr.drew) a lbx.out s4;obtain⟨B',e',w2,vv,t1,t2,t3,t4,t5⟩:=jl (t:=30) (T:=3) (W:=w1.drew) (m:=2) (news:=[.int .i64 (t.c 34),.int .i64 (t.c 38)]) Tryz.underlying30 gi0 gz0 gz1 gz2 rfl aH aH s2 s1 s3.symm s5 rfl JB aH;have a2:At w2 bx _:=bE (W:=w1.drew) a1 lbx.out t4;have B1:Below base wr w1:=(Below.drew (Below.refl base wr)).trans s4;have B2:Below base w1 w2:=(Below.drew (Below.refl base w1)).trans t4;have jW:∀W',Below base wr W'->W'.cell? ⟨bx,21,none⟩=some (.int .i64 (t.c 21))/\W'.cell? ⟨bx,22,none⟩=some (.int .i64 (t.c 22))/\W'.cell? ⟨bx,29,none⟩=some (.int .i64 (t.c 29))/\W'.cell? ⟨bx,30,none⟩=some (.int .i64 (t.c 30)):=λW' h=>⟨(bE a lbx.out h).st 21 aH rfl,(bE a lbx.out h).st 22 aH rfl,(bE a lbx.out h).st 29 aH rfl,(bE a lbx.out h).st 30 aH rfl⟩;have vw:∀W',Below base w1 W'->W'.cell? ⟨bx,34,none⟩=some (.int .i64 (t.c 34))/\W'.cell? ⟨bx,38,none⟩=some (.int .i64 (t.c 38)):=λW' h=>⟨(bE a1 lbx.out h).st 34 aH rfl,(bE a1 lbx.out h).st 38 aH rfl⟩;have E1:Hid (w2.ownsRow base 37 2 (.slice A' 15 c') 15 (iW t (lp 4))):=ah t2;have E2:Hid (w2.ownsRow base 3 1 (.slice B' 11 e') 11 (oP t (sp 4))):=ah t1;have E3:Hid (qZ (.slice B' 11 e') (.slice A' 15 c')):=ah t3.symm;have hB4:Below base wc w2:=hB3.trans (B1.trans B2);have hs2:base<=w2.heap.size:=t5;have HA2:=ah a2;have K1:=ah jW;have K2:=ah vw;have R1:=ah jV;have R2:=ah vv;have hsd:base<=w1.heap.size:=s5;clear t1 t2 t3 t4 t5 s1 s2 s3 s4 s5 a1 a2 a jW vw jV vv
     go_upto_region 7 with(fail)
     refine lF (S:=(λW'=>W'.cell? ⟨bx,21,none⟩=some (.int .i64 (t.c 21))/\W'.cell? ⟨bx,22,none⟩=some (.int .i64 (t.c 22))/\W'.cell? ⟨bx,29,none⟩=some (.int .i64 (t.c 29))/\W'.cell? ⟨bx,30,none⟩=some (.int .i64 (t.c 30)))) 11 ?_ ?_
     . exact Z2v
     intro hS0;refine aW 0 ?_;refine aW 1 ?_;refine aW 2 ?_;refine aW 3 ?_;refine aW 4 ?_;refine aW 5 ?_;refine aW 6 ?_;refine aW 7 ?_;refine aW 8 ?_;refine tk1 9 ?_;refine uM ?_ (hS:=by first|(intro hlt;exact absurd hlt aH)|(intro _;exact K1.out _ (Below.alloc (Below.drew aF) hsz _)));refine tk1 10 ?_;refine ak.Step.value (dL (.tmp 70) (.tmp 79) 105 rfl rfl rfl R1.out) ⟨λ_=>K1.out _ (by assumption),?_⟩
     (try simp only[bL,bM,bN,tks])
     refine tk1 11 ?_;refine uM ?_ (hS:=by first|(intro hlt;exact absurd hlt aH)|(intro _;omega));refine ko ?_
     go_upto_region 8 with(fail)
     refine lF (S:=(λW'=>W'.cell? ⟨bx,34,none⟩=some (.int .i64 (t.c 34))/\W'.cell? ⟨bx,38,none⟩=some (.int .i64 (t.c 38)))) 11 ?_ ?_
     . exact K2.out _ (Below.drew aF)
     intro hS0;refine aW 0 ?_;refine aW 1 ?_;refine aW 2 ?_;refine aW 3 ?_;refine aW 4 ?_;refine aW 5 ?_;refine aW 6 ?_;refine aW 7 ?_;refine aW 8 ?_;refine tk1 9 ?_;refine uM ?_ (hS:=by first|(intro hlt;exact absurd hlt aH)|(intro _;exact K2.out _ (Below.alloc (Below.drew aF) hsd _)));refine tk1 10 ?_;refine ak.Step.value (dL (.tmp 81) (.tmp 90) 30 rfl rfl rfl R2.out) ⟨λ_=>K2.out _ (by assumption),?_⟩
     (try simp only[bL,bM,bN,tks])
     refine tk1 11 ?_;refine uM ?_ (hS:=by first|(intro hlt;exact absurd hlt aH)|(intro _;omega));refine ko ?_;go_wp2
     go_roundw
     case rel=>exact⟨4,15,11,_,_,_,_,by omega,by go_num,rfl,rfl,ah rfl,ah rfl,E1,E2,E3,HA2.out,hB4,hs2⟩
     case measure=>simp[intOf]
   . obtain rfl:n=15:=by have:=HN.out;omega
     obtain rfl:m=11:=by have:=HM.out;omega
     obtain⟨g,rfl,hg1,hg2,hgc⟩:=zO O1.out aH;obtain⟨g',rfl,hg1',aem,aen⟩:=zO O2.out aH
     have CL:Hid (∀W:World,Below wr.heap.size wr W->∀(k p:Nat),Re.lens[k]? = some p->W.cell? ⟨g,k*2,none⟩=some (.int .i64 (t.c p))/\W.cell? ⟨g,k*2+1,none⟩=some (.int .i64 (t.c (p+1)))):=ah λW hb k p hp=>by
      obtain⟨q0,q1⟩:=vo t (l:=Re.lens) hp;exact⟨(hb.cell (p:=⟨g,k*2,none⟩) hg2).trans (hgc _ _ q0),(hb.cell (p:=⟨g,k*2+1,none⟩) hg2).trans (hgc _ _ q1)⟩
     have CS:Hid (∀W:World,Below wr.heap.size wr W->∀(k p:Nat),Re.sizes[k]? = some p->W.cell? ⟨g',k,none⟩=some (.int .i64 (t.c p))):=ah λW hb k p hp=>(hb.cell (p:=⟨g',k,none⟩) aem).trans (aen _ _ (by show(oP t Re.sizes)[k]? = _;simp[oP,hp]));have hBx:Below wr.heap.size wr wr:=Below.refl _ _;have AX:=ah a;have HBW:=ah (hB.trans (hB3.mono (uO lbx.out)));clear O1 O2 AP N1 N2 hgc aen hi0 hz0 hz1 hz2 gi0 gz0 gz1 gz2 hA hA2 hB2 hB a hB3 hg1 hg1';generalize wr=W5 at *;go_wp2
     go_loopw [3,7] (λf i wr=>∃(k:Nat) (fl:Bool),k<=15/\i=.int .i64 k/\f=.bool fl/\Hid (fl=(q&&(Re.lens.take k).all λi=>Fx.valid (t.c i) (t.c (i+1))))/\Below W5.heap.size W5 wr) (λ_ i _=>15-(intOf i).toNat)
     case atStart=>exact⟨0,q,by omega,rfl,rfl,ah eZ,hBx⟩
     case round =>
      obtain⟨k,fl,hk,rfl,rfl,HF,p9⟩:=hrel;by_cases hlt:k<15
      . have hltz:(k:Int)<15:=by omega
        obtain⟨p,hp⟩:∃p,Re.lens[k]? = some p:=⟨_,List.getElem?_eq_getElem (show k<Re.lens.length from hlt)⟩;obtain⟨c0,c1⟩:=CL.out wr p9 k p hp;have HS:Hid ((Re.lens.take (k+1)).all (λi=>Fx.valid (t.c i) (t.c (i+1)))=((Re.lens.take k).all (λi=>Fx.valid (t.c i) (t.c (i+1)))&&Fx.valid (t.c p) (t.c (p+1)))):=ah (by rw[List.take_add_one,hp,List.all_append];simp);have hgl:g<wr.heap.size:=aV hg2 p9.size;clear hp;generalize t.c p=x at *;generalize t.c (p+1)=y at *;cases fl
        . go_wp2
          go_roundw
          case rel=>exact⟨k+1,false,by omega,by go_num,rfl,ah Z50,p9⟩
          case measure=>simp[intOf];omega
        . go_wp2_with (go_at_call 86;(with_reducible refine(Nj _ _ _).mono ?_);rintro e w2 ⟨rfl,hb⟩;have EU:=p9.trans (hb.mono p9.size))
          go_roundw
          case rel=>exact⟨k+1,Fx.valid x y,by omega,by go_num,rfl,ah Z50,EU⟩
          case measure=>simp[intOf];omega
      . have hltz:¬ (k:Int)<15:=by omega
        have ag1:=ah (show k=15 by omega);have HF2:Hid (fl=(q&&Re.CW t)):=ah (by rw[HF.out,ag1.out];rfl);clear HF CL;generalize k=k7 at *;have qE:=p9;have hg6:g'<wr.heap.size:=aV aem p9.size
        rename_i W7
        go_wp2;generalize wr=W6 at *
        go_loopw [3,8] (λf i wr=>∃(k:Nat) (f2:Bool),k<=11/\i=.int .i64 k/\f=.bool f2/\Hid (f2=(fl&&(Re.sizes.take k).all λi=>Re.inn (t.c i) 0 1048576))/\Below W6.heap.size W6 wr) (λ_ i _=>11-(intOf i).toNat)
        case atStart=>exact⟨0,fl,by omega,rfl,rfl,ah eZ,Below.refl _ _⟩
        case round =>
         obtain⟨k,f2,hk,rfl,rfl,HF,EU⟩:=hrel;have Nw:=qE.trans (EU.mono qE.size);have hg7:g'<wr.heap.size:=aV hg6 EU.size;by_cases hlt:k<11
         . have hltz:(k:Int)<11:=by omega
           obtain⟨p,hp⟩:∃p,Re.sizes[k]? = some p:=⟨_,List.getElem?_eq_getElem (show k<Re.sizes.length from hlt)⟩;have c0:=CS.out _ Nw k p hp;have HS:Hid ((Re.sizes.take (k+1)).all (λi=>Re.inn (t.c i) 0 1048576)=((Re.sizes.take k).all (λi=>Re.inn (t.c i) 0 1048576)&&Re.inn (t.c p) 0 1048576)):=ah (by rw[List.take_add_one,hp,List.all_append];simp);clear hp;generalize t.c p=x at *;cases f2
           . go_wp2
             go_roundw
             case rel=>exact⟨k+1,false,by omega,by go_num,rfl,ah Z50,EU⟩
             case measure=>simp[intOf];omega
           . go_wp2_with (first|(go_at_call 85;with_reducible refine wR (zB _ _ _ _) ?_))
             go_roundw
             case rel=>exact⟨k+1,Re.inn x 0 1048576,by omega,by go_num,rfl,ah Z50,EU⟩
             case measure=>simp[intOf];omega
         . obtain rfl:k=11:=by omega
           have HF3:Hid (f2=(Re.gD t&&Re.CW t&&Re.xD t)):=ah (by rw[HF.out,HF2.out,HQ.out];rfl);have AY:=AX.out.keep Nw;have d39:=AY.st 39 aH rfl;have d40:=AY.st 40 aH rfl;have d48:=AY.st 48 aH rfl;have HV:Hid (Re.valid t=(f2&&Re.inn (t.c 39) 0 1000&&Re.inn (t.c 40) 0 1000&&Re.inn (t.c 48) (-1048576) 1048576)):=ah (by rw[HF3.out];rfl);have HE:=ah (HBW.out.trans (Nw.mono (aJ (uO lbx.out) hsz)));clear AY HF HF3 CS qE Nw;cases f2
           . go_wp2
             go_ret
             exact⟨fT (by rw[HV.out];rfl),by rw[YH.out];exact HE.out⟩
           . cases e1:Re.inn (t.c 39) 0 1000
             . rw[e1]at HV
               exact Z2a
             . rw[e1]at HV
               cases e2:Re.inn (t.c 40) 0 1000
               . rw[e2]at HV
                 exact Z2a
               . rw[e2]at HV
                 exact Z2a
theorem uR(x:Int):wrap64 x=Fw.wr x:=by unfold Fw.wr wrap64;rfl
theorem dX(a b:Int)(w:World):Calls Tryz.prog 51 #[.agg #[.int .i64 a,.int .i64 b]] w λe w'=>e=.returned (.int .i64 (Fw.wr (a+b)))/\Below w.heap.size w w':=by
 go_enter Tryz.func51,Tryz.ntmps51
 go_wp2
 go_ret
 refine⟨bO (uR _),?_⟩;exact Z5
theorem jm(w:World):Calls Tryz.prog 104 #[.int .i64 0,.int .i64 0] w λx w'=>x=.returned (.int .i64 3)/\Below w.heap.size w w':=by
 exact Z34
theorem G9(w:World):Calls Tryz.prog 104 #[.int .i64 0,.int .i64 1] w λx w'=>x=.returned (.int .i64 1)/\Below w.heap.size w w':=by
 exact Z34
theorem He(w:World):Calls Tryz.prog 104 #[.int .i64 1,.int .i64 0] w λx w'=>x=.returned (.int .i64 0)/\Below w.heap.size w w':=by
 exact Z34
theorem Hf(w:World):Calls Tryz.prog 104 #[.int .i64 1,.int .i64 1] w λx w'=>x=.returned (.int .i64 2)/\Below w.heap.size w w':=by
 exact Z34
theorem rX(k0 n0 k1 n1 k2 n2 n base:Int)(w:World):Calls Tryz.prog 50 #[.agg #[.int .i64 k0,.int .i64 n0,.int .i64 k1,.int .i64 n1,.int .i64 k2,.int .i64 n2],.int .i64 n,.int .i64 base] w λe w'=>e=.returned (.int .i64 (Fx.limit n k1 n1 k2 n2 base))/\Below w.heap.size w w':=by
 go_enter Tryz.func50,Tryz.ntmps50
 go_wp2_with (first|(go_at_call 78;(with_reducible refine(Gn _ _ _ _ _ _ _).mono ?_);rintro e w' ⟨rfl,hb⟩;(try replace hb:=Below.after (by assumption) hb);obtain⟨hc,hf⟩:=kY hb;have hz:=hb.size;(try simp at hz)))
 go_ret
 refine⟨rfl,?_⟩;exact Z5
theorem jq(k0 n0 k1 n1 k2 n2 base:Int)(w:World):Calls Tryz.prog 73 #[.agg #[.int .i64 k0,.int .i64 n0,.int .i64 k1,.int .i64 n1,.int .i64 k2,.int .i64 n2],.int .i64 base] w λe w'=>e=.returned (.bool (Fx.jg k0 base))/\Below w.heap.size w w':=by
 go_enter Tryz.func73,Tryz.ntmps73
 go_wp2_with (first|(go_at_call 106;(with_reducible refine(rJ _ _ _ _).mono ?_);rintro e w' ⟨rfl,hb⟩;(try replace hb:=Below.after (by assumption) hb);obtain⟨hc,hf⟩:=kY hb;have hz:=hb.size;(try simp at hz)))
 go_ret
 refine⟨rfl,?_⟩;exact Z5
theorem UR(a b c d:Int)(w:World):(Instr.index 39 (.agg #[.int .i64 a,.int .i64 b,.int .i64 c,.int .i64 d]) (.int .i64 0)).run Tryz.prog w=.ok (.int .i64 a) w:=by kernel_rfl
theorem UU(a b c d:Int)(w:World):(Instr.index 39 (.agg #[.int .i64 a,.int .i64 b,.int .i64 c,.int .i64 d]) (.int .i64 1)).run Tryz.prog w=.ok (.int .i64 b) w:=by kernel_rfl
theorem UW(a b c d:Int)(w:World):(Instr.index 39 (.agg #[.int .i64 a,.int .i64 b,.int .i64 c,.int .i64 d]) (.int .i64 2)).run Tryz.prog w=.ok (.int .i64 c) w:=by kernel_rfl
theorem UY(a b c d:Int)(w:World):(Instr.index 39 (.agg #[.int .i64 a,.int .i64 b,.int .i64 c,.int .i64 d]) (.int .i64 3)).run Tryz.prog w=.ok (.int .i64 d) w:=by kernel_rfl
theorem Dx(s:Re.St)(w:World):Calls Tryz.prog 16 #[.agg (cells s)] w λe w'=>e=.returned (.agg #[.int .i64 (Fw.ed s 0),.int .i64 (Fw.ed s 1),.int .i64 (Fw.ed s 2),.int .i64 (Fw.ed s 3)])/\Below w.heap.size w w':=by
 go_enter Tryz.func16,Tryz.ntmps16
 go_upto_region 1 with(fail)
 generalize hW:World.alloc _ _=W0;have A0:At W0 w.heap.size (.cells (cells s) 46):=hW▸At.alloc (At.new _ _) _;have A1:At W0 (w.heap.size+1) (.cells #[.int .i64 0,.int .i64 0,.int .i64 0,.int .i64 0] 39):=hW▸At.new' _ eZ;have hB:Below w.heap.size w W0:=hW▸Below.alloc' (Below.alloc' aF _) _;clear hW;have l0:=A0.lt;have p0:W0.cell? ⟨w.heap.size,31,none⟩=some (.int .i64 (s.c 31)):=A0.st 31 aj rfl;have p1:W0.cell? ⟨w.heap.size,32,none⟩=some (.int .i64 (s.c 32)):=A0.st 32 aj rfl;have p2:W0.cell? ⟨w.heap.size,33,none⟩=some (.int .i64 (s.c 33)):=A0.st 33 aj rfl;have p3:W0.cell? ⟨w.heap.size,34,none⟩=some (.int .i64 (s.c 34)):=A0.st 34 aj rfl;have q0:W0.cell? ⟨w.heap.size,35,none⟩=some (.int .i64 (s.c 35)):=A0.st 35 aj rfl;have q1:W0.cell? ⟨w.heap.size,36,none⟩=some (.int .i64 (s.c 36)):=A0.st 36 aj rfl;have q2:W0.cell? ⟨w.heap.size,37,none⟩=some (.int .i64 (s.c 37)):=A0.st 37 aj rfl;have q3:W0.cell? ⟨w.heap.size,38,none⟩=some (.int .i64 (s.c 38)):=A0.st 38 aj rfl;clear A0;have i0:=UR (s.c 35) (s.c 36) (s.c 37) (s.c 38);have i1:=UU (s.c 35) (s.c 36) (s.c 37) (s.c 38);have i2:=UW (s.c 35) (s.c 36) (s.c 37) (s.c 38);have i3:=UY (s.c 35) (s.c 36) (s.c 37) (s.c 38);obtain⟨l1,aP,aQ,gG,gH⟩:=At.four A1;have fO:=A1.thaw 0;have fP:=A1.thaw 1;have gZ:=A1.thaw 2;have iq:=A1.thaw 3;go_wp2;refine wp_loop_rounds 5 ?_;rw[rounds_succ];go_wp2;rw[rounds_succ];go_wp2;rw[rounds_succ];go_wp2;rw[rounds_succ];go_wp2;rw[rounds_succ];go_wp2;refine bodyPost_ret (v:=.agg #[.int .i64 _,.int .i64 _,.int .i64 _,.int .i64 _]) (by simp[results,Tryz.results16,go_sem, *];first|done|exact⟨rfl,rfl⟩|exact⟨rfl,rfl,rfl,rfl⟩|rfl) rfl ⟨yF (uR _) (uR _) (uR _) (uR _),?_⟩;exact Z5
theorem iO(a b c d:Int)(w:World):Calls Tryz.prog 69 #[.agg #[.int .i64 a,.int .i64 b,.int .i64 c,.int .i64 d]] w λe w'=>e=.returned (.agg #[.int .i64 d,.int .i64 b,.int .i64 a,.int .i64 c])/\Below w.heap.size w w':=by
 go_enter Tryz.func69,Tryz.ntmps69
 go_upto_region 3 with(fail)
 generalize hW:World.alloc _ _=W0;have A0:At W0 w.heap.size (.cells #[.int .i64 a,.int .i64 b,.int .i64 c,.int .i64 d] 39):=hW▸At.alloc (At.alloc (At.new _ _) _) _;have A1:At W0 (w.heap.size+1) (.cells #[.int .i64 0,.int .i64 0,.int .i64 0,.int .i64 0] 115):=hW▸At.alloc (At.new' _ eZ) _;have A2:At W0 (w.heap.size+1+1) (.cells #[.int .i64 0,.int .i64 0,.int .i64 0,.int .i64 0] 115):=hW▸At.new' _ eZ;have hB:Below w.heap.size w W0:=hW▸Below.alloc' (Below.alloc' (Below.alloc' aF _) _) _;clear hW;have g0:=hB.size;obtain⟨l0,aB,aC,bH,mF⟩:=At.four A0;obtain⟨l1,aP,aQ,gG,gH⟩:=At.four A1;have fO:=A1.thaw 0;have fP:=A1.thaw 1;have gZ:=A1.thaw 2;have iq:=A1.thaw 3;obtain⟨l2,aR,aS,aT,aU⟩:=At.four A2;have lJ:=A2.thaw 0;have lM:=A2.thaw 1;have lW:=A2.thaw 2;have lX:=A2.thaw 3;refine wp_loop_rounds 3 ?_;rw[rounds_succ]
 go_upto_region 5 with(fail)
 refine Q6 11 1 ?_
 (repeat (first|refine nW ?_ | refine nX ?_ (hc:=by intro w2 hS;first|with_reducible exact nR hS (jm _)|with_reducible exact nR hS (G9 _)|with_reducible exact nR hS (He _)|with_reducible exact nR hS (Hf _))|refine nY ?_))
 refine ak.dN ?_;intro w2 hS
 (clear l0 aB aC bH mF l1 aP aQ gG gH fO fP gZ iq l2 aR aS aT aU lJ lM lW lX);(replace hB:=Below.ay zn aD hS);replace A0:=At.keep BX hS;replace A1:=At.keep zD hS;replace A2:=At.keep Bo hS;clear hS;obtain⟨l0,aB,aC,bH,mF⟩:=At.four A0;obtain⟨l1,aP,aQ,gG,gH⟩:=At.four A1;have fO:=A1.thaw 0;have fP:=A1.thaw 1;have gZ:=A1.thaw 2;have iq:=A1.thaw 3;obtain⟨l2,aR,aS,aT,aU⟩:=At.four A2;have lJ:=A2.thaw 0;have lM:=A2.thaw 1;have lW:=A2.thaw 2;have lX:=A2.thaw 3
 refine x9 ?_;intro K hK;go_simp;refine hK _ _ (ak.bV ?_);clear hK K;generalize hW:World.setCell _ _ _=W1;clear l0 aB aC bH mF l1 aP aQ gG gH fO fP gZ iq l2 aR aS aT aU lJ lM lW lX;replace A2:At W1 (w.heap.size+1+1) (.cells #[.int .i64 d,.int .i64 b,.int .i64 0,.int .i64 0] 115):=hW▸At.set (At.set (A2) 0 _) 1 _;replace A0:At W1 w.heap.size (.cells #[.int .i64 a,.int .i64 b,.int .i64 c,.int .i64 d] 39):=hW▸At.off (At.off (A0) aj _ _) aj _ _;replace A1:At W1 (w.heap.size+1) (.cells #[.int .i64 0,.int .i64 0,.int .i64 0,.int .i64 0] 115):=hW▸At.off (At.off (A1) aj _ _) aj _ _;replace hB:Below w.heap.size w W1:=hW▸Below.setCell (Below.setCell (hB) jM _) jM _;clear hW;obtain⟨l2,aR,aS,aT,aU⟩:=At.four A2;have lJ:=A2.thaw 0;have lM:=A2.thaw 1;have lW:=A2.thaw 2;have lX:=A2.thaw 3;obtain⟨l0,aB,aC,bH,mF⟩:=At.four A0;obtain⟨l1,aP,aQ,gG,gH⟩:=At.four A1;have fO:=A1.thaw 0;have fP:=A1.thaw 1;have gZ:=A1.thaw 2;have iq:=A1.thaw 3;go_wp2;rw[rounds_succ]
 go_upto_region 5 with(fail)
 refine Q6 11 1 ?_
 (repeat (first|refine nW ?_ | refine nX ?_ (hc:=by intro w2 hS;first|with_reducible exact nR hS (jm _)|with_reducible exact nR hS (G9 _)|with_reducible exact nR hS (He _)|with_reducible exact nR hS (Hf _))|refine nY ?_))
 refine ak.dN ?_;intro w2 hS
 (clear l0 aB aC bH mF l1 aP aQ gG gH fO fP gZ iq l2 aR aS aT aU lJ lM lW lX);(replace hB:=Below.ay zn aD hS);replace A0:=At.keep BX hS;replace A1:=At.keep zD hS;replace A2:=At.keep Bo hS;clear hS;obtain⟨l0,aB,aC,bH,mF⟩:=At.four A0;obtain⟨l1,aP,aQ,gG,gH⟩:=At.four A1;have fO:=A1.thaw 0;have fP:=A1.thaw 1;have gZ:=A1.thaw 2;have iq:=A1.thaw 3;obtain⟨l2,aR,aS,aT,aU⟩:=At.four A2;have lJ:=A2.thaw 0;have lM:=A2.thaw 1;have lW:=A2.thaw 2;have lX:=A2.thaw 3
 refine x9 ?_;intro K hK;go_simp;refine hK _ _ (ak.bV ?_);clear hK K;generalize hW:World.setCell _ _ _=W1;clear l0 aB aC bH mF l1 aP aQ gG gH fO fP gZ iq l2 aR aS aT aU lJ lM lW lX;replace A2:At W1 (w.heap.size+1+1) (.cells #[.int .i64 d,.int .i64 b,.int .i64 a,.int .i64 c] 115):=hW▸At.set (At.set (A2) 2 _) 3 _;replace A0:At W1 w.heap.size (.cells #[.int .i64 a,.int .i64 b,.int .i64 c,.int .i64 d] 39):=hW▸At.off (At.off (A0) aj _ _) aj _ _;replace A1:At W1 (w.heap.size+1) (.cells #[.int .i64 0,.int .i64 0,.int .i64 0,.int .i64 0] 115):=hW▸At.off (At.off (A1) aj _ _) aj _ _;replace hB:Below w.heap.size w W1:=hW▸Below.setCell (Below.setCell (hB) jM _) jM _;clear hW;obtain⟨l2,aR,aS,aT,aU⟩:=At.four A2;have lJ:=A2.thaw 0;have lM:=A2.thaw 1;have lW:=A2.thaw 2;have lX:=A2.thaw 3;obtain⟨l0,aB,aC,bH,mF⟩:=At.four A0;obtain⟨l1,aP,aQ,gG,gH⟩:=At.four A1;have fO:=A1.thaw 0;have fP:=A1.thaw 1;have gZ:=A1.thaw 2;have iq:=A1.thaw 3;go_wp2;rw[rounds_succ];go_wp2;refine bodyPost_ret (v:=.agg #[.int .i64 _,.int .i64 _,.int .i64 _,.int .i64 _]) (by simp[results,Tryz.results69,go_sem, *];first|done|exact⟨rfl,rfl⟩|exact⟨rfl,rfl,rfl,rfl⟩|rfl) rfl ⟨yF rfl rfl rfl rfl,?_⟩;exact Z5
end Go.Proofs.YtmidaiklolmkcaaGreat.Fix
namespace Go.Proofs.YtmidaiklolmkcaaGreat.ak
open Go Fix
section
variable {P:Program} {ops:Array Oper} {Q:Exit->Act->World->Prop} {md:Region.Mode} {S:World->Prop} {N:Value->World->Prop} {s m t:Nat} {so:Oper} {tail:List Oper}
def marks(md:Region.Mode)(k:Nat):List Bool->List Oper->List Bool
 | pre,[]=>pre
 | pre,o::os=>marks md k (pre++[pre.length==k||o.after.any λe=>Region.binds md e&&pre.getD e.on false]) os
def vB(md:Region.Mode)(ops:Array Oper)(m:Nat):Bool :=
 (List.range ops.size).all λj=>decide (j<m)||(List.range m).all λk=>(match ops[j]? with
  | some o=>o.after.any λe=>Region.binds md e&&e.on==k
  | none=>true)||(marks md k [] ops.toList).getD j false
def Closed(md:Region.Mode)(ops:Array Oper)(listed:Array Bool):Prop:=∀k o,ops[k]? = some o->listed.getD k true=true->∀e∈o.after,Region.binds md e=true->listed.getD e.on false=true
theorem Closed.start(n:Nat)(h:ops.size=n):Closed md ops (Array.replicate n false):=λk o ho hk=>by
 have hlt:=(Array.getElem?_eq_some_iff.1 ho).1;have:k<n:=by omega
 simp[this]at hk
theorem Closed.set{listed:Array Bool}(h:Closed md ops listed){j:Nat}(hj:j∈Region.ready md ops listed):Closed md ops (listed.setIfInBounds j true):=λk o ho hk e he hb=>by
 obtain⟨hun,oj,hoj,hall⟩:=mem_ready.1 hj;have old:listed.getD e.on false=true:=by
  by_cases hkj:k=j
  . subst hkj
    obtain rfl:oj=o:=Option.some.inj (hoj.symm.trans ho);exact hall e he hb
  . rw[getD_set_ne true (Ne.symm hkj)]at hk
    exact h k o ho hk e he hb
 by_cases e1:e.on=j
 . have hlt:j<listed.size:=by
    rcases Nat.lt_or_ge j listed.size with h'|h'
    . exact h'
    . rw[e1]at old;simp[Array.getElem?_eq_none h']at old
   rw[e1];simp[hlt]
 . have:(listed.setIfInBounds j true).getD e.on false=listed.getD e.on false:=by
    simp only[Array.getD_eq_getD_getElem?,Array.getElem?_setIfInBounds,if_neg (Ne.symm e1)]
   rw[this];exact old
theorem Dy(k:Nat):∀(os:List Oper) (pre:List Bool) (all:List Oper),all.drop pre.length=os ->
  (∀i,pre.getD i false=true->i=k\/∃o e,all[i]? = some o/\e∈o.after/\Region.binds md e=true/\e.on<i/\(marks md k pre os).getD e.on false=true) ->
  (∃suf,marks md k pre os=pre++suf)/\∀i,(marks md k pre os).getD i false=true->i=k\/∃o e,all[i]? = some o/\e∈o.after/\Region.binds md e=true/\e.on<i/\(marks md k pre os).getD e.on false=true
 | [],pre,all,hd,h=>⟨⟨[],by simp[marks]⟩,h⟩
 | o::os,pre,all,hd,h=>by
  have hlt:pre.length<all.length:=by
   rcases Nat.lt_or_ge pre.length all.length with h'|h'
   . exact h'
   . rw[List.drop_eq_nil_of_le h']at hd;cases hd
  rw[List.drop_eq_getElem_cons hlt]at hd;have ho:all[pre.length]? = some o:=by rw[List.getElem?_eq_getElem hlt,(List.cons.inj hd).1]
  have hd':=(List.cons.inj hd).2;have key:∃suf,marks md k pre (o::os)=(pre++[pre.length==k||o.after.any λe=>Region.binds md e&&pre.getD e.on false])++suf:=by
   have:∀(os:List Oper) (p:List Bool),∃suf,marks md k p os=p++suf:=by
    intro os
    induction os with
    | nil=>intro p;exact⟨[],by simp[marks]⟩
    | cons o os ih=>intro p;obtain⟨suf,hs⟩:=ih (p++[p.length==k||o.after.any λe=>Region.binds md e&&p.getD e.on false]);exact⟨_::suf,by rw[marks,hs,List.append_assoc];rfl⟩
   exact this os _
  obtain⟨suf,aeo⟩:=key
  have ih:=Dy k os (pre++[pre.length==k||o.after.any λe=>Region.binds md e&&pre.getD e.on false]) all (by simpa using hd') (λi hi=>by
   have e0:marks md k (pre++[pre.length==k||o.after.any λe=>Region.binds md e&&pre.getD e.on false]) os=marks md k pre (o::os):=rfl;rw[e0];rcases Nat.lt_trichotomy i pre.length with hl|hl|hl
   . refine h i ?_
     simpa[List.getD_eq_getElem?_getD,List.getElem?_append_left hl]using hi
   . subst hl
     simp only[List.getD_eq_getElem?_getD,List.getElem?_append_right aD,Nat.sub_self,List.getElem?_cons_zero,Option.getD_some,Bool.or_eq_true,beq_iff_eq]at hi;rcases hi with hi|hi
     . exact .inl hi
     . obtain⟨e,he,hb⟩:=Array.any_eq_true'.1 hi
       simp only[Bool.and_eq_true]at hb;have hon:e.on<pre.length:=by
        rcases Nat.lt_or_ge e.on pre.length with h'|h'
        . exact h'
        . have:=hb.2;simp[List.getElem?_eq_none h']at this
       refine .inr ⟨o,e,ho,he,hb.1,hon,?_⟩;rw[aeo,List.append_assoc,List.getD_eq_getElem?_getD,List.getElem?_append_left hon];simpa[List.getD_eq_getElem?_getD]using hb.2
   . exfalso
     rw[List.getD_eq_getElem?_getD,List.getElem?_eq_none jM]at hi
     simp at hi)
  exact⟨⟨_,by rw[aeo,List.append_assoc]⟩,ih.2⟩
theorem marked{k:Nat}{listed:Array Bool}(hcl:Closed md ops listed)(hk:listed.getD k true=false):∀i,(marks md k [] ops.toList).getD i false=true->listed.getD i true=false/\(i≠k->i ∉ Region.ready md ops listed):=by
 intro i
 induction i using Nat.strongRecOn with
 | _ i ih =>
   intro hm;rcases(Dy (md:=md) k ops.toList [] ops.toList eZ (λi hi=>by simp at hi)).2 i hm with rfl|⟨o,e,ho,he,hb,hlt,hme⟩
   . exact⟨hk,λh=>absurd rfl h⟩
   . have hu:=(ih e.on hlt hme).1
     have ho':ops[i]? = some o:=by rw[<-ho];simp
     refine⟨?_,λ_ hr => ?_⟩
     . rcases hc:listed.getD i true with _ | _
       . rfl
       . exact(qj hu (hcl i o ho' hc e he hb)).elim
     . obtain⟨_,o2,ho2,hall⟩:=mem_ready.1 hr
       obtain rfl:o=o2:=Option.some.inj (ho'.symm.trans ho2);exact qj hu (hall e he hb)
theorem F6{m:Nat}(ht:vB md ops m=true){listed:Array Bool}(hcl:Closed md ops listed){i j:Nat}{oj:Oper}(hi:i∈Region.ready md ops listed)(hj:j∈Region.ready md ops listed)(ho:ops[j]? = some oj)(hjm:m<=j)(him:i<m)(hne:i≠j):False:=by
 unfold vB at ht;rw[List.all_eq_true]at ht;have h1:=ht j (List.mem_range.2 (Array.getElem?_eq_some_iff.1 ho).1);have hd:decide (j<m)=false:=by simpa using hjm
 rw[hd,Bool.false_or,List.all_eq_true]at h1;have h2:=h1 i (List.mem_range.2 him);simp only[ho,Bool.or_eq_true]at h2;rcases h2 with h2|h2
 . obtain⟨e,he,hb⟩:=Array.any_eq_true'.1 h2
   simp only[Bool.and_eq_true,beq_iff_eq]at hb;exact ow hi hj ho ⟨e,he,hb.1,hb.2⟩
 . exact(marked hcl (mem_ready.1 hi).1 j h2).2 (Ne.symm hne) hj
theorem Ny{m:Nat}{B:Array Bool->Act->Prop}(ht:vB md ops m=true){i:Nat}{oi:Oper}{v:Value}(him:i<m)(hi:ops[i]? = some oi)(hsel:∀(j:Nat) (o:Oper) cs b,ops[j]? = some o->o.op ≠ .select cs b)
  (fuel:Nat) (listed:Array Bool) (a:Act) (hcl:Closed md ops listed) (hc:Clear md ops listed i oi) (hr:i∈Region.ready md ops listed) (hy:Yf P ops S oi v a)
  (H:lI P md ops S m B fuel (listed.setIfInBounds i true) (a.put oi.dst v)):lI P md ops S m B (fuel+1) listed a:=by
 induction fuel generalizing listed a with
 | zero =>
   refine⟨List.ne_nil_of_mem hr,λj hj => ?_⟩;rcases Nat.decEq j i with hji|rfl
   . exact Z33
   . exact⟨oi,v,hi,hy,H⟩
 | succ fuel ih =>
   refine⟨List.ne_nil_of_mem hr,λj hj => ?_⟩;rcases Nat.decEq j i with hji|rfl
   . obtain⟨oj,u,ho,hyj,hn⟩:=H.2 j (ready_mono hj hji)
     obtain⟨a1,a2,a3⟩:=Oper.apart_spec ((hc j oj ho hji (mem_ready.1 hj).1).resolve_left (ow hr hj ho));refine⟨oj,u,ho,hyj.of_same (execOp_put oj (λcs b=>hsel j oj cs b ho) a oi.dst v a1).symm (wanted_put oj a oi.dst v a1).symm,ih _ _ (hcl.set hj) (hc.set j) (ready_mono hr (Ne.symm hji)) ?_ ?_⟩
     . exact Z20
     . exact Z3a
   . exact⟨oi,v,hi,hy,H⟩
theorem Kl{m t:Nat}(hs:Region.noSelect ops=true)(ht:vB md ops m=true)(hm:ops.toList.length=m+t):∀(k:Nat) (os:List Oper) (i:Nat) (listed:Array Bool) (a:Act),ops.toList.drop i=os->i+k=m->Closed md ops listed ->
  (∀q,q<i->listed.getD q true=true)->lG md ops t k i listed=true ->
  dY P ops Q S k os a->lI P md ops S m (λlisted a=>∀w,S w->wpAny P md ops Q t listed a w) k listed a
 | 0,os,i,listed,a,hd,hi,hcl,hl,hk,h=>by
  exact Z2t
 | k+1,[],i,listed,a,_,_,_,_,_,h=>h.elim
 | k+1,o::os,i,listed,a,hd,hi,hcl,hl,hk,⟨v,hy,hn⟩=>by
  simp only[lG,Bool.and_eq_true]at hk;obtain⟨⟨hf,hr⟩,hk⟩:=hk;obtain⟨ho,hd'⟩:=drop_cons hd;refine Ny ht aj ho (Region.noSelect_spec hs) k listed a hcl (oI ho hf) (by simpa using hr) hy ?_;refine Kl hs ht hm k os (i+1) _ _ hd' aj (hcl.set (by simpa using hr)) ?_ hk hn;exact Z27
theorem BA{id:Nat}{l:List Oper}{a:Act}{w:World}(m t:Nat)(S:World->Prop)(hp:P.follows .mixedOrders=true)(hs:Region.noSelect l.toArray=true)
  (hl:l.length=m+t) (ht:vB .any l.toArray m=true) (hk:lG .any l.toArray t m 0 (Array.replicate l.length false)=true) (hS:S w.drew) (h:dY P l.toArray Q S m l a):(Code.region id l.toArray true).wp P Q a w :=
 wp_region_any hp (by
  have h1:=lI.any (Q:=Q) (tf:=t) m (Array.replicate l.length false) a (Kl (md:=.any) (Q:=Q) (m:=m) (t:=t) hs ht (by simpa using hl) m l 0 (Array.replicate l.length false) a eZ aj (Closed.start _ eZ) (λq hq=>by omega) hk h) _ hS;have e:l.toArray.size=t+m:=by simp;omega
  rw[e];have e2:Array.replicate (t+m) false=Array.replicate l.length false:=by rw[hl,Nat.add_comm]
  rw[e2];exact h1)
theorem BD{id:Nat}{l:List Oper}{a:Act}{W0 w:World}(m t:Nat)(h0:RowKit.Below W0.heap.size W0 w)(hp:P.follows .mixedOrders=true)(hs:Region.noSelect l.toArray=true)
  (hl:l.length=m+t) (ht:vB .any l.toArray m=true) (hk:lG .any l.toArray t m 0 (Array.replicate l.length false)=true) (h:dY P l.toArray Q (λw'=>RowKit.Below W0.heap.size W0 w') m l a):(Code.region id l.toArray true).wp P Q a w :=
 BA m t _ hp hs hl ht hk h0.drew h
theorem Km{B:Value->Array Bool->Act->Prop}(ht:vB md ops m=true){i:Nat}{oi:Oper}{v:Value}(him:i<m)(his:i≠s)(hi:ops[i]? = some oi)(hsel:∀(j:Nat) (o:Oper) cs b,ops[j]? = some o->o.op ≠ .select cs b)
  (fuel:Nat) (listed:Array Bool) (a:Act) (g:Option Value) (hcl:Closed md ops listed) (hc:Clear md ops listed i oi) (hr:i∈Region.ready md ops listed) (hy:Iu P ops S oi v a)
  (H:oJ P md ops S s m B fuel (listed.setIfInBounds i true) (a.put oi.dst v) g):oJ P md ops S s m B (fuel+1) listed a g:=by
 induction fuel generalizing listed a g with
 | zero =>
   refine⟨List.ne_nil_of_mem hr,λj hj => ?_⟩;rcases Nat.decEq j i with hji|rfl
   . exact Z33
   . exact⟨oi,hi,.inl ⟨his,v,hy,H⟩⟩
 | succ fuel ih =>
   refine⟨List.ne_nil_of_mem hr,λj hj => ?_⟩;rcases Nat.decEq j i with hji|rfl
   . obtain⟨oj,ho,hcase⟩:=H.2 j (ready_mono hj hji)
     obtain⟨a1,a2,a3⟩:=Oper.apart_spec ((hc j oj ho hji (mem_ready.1 hj).1).resolve_left (ow hr hj ho));rcases hcase with⟨hjs,u,hyj,hn⟩|⟨hjs,hg,hn⟩
     . refine⟨oj,ho,.inl ⟨hjs,u,hyj.of_same (execOp_put oj (λcs b=>hsel j oj cs b ho) a oi.dst v a1).symm (wanted_put oj a oi.dst v a1).symm,ih _ _ _ (hcl.set hj) (hc.set j) (ready_mono hr (Ne.symm hji)) ?_ ?_⟩⟩
       . exact Z20
       . exact Z3a
     . refine⟨oj,ho,.inr ⟨hjs,hg,λu=>ih _ _ _ (hcl.set hj) (hc.set j) (ready_mono hr (Ne.symm hji)) ?_ ?_⟩⟩
       . exact Z20
       . rw[Array.setIfInBounds_comm _ _ hji,<-Act.put_comm a v u a2];exact hn u
   . exact⟨oi,hi,.inl ⟨his,v,hy,H⟩⟩
theorem Gt(hs:Region.noSelect ops=true)(ht:vB md ops m=true)(hso:ops[s]? = some so)(hsm:s<m)(htail:ops.toList.drop m=tail)(htl:tail.length=t) :
  ∀(os:List Oper) (L:List Nat) (listed:Array Bool) (a:Act),L.map (λi=>ops[i]?)=os.map some->Closed md ops listed->(∀q,q<m->q ∉ L->q≠s->listed.getD q true=true)->Gs md ops s m t L listed=true ->
  iH P ops Q S N so tail os a->oJ P md ops S s m (λv listed a=>∀w,N v w->wpAny P md ops Q t listed a w) (L.length+1) listed a none
 | [],[],listed,a,_,hcl,hl,hk,h=>by
  simp only[Gs,Bool.and_eq_true,List.contains_iff_mem]at hk;obtain⟨hr,hf⟩:=hk;refine⟨List.ne_nil_of_mem hr,λi hi => ?_⟩;by_cases his:i=s
  . subst his
    refine⟨so,hso,.inr ⟨rfl,rfl,λv=>⟨λq hq=>Dr (λ_=>Ki hr) (λhne=>hl q hq eZ hne),v,rfl,λw hN => ?_⟩⟩⟩;have:=uU (P:=P) (Q:=Q) tail m (listed.setIfInBounds i true) (a.put so.dst v) w htail (by rw[htl];exact hf) (h v w hN);rw[htl]at this;exact this
  . exfalso
    obtain⟨hun,oi,ho,_⟩:=mem_ready.1 hi;by_cases him:i<m
    . have:=hl i him eZ his
      rw[hun]at this;cases this
    . exact F6 ht hcl hr hi ho aj hsm (Ne.symm his)
 | [],i::r,_,_,hL,_,_,_,_=>by simp at hL
 | o::os,[],_,_,hL,_,_,_,_=>by simp at hL
 | o::os,i::r,listed,a,hL,hcl,hl,hk,⟨v,hy,hn⟩=>by
  simp only[List.map_cons,List.cons.injEq]at hL;obtain⟨ho,hL⟩:=hL;simp only[Gs,Bool.and_eq_true,Bool.not_eq_true',beq_eq_false_iff_ne,decide_eq_true_eq,List.contains_iff_mem]at hk;obtain⟨⟨⟨⟨hf,hr⟩,him⟩,his⟩,hk⟩:=hk;refine Km ht him his ho (Region.noSelect_spec hs) _ listed a none hcl (oI ho hf) hr hy ?_;refine Gt hs ht hso hsm htail htl os r _ _ hL (hcl.set hr) ?_ hk hn;intro q hq hqr hqs;exact Dr (λ_=>Ki hr) (λhne=>hl q hq (by simp[hne,hqr]) hqs)
theorem zP{id:Nat}{l:List Oper}{a:Act}{W0 w:World}{x:Obj}{norm:List Oper}(L:List Nat)(s m:Nat)(h0:RowKit.Below W0.heap.size W0 w)(hp:P.follows .mixedOrders=true)(hs:Region.noSelect l.toArray=true)
  (hso:l.toArray[s]? = some so) (htl:l.drop m=tail) (hL:L.map (λi=>l.toArray[i]?)=norm.map some) (hn:l.length=tail.length+(L.length+1))
  (hq:((List.range m).all λq=>L.contains q||q==s)&&decide (s<m)=true) (ht:vB .any l.toArray m=true)
  (hk:Gs .any l.toArray s m tail.length L (Array.replicate l.length false)=true)
  (hsp:∀(a:Act) (w:World),RowKit.Below W0.heap.size W0 w->Region.wanted so (yielded l.toArray a.tmps)=true/\(execOp a.eval so).run P w=.ok (.value (.pointer (some ⟨w.heap.size,0,none⟩))) (w.alloc x))
  (h:iH P l.toArray Q (λw'=>RowKit.Below W0.heap.size W0 w') (Made W0 x) so tail norm a):(Code.region id l.toArray true).wp P Q a w:=by
 refine wp_region_any hp ?_;simp only[Bool.and_eq_true,List.all_eq_true,List.mem_range,Bool.or_eq_true,List.contains_iff_mem,beq_iff_eq,decide_eq_true_eq]at hq
 have hspec:Special P l.toArray (λw'=>RowKit.Below W0.heap.size W0 w') (Made W0 x) so:=λa w hb=>by
  obtain⟨hw,hr⟩:=hsp a w hb;exact⟨hw,_,_,hr,w.heap.size,rfl,hb.size,At.new _ _,Below.alloc' hb _⟩
 have h1:=oJ.any (Q:=Q) (tf:=tail.length) hso hspec (Iw W0) (Kj W0 x) (λv w ⟨_,_,_,_,hb⟩=>hb) (L.length+1) (Array.replicate l.length false) a none
  (Gt (md:=.any) (Q:=Q) hs ht hso hq.2 (by simpa using htl) rfl norm L (Array.replicate l.length false) a hL (Closed.start _ eZ) (λq hqm hqL hqs=>by
   rcases hq.1 q hqm with h'|h'
   . exact absurd h' hqL
   . exact absurd h' hqs) hk h) w.drew h0.drew
 have e:l.toArray.size=tail.length+(L.length+1):=by simpa using hn
 have e2:Array.replicate (tail.length+(L.length+1)) false=Array.replicate l.length false:=by rw[hn]
 rw[e,e2];exact h1
end
end Go.Proofs.YtmidaiklolmkcaaGreat.ak
namespace Go.Proofs.YtmidaiklolmkcaaGreat
open Go ak
section
variable {P:Program} {ops:Array Oper} {Q:Exit->Act->World->Prop} {md:Region.Mode} {S:World->Prop} {N:Value->World->Prop} {so:Oper} {tail:List Oper}
theorem xq{id:Nat}{l:List Oper}{a:Act}{W0 w:World}(m t:Nat)(h:dY P l.toArray Q (λw'=>RowKit.Below W0.heap.size W0 w') m l a)(h0:RowKit.Below W0.heap.size W0 w:=by exact RowKit.Below.refl _ _)(hp:P.follows .mixedOrders=true:=by kernel_rfl)(hs:Region.noSelect l.toArray=true:=by kernel_rfl)
 (hl:l.length=m+t:=by rfl) (ht:vB .any l.toArray m=true:=by kernel_rfl) (hk:lG .any l.toArray t m 0 (Array.replicate l.length false)=true:=by kernel_rfl):(Code.region id l.toArray true).wp P Q a w:=BD m t h0 hp hs hl ht hk h
theorem MZ{id:Nat}{l:List Oper}{a:Act}{W0 w:World}{x:Obj}{norm:List Oper}(L:List Nat)(s m:Nat)
 (h:iH P l.toArray Q (λw'=>RowKit.Below W0.heap.size W0 w') (Made W0 x) so tail norm a) (h0:RowKit.Below W0.heap.size W0 w:=by exact RowKit.Below.refl _ _) (hp:P.follows .mixedOrders=true:=by kernel_rfl) (hs:Region.noSelect l.toArray=true:=by kernel_rfl)
 (hso:l.toArray[s]? = some so:=by rfl) (htl:l.drop m=tail:=by rfl) (hL:L.map (λi=>l.toArray[i]?)=norm.map some:=by rfl) (hn:l.length=tail.length+(L.length+1):=by rfl)
 (hq:((List.range m).all λq=>L.contains q||q==s)&&decide (s<m)=true:=by kernel_rfl) (ht:vB .any l.toArray m=true:=by kernel_rfl)
 (hk:Gs .any l.toArray s m tail.length L (Array.replicate l.length false)=true:=by kernel_rfl)
 (hsp:∀(a:Act) (w:World),RowKit.Below W0.heap.size W0 w->Region.wanted so (yielded l.toArray a.tmps)=true/\(execOp a.eval so).run P w=.ok (.value (.pointer (some ⟨w.heap.size,0,none⟩))) (w.alloc x):=by intro a w2 hS;refine⟨rfl,?_⟩;go_simp;first|done|with_reducible rfl|exact⟨rfl,rfl⟩):(Code.region id l.toArray true).wp P Q a w:=zP L s m h0 hp hs hso htl hL hn hq ht hk hsp h
end
end Go.Proofs.YtmidaiklolmkcaaGreat
