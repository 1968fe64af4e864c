/- Steps of the program (7); no conditions. -/
import Derived.Test.YtfohooineeijkaaGreatM06
set_option linter.all false
set_option maxRecDepth 100000
set_option maxHeartbeats 16000000
namespace Go.Proofs.YtfohooineeijkaaGreat.Fix
open Go.ChangeShapes Go.WideShapes Go.ChangeAt Go.RowKit
open Go.Proofs.Tryz renaming prog → ja0
open World renaming alloc → ja5
open List renaming getElem?_eq_getElem → ja6,range → jc0
theorem At.st{W:World}{b:Nat}{t:Re.St}{T:TypeId}(h:At W b (.cells (cells t) T))(i:Nat)(hi:i<55)(hb:Re.uj i=false):W.cell? ⟨b,i,none⟩=some (.int .i64 (t.c i)):=(h.cell i).trans (dG t hi hb)
theorem At.bt{W:World}{b:Nat}{t:Re.St}{T:TypeId}(h:At W b (.cells (cells t) T))(i:Nat)(hi:i<55)(hb:Re.uj i=true):W.cell? ⟨b,i,none⟩=some (.bool (t.b i)):=(h.cell i).trans (uJ t hi hb)
def lp(k:Nat):List Nat:=[3,5,7,9,11,13,41]++(jc0 k).flatMap λj=>[15+2*j,23+2*j]
def sp(k:Nat):List Nat:=[46,53,54]++(jc0 k).flatMap λj=>[31+j,35+j]
def ji(t:Re.St)(l:List Nat):List Value:=l.flatMap λp=>[.int .i64 (t.c p),.int .i64 (t.c (p+1))]
def oW(t:Re.St)(l:List Nat):List Value:=l.map λp => .int .i64 (t.c p)
theorem wR(t:Re.St):∀{l:List Nat} {k p:Nat},l[k]? = some p->(ji t l)[k*2]? = some (.int .i64 (t.c p))/\(ji t l)[k*2+1]? = some (.int .i64 (t.c (p+1)))
 | [],_,_,h=>by simp at h
 | a::l,0,p,h=>by
   simp at h;subst h;exact⟨rfl,rfl⟩
 | a::l,k+1,p,h=>by
   have ih:=wR t (l:=l) (k:=k) (p:=p) (by simpa using h);have e:ji t (a::l)=.int .i64 (t.c a) :: .int .i64 (t.c (a+1))::ji t l:=rfl;rw[e,show(k+1)*2=k*2+1+1 by omega];simpa using ih
theorem Sl:(Tryz.prog.info? 50).map (λi=>(i.zero,i.size,i.bytes))=some (some (.agg #[(),()]),2,16):=by kernel_rfl
theorem bS{W W':World}{b base:Nat}{o:Obj}(h:At W b o)(hl:b<base)(hb:Below base W W'):At W' b o:=(hb.block b hl).trans h
theorem GX(t:Re.St)(w:World):Calls ja0 93 #[.agg (cells t)] w λe w'=>e=.returned (.bool (Re.valid t))/\Below w w w':=by
 go_enter Tryz.func93,Tryz.ntmps93
 go_upto_region 1 with(fail)
 have hA:At (w.alloc (.cells (cells t) 59)) w.heap.size (.cells (cells t) 59):=At.new _ _;have hB:Below w w (w.alloc (.cells (cells t) 59)):=aD aG _;generalize w.alloc (.cells (cells t) 59)=W1 at *;generalize XQ:w.heap.size=bx at *;have lb:=hA.lt;have aaL:=ah XQ;clear XQ;have d0:=hA.st 0 aN rfl;have d1:=hA.st 1 aN rfl;have d2:=hA.st 2 aN rfl;have d43:=hA.st 43 aN rfl;have d44:=hA.st 44 aN rfl;have d49:=hA.st 49 aN rfl;have d50:=hA.st 50 aN rfl;go_cut [3]from 9 (λv w2=>v=.bool (Re.iL t)/\w2=W1)
 case first =>
  cases e0:Re.inn (t.c 0) 0 3
  . have HK:=ah (show Re.iL t=false by unfold Re.iL;simp only[e0,Bool.false_and])
    exact Zm
  . skip
    cases e1:Re.inn (t.c 1) 0 4
    . have HK:=ah (show Re.iL t=false by unfold Re.iL;simp only[e0,e1,Bool.false_and,Bool.and_false])
      exact Zm
    . skip
      cases e2:Re.inn (t.c 2) 0 2
      . have HK:=ah (show Re.iL t=false by unfold Re.iL;simp only[e0,e1,e2,Bool.false_and,Bool.and_false])
        exact Zm
      . skip
        cases e3:Re.inn (t.c 43) 0 5
        . have HK:=ah (show Re.iL t=false by unfold Re.iL;simp only[e0,e1,e2,e3,Bool.false_and,Bool.and_false])
          exact Zm
        . skip
          cases e4:Re.inn (t.c 44) 0 3
          . have HK:=ah (show Re.iL t=false by unfold Re.iL;simp only[e0,e1,e2,e3,e4,Bool.false_and,Bool.and_false])
            exact Zm
          . skip
            cases e5:Re.inn (t.c 49) 0 2
            . have HK:=ah (show Re.iL t=false by unfold Re.iL;simp only[e0,e1,e2,e3,e4,e5,Bool.false_and,Bool.and_false])
              exact Zm
            . skip
              cases e6:Re.inn (t.c 50) 0 3
              . have HK:=ah (show Re.iL t=false by unfold Re.iL;simp only[e0,e1,e2,e3,e4,e5,e6,Bool.and_false])
                exact Zm
              . have HK:=ah (show Re.iL t=true by unfold Re.iL;simp only[e0,e1,e2,e3,e4,e5,e6,Bool.and_true])
                exact Zm
 case rest =>
  obtain⟨rfl,rfl⟩:=hcut;clear d0 d1 d2 d43 d44 d49 d50;generalize hkq:Re.iL t=q at *;have HQ:=ah hkq;clear hkq;have d3:=hA.st 3 aN rfl;have d4:=hA.st 4 aN rfl;have d5:=hA.st 5 aN rfl;have d6:=hA.st 6 aN rfl;have d7:=hA.st 7 aN rfl;have d8:=hA.st 8 aN rfl;have d9:=hA.st 9 aN rfl;have d10:=hA.st 10 aN rfl;have d11:=hA.st 11 aN rfl;have d12:=hA.st 12 aN rfl;have d13:=hA.st 13 aN rfl;have d14:=hA.st 14 aN rfl;have d41:=hA.st 41 aN rfl;have d42:=hA.st 42 aN rfl;have d46:=hA.st 46 aN rfl;have d53:=hA.st 53 aN rfl;have d54:=hA.st 54 aN rfl;have n1:(wc.alloc (.cells #[t.c 3,t.c 4,t.c 5,t.c 6,t.c 7,t.c 8,t.c 9,t.c 10,t.c 11,t.c 12,t.c 13,t.c 14,t.c 41,t.c 42] 50)).ownsRow wc.heap.size 50 2 (.slice wc 7 7) 7 (ji t (lp 0)):=zO aF rfl aN;have n2:((wc.alloc (.cells #[t.c 3,t.c 4,t.c 5,t.c 6,t.c 7,t.c 8,t.c 9,t.c 10,t.c 11,t.c 12,t.c 13,t.c 14,t.c 41,t.c 42] 50)).alloc (.cells #[t.c 46,t.c 53,t.c 54] 3)).ownsRow wc.heap.size 3 1 (.slice (some ⟨wc.heap.size+1,0,none⟩) 3 3) 3 (oW t (sp 0)):=UH bI bI rfl aN;have N1:=ah (n1.alloc (.cells #[t.c 46,t.c 53,t.c 54] 3));have N2:=ah n2;clear n1 n2;obtain⟨i0,hi0,hz0,hz1,hz2⟩:=info_parts Sl;obtain⟨g0,gi0,gz0,gz1,gz2⟩:=info_parts intZero
  go_upto_region 4 with(fail)
  have hA2:At ((wc.alloc (.cells #[t.c 3,t.c 4,t.c 5,t.c 6,t.c 7,t.c 8,t.c 9,t.c 10,t.c 11,t.c 12,t.c 13,t.c 14,t.c 41,t.c 42] 50)).alloc (.cells #[t.c 46,t.c 53,t.c 54] 3)) bx (.cells (cells t) 59):=(hA.alloc _).alloc _;have hB2:Below wc wc ((wc.alloc (.cells #[t.c 3,t.c 4,t.c 5,t.c 6,t.c 7,t.c 8,t.c 9,t.c 10,t.c 11,t.c 12,t.c 13,t.c 14,t.c 41,t.c 42] 50)).alloc (.cells #[t.c 46,t.c 53,t.c 54] 3)):=aD (aD aG _) _;generalize hbase:wc.heap.size=base at *;have aj9:=ah hbase;generalize ja5 (ja5 _ _) _=W2 at *;have lbx:=ah (show bx<base from hbase▸lb);have hsz2:base<=W2.heap.size:=hbase▸hB2.size;clear hbase;go_wp2
  go_loopw [4,5,6] (λv u i wr=>∃(k n m:Nat) (A:Option Addr) (c:Nat) (B:Option Addr) (e:Nat),k<=4/\i=.int .i64 k/\v=.slice A n c/\u=.slice B m e/\Hid (n=7+2*k)/\Hid (m=3+2*k)/\Hid (wr.ownsRow base 50 2 (.slice A n c) n (ji t (lp k)))/\Hid (wr.ownsRow base 3 1 (.slice B m e) m (oW t (sp k)))/\Hid (sj (.slice B m e) (.slice A n c))/\At wr bx (.cells (cells t) 59)/\Below base wc wr/\base<=wr.heap.size) (λ_ _ i _=>4-(intOf i).toNat)
  case atStart=>exact⟨0,7,3,_,_,_,_,by omega,rfl,rfl,rfl,ah rfl,ah rfl,N1,N2,ah (.inr (.inr (by simp[Value.ownBlock]))),hA2,hB2,hsz2⟩
  case round =>
   obtain⟨k,n,m,A,c,B,e,hk,rfl,rfl,rfl,HN,HM,O1,O2,AP,a,hB3,hsz⟩:=hrel;obtain rfl|rfl|rfl|rfl|rfl:k=0\/k=1\/k=2\/k=3\/k=4:=by omega
   . obtain rfl:n=7:=by have:=HN.out;omega
     obtain rfl:m=3:=by have:=HM.out;omega
     obtain⟨A',c',w1,kg,s1,s2,s3,s4,s5⟩:=jC (t:=130) (T:=50) (W:=wr.drew) (m:=2) (news:=[.int .i64 (t.c 15),.int .i64 (t.c 16),.int .i64 (t.c 23),.int .i64 (t.c 24)]) Tryz.underlying130 hi0 hz0 hz1 hz2 rfl aN aN O1.out O2.out AP.out hsz rfl LH aN;have a1:At w1 bx _:=bS (W:=wr.drew) a lbx.out s4;obtain⟨B',e',w2,wS,t1,t2,t3,t4,t5⟩:=jC (t:=37) (T:=3) (W:=w1.drew) (m:=2) (news:=[.int .i64 (t.c 31),.int .i64 (t.c 35)]) Tryz.underlying37 gi0 gz0 gz1 gz2 rfl aN aN s2 s1 s3.symm s5 rfl LH aN;have a2:At w2 bx _:=bS (W:=w1.drew) a1 lbx.out t4;have B1:Below base wr w1:=(Below.drew (Below.refl base wr)).trans s4;have B2:Below base w1 w2:=(Below.drew (Below.refl base w1)).trans t4;have ko:∀W',Below base wr W'->W'.cell? ⟨bx,15,none⟩=some (.int .i64 (t.c 15))/\W'.cell? ⟨bx,16,none⟩=some (.int .i64 (t.c 16))/\W'.cell? ⟨bx,23,none⟩=some (.int .i64 (t.c 23))/\W'.cell? ⟨bx,24,none⟩=some (.int .i64 (t.c 24)):=λW' h=>⟨(bS a lbx.out h).st 15 aN rfl,(bS a lbx.out h).st 16 aN rfl,(bS a lbx.out h).st 23 aN rfl,(bS a lbx.out h).st 24 aN rfl⟩;have wT:∀W',Below base w1 W'->W'.cell? ⟨bx,31,none⟩=some (.int .i64 (t.c 31))/\W'.cell? ⟨bx,35,none⟩=some (.int .i64 (t.c 35)):=λW' h=>⟨(bS a1 lbx.out h).st 31 aN rfl,(bS a1 lbx.out h).st 35 aN rfl⟩;have E1:Hid (w2.ownsRow base 50 2 (.slice A' 9 c') 9 (ji t (lp 1))):=ah t2;have E2:Hid (w2.ownsRow base 3 1 (.slice B' 5 e') 5 (oW t (sp 1))):=ah t1;have E3:Hid (sj (.slice B' 5 e') (.slice A' 9 c')):=ah t3.symm;have hB4:Below base wc w2:=hB3.trans (B1.trans B2);have hs2:base<=w2.heap.size:=t5;have HA2:=ah a2;have K1:=ah ko;have K2:=ah wT;have R1:=ah kg;have R2:=ah wS;have hsd:base<=w1.heap.size:=s5;clear t1 t2 t3 t4 t5 s1 s2 s3 s4 s5 a1 a2 a ko wT kg wS
     go_upto_region 7 with(fail)
     refine jy (S:=(λW'=>W'.cell? ⟨bx,15,none⟩=some (.int .i64 (t.c 15))/\W'.cell? ⟨bx,16,none⟩=some (.int .i64 (t.c 16))/\W'.cell? ⟨bx,23,none⟩=some (.int .i64 (t.c 23))/\W'.cell? ⟨bx,24,none⟩=some (.int .i64 (t.c 24)))) 11 ?_ ?_
     . exact Z2d
     intro hS0;refine aW 0 ?_;refine aW 1 ?_;refine aW 2 ?_;refine aW 3 ?_;refine aW 4 ?_;refine aW 5 ?_;refine aW 6 ?_;refine aW 7 ?_;refine aW 8 ?_;refine tk1 9 ?_;refine wm ?_ (hS:=by first|(intro hlt;exact absurd hlt aN)|(intro _;exact K1.out _ (Below.alloc (Below.drew aG) hsz _)));refine tk1 10 ?_;refine aj.Step.value (eB (.tmp 70) (.tmp 79) 130 rfl rfl rfl R1.out) ⟨λ_=>K1.out _ (by assumption),?_⟩
     (try simp only[bV,bW,bX,tks])
     refine tk1 11 ?_;refine wm ?_ (hS:=by first|(intro hlt;exact absurd hlt aN)|(intro _;omega));refine jk ?_
     go_upto_region 8 with(fail)
     refine jy (S:=(λW'=>W'.cell? ⟨bx,31,none⟩=some (.int .i64 (t.c 31))/\W'.cell? ⟨bx,35,none⟩=some (.int .i64 (t.c 35)))) 11 ?_ ?_
     . exact K2.out _ (Below.drew aG)
     intro hS0;refine aW 0 ?_;refine aW 1 ?_;refine aW 2 ?_;refine aW 3 ?_;refine aW 4 ?_;refine aW 5 ?_;refine aW 6 ?_;refine aW 7 ?_;refine aW 8 ?_;refine tk1 9 ?_;refine wm ?_ (hS:=by first|(intro hlt;exact absurd hlt aN)|(intro _;exact K2.out _ (Below.alloc (Below.drew aG) hsd _)));refine tk1 10 ?_;refine aj.Step.value (eB (.tmp 81) (.tmp 90) 37 rfl rfl rfl R2.out) ⟨λ_=>K2.out _ (by assumption),?_⟩
     (try simp only[bV,bW,bX,tks])
     refine tk1 11 ?_;refine wm ?_ (hS:=by first|(intro hlt;exact absurd hlt aN)|(intro _;omega));refine jk ?_;go_wp2
     go_roundw
     case rel=>exact⟨1,9,5,_,_,_,_,by omega,by go_num,rfl,rfl,ah rfl,ah rfl,E1,E2,E3,HA2.out,hB4,hs2⟩
     case measure=>simp[intOf]
   . obtain rfl:n=9:=by have:=HN.out;omega
     obtain rfl:m=5:=by have:=HM.out;omega
     obtain⟨A',c',w1,kg,s1,s2,s3,s4,s5⟩:=jC (t:=130) (T:=50) (W:=wr.drew) (m:=2) (news:=[.int .i64 (t.c 17),.int .i64 (t.c 18),.int .i64 (t.c 25),.int .i64 (t.c 26)]) Tryz.underlying130 hi0 hz0 hz1 hz2 rfl aN aN O1.out O2.out AP.out hsz rfl LH aN;have a1:At w1 bx _:=bS (W:=wr.drew) a lbx.out s4;obtain⟨B',e',w2,wS,t1,t2,t3,t4,t5⟩:=jC (t:=37) (T:=3) (W:=w1.drew) (m:=2) (news:=[.int .i64 (t.c 32),.int .i64 (t.c 36)]) Tryz.underlying37 gi0 gz0 gz1 gz2 rfl aN aN s2 s1 s3.symm s5 rfl LH aN;have a2:At w2 bx _:=bS (W:=w1.drew) a1 lbx.out t4;have B1:Below base wr w1:=(Below.drew (Below.refl base wr)).trans s4;have B2:Below base w1 w2:=(Below.drew (Below.refl base w1)).trans t4;have ko:∀W',Below base wr W'->W'.cell? ⟨bx,17,none⟩=some (.int .i64 (t.c 17))/\W'.cell? ⟨bx,18,none⟩=some (.int .i64 (t.c 18))/\W'.cell? ⟨bx,25,none⟩=some (.int .i64 (t.c 25))/\W'.cell? ⟨bx,26,none⟩=some (.int .i64 (t.c 26)):=λW' h=>⟨(bS a lbx.out h).st 17 aN rfl,(bS a lbx.out h).st 18 aN rfl,(bS a lbx.out h).st 25 aN rfl,(bS a lbx.out h).st 26 aN rfl⟩;have wT:∀W',Below base w1 W'->W'.cell? ⟨bx,32,none⟩=some (.int .i64 (t.c 32))/\W'.cell? ⟨bx,36,none⟩=some (.int .i64 (t.c 36)):=λW' h=>⟨(bS a1 lbx.out h).st 32 aN rfl,(bS a1 lbx.out h).st 36 aN rfl⟩;have E1:Hid (w2.ownsRow base 50 2 (.slice A' 11 c') 11 (ji t (lp 2))):=ah t2;have E2:Hid (w2.ownsRow base 3 1 (.slice B' 7 e') 7 (oW t (sp 2))):=ah t1;have E3:Hid (sj (.slice B' 7 e') (.slice A' 11 c')):=ah t3.symm;have hB4:Below base wc w2:=hB3.trans (B1.trans B2);have hs2:base<=w2.heap.size:=t5;have HA2:=ah a2;have K1:=ah ko;have K2:=ah wT;have R1:=ah kg;have R2:=ah wS;have hsd:base<=w1.heap.size:=s5;clear t1 t2 t3 t4 t5 s1 s2 s3 s4 s5 a1 a2 a ko wT kg wS
     go_upto_region 7 with(fail)
     refine jy (S:=(λW'=>W'.cell? ⟨bx,17,none⟩=some (.int .i64 (t.c 17))/\W'.cell? ⟨bx,18,none⟩=some (.int .i64 (t.c 18))/\W'.cell? ⟨bx,25,none⟩=some (.int .i64 (t.c 25))/\W'.cell? ⟨bx,26,none⟩=some (.int .i64 (t.c 26)))) 11 ?_ ?_
     . exact Z2d
     intro hS0;refine aW 0 ?_;refine aW 1 ?_;refine aW 2 ?_;refine aW 3 ?_;refine aW 4 ?_;refine aW 5 ?_;refine aW 6 ?_;refine aW 7 ?_;refine aW 8 ?_;refine tk1 9 ?_;refine wm ?_ (hS:=by first|(intro hlt;exact absurd hlt aN)|(intro _;exact K1.out _ (Below.alloc (Below.drew aG) hsz _)));refine tk1 10 ?_;refine aj.Step.value (eB (.tmp 70) (.tmp 79) 130 rfl rfl rfl R1.out) ⟨λ_=>K1.out _ (by assumption),?_⟩
     (try simp only[bV,bW,bX,tks])
     refine tk1 11 ?_;refine wm ?_ (hS:=by first|(intro hlt;exact absurd hlt aN)|(intro _;omega));refine jk ?_
     go_upto_region 8 with(fail)
     refine jy (S:=(λW'=>W'.cell? ⟨bx,32,none⟩=some (.int .i64 (t.c 32))/\W'.cell? ⟨bx,36,none⟩=some (.int .i64 (t.c 36)))) 11 ?_ ?_
     . exact K2.out _ (Below.drew aG)
     intro hS0;refine aW 0 ?_;refine aW 1 ?_;refine aW 2 ?_;refine aW 3 ?_;refine aW 4 ?_;refine aW 5 ?_;refine aW 6 ?_;refine aW 7 ?_;refine aW 8 ?_;refine tk1 9 ?_;refine wm ?_ (hS:=by first|(intro hlt;exact absurd hlt aN)|(intro _;exact K2.out _ (Below.alloc (Below.drew aG) hsd _)));refine tk1 10 ?_;refine aj.Step.value (eB (.tmp 81) (.tmp 90) 37 rfl rfl rfl R2.out) ⟨λ_=>K2.out _ (by assumption),?_⟩
     (try simp only[bV,bW,bX,tks])
     refine tk1 11 ?_;refine wm ?_ (hS:=by first|(intro hlt;exact absurd hlt aN)|(intro _;omega));refine jk ?_;go_wp2
     go_roundw
     case rel=>exact⟨2,11,7,_,_,_,_,by omega,by go_num,rfl,rfl,ah rfl,ah rfl,E1,E2,E3,HA2.out,hB4,hs2⟩
     case measure=>simp[intOf]
   . obtain rfl:n=11:=by have:=HN.out;omega
     obtain rfl:m=7:=by have:=HM.out;omega
     obtain⟨A',c',w1,kg,s1,s2,s3,s4,s5⟩:=jC (t:=130) (T:=50) (W:=wr.drew) (m:=2) (news:=[.int .i64 (t.c 19),.int .i64 (t.c 20),.int .i64 (t.c 27),.int .i64 (t.c 28)]) Tryz.underlying130 hi0 hz0 hz1 hz2 rfl aN aN O1.out O2.out AP.out hsz rfl LH aN;have a1:At w1 bx _:=bS (W:=wr.drew) a lbx.out s4;obtain⟨B',e',w2,wS,t1,t2,t3,t4,t5⟩:=jC (t:=37) (T:=3) (W:=w1.drew) (m:=2) (news:=[.int .i64 (t.c 33),.int .i64 (t.c 37)]) Tryz.underlying37 gi0 gz0 gz1 gz2 rfl aN aN s2 s1 s3.symm s5 rfl LH aN;have a2:At w2 bx _:=bS (W:=w1.drew) a1 lbx.out t4;have B1:Below base wr w1:=(Below.drew (Below.refl base wr)).trans s4;have B2:Below base w1 w2:=(Below.drew (Below.refl base w1)).trans t4;have ko:∀W',Below base wr W'->W'.cell? ⟨bx,19,none⟩=some (.int .i64 (t.c 19))/\W'.cell? ⟨bx,20,none⟩=some (.int .i64 (t.c 20))/\W'.cell? ⟨bx,27,none⟩=some (.int .i64 (t.c 27))/\W'.cell? ⟨bx,28,none⟩=some (.int .i64 (t.c 28)):=λW' h=>⟨(bS a lbx.out h).st 19 aN rfl,(bS a lbx.out h).st 20 aN rfl,(bS a lbx.out h).st 27 aN rfl,(bS a lbx.out h).st 28 aN rfl⟩;have wT:∀W',Below base w1 W'->W'.cell? ⟨bx,33,none⟩=some (.int .i64 (t.c 33))/\W'.cell? ⟨bx,37,none⟩=some (.int .i64 (t.c 37)):=λW' h=>⟨(bS a1 lbx.out h).st 33 aN rfl,(bS a1 lbx.out h).st 37 aN rfl⟩;have E1:Hid (w2.ownsRow base 50 2 (.slice A' 13 c') 13 (ji t (lp 3))):=ah t2;have E2:Hid (w2.ownsRow base 3 1 (.slice B' 9 e') 9 (oW t (sp 3))):=ah t1;have E3:Hid (sj (.slice B' 9 e') (.slice A' 13 c')):=ah t3.symm;have hB4:Below base wc w2:=hB3.trans (B1.trans B2);have hs2:base<=w2.heap.size:=t5;have HA2:=ah a2;have K1:=ah ko;have K2:=ah wT;have R1:=ah kg;have R2:=ah wS;have hsd:base<=w1.heap.size:=s5;clear t1 t2 t3 t4 t5 s1 s2 s3 s4 s5 a1 a2 a ko wT kg wS
     go_upto_region 7 with(fail)
     refine jy (S:=(λW'=>W'.cell? ⟨bx,19,none⟩=some (.int .i64 (t.c 19))/\W'.cell? ⟨bx,20,none⟩=some (.int .i64 (t.c 20))/\W'.cell? ⟨bx,27,none⟩=some (.int .i64 (t.c 27))/\W'.cell? ⟨bx,28,none⟩=some (.int .i64 (t.c 28)))) 11 ?_ ?_
     . exact Z2d
     intro hS0;refine aW 0 ?_;refine aW 1 ?_;refine aW 2 ?_;refine aW 3 ?_;refine aW 4 ?_;refine aW 5 ?_;refine aW 6 ?_;refine aW 7 ?_;refine aW 8 ?_;refine tk1 9 ?_;refine wm ?_ (hS:=by first|(intro hlt;exact absurd hlt aN)|(intro _;exact K1.out _ (Below.alloc (Below.drew aG) hsz _)));refine tk1 10 ?_;refine aj.Step.value (eB (.tmp 70) (.tmp 79) 130 rfl rfl rfl R1.out) ⟨λ_=>K1.out _ (by assumption),?_⟩
     (try simp only[bV,bW,bX,tks])
     refine tk1 11 ?_;refine wm ?_ (hS:=by first|(intro hlt;exact absurd hlt aN)|(intro _;omega));refine jk ?_
     go_upto_region 8 with(fail)
     refine jy (S:=(λW'=>W'.cell? ⟨bx,33,none⟩=some (.int .i64 (t.c 33))/\W'.cell? ⟨bx,37,none⟩=some (.int .i64 (t.c 37)))) 11 ?_ ?_
     . exact K2.out _ (Below.drew aG)
     intro hS0;refine aW 0 ?_;refine aW 1 ?_;refine aW 2 ?_;refine aW 3 ?_;refine aW 4 ?_;refine aW 5 ?_;refine aW 6 ?_;refine aW 7 ?_;refine aW 8 ?_;refine tk1 9 ?_;refine wm ?_ (hS:=by first|(intro hlt;exact absurd hlt aN)|(intro _;exact K2.out _ (Below.alloc (Below.drew aG) hsd _)));refine tk1 10 ?_;refine aj.Step.value (eB (.tmp 81) (.tmp 90) 37 rfl rfl rfl R2.out) ⟨λ_=>K2.out _ (by assumption),?_⟩
     (try simp only[bV,bW,bX,tks])
     refine tk1 11 ?_;refine wm ?_ (hS:=by first|(intro hlt;exact absurd hlt aN)|(intro _;omega));refine jk ?_;go_wp2
     go_roundw
     case rel=>exact⟨3,13,9,_,_,_,_,by omega,by go_num,rfl,rfl,ah rfl,ah rfl,E1,E2,E3,HA2.out,hB4,hs2⟩
     case measure=>simp[intOf]
   . obtain rfl:n=13:=by have:=HN.out;omega
     obtain rfl:m=9:=by have:=HM.out;omega
     obtain⟨A',c',w1,kg,s1,s2,s3,s4,s5⟩:=jC (t:=130) (T:=50) (W:=wr.drew) (m:=2) (news:=[.int .i64 (t.c 21),.int .i64 (t.c 22),.int .i64 (t.c 29),.int .i64 (t.c 30)]) Tryz.underlying130 hi0 hz0 hz1 hz2 rfl aN aN O1.out O2.out AP.out hsz rfl LH aN;have a1:At w1 bx _:=bS (W:=wr.drew) a lbx.out s4;obtain⟨B',e',w2,wS,t1,t2,t3,t4,t5⟩:=jC (t:=37) (T:=3) (W:=w1.drew) (m:=2) (news:=[.int .i64 (t.c 34),.int .i64 (t.c 38)]) Tryz.underlying37 gi0 gz0 gz1 gz2 rfl aN aN s2 s1 s3.symm s5 rfl LH aN;have a2:At w2 bx _:=bS (W:=w1.drew) a1 lbx.out t4;have B1:Below base wr w1:=(Below.drew (Below.refl base wr)).trans s4;have B2:Below base w1 w2:=(Below.drew (Below.refl base w1)).trans t4;have ko:∀W',Below base wr W'->W'.cell? ⟨bx,21,none⟩=some (.int .i64 (t.c 21))/\W'.cell? ⟨bx,22,none⟩=some (.int .i64 (t.c 22))/\W'.cell? ⟨bx,29,none⟩=some (.int .i64 (t.c 29))/\W'.cell? ⟨bx,30,none⟩=some (.int .i64 (t.c 30)):=λW' h=>⟨(bS a lbx.out h).st 21 aN rfl,(bS a lbx.out h).st 22 aN rfl,(bS a lbx.out h).st 29 aN rfl,(bS a lbx.out h).st 30 aN rfl⟩;have wT:∀W',Below base w1 W'->W'.cell? ⟨bx,34,none⟩=some (.int .i64 (t.c 34))/\W'.cell? ⟨bx,38,none⟩=some (.int .i64 (t.c 38)):=λW' h=>⟨(bS a1 lbx.out h).st 34 aN rfl,(bS a1 lbx.out h).st 38 aN rfl⟩;have E1:Hid (w2.ownsRow base 50 2 (.slice A' 15 c') 15 (ji t (lp 4))):=ah t2;have E2:Hid (w2.ownsRow base 3 1 (.slice B' 11 e') 11 (oW t (sp 4))):=ah t1;have E3:Hid (sj (.slice B' 11 e') (.slice A' 15 c')):=ah t3.symm;have hB4:Below base wc w2:=hB3.trans (B1.trans B2);have hs2:base<=w2.heap.size:=t5;have HA2:=ah a2;have K1:=ah ko;have K2:=ah wT;have R1:=ah kg;have R2:=ah wS;have hsd:base<=w1.heap.size:=s5;clear t1 t2 t3 t4 t5 s1 s2 s3 s4 s5 a1 a2 a ko wT kg wS
     go_upto_region 7 with(fail)
     refine jy (S:=(λW'=>W'.cell? ⟨bx,21,none⟩=some (.int .i64 (t.c 21))/\W'.cell? ⟨bx,22,none⟩=some (.int .i64 (t.c 22))/\W'.cell? ⟨bx,29,none⟩=some (.int .i64 (t.c 29))/\W'.cell? ⟨bx,30,none⟩=some (.int .i64 (t.c 30)))) 11 ?_ ?_
     . exact Z2d
     intro hS0;refine aW 0 ?_;refine aW 1 ?_;refine aW 2 ?_;refine aW 3 ?_;refine aW 4 ?_;refine aW 5 ?_;refine aW 6 ?_;refine aW 7 ?_;refine aW 8 ?_;refine tk1 9 ?_;refine wm ?_ (hS:=by first|(intro hlt;exact absurd hlt aN)|(intro _;exact K1.out _ (Below.alloc (Below.drew aG) hsz _)));refine tk1 10 ?_;refine aj.Step.value (eB (.tmp 70) (.tmp 79) 130 rfl rfl rfl R1.out) ⟨λ_=>K1.out _ (by assumption),?_⟩
     (try simp only[bV,bW,bX,tks])
     refine tk1 11 ?_;refine wm ?_ (hS:=by first|(intro hlt;exact absurd hlt aN)|(intro _;omega));refine jk ?_
     go_upto_region 8 with(fail)
     refine jy (S:=(λW'=>W'.cell? ⟨bx,34,none⟩=some (.int .i64 (t.c 34))/\W'.cell? ⟨bx,38,none⟩=some (.int .i64 (t.c 38)))) 11 ?_ ?_
     . exact K2.out _ (Below.drew aG)
     intro hS0;refine aW 0 ?_;refine aW 1 ?_;refine aW 2 ?_;refine aW 3 ?_;refine aW 4 ?_;refine aW 5 ?_;refine aW 6 ?_;refine aW 7 ?_;refine aW 8 ?_;refine tk1 9 ?_;refine wm ?_ (hS:=by first|(intro hlt;exact absurd hlt aN)|(intro _;exact K2.out _ (Below.alloc (Below.drew aG) hsd _)));refine tk1 10 ?_;refine aj.Step.value (eB (.tmp 81) (.tmp 90) 37 rfl rfl rfl R2.out) ⟨λ_=>K2.out _ (by assumption),?_⟩
     (try simp only[bV,bW,bX,tks])
     refine tk1 11 ?_;refine wm ?_ (hS:=by first|(intro hlt;exact absurd hlt aN)|(intro _;omega));refine jk ?_;go_wp2
     go_roundw
     case rel=>exact⟨4,15,11,_,_,_,_,by omega,by go_num,rfl,rfl,ah rfl,ah rfl,E1,E2,E3,HA2.out,hB4,hs2⟩
     case measure=>simp[intOf]
   . obtain rfl:n=15:=by have:=HN.out;omega
     obtain rfl:m=11:=by have:=HM.out;omega
     obtain⟨g,rfl,hg1,hg2,hgc⟩:=BA O1.out aN;obtain⟨g',rfl,hg1',afN,afO⟩:=BA O2.out aN
     have CL:Hid (∀W:World,Below wr wr W->∀(k p:Nat),Re.lens[k]? = some p->W.cell? ⟨g,k*2,none⟩=some (.int .i64 (t.c p))/\W.cell? ⟨g,k*2+1,none⟩=some (.int .i64 (t.c (p+1)))):=ah λW hb k p hp=>by
      obtain⟨q0,q1⟩:=wR t (l:=Re.lens) hp;exact⟨(hb.cell (p:=⟨g,k*2,none⟩) hg2).trans (hgc _ _ q0),(hb.cell (p:=⟨g,k*2+1,none⟩) hg2).trans (hgc _ _ q1)⟩
     have CS:Hid (∀W:World,Below wr wr W->∀(k p:Nat),Re.sizes[k]? = some p->W.cell? ⟨g',k,none⟩=some (.int .i64 (t.c p))):=ah λW hb k p hp=>(hb.cell (p:=⟨g',k,none⟩) afN).trans (afO _ _ (by show(oW t Re.sizes)[k]? = _;simp[oW,hp]));have hBx:Below wr wr wr:=Below.refl _ _;have AX:=ah a;have HBW:=ah (hB.trans (hB3.mono (wz lbx.out)));clear O1 O2 AP N1 N2 hgc afO hi0 hz0 hz1 hz2 gi0 gz0 gz1 gz2 hA hA2 hB2 hB a hB3 hg1 hg1';generalize wr=W5 at *;go_wp2
     go_loopw [3,7] (λf i wr=>∃(k:Nat) (fl:Bool),k<=15/\i=.int .i64 k/\f=.bool fl/\Hid (fl=(q&&(Re.lens.take k).all λi=>Fx.valid (t.c i) (t.c (i+1))))/\Below W5 W5 wr) (λ_ i _=>15-(intOf i).toNat)
     case atStart=>exact⟨0,q,by omega,rfl,rfl,ah bI,hBx⟩
     case round =>
      obtain⟨k,fl,hk,rfl,rfl,HF,mX⟩:=hrel;by_cases hlt:k<15
      . have hltz:(k:Int)<15:=by omega
        obtain⟨p,hp⟩:∃p,Re.lens[k]? = some p:=⟨_,ja6 (show k<Re.lens.length from hlt)⟩;obtain⟨c0,c1⟩:=CL.out wr mX k p hp;have HS:Hid ((Re.lens.take (k+1)).all (λi=>Fx.valid (t.c i) (t.c (i+1)))=((Re.lens.take k).all (λi=>Fx.valid (t.c i) (t.c (i+1)))&&Fx.valid (t.c p) (t.c (p+1)))):=ah (by rw[List.take_add_one,hp,List.all_append];simp);have hgl:g<wr.heap.size:=bA hg2 mX.size;clear hp;generalize t.c p=x at *;generalize t.c (p+1)=y at *;cases fl
        . go_wp2
          go_roundw
          case rel=>exact⟨k+1,false,by omega,by go_num,rfl,ah Z4m,mX⟩
          case measure=>simp[intOf];omega
        . go_wp2_with (go_at_call 125;(with_reducible refine(Pq _ _ _).mono ?_);rintro e w2 ⟨rfl,hb⟩;have AA:=mX.trans (hb.mono mX.size))
          go_roundw
          case rel=>exact⟨k+1,Fx.valid x y,by omega,by go_num,rfl,ah Z4m,AA⟩
          case measure=>simp[intOf];omega
      . have hltz:¬ (k:Int)<15:=by omega
        have aiq:=ah (show k=15 by omega);have HF2:Hid (fl=(q&&Re.Ma t)):=ah (by rw[HF.out,aiq.out];rfl);clear HF CL;generalize k=k7 at *;have qM:=mX;have hg6:g'<wr.heap.size:=bA afN mX.size
        rename_i W7
        go_wp2;generalize wr=W6 at *
        go_loopw [3,8] (λf i wr=>∃(k:Nat) (f2:Bool),k<=11/\i=.int .i64 k/\f=.bool f2/\Hid (f2=(fl&&(Re.sizes.take k).all λi=>Re.inn (t.c i) 0 1048576))/\Below W6 W6 wr) (λ_ i _=>11-(intOf i).toNat)
        case atStart=>exact⟨0,fl,by omega,rfl,rfl,ah bI,Below.refl _ _⟩
        case round =>
         obtain⟨k,f2,hk,rfl,rfl,HF,AA⟩:=hrel;have DN:=qM.trans (AA.mono qM.size);have hg7:g'<wr.heap.size:=bA hg6 AA.size;by_cases hlt:k<11
         . have hltz:(k:Int)<11:=by omega
           obtain⟨p,hp⟩:∃p,Re.sizes[k]? = some p:=⟨_,ja6 (show k<Re.sizes.length from hlt)⟩;have c0:=CS.out _ DN k p hp;have HS:Hid ((Re.sizes.take (k+1)).all (λi=>Re.inn (t.c i) 0 1048576)=((Re.sizes.take k).all (λi=>Re.inn (t.c i) 0 1048576)&&Re.inn (t.c p) 0 1048576)):=ah (by rw[List.take_add_one,hp,List.all_append];simp);clear hp;generalize t.c p=x at *;cases f2
           . go_wp2
             go_roundw
             case rel=>exact⟨k+1,false,by omega,by go_num,rfl,ah Z4m,AA⟩
             case measure=>simp[intOf];omega
           . go_wp2_with (first|(go_at_call 124;with_reducible refine oo (Bd _ _ _ _) ?_))
             go_roundw
             case rel=>exact⟨k+1,Re.inn x 0 1048576,by omega,by go_num,rfl,ah Z4m,AA⟩
             case measure=>simp[intOf];omega
         . obtain rfl:k=11:=by omega
           have HF3:Hid (f2=(Re.iL t&&Re.Ma t&&Re.JL t)):=ah (by rw[HF.out,HF2.out,HQ.out];rfl);have AY:=AX.out.keep DN;have d39:=AY.st 39 aN rfl;have d40:=AY.st 40 aN rfl;have d48:=AY.st 48 aN rfl;have HV:Hid (Re.valid t=(f2&&Re.inn (t.c 39) 0 1000&&Re.inn (t.c 40) 0 1000&&Re.inn (t.c 48) (-1048576) 1048576)):=ah (by rw[HF3.out];rfl);have HE:=ah (HBW.out.trans (DN.mono (aK (wz lbx.out) hsz)));clear AY HF HF3 CS qM DN;cases f2
           . go_wp2
             go_ret
             exact⟨fV (by rw[HV.out];rfl),by rw[aaL.out];exact HE.out⟩
           . cases e1:Re.inn (t.c 39) 0 1000
             . rw[e1]at HV
               exact Z1p
             . rw[e1]at HV
               cases e2:Re.inn (t.c 40) 0 1000
               . rw[e2]at HV
                 exact Z1p
               . rw[e2]at HV
                 exact Z1p
theorem wC(x:Int):wrap64 x=Fw.wr x:=by unfold Fw.wr wrap64;rfl
theorem eT(a b:Int)(w:World):Calls ja0 71 #[.agg #[a,b]] w λe w'=>e=.returned (.int .i64 (Fw.wr (a+b)))/\Below w w w':=by
 go_enter Tryz.func71,Tryz.ntmps71
 go_wp2
 go_ret
 refine⟨bQ (wC _),?_⟩;exact Z1
theorem jE(w:World):Calls ja0 143 #[(),()] w λx w'=>x=.returned (.int .i64 3)/\Below w w w':=by
 exact Z3f
theorem JC(w:World):Calls ja0 143 #[(),.int .i64 1] w λx w'=>x=.returned (.int .i64 1)/\Below w w w':=by
 exact Z3f
theorem JD(w:World):Calls ja0 143 #[.int .i64 1,()] w λx w'=>x=.returned (.int .i64 0)/\Below w w w':=by
 exact Z3f
theorem JE(w:World):Calls ja0 143 #[.int .i64 1,.int .i64 1] w λx w'=>x=.returned (.int .i64 2)/\Below w w w':=by
 exact Z3f
theorem tH(k0 n0 k1 n1 k2 n2 n base:Int)(w:World):Calls ja0 70 #[.agg #[k0,n0,k1,n1,k2,n2],n,base] w λe w'=>e=.returned (.int .i64 (Fx.limit n k1 n1 k2 n2 base))/\Below w w w':=by
 go_enter Tryz.func70,Tryz.ntmps70
 go_wp2_with (first|(go_at_call 109;(with_reducible refine(IY _ _ _ _ _ _ _).mono ?_);rintro e w' ⟨rfl,hb⟩;(try replace hb:=Below.after (by assumption) hb);obtain⟨hc,hf⟩:=iV hb;have hz:=hb.size;(try simp at hz)))
 exact Z27
theorem jJ(k0 n0 k1 n1 k2 n2 base:Int)(w:World):Calls ja0 104 #[.agg #[k0,n0,k1,n1,k2,n2],base] w λe w'=>e=.returned (.bool (Fx.dY k0 base))/\Below w w w':=by
 go_enter Tryz.func104,Tryz.ntmps104
 go_wp2_with (first|(go_at_call 146;(with_reducible refine(kZ _ _ _ _).mono ?_);rintro e w' ⟨rfl,hb⟩;(try replace hb:=Below.after (by assumption) hb);obtain⟨hc,hf⟩:=iV hb;have hz:=hb.size;(try simp at hz)))
 exact Z27
theorem MZ(a b c d:Int)(w:World):(Instr.index 52 (.agg #[a,b,c,d]) (.int .i64 0)).run ja0 w=.ok (.int .i64 a) w:=by kernel_rfl
theorem M0(a b c d:Int)(w:World):(Instr.index 52 (.agg #[a,b,c,d]) (.int .i64 1)).run ja0 w=.ok (.int .i64 b) w:=by kernel_rfl
theorem M4(a b c d:Int)(w:World):(Instr.index 52 (.agg #[a,b,c,d]) (.int .i64 2)).run ja0 w=.ok (.int .i64 c) w:=by kernel_rfl
theorem M5(a b c d:Int)(w:World):(Instr.index 52 (.agg #[a,b,c,d]) (.int .i64 3)).run ja0 w=.ok (.int .i64 d) w:=by kernel_rfl
theorem ET(s:Re.St)(w:World):Calls ja0 99 #[.agg (cells s)] w λe w'=>e=.returned (.agg #[Fw.ed s 0,Fw.ed s 1,Fw.ed s 2,Fw.ed s 3])/\Below w w w':=by
 go_enter Tryz.func99,Tryz.ntmps99
 go_upto_region 1 with(fail)
 generalize hW:ja5 _ _=W0;have A0:At W0 w (.cells (cells s) 59):=hW▸At.alloc (At.new _ _) _;have A1:At W0 (w.heap.size+1) (.cells #[(),(),(),()] 52):=hW▸At.new' _ bI;have hB:Below w w W0:=hW▸aD (aD aG _) _;clear hW;have l0:=A0.lt;have p0:W0.cell? ⟨w,31,none⟩=some (.int .i64 (s.c 31)):=A0.st 31 ak rfl;have p1:W0.cell? ⟨w,32,none⟩=some (.int .i64 (s.c 32)):=A0.st 32 ak rfl;have p2:W0.cell? ⟨w,33,none⟩=some (.int .i64 (s.c 33)):=A0.st 33 ak rfl;have p3:W0.cell? ⟨w,34,none⟩=some (.int .i64 (s.c 34)):=A0.st 34 ak rfl;have q0:W0.cell? ⟨w,35,none⟩=some (.int .i64 (s.c 35)):=A0.st 35 ak rfl;have q1:W0.cell? ⟨w,36,none⟩=some (.int .i64 (s.c 36)):=A0.st 36 ak rfl;have q2:W0.cell? ⟨w,37,none⟩=some (.int .i64 (s.c 37)):=A0.st 37 ak rfl;have q3:W0.cell? ⟨w,38,none⟩=some (.int .i64 (s.c 38)):=A0.st 38 ak rfl;clear A0;have i0:=MZ (s.c 35) (s.c 36) (s.c 37) (s.c 38);have i1:=M0 (s.c 35) (s.c 36) (s.c 37) (s.c 38);have i2:=M4 (s.c 35) (s.c 36) (s.c 37) (s.c 38);have i3:=M5 (s.c 35) (s.c 36) (s.c 37) (s.c 38);obtain⟨l1,aH,aJ,dn,dw⟩:=At.four A1;have dZ:=A1.thaw 0;have eu:=A1.thaw 1;have eO:=A1.thaw 2;have eP:=A1.thaw 3;go_wp2;refine wp_loop_rounds 5 ?_;rw[rounds_succ];go_wp2;rw[rounds_succ];go_wp2;rw[rounds_succ];go_wp2;rw[rounds_succ];go_wp2;rw[rounds_succ];go_wp2;refine bodyPost_ret (v:=.agg #[_,_,_,_]) (by simp[results,Tryz.results99,go_sem, *];first|done|exact⟨rfl,rfl⟩|exact⟨rfl,rfl,rfl,rfl⟩|rfl) rfl ⟨zL (wC _) (wC _) (wC _) (wC _),?_⟩;exact Z1
theorem uP(a b c d:Int)(w:World):Calls ja0 98 #[.agg #[a,b,c,d]] w λe w'=>e=.returned (.agg #[d,b,a,c])/\Below w w w':=by
 go_enter Tryz.func98,Tryz.ntmps98
 go_upto_region 3 with(fail)
 generalize hW:ja5 _ _=W0;have A0:At W0 w (.cells #[a,b,c,d] 52):=hW▸At.alloc (At.alloc (At.new _ _) _) _;have A1:At W0 (w.heap.size+1) (.cells #[(),(),(),()] 140):=hW▸At.alloc (At.new' _ bI) _;have A2:At W0 (w.heap.size+1+1) (.cells #[(),(),(),()] 140):=hW▸At.new' _ bI;have hB:Below w w W0:=hW▸aD (aD (aD aG _) _) _;clear hW;have g0:=hB.size;obtain⟨l0,aA,aB,aY,dP⟩:=At.four A0;obtain⟨l1,aH,aJ,dn,dw⟩:=At.four A1;have dZ:=A1.thaw 0;have eu:=A1.thaw 1;have eO:=A1.thaw 2;have eP:=A1.thaw 3;obtain⟨l2,aL,aM,aP,aQ⟩:=At.four A2;have gJ:=A2.thaw 0;have gM:=A2.thaw 1;have gN:=A2.thaw 2;have gP:=A2.thaw 3;refine wp_loop_rounds 3 ?_;rw[rounds_succ]
 go_upto_region 5 with(fail)
 refine zB 11 1 ?_
 (repeat (first|refine jV ?_ | refine jW ?_ (hc:=by intro w2 hS;first|with_reducible exact jI hS (jE _)|with_reducible exact jI hS (JC _)|with_reducible exact jI hS (JD _)|with_reducible exact jI hS (JE _))|refine jX ?_))
 refine aj.dH ?_;intro w2 hS
 (clear l0 aA aB aY dP l1 aH aJ dn dw dZ eu eO eP l2 aL aM aP aQ gJ gM gN gP);(replace hB:=Below.ay qj aF hS);replace A0:=At.keep sM hS;replace A1:=At.keep qP hS;replace A2:=At.keep qW hS;clear hS;obtain⟨l0,aA,aB,aY,dP⟩:=At.four A0;obtain⟨l1,aH,aJ,dn,dw⟩:=At.four A1;have dZ:=A1.thaw 0;have eu:=A1.thaw 1;have eO:=A1.thaw 2;have eP:=A1.thaw 3;obtain⟨l2,aL,aM,aP,aQ⟩:=At.four A2;have gJ:=A2.thaw 0;have gM:=A2.thaw 1;have gN:=A2.thaw 2;have gP:=A2.thaw 3
 refine vH ?_;intro K hK;go_simp;refine hK _ _ (aj.bF ?_);clear hK K;generalize hW:World.setCell _ _ _=W1;clear l0 aA aB aY dP l1 aH aJ dn dw dZ eu eO eP l2 aL aM aP aQ gJ gM gN gP;replace A2:At W1 (w.heap.size+1+1) (.cells #[d,b,(),()] 140):=hW▸At.set (At.set (A2) 0 _) 1 _;replace A0:At W1 w (.cells #[a,b,c,d] 52):=hW▸At.off (At.off (A0) ak _ _) ak _ _;replace A1:At W1 (w.heap.size+1) (.cells #[(),(),(),()] 140):=hW▸At.off (At.off (A1) ak _ _) ak _ _;replace hB:Below w w W1:=hW▸Below.setCell (Below.setCell (hB) jB _) jB _;clear hW;obtain⟨l2,aL,aM,aP,aQ⟩:=At.four A2;have gJ:=A2.thaw 0;have gM:=A2.thaw 1;have gN:=A2.thaw 2;have gP:=A2.thaw 3;obtain⟨l0,aA,aB,aY,dP⟩:=At.four A0;obtain⟨l1,aH,aJ,dn,dw⟩:=At.four A1;have dZ:=A1.thaw 0;have eu:=A1.thaw 1;have eO:=A1.thaw 2;have eP:=A1.thaw 3;go_wp2;rw[rounds_succ]
 go_upto_region 5 with(fail)
 refine zB 11 1 ?_
 (repeat (first|refine jV ?_ | refine jW ?_ (hc:=by intro w2 hS;first|with_reducible exact jI hS (jE _)|with_reducible exact jI hS (JC _)|with_reducible exact jI hS (JD _)|with_reducible exact jI hS (JE _))|refine jX ?_))
 refine aj.dH ?_;intro w2 hS
 (clear l0 aA aB aY dP l1 aH aJ dn dw dZ eu eO eP l2 aL aM aP aQ gJ gM gN gP);(replace hB:=Below.ay qj aF hS);replace A0:=At.keep sM hS;replace A1:=At.keep qP hS;replace A2:=At.keep qW hS;clear hS;obtain⟨l0,aA,aB,aY,dP⟩:=At.four A0;obtain⟨l1,aH,aJ,dn,dw⟩:=At.four A1;have dZ:=A1.thaw 0;have eu:=A1.thaw 1;have eO:=A1.thaw 2;have eP:=A1.thaw 3;obtain⟨l2,aL,aM,aP,aQ⟩:=At.four A2;have gJ:=A2.thaw 0;have gM:=A2.thaw 1;have gN:=A2.thaw 2;have gP:=A2.thaw 3
 refine vH ?_;intro K hK;go_simp;refine hK _ _ (aj.bF ?_);clear hK K;generalize hW:World.setCell _ _ _=W1;clear l0 aA aB aY dP l1 aH aJ dn dw dZ eu eO eP l2 aL aM aP aQ gJ gM gN gP;replace A2:At W1 (w.heap.size+1+1) (.cells #[d,b,a,c] 140):=hW▸At.set (At.set (A2) 2 _) 3 _;replace A0:At W1 w (.cells #[a,b,c,d] 52):=hW▸At.off (At.off (A0) ak _ _) ak _ _;replace A1:At W1 (w.heap.size+1) (.cells #[(),(),(),()] 140):=hW▸At.off (At.off (A1) ak _ _) ak _ _;replace hB:Below w w W1:=hW▸Below.setCell (Below.setCell (hB) jB _) jB _;clear hW;obtain⟨l2,aL,aM,aP,aQ⟩:=At.four A2;have gJ:=A2.thaw 0;have gM:=A2.thaw 1;have gN:=A2.thaw 2;have gP:=A2.thaw 3;obtain⟨l0,aA,aB,aY,dP⟩:=At.four A0;obtain⟨l1,aH,aJ,dn,dw⟩:=At.four A1;have dZ:=A1.thaw 0;have eu:=A1.thaw 1;have eO:=A1.thaw 2;have eP:=A1.thaw 3;go_wp2;rw[rounds_succ];go_wp2;refine bodyPost_ret (v:=.agg #[_,_,_,_]) (by simp[results,Tryz.results98,go_sem, *];first|done|exact⟨rfl,rfl⟩|exact⟨rfl,rfl,rfl,rfl⟩|rfl) rfl ⟨zL rfl rfl rfl rfl,?_⟩;exact Z1
end Go.Proofs.YtfohooineeijkaaGreat.Fix
namespace Go.Proofs.YtfohooineeijkaaGreat.aj
open Go Fix
open List renaming getElem?_eq_getElem → ja6,ne_nil_of_mem → jb3,all_eq_true → jb6,contains_iff_mem → jb',range → jc0,getD_eq_getElem?_getD → jc2
variable {listed:Array Bool}{l:List Oper}
section
variable {P:Program} {ops:Array Oper} {Q:Exit->Act->World->Prop} {md:Region.Mode} {S:World->Prop} {N:Value->World->Prop} {s m t:Nat} {so:Oper} {tail:List Oper}
def marks(md:Region.Mode)(k:Nat):List Bool->List Oper->List Bool
 | pre,[]=>pre
 | pre,o::os=>marks md k (pre++[pre.length==k||o.after.any λe=>Region.binds md e&&pre.getD e.on false]) os
def wU(md:Region.Mode)(ops:Array Oper)(m:Nat):Bool :=
 (jc0 ops.size).all λj=>decide (j<m)||(jc0 m).all λk=>(match ops[j]? with
  | some o=>o.after.any λe=>Region.binds md e&&e.on==k
  | none=>true)||(marks md k [] ops.toList).getD j false
def Closed(md:Region.Mode)(ops:Array Oper)(listed:Array Bool):Prop:=∀k o,ops[k]? = some o->listed.getD k true=true->∀e∈o.after,Region.binds md e=true->listed.getD e.on false=true
theorem Closed.start(n:Nat)(h:ops.size=n):Closed md ops (Array.replicate n false):=λk o ho hk=>by
 have hlt:=(Array.getElem?_eq_some_iff.1 ho).1;have:k<n:=by omega
 simp[this]at hk
theorem Closed.set(h:Closed md ops listed){j:Nat}(hj:j∈Region.ready md ops listed):Closed md ops (listed.setIfInBounds j true):=λk o ho hk e he hb=>by
 obtain⟨hun,oj,hoj,hall⟩:=mem_ready.1 hj;have old:listed.getD e.on false=true:=by
  by_cases hkj:k=j
  . subst hkj
    obtain rfl:oj=o:=Option.some.inj (hoj.symm.trans ho);exact hall e he hb
  . rw[getD_set_ne true (Ne.symm hkj)]at hk
    exact h k o ho hk e he hb
 by_cases e1:e.on=j
 . have hlt:j<listed.size:=by
    rcases Nat.lt_or_ge j listed.size with h'|h'
    . exact h'
    . rw[e1]at old;simp[Array.getElem?_eq_none h']at old
   rw[e1];simp[hlt]
 . have:(listed.setIfInBounds j true).getD e.on false=listed.getD e.on false:=by
    simp only[Array.getD_eq_getD_getElem?,Array.getElem?_setIfInBounds,if_neg (Ne.symm e1)]
   rw[this];exact old
theorem EU(k:Nat):∀(os:List Oper) (pre:List Bool) (all:List Oper),all.drop pre.length=os ->
  (∀i,pre.getD i false=true->i=k\/∃o e,all[i]? = some o/\e∈o.after/\Region.binds md e=true/\e.on<i/\(marks md k pre os).getD e.on false=true) ->
  (∃suf,marks md k pre os=pre++suf)/\∀i,(marks md k pre os).getD i false=true->i=k\/∃o e,all[i]? = some o/\e∈o.after/\Region.binds md e=true/\e.on<i/\(marks md k pre os).getD e.on false=true
 | [],pre,all,hd,h=>⟨⟨[],by simp[marks]⟩,h⟩
 | o::os,pre,all,hd,h=>by
  have hlt:pre.length<all.length:=by
   rcases Nat.lt_or_ge pre.length all.length with h'|h'
   . exact h'
   . rw[List.drop_eq_nil_of_le h']at hd;cases hd
  rw[List.drop_eq_getElem_cons hlt]at hd;have ho:all[pre.length]? = some o:=by rw[ja6 hlt,(List.cons.inj hd).1]
  have hd':=(List.cons.inj hd).2;have key:∃suf,marks md k pre (o::os)=(pre++[pre.length==k||o.after.any λe=>Region.binds md e&&pre.getD e.on false])++suf:=by
   have:∀(os:List Oper) (p:List Bool),∃suf,marks md k p os=p++suf:=by
    intro os
    induction os with
    | nil=>intro p;exact⟨[],by simp[marks]⟩
    | cons o os ih=>intro p;obtain⟨suf,hs⟩:=ih (p++[p.length==k||o.after.any λe=>Region.binds md e&&p.getD e.on false]);exact⟨_::suf,by rw[marks,hs,List.append_assoc];rfl⟩
   exact this os _
  obtain⟨suf,afP⟩:=key
  have ih:=EU k os (pre++[pre.length==k||o.after.any λe=>Region.binds md e&&pre.getD e.on false]) all (by simpa using hd') (λi hi=>by
   have e0:marks md k (pre++[pre.length==k||o.after.any λe=>Region.binds md e&&pre.getD e.on false]) os=marks md k pre (o::os):=rfl;rw[e0];rcases Nat.lt_trichotomy i pre.length with hl|hl|hl
   . refine h i ?_
     simpa[jc2,List.getElem?_append_left hl]using hi
   . subst hl
     simp only[jc2,List.getElem?_append_right aF,Nat.sub_self,List.getElem?_cons_zero,Option.getD_some,Bool.or_eq_true,beq_iff_eq]at hi;rcases hi with hi|hi
     . exact .inl hi
     . obtain⟨e,he,hb⟩:=Array.any_eq_true'.1 hi
       simp only[Bool.and_eq_true]at hb;have hon:e.on<pre.length:=by
        rcases Nat.lt_or_ge e.on pre.length with h'|h'
        . exact h'
        . have:=hb.2;simp[List.getElem?_eq_none h']at this
       refine .inr ⟨o,e,ho,he,hb.1,hon,?_⟩;rw[afP,List.append_assoc,jc2,List.getElem?_append_left hon];simpa[jc2]using hb.2
   . exfalso
     rw[jc2,List.getElem?_eq_none jB]at hi
     simp at hi)
  exact⟨⟨_,by rw[afP,List.append_assoc]⟩,ih.2⟩
theorem marked{k:Nat}(hcl:Closed md ops listed)(hk:listed.getD k true=false):∀i,(marks md k [] ops.toList).getD i false=true->listed.getD i true=false/\(i≠k->i ∉ Region.ready md ops listed):=by
 intro i
 induction i using Nat.strongRecOn with
 | _ i ih =>
   intro hm;rcases(EU (md:=md) k ops.toList [] ops.toList bI (λi hi=>by simp at hi)).2 i hm with rfl|⟨o,e,ho,he,hb,hlt,hme⟩
   . exact⟨hk,λh=>absurd rfl h⟩
   . have hu:=(ih e.on hlt hme).1
     have ho':ops[i]? = some o:=by rw[<-ho];simp
     refine⟨?_,λ_ hr => ?_⟩
     . rcases hc:listed.getD i true with _ | _
       . rfl
       . exact(qz hu (hcl i o ho' hc e he hb)).elim
     . obtain⟨_,o2,ho2,hall⟩:=mem_ready.1 hr
       obtain rfl:o=o2:=Option.some.inj (ho'.symm.trans ho2);exact qz hu (hall e he hb)
theorem Iz{m:Nat}(ht:wU md ops m=true)(hcl:Closed md ops listed){i j:Nat}{oj:Oper}(hi:i∈Region.ready md ops listed)(hj:j∈Region.ready md ops listed)(ho:ops[j]? = some oj)(hjm:m<=j)(him:i<m)(hne:i≠j):False:=by
 unfold wU at ht;rw[jb6]at ht;have h1:=ht j (List.mem_range.2 (Array.getElem?_eq_some_iff.1 ho).1);have hd:decide (j<m)=false:=by simpa using hjm
 rw[hd,Bool.false_or,jb6]at h1;have h2:=h1 i (List.mem_range.2 him);simp only[ho,Bool.or_eq_true]at h2;rcases h2 with h2|h2
 . obtain⟨e,he,hb⟩:=Array.any_eq_true'.1 h2
   simp only[Bool.and_eq_true,beq_iff_eq]at hb;exact lF hi hj ho ⟨e,he,hb.1,hb.2⟩
 . exact(marked hcl (mem_ready.1 hi).1 j h2).2 (Ne.symm hne) hj
theorem Qc{m:Nat}{B:Array Bool->Act->Prop}(ht:wU md ops m=true){i:Nat}{oi:Oper}{v:Value}(him:i<m)(hi:ops[i]? = some oi)(hsel:∀(j:Nat) (o:Oper) cs b,ops[j]? = some o->o.op ≠ .select cs b)
  (fuel:Nat) (listed:Array Bool) (a:Act) (hcl:Closed md ops listed) (hc:Clear md ops listed i oi) (hr:i∈Region.ready md ops listed) (hy:Det P ops S oi v a)
  (H:mK P md ops S m B fuel (listed.setIfInBounds i true) (a.put oi.dst v)):mK P md ops S m B (fuel+1) listed a:=by
 induction fuel generalizing listed a with
 | zero =>
   refine⟨jb3 hr,λj hj => ?_⟩;rcases Nat.decEq j i with hji|rfl
   . exact Z2o
   . exact⟨oi,v,hi,hy,H⟩
 | succ fuel ih =>
   refine⟨jb3 hr,λj hj => ?_⟩;rcases Nat.decEq j i with hji|rfl
   . obtain⟨oj,u,ho,hyj,hn⟩:=H.2 j (ready_mono hj hji)
     obtain⟨a1,a2,a3⟩:=Oper.apart_spec ((hc j oj ho hji (mem_ready.1 hj).1).resolve_left (lF hr hj ho));refine⟨oj,u,ho,hyj.of_same (execOp_put oj (λcs b=>hsel j oj cs b ho) a oi.dst v a1).symm (wanted_put oj a oi.dst v a1).symm,ih _ _ (hcl.set hj) (hc.set j) (ready_mono hr (Ne.symm hji)) ?_ ?_⟩
     . exact Z10
     . exact Z28
   . exact⟨oi,v,hi,hy,H⟩
theorem M6{m t:Nat}(hs:Region.noSelect ops=true)(ht:wU md ops m=true)(hm:ops.toList.length=m+t):∀(k:Nat) (os:List Oper) (i:Nat) (listed:Array Bool) (a:Act),ops.toList.drop i=os->i+k=m->Closed md ops listed ->
  (∀q,q<i->listed.getD q true=true)->mJ md ops t k i listed=true ->
  eU P ops Q S k os a->mK P md ops S m (λlisted a=>∀w,S w->wpAny P md ops Q t listed a w) k listed a
 | 0,os,i,listed,a,hd,hi,hcl,hl,hk,h=>by
  exact Z2b
 | k+1,[],i,listed,a,_,_,_,_,_,h=>h.elim
 | k+1,o::os,i,listed,a,hd,hi,hcl,hl,hk,⟨v,hy,hn⟩=>by
  simp only[mJ,Bool.and_eq_true]at hk;obtain⟨⟨hf,hr⟩,hk⟩:=hk;obtain⟨ho,hd'⟩:=drop_cons hd;refine Qc ht ak ho (Region.noSelect_spec hs) k listed a hcl (mR ho hf) (by simpa using hr) hy ?_;refine M6 hs ht hm k os (i+1) _ _ hd' ak (hcl.set (by simpa using hr)) ?_ hk hn;exact Z1l
theorem Dc{id:Nat}{a:Act}{w:World}(m t:Nat)(S:World->Prop)(hp:P.follows .mixedOrders=true)(hs:Region.noSelect l.toArray=true)
  (hl:l.length=m+t) (ht:wU .any l.toArray m=true) (hk:mJ .any l.toArray t m 0 (Array.replicate l.length false)=true) (hS:S w.drew) (h:eU P l.toArray Q S m l a):(Code.region id l.toArray true).wp P Q a w :=
 wp_region_any hp (by
  have h1:=mK.any (Q:=Q) (tf:=t) m (Array.replicate l.length false) a (M6 (md:=.any) (Q:=Q) (m:=m) (t:=t) hs ht (by simpa using hl) m l 0 (Array.replicate l.length false) a bI ak (Closed.start _ bI) (λq hq=>by omega) hk h) _ hS;have e:l.toArray.size=t+m:=by simp;omega
  rw[e];have e2:Array.replicate (t+m) false=Array.replicate l.length false:=by rw[hl,Nat.add_comm]
  rw[e2];exact h1)
theorem Df{id:Nat}{a:Act}{W0 w:World}(m t:Nat)(h0:RowKit.Below W0.heap.size W0 w)(hp:P.follows .mixedOrders=true)(hs:Region.noSelect l.toArray=true)
  (hl:l.length=m+t) (ht:wU .any l.toArray m=true) (hk:mJ .any l.toArray t m 0 (Array.replicate l.length false)=true) (h:eU P l.toArray Q (λw'=>RowKit.Below W0.heap.size W0 w') m l a):(Code.region id l.toArray true).wp P Q a w :=
 Dc m t _ hp hs hl ht hk h0.drew h
theorem M7{B:Value->Array Bool->Act->Prop}(ht:wU md ops m=true){i:Nat}{oi:Oper}{v:Value}(him:i<m)(his:i≠s)(hi:ops[i]? = some oi)(hsel:∀(j:Nat) (o:Oper) cs b,ops[j]? = some o->o.op ≠ .select cs b)
  (fuel:Nat) (listed:Array Bool) (a:Act) (g:Option Value) (hcl:Closed md ops listed) (hc:Clear md ops listed i oi) (hr:i∈Region.ready md ops listed) (hy:GK P ops S oi v a)
  (H:jQ P md ops S s m B fuel (listed.setIfInBounds i true) (a.put oi.dst v) g):jQ P md ops S s m B (fuel+1) listed a g:=by
 induction fuel generalizing listed a g with
 | zero =>
   refine⟨jb3 hr,λj hj => ?_⟩;rcases Nat.decEq j i with hji|rfl
   . exact Z2o
   . exact⟨oi,hi,.inl ⟨his,v,hy,H⟩⟩
 | succ fuel ih =>
   refine⟨jb3 hr,λj hj => ?_⟩;rcases Nat.decEq j i with hji|rfl
   . obtain⟨oj,ho,hcase⟩:=H.2 j (ready_mono hj hji)
     obtain⟨a1,a2,a3⟩:=Oper.apart_spec ((hc j oj ho hji (mem_ready.1 hj).1).resolve_left (lF hr hj ho));rcases hcase with⟨hjs,u,hyj,hn⟩|⟨hjs,hg,hn⟩
     . refine⟨oj,ho,.inl ⟨hjs,u,hyj.of_same (execOp_put oj (λcs b=>hsel j oj cs b ho) a oi.dst v a1).symm (wanted_put oj a oi.dst v a1).symm,ih _ _ _ (hcl.set hj) (hc.set j) (ready_mono hr (Ne.symm hji)) ?_ ?_⟩⟩
       . exact Z10
       . exact Z28
     . refine⟨oj,ho,.inr ⟨hjs,hg,λu=>ih _ _ _ (hcl.set hj) (hc.set j) (ready_mono hr (Ne.symm hji)) ?_ ?_⟩⟩
       . exact Z10
       . rw[Array.setIfInBounds_comm _ _ hji,<-Act.put_comm a v u a2];exact hn u
   . exact⟨oi,hi,.inl ⟨his,v,hy,H⟩⟩
theorem I5(hs:Region.noSelect ops=true)(ht:wU md ops m=true)(hso:ops[s]? = some so)(hsm:s<m)(htail:ops.toList.drop m=tail)(htl:tail.length=t) :
  ∀(os:List Oper) (L:List Nat) (listed:Array Bool) (a:Act),L.map (λi=>ops[i]?)=os.map some->Closed md ops listed->(∀q,q<m->q ∉ L->q≠s->listed.getD q true=true)->wN md ops s m t L listed=true ->
  gW P ops Q S N so tail os a->jQ P md ops S s m (λv listed a=>∀w,N v w->wpAny P md ops Q t listed a w) (L.length+1) listed a none
 | [],[],listed,a,_,hcl,hl,hk,h=>by
  simp only[wN,Bool.and_eq_true,jb']at hk;obtain⟨hr,hf⟩:=hk;refine⟨jb3 hr,λi hi => ?_⟩;by_cases his:i=s
  . exact Z1o
  . exfalso
    obtain⟨hun,oi,ho,_⟩:=mem_ready.1 hi;by_cases him:i<m
    . have:=hl i him bI his
      rw[hun]at this;cases this
    . exact Iz ht hcl hr hi ho ak hsm (Ne.symm his)
 | [],i::r,_,_,hL,_,_,_,_=>by simp at hL
 | o::os,[],_,_,hL,_,_,_,_=>by simp at hL
 | o::os,i::r,listed,a,hL,hcl,hl,hk,⟨v,hy,hn⟩=>by
  simp only[List.map_cons,List.cons.injEq]at hL;obtain⟨ho,hL⟩:=hL;simp only[wN,Bool.and_eq_true,Bool.not_eq_true',beq_eq_false_iff_ne,decide_eq_true_eq,jb']at hk;obtain⟨⟨⟨⟨hf,hr⟩,him⟩,his⟩,hk⟩:=hk;refine M7 ht him his ho (Region.noSelect_spec hs) _ listed a none hcl (mR ho hf) hr hy ?_;refine I5 hs ht hso hsm htail htl os r _ _ hL (hcl.set hr) ?_ hk hn;intro q hq hqr hqs;exact yN (λ_=>Ed hr) (λhne=>hl q hq (by simp[hne,hqr]) hqs)
theorem BD{id:Nat}{a:Act}{W0 w:World}{x:Obj}{norm:List Oper}(L:List Nat)(s m:Nat)(h0:RowKit.Below W0.heap.size W0 w)(hp:P.follows .mixedOrders=true)(hs:Region.noSelect l.toArray=true)
  (hso:l.toArray[s]? = some so) (htl:l.drop m=tail) (hL:L.map (λi=>l.toArray[i]?)=norm.map some) (hn:l.length=tail.length+(L.length+1))
  (hq:((jc0 m).all λq=>L.contains q||q==s)&&decide (s<m)=true) (ht:wU .any l.toArray m=true)
  (hk:wN .any l.toArray s m tail.length L (Array.replicate l.length false)=true)
  (hsp:∀(a:Act) (w:World),RowKit.Below W0.heap.size W0 w->Region.wanted so (yielded l.toArray a.tmps)=true/\(execOp a.eval so).run P w=.ok (.value (.pointer w)) (w.alloc x))
  (h:gW P l.toArray Q (λw'=>RowKit.Below W0.heap.size W0 w') (Made W0 x) so tail norm a):(Code.region id l.toArray true).wp P Q a w:=by
 refine wp_region_any hp ?_;simp only[Bool.and_eq_true,jb6,List.mem_range,Bool.or_eq_true,jb',beq_iff_eq,decide_eq_true_eq]at hq
 have hspec:Special P l.toArray (λw'=>RowKit.Below W0.heap.size W0 w') (Made W0 x) so:=λa w hb=>by
  obtain⟨hw,hr⟩:=hsp a w hb;exact⟨hw,_,_,hr,w.heap.size,rfl,hb.size,At.new _ _,aD hb _⟩
 have h1:=jQ.any (Q:=Q) (tf:=tail.length) hso hspec (zI W0) (BZ W0 x) (λv w ⟨_,_,_,_,hb⟩=>hb) (L.length+1) (Array.replicate l.length false) a none
  (I5 (md:=.any) (Q:=Q) hs ht hso hq.2 (by simpa using htl) rfl norm L (Array.replicate l.length false) a hL (Closed.start _ bI) (λq hqm hqL hqs=>by
   rcases hq.1 q hqm with h'|h'
   . exact absurd h' hqL
   . exact absurd h' hqs) hk h) w.drew h0.drew
 exact Z2t
end
end Go.Proofs.YtfohooineeijkaaGreat.aj
namespace Go.Proofs.YtfohooineeijkaaGreat
open Go aj
section
variable {P:Program} {ops:Array Oper} {Q:Exit->Act->World->Prop} {md:Region.Mode} {S:World->Prop} {N:Value->World->Prop} {so:Oper} {tail:List Oper}
theorem yI{id:Nat}{l:List Oper}{a:Act}{W0 w:World}(m t:Nat)(h:eU P l.toArray Q (λw'=>RowKit.Below W0.heap.size W0 w') m l a)(h0:RowKit.Below W0.heap.size W0 w:=by exact RowKit.Below.refl _ _)(hp:P.follows .mixedOrders=true:=by kernel_rfl)(hs:Region.noSelect l.toArray=true:=by kernel_rfl)
 (hl:l.length=m+t:=by rfl) (ht:wU .any l.toArray m=true:=by kernel_rfl) (hk:mJ .any l.toArray t m 0 (Array.replicate l.length false)=true:=by kernel_rfl):(Code.region id l.toArray true).wp P Q a w:=Df m t h0 hp hs hl ht hk h
theorem OW{id:Nat}{l:List Oper}{a:Act}{W0 w:World}{x:Obj}{norm:List Oper}(L:List Nat)(s m:Nat)
 (h:gW P l.toArray Q (λw'=>RowKit.Below W0.heap.size W0 w') (Made W0 x) so tail norm a) (h0:RowKit.Below W0.heap.size W0 w:=by exact RowKit.Below.refl _ _) (hp:P.follows .mixedOrders=true:=by kernel_rfl) (hs:Region.noSelect l.toArray=true:=by kernel_rfl)
 (hso:l.toArray[s]? = some so:=by rfl) (htl:l.drop m=tail:=by rfl) (hL:L.map (λi=>l.toArray[i]?)=norm.map some:=by rfl) (hn:l.length=tail.length+(L.length+1):=by rfl)
 (hq:((List.range m).all λq=>L.contains q||q==s)&&decide (s<m)=true:=by kernel_rfl) (ht:wU .any l.toArray m=true:=by kernel_rfl)
 (hk:wN .any l.toArray s m tail.length L (Array.replicate l.length false)=true:=by kernel_rfl)
 (hsp:∀(a:Act) (w:World),RowKit.Below W0.heap.size W0 w->Region.wanted so (yielded l.toArray a.tmps)=true/\(execOp a.eval so).run P w=.ok (.value (.pointer w)) (w.alloc x):=by intro a w2 hS;refine⟨rfl,?_⟩;go_simp;first|done|with_reducible rfl|exact⟨rfl,rfl⟩):(Code.region id l.toArray true).wp P Q a w:=BD L s m h0 hp hs hso htl hL hn hq ht hk hsp h
end
end Go.Proofs.YtfohooineeijkaaGreat
