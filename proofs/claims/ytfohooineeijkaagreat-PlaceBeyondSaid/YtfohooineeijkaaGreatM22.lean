/- Steps of the program (22); no conditions. -/
import Derived.Test.YtfohooineeijkaaGreatM21
set_option linter.all false
set_option maxRecDepth 100000
set_option maxHeartbeats 16000000
namespace Go.Proofs.YtfohooineeijkaaGreat.Fix
open Go.ChangeShapes Go.WideShapes Go.ChangeAt Go.RowKit
open Go.Proofs.Tryz renaming prog → ja0
section
open List renaming getElem?_eq_getElem → ja6
def Tt(k n:Int):Bool := !((decide (k=1)&&(decide (1048576<n)||decide (n < -1048576)))||(decide (k=2)&&decide (10000<n)))
def Ay(t:Re.St):Bool:=Re.lens.all λi=>Tt (t.c i) (t.c (i+1))
theorem rJ{W:World}{base n:Nat}{v:Value}{xs:List Value}(y0 y1 y2 y3:Int)(hown:W.ownsRow base 50 2 v n xs)(hbase:base<=W.heap.size)(hn:n<=1000) :
  ∃A c w',(Builtin.append_ #[130,130] 130 #[v,.slice W 2 2]).run ja0 (W.alloc (.cells #[y0,y1,y2,y3] 50))=.ok (.slice A (n+2) c) w'/\w'.ownsRow base 50 2 (.slice A (n+2) c) (n+2) (xs++[.int .i64 y0,.int .i64 y1,.int .i64 y2,.int .i64 y3])/\Below base W w'/\base<=w'.heap.size:=by
 obtain⟨i0,hi0,hz0,hz1,hz2⟩:=info_parts Sl;have hA:=At.new W (.cells #[y0,y1,y2,y3] 50)
 obtain⟨v',w',hr,ho,hg,_,_⟩:=run_append_own_at (P:=ja0) (w:=W.alloc (.cells #[y0,y1,y2,y3] 50)) base 130 130 50 i0 _ 2 16 Tryz.underlying130 hi0 hz0 hz1 hz2 rfl aN v n _ (hown.alloc _) ⟨W,0,none⟩ 2 2 [.int .i64 y0,.int .i64 y1,.int .i64 y2,.int .i64 y3] rfl
  (by intro j u hj
      rw[addr_add,Nat.zero_add,hA.cell,<-hj]
      simp)
  LH RN ak jB
 obtain⟨A,c,rfl⟩:=fK ho;have hB:Below base W (W.alloc (.cells #[y0,y1,y2,y3] 50)):=Below.alloc aG hbase _;refine⟨A,c,w',hr,ho,hB.grown hg jB (λg hgg=>(hown.lt g hgg).1),?_⟩;have h1:=hg.size;have h2:W.heap.size<=(W.alloc (.cells #[y0,y1,y2,y3] 50)).heap.size:=by simp
 omega
theorem Rx(t:Re.St)(w:World):Calls ja0 24 #[.agg (cells t)] w λe w'=>e=.returned (.bool (Ay t))/\Below w w w':=by
 go_enter Tryz.func24,Tryz.ntmps24
 go_upto_region 1 with(fail)
 have hA:At (w.alloc (.cells (cells t) 59)) w.heap.size (.cells (cells t) 59):=At.new _ _;have hB:Below w w (w.alloc (.cells (cells t) 59)):=aD aG _;generalize w.alloc (.cells (cells t) 59)=W1 at *;generalize XQ:w.heap.size=bx at *;have lb:=hA.lt;have aaL:=ah XQ;clear XQ;have d3:=hA.st 3 aN rfl;have d4:=hA.st 4 aN rfl;have d5:=hA.st 5 aN rfl;have d6:=hA.st 6 aN rfl;have d7:=hA.st 7 aN rfl;have d8:=hA.st 8 aN rfl;have d9:=hA.st 9 aN rfl;have d10:=hA.st 10 aN rfl;have d11:=hA.st 11 aN rfl;have d12:=hA.st 12 aN rfl;have d13:=hA.st 13 aN rfl;have d14:=hA.st 14 aN rfl;have d41:=hA.st 41 aN rfl;have d42:=hA.st 42 aN rfl;have n1:(W1.alloc (.cells #[t.c 3,t.c 4,t.c 5,t.c 6,t.c 7,t.c 8,t.c 9,t.c 10,t.c 11,t.c 12,t.c 13,t.c 14,t.c 41,t.c 42] 50)).ownsRow W1.heap.size 50 2 (.slice W1 7 7) 7 (ji t (lp 0)):=zO aF rfl aN;have hA2:=At.alloc hA (.cells #[t.c 3,t.c 4,t.c 5,t.c 6,t.c 7,t.c 8,t.c 9,t.c 10,t.c 11,t.c 12,t.c 13,t.c 14,t.c 41,t.c 42] 50);have hB2:Below W1 W1 (W1.alloc (.cells #[t.c 3,t.c 4,t.c 5,t.c 6,t.c 7,t.c 8,t.c 9,t.c 10,t.c 11,t.c 12,t.c 13,t.c 14,t.c 41,t.c 42] 50)):=aD aG _;have N1:=ah n1;clear n1
 go_upto_region 2 with(fail)
 generalize hbase:W1.heap.size=base at *;have lbx:=ah (show bx<base from hbase▸lb);generalize World.alloc W1 _=W2 at *;have hsz2:base<=W2.heap.size:=hbase▸hB2.size;clear hbase;clear d3 d4 d5 d6 d7 d8 d9 d10 d11 d12 d13 d14 d41 d42;go_wp2
 go_loopw [3,4] (λv i wr=>∃(k n:Nat) (A:Option Addr) (c:Nat),k<=4/\i=.int .i64 k/\v=.slice A n c/\Hid (n=7+2*k)/\Hid (wr.ownsRow base 50 2 (.slice A n c) n (ji t (lp k)))/\At wr bx (.cells (cells t) 59)/\Below base W1 wr/\base<=wr.heap.size) (λ_ i _=>4-(intOf i).toNat)
 case atStart=>exact⟨0,7,_,_,by omega,rfl,rfl,ah rfl,N1,hA2,hB2,hsz2⟩
 case round =>
  obtain⟨k,n,A,c,hk,rfl,rfl,HN,O1,a,hB3,hsz⟩:=hrel;obtain rfl|rfl|rfl|rfl|rfl:k=0\/k=1\/k=2\/k=3\/k=4:=by omega
  . obtain rfl:n=7:=by have:=HN.out;omega
    obtain⟨A',c',w1,kg,s1,s2,s3⟩:=rJ (W:=wr.drew) (t.c 15) (t.c 16) (t.c 23) (t.c 24) O1.out hsz aN;have ko:∀W',Below base wr W'->W'.cell? ⟨bx,15,none⟩=some (.int .i64 (t.c 15))/\W'.cell? ⟨bx,16,none⟩=some (.int .i64 (t.c 16))/\W'.cell? ⟨bx,23,none⟩=some (.int .i64 (t.c 23))/\W'.cell? ⟨bx,24,none⟩=some (.int .i64 (t.c 24)):=λW' h=>⟨(bS a lbx.out h).st 15 aN rfl,(bS a lbx.out h).st 16 aN rfl,(bS a lbx.out h).st 23 aN rfl,(bS a lbx.out h).st 24 aN rfl⟩;have E1:Hid (w1.ownsRow base 50 2 (.slice A' 9 c') 9 (ji t (lp 1))):=ah s1;have B1:Below base wr w1:=(Below.drew (Below.refl base wr)).trans s2;have a1:=ah (show At w1 bx _ from bS a lbx.out B1);have hB4:Below base W1 w1:=hB3.trans B1;have K1:=ah ko;have R1:=ah kg;have HB1:=ah B1;clear s1 s2 ko kg B1 a
    go_upto_region 5 with(fail)
    refine jy (S:=(λW'=>W'.cell? ⟨bx,15,none⟩=some (.int .i64 (t.c 15))/\W'.cell? ⟨bx,16,none⟩=some (.int .i64 (t.c 16))/\W'.cell? ⟨bx,23,none⟩=some (.int .i64 (t.c 23))/\W'.cell? ⟨bx,24,none⟩=some (.int .i64 (t.c 24)))) 11 ?_ ?_
    . exact Z2d
    intro hS0;refine aW 0 ?_;refine aW 1 ?_;refine aW 2 ?_;refine aW 3 ?_;refine aW 4 ?_;refine aW 5 ?_;refine aW 6 ?_;refine aW 7 ?_;refine aW 8 ?_;refine tk1 9 ?_;refine wm ?_ (hS:=by first|(intro hlt;exact absurd hlt aN)|(intro _;exact K1.out _ (Below.alloc (Below.drew aG) hsz _)));refine tk1 10 ?_;refine aj.Step.value (eB (.tmp 25) (.tmp 34) 130 rfl rfl rfl R1.out) ⟨λ_=>K1.out _ HB1.out,?_⟩
    (try simp only[bV,bW,bX,tks])
    refine tk1 11 ?_;refine wm ?_ (hS:=by first|(intro hlt;exact absurd hlt aN)|(intro _;omega));refine jk ?_;go_wp2
    go_roundw
    case rel=>exact⟨1,9,_,_,by omega,by go_num,rfl,ah rfl,E1,a1.out,hB4,s3⟩
    case measure=>simp[intOf]
  . obtain rfl:n=9:=by have:=HN.out;omega
    obtain⟨A',c',w1,kg,s1,s2,s3⟩:=rJ (W:=wr.drew) (t.c 17) (t.c 18) (t.c 25) (t.c 26) O1.out hsz aN;have ko:∀W',Below base wr W'->W'.cell? ⟨bx,17,none⟩=some (.int .i64 (t.c 17))/\W'.cell? ⟨bx,18,none⟩=some (.int .i64 (t.c 18))/\W'.cell? ⟨bx,25,none⟩=some (.int .i64 (t.c 25))/\W'.cell? ⟨bx,26,none⟩=some (.int .i64 (t.c 26)):=λW' h=>⟨(bS a lbx.out h).st 17 aN rfl,(bS a lbx.out h).st 18 aN rfl,(bS a lbx.out h).st 25 aN rfl,(bS a lbx.out h).st 26 aN rfl⟩;have E1:Hid (w1.ownsRow base 50 2 (.slice A' 11 c') 11 (ji t (lp 2))):=ah s1;have B1:Below base wr w1:=(Below.drew (Below.refl base wr)).trans s2;have a1:=ah (show At w1 bx _ from bS a lbx.out B1);have hB4:Below base W1 w1:=hB3.trans B1;have K1:=ah ko;have R1:=ah kg;have HB1:=ah B1;clear s1 s2 ko kg B1 a
    go_upto_region 5 with(fail)
    refine jy (S:=(λW'=>W'.cell? ⟨bx,17,none⟩=some (.int .i64 (t.c 17))/\W'.cell? ⟨bx,18,none⟩=some (.int .i64 (t.c 18))/\W'.cell? ⟨bx,25,none⟩=some (.int .i64 (t.c 25))/\W'.cell? ⟨bx,26,none⟩=some (.int .i64 (t.c 26)))) 11 ?_ ?_
    . exact Z2d
    intro hS0;refine aW 0 ?_;refine aW 1 ?_;refine aW 2 ?_;refine aW 3 ?_;refine aW 4 ?_;refine aW 5 ?_;refine aW 6 ?_;refine aW 7 ?_;refine aW 8 ?_;refine tk1 9 ?_;refine wm ?_ (hS:=by first|(intro hlt;exact absurd hlt aN)|(intro _;exact K1.out _ (Below.alloc (Below.drew aG) hsz _)));refine tk1 10 ?_;refine aj.Step.value (eB (.tmp 25) (.tmp 34) 130 rfl rfl rfl R1.out) ⟨λ_=>K1.out _ HB1.out,?_⟩
    (try simp only[bV,bW,bX,tks])
    refine tk1 11 ?_;refine wm ?_ (hS:=by first|(intro hlt;exact absurd hlt aN)|(intro _;omega));refine jk ?_;go_wp2
    go_roundw
    case rel=>exact⟨2,11,_,_,by omega,by go_num,rfl,ah rfl,E1,a1.out,hB4,s3⟩
    case measure=>simp[intOf]
  . obtain rfl:n=11:=by have:=HN.out;omega
    obtain⟨A',c',w1,kg,s1,s2,s3⟩:=rJ (W:=wr.drew) (t.c 19) (t.c 20) (t.c 27) (t.c 28) O1.out hsz aN;have ko:∀W',Below base wr W'->W'.cell? ⟨bx,19,none⟩=some (.int .i64 (t.c 19))/\W'.cell? ⟨bx,20,none⟩=some (.int .i64 (t.c 20))/\W'.cell? ⟨bx,27,none⟩=some (.int .i64 (t.c 27))/\W'.cell? ⟨bx,28,none⟩=some (.int .i64 (t.c 28)):=λW' h=>⟨(bS a lbx.out h).st 19 aN rfl,(bS a lbx.out h).st 20 aN rfl,(bS a lbx.out h).st 27 aN rfl,(bS a lbx.out h).st 28 aN rfl⟩;have E1:Hid (w1.ownsRow base 50 2 (.slice A' 13 c') 13 (ji t (lp 3))):=ah s1;have B1:Below base wr w1:=(Below.drew (Below.refl base wr)).trans s2;have a1:=ah (show At w1 bx _ from bS a lbx.out B1);have hB4:Below base W1 w1:=hB3.trans B1;have K1:=ah ko;have R1:=ah kg;have HB1:=ah B1;clear s1 s2 ko kg B1 a
    go_upto_region 5 with(fail)
    refine jy (S:=(λW'=>W'.cell? ⟨bx,19,none⟩=some (.int .i64 (t.c 19))/\W'.cell? ⟨bx,20,none⟩=some (.int .i64 (t.c 20))/\W'.cell? ⟨bx,27,none⟩=some (.int .i64 (t.c 27))/\W'.cell? ⟨bx,28,none⟩=some (.int .i64 (t.c 28)))) 11 ?_ ?_
    . exact Z2d
    intro hS0;refine aW 0 ?_;refine aW 1 ?_;refine aW 2 ?_;refine aW 3 ?_;refine aW 4 ?_;refine aW 5 ?_;refine aW 6 ?_;refine aW 7 ?_;refine aW 8 ?_;refine tk1 9 ?_;refine wm ?_ (hS:=by first|(intro hlt;exact absurd hlt aN)|(intro _;exact K1.out _ (Below.alloc (Below.drew aG) hsz _)));refine tk1 10 ?_;refine aj.Step.value (eB (.tmp 25) (.tmp 34) 130 rfl rfl rfl R1.out) ⟨λ_=>K1.out _ HB1.out,?_⟩
    (try simp only[bV,bW,bX,tks])
    refine tk1 11 ?_;refine wm ?_ (hS:=by first|(intro hlt;exact absurd hlt aN)|(intro _;omega));refine jk ?_;go_wp2
    go_roundw
    case rel=>exact⟨3,13,_,_,by omega,by go_num,rfl,ah rfl,E1,a1.out,hB4,s3⟩
    case measure=>simp[intOf]
  . obtain rfl:n=13:=by have:=HN.out;omega
    obtain⟨A',c',w1,kg,s1,s2,s3⟩:=rJ (W:=wr.drew) (t.c 21) (t.c 22) (t.c 29) (t.c 30) O1.out hsz aN;have ko:∀W',Below base wr W'->W'.cell? ⟨bx,21,none⟩=some (.int .i64 (t.c 21))/\W'.cell? ⟨bx,22,none⟩=some (.int .i64 (t.c 22))/\W'.cell? ⟨bx,29,none⟩=some (.int .i64 (t.c 29))/\W'.cell? ⟨bx,30,none⟩=some (.int .i64 (t.c 30)):=λW' h=>⟨(bS a lbx.out h).st 21 aN rfl,(bS a lbx.out h).st 22 aN rfl,(bS a lbx.out h).st 29 aN rfl,(bS a lbx.out h).st 30 aN rfl⟩;have E1:Hid (w1.ownsRow base 50 2 (.slice A' 15 c') 15 (ji t (lp 4))):=ah s1;have B1:Below base wr w1:=(Below.drew (Below.refl base wr)).trans s2;have a1:=ah (show At w1 bx _ from bS a lbx.out B1);have hB4:Below base W1 w1:=hB3.trans B1;have K1:=ah ko;have R1:=ah kg;have HB1:=ah B1;clear s1 s2 ko kg B1 a
    go_upto_region 5 with(fail)
    refine jy (S:=(λW'=>W'.cell? ⟨bx,21,none⟩=some (.int .i64 (t.c 21))/\W'.cell? ⟨bx,22,none⟩=some (.int .i64 (t.c 22))/\W'.cell? ⟨bx,29,none⟩=some (.int .i64 (t.c 29))/\W'.cell? ⟨bx,30,none⟩=some (.int .i64 (t.c 30)))) 11 ?_ ?_
    . exact Z2d
    intro hS0;refine aW 0 ?_;refine aW 1 ?_;refine aW 2 ?_;refine aW 3 ?_;refine aW 4 ?_;refine aW 5 ?_;refine aW 6 ?_;refine aW 7 ?_;refine aW 8 ?_;refine tk1 9 ?_;refine wm ?_ (hS:=by first|(intro hlt;exact absurd hlt aN)|(intro _;exact K1.out _ (Below.alloc (Below.drew aG) hsz _)));refine tk1 10 ?_;refine aj.Step.value (eB (.tmp 25) (.tmp 34) 130 rfl rfl rfl R1.out) ⟨λ_=>K1.out _ HB1.out,?_⟩
    (try simp only[bV,bW,bX,tks])
    refine tk1 11 ?_;refine wm ?_ (hS:=by first|(intro hlt;exact absurd hlt aN)|(intro _;omega));refine jk ?_;go_wp2
    go_roundw
    case rel=>exact⟨4,15,_,_,by omega,by go_num,rfl,ah rfl,E1,a1.out,hB4,s3⟩
    case measure=>simp[intOf]
  . obtain rfl:n=15:=by have:=HN.out;omega
    obtain⟨g,rfl,hg1,hg2,hgc⟩:=BA O1.out aN
    have CL:Hid (∀(k p:Nat),Re.lens[k]? = some p->wr.cell? ⟨g,k*2,none⟩=some (.int .i64 (t.c p))/\wr.cell? ⟨g,k*2+1,none⟩=some (.int .i64 (t.c (p+1)))):=ah λk p hp=>by
     obtain⟨q0,q1⟩:=wR t (l:=Re.lens) hp;exact⟨hgc _ _ q0,hgc _ _ q1⟩
    have HBW:=ah (hB.trans (hB3.mono (wz lbx.out)));clear O1 N1 hgc hA hA2 hB2 hB a hB3 hg1;generalize wr=W5 at *;go_wp2
    go_loopw [5] (λi wr=>∃k:Nat,k<=15/\i=.int .i64 k/\Hid (((Re.lens.take k).all λi=>Tt (t.c i) (t.c (i+1)))=true)/\wr=W5) (λi _=>15-(intOf i).toNat)
    case atStart=>exact⟨0,by omega,rfl,ah rfl,rfl⟩
    case round =>
     obtain⟨k,hk,rfl,HF,rfl⟩:=hrel;by_cases hlt:k<15
     . have hltz:(k:Int)<15:=by omega
       obtain⟨p,hp⟩:∃p,Re.lens[k]? = some p:=⟨_,ja6 (show k<Re.lens.length from hlt)⟩;obtain⟨c0,c1⟩:=CL.out k p hp;have HS:Hid ((Re.lens.take (k+1)).all (λi=>Tt (t.c i) (t.c (i+1)))=Tt (t.c p) (t.c (p+1))):=ah (by rw[List.take_add_one,hp,List.all_append,HF.out];simp)
       have HT:Hid (Tt (t.c p) (t.c (p+1))=false->Ay t=false):=ah λh=>by
        by_cases e:Ay t=true
        . exfalso
          have:=List.all_eq_true.1 e p (List.mem_of_getElem? hp);rw[h]at this;cases this
        . simpa using e
       clear hp;generalize t.c p=x at *;generalize t.c (p+1)=y at *;by_cases h1:x=1
       . subst h1
         by_cases h2:(1048576:Int)<y
         . have HV:=ah (HT.out (by simp[Tt,h2]))
           exact Z2g
         . by_cases h3:y < -1048576
           . have HV:=ah (HT.out (by simp[Tt,h3]))
             exact Z2g
           . have HV:=ah (show Tt 1 y=true by simp[Tt,h2,h3])
             exact Z24
       . by_cases h4:x=2
         . subst h4
           by_cases h5:(10000:Int)<y
           . have HV:=ah (HT.out (by simp[Tt,h5]))
             exact Z2g
           . have HV:=ah (show Tt 2 y=true by simp[Tt,h5])
             exact Z24
         . have HV:=ah (show Tt x y=true by simp[Tt,h1,h4])
           exact Z24
     . obtain rfl:k=15:=by omega
       have HV:Hid (Ay t=true):=ah HF.out;exact Z2g
end
theorem Ry{t:Re.St}(h:Re.valid t=true):0<=t.c 0/\t.c 0<=3:=by
 unfold Re.valid Re.iL at h;simp only[Bool.and_eq_true,Re.inn,decide_eq_true_eq]at h;exact h.1.1.1.1.1.1.1.1.1.1.1
section
open List renaming mem_cons_of_mem → ja7,length_append → ja8,mem_cons_self → jb1,length_cons → jb4
theorem LA{g h:Int->Nat}:∀{l:List Int},(∀k∈l,g k<=h k)->(l.map g).sum<=(l.map h).sum
 | [],_=>aO _
 | k::l,H=>by
   simp only[List.map_cons,List.sum_cons];have h1:=H k bI;have h2:=LA (l:=l) λk hk=>H k (by simp[hk]);omega
theorem LB(c:Nat)(g:Int->Nat):∀l:List Int,(l.map λk=>c*g k).sum=c*(l.map g).sum
 | []=>rfl
 | k::l=>by simp only[List.map_cons,List.sum_cons,LB c g l,Nat.mul_add]
theorem LC(p q:Int->Bool)(g:Int->Nat):∀l:List Int,((l.filter λk=>p k && !q k).map g).sum+((l.filter λk=>p k&&q k).map g).sum<=(l.map g).sum
 | []=>aO _
 | k::l=>by
   have ih:=LC p q g l;simp only[List.filter_cons,List.map_cons,List.sum_cons];cases p k<;>cases q k<;>simp<;>omega
theorem Gg(g:Int->List Int):∀l:List Int,(l.flatMap g).length=(l.map λk=>(g k).length).sum
 | []=>rfl
 | k::l=>by simp only[List.flatMap_cons,ja8,List.map_cons,List.sum_cons,Gg g l]
section
variable {T:Tr.T} (H:Tr.WF T)
include H
theorem D5:∀{f:Nat} {a x:Int},Tr.Fit T f a->x∈nT T f a->Tr.Gt T a x:=by
 intro f
 induction f with
 | zero=>intro a x h;exact h.elim
 | succ f ih =>
   intro a x h hx;obtain⟨nd,hT,hk⟩:=h;rcases xV hx with rfl|⟨c,hc,hx⟩
   . exact .refl hT
   . have hm:=tZ hT hc
     exact(H.Xc hT hm).trans (ih (hk c hm) hx)
theorem Jz:∀{f:Nat} {a:Int},Tr.Fit T f a->(nT T f a).Nodup:=by
 intro f
 induction f with
 | zero=>intro a hf;exact hf.elim
 | succ f ih =>
   intro a hf;obtain⟨nd,h1,hk⟩:=hf;obtain⟨n,_,hd⟩:=H.deep a nd h1;have e:dV T a=nd.kids:=by unfold dV;rw[h1];rfl
   have hn:=H.nodup a nd h1
   have hall:∀k,k∈qL T nd.kids++rQ T nd.kids->k∈nd.kids:=λk hk=>by
    rcases List.mem_append.1 hk with h|h
    . exact(List.mem_filter.1 h).1
    . exact(List.mem_filter.1 h).1
   have hnd:(qL T nd.kids++rQ T nd.kids).Nodup:=by
    refine List.nodup_append.2 ⟨hn.filter _,hn.filter _,λx hx y hy e => ?_⟩;subst e;have q1:=(List.mem_filter.1 hx).2;have q2:=(List.mem_filter.1 hy).2;simp only[Bool.and_eq_true,Bool.not_eq_true']at q1 q2;rw[q1.2]at q2;exact absurd q2.2 aN
   rw[nT,e,<-List.flatMap_append,List.nodup_cons];refine⟨λhm => ?_,?_⟩
   . obtain⟨k,hkm,hx⟩:=List.mem_flatMap.1 hm
     have:=((D5 H (hk k (hall k hkm)) hx).le (H.sS h1 (hall k hkm) hd) hd).1;omega
   . refine List.pairwise_flatMap.2 ⟨λk hkm=>ih (hk k (hall k hkm)),?_⟩
     have hq:∀l:List Int,(∀k∈l,k∈nd.kids)->l.Nodup->l.Pairwise (λa₁ a₂=>∀x∈nT T f a₁,∀y∈nT T f a₂,x≠y):=by
      intro l
      induction l with
      | nil=>intro _ _;exact .nil
      | cons k l ihl =>
        intro hl hn;refine .cons (λk' hk' x hx y hy e => ?_) (ihl (λj hj=>hl j (ja7 _ hj)) (List.nodup_cons.1 hn).2);subst e;have m1:=hl k jb1;have m2:=hl k' (ja7 _ hk');have a1:=D5 H (hk k m1) hx;have a2:=D5 H (hk k' m2) hy;obtain⟨ndx,hlx⟩:=a1.live;obtain⟨q,_,Pk⟩:=H.deep x ndx hlx;have e:=a1.uniq a2 (H.sS h1 m1 hd) (H.sS h1 m2 hd) Pk;exact(List.nodup_cons.1 hn).1 (e▸hk')
     exact hq _ hall hnd
theorem afq{f:Nat}{a:Int}(hf:Tr.Fit T f a):(nT T f a).length<=(Tr.sub T f a).length :=
 (Jz H hf).length_le_of_subset λx hx=>(H.iN hf).2 (D5 H hf hx)
variable (hd8:∀x d,Tr.Dp T x d->d<=8)
include hd8
theorem aax:∀(f:Nat) (z:Int) (d:Nat),Tr.Dp T z d->Fw.cst (sN T) f z<=3^(9-d)*(Tr.sub T (f+1) z).length:=by
 intro f
 induction f with
 | zero =>
   intro z d h;obtain⟨nd,hT⟩:=h.live;rw[Tr.iB hT];have:=Nat.one_le_two_pow (n:=0);have h3:1<=3^(9-d):=Nat.one_le_pow _ _ aN;have h4:1<=(z::nd.kids.flatMap (Tr.sub T 0)).length:=by simp
   exact aK (by show 1<=1*1;decide) (Nat.mul_le_mul h3 h4)
 | succ f ih =>
   intro z d h;obtain⟨nd,hT⟩:=h.live;have e:dV T z=nd.kids:=by unfold dV;rw[hT];rfl
   have hd:=hd8 z d h;have h1:((qL T nd.kids).map (Fw.cst (sN T) f)).sum<=(nd.kids.map (Fw.cst (sN T) f)).sum:=aK (Nat.le_add_right _ _) (LC (λk=>(dU T k).c 0 != 3) (λk=>qB (dU T k)) _ nd.kids)
   have h2:(nd.kids.map (Fw.cst (sN T) f)).sum<=(nd.kids.map λk=>3^(8-d)*(Tr.sub T (f+1) k).length).sum:=LA λk hk=>by
    have:=ih k (d+1) (H.sS hT hk h)
    rwa [show 9-(d+1)=8-d by omega]at this
   rw[LB (3^(8-d)) (λk=>(Tr.sub T (f+1) k).length)]at h2;have h3:Fw.cst (sN T) (f+1) z=1+3*((qL T nd.kids).map (Fw.cst (sN T) f)).sum:=by
    rw[Fw.cst];show 1+3*((qL T (dV T z)).map _).sum=_;rw[e]
   have h4:(Tr.sub T (f+1+1) z).length=1+(nd.kids.map λk=>(Tr.sub T (f+1) k).length).sum:=by
    rw[Tr.iB hT,jb4,Gg];omega
   rw[h3,h4,show 9-d=(8-d)+1 by omega,Nat.pow_succ];generalize (nd.kids.map λk=>(Tr.sub T (f+1) k).length).sum=S at *;have h5:1<=3^(8-d):=Nat.one_le_pow _ _ aN;generalize 3^(8-d)=p at *;have h6:p*3*(1+S)=3*p+3*(p*S):=by
    rw[Nat.mul_add,Nat.mul_one,Nat.mul_right_comm,Nat.mul_comm (p*S) 3,Nat.mul_comm p 3]
   omega
theorem acH:∀(f:Nat) (z:Int) (d:Nat),Tr.Dp T z d->o9 (sN T) f z<=39366*(9-d)*(Tr.sub T (f+1) z).length:=by
 have hc:∀f z d,Tr.Dp T z d->Fw.cst (sN T) f z<=19683*(Tr.sub T (f+1) z).length:=λf z d h =>
  aK (aax H hd8 f z d h) (Nat.mul_le_mul_right _ (aK (Nat.pow_le_pow_right aN (show 9-d<=9 by omega)) aN))
 intro f
 induction f with
 | zero =>
   intro z d h;obtain⟨nd,hT⟩:=h.live;have hd:=hd8 z d h;rw[Tr.iB hT];have h4:1<=(z::nd.kids.flatMap (Tr.sub T 0)).length:=by simp
   have h3:1<=39366*(9-d):=by omega
   exact aK (by show 1<=1*1;decide) (Nat.mul_le_mul h3 h4)
 | succ f ih =>
   intro z d h;obtain⟨nd,hT⟩:=h.live;have e:dV T z=nd.kids:=by unfold dV;rw[hT];rfl
   have hd:=hd8 z d h;obtain⟨G,hG⟩:∃G:Int->Nat,G=λk=>(19683+39366*(8-d))*(Tr.sub T (f+1) k).length:=⟨_,rfl⟩
   have g1:∀k∈nd.kids,Fw.cst (sN T) f k+o9 (sN T) f k<=G k:=λk hk=>by
    have hk:=H.sS hT hk h;have a:=hc f k _ hk;have b:=ih k (d+1) hk;rw[show 9-(d+1)=8-d by omega]at b;rw[hG];show _<=(19683+39366*(8-d))*_;rw[Nat.add_mul];omega
   have h1:((qL T nd.kids).map (o9 (sN T) f)).sum<=((qL T nd.kids).map G).sum:=LA λk hk=>by have:=g1 k (List.mem_filter.1 hk).1;omega
   have h2:((rQ T nd.kids).map λk=>Fw.cst (sN T) f k+o9 (sN T) f k).sum<=((rQ T nd.kids).map G).sum:=LA λk hk=>g1 k (List.mem_filter.1 hk).1;have h3:((qL T nd.kids).map G).sum+((rQ T nd.kids).map G).sum<=(nd.kids.map G).sum:=LC (λk=>(dU T k).c 0 != 3) (λk=>qB (dU T k)) G nd.kids;have h4:(Tr.sub T (f+1+1) z).length=1+(nd.kids.map λk=>(Tr.sub T (f+1) k).length).sum:=by
    rw[Tr.iB hT,jb4,Gg];omega
   have h5:=hc (f+1) z d h;have h6:o9 (sN T) (f+1) z=Fw.cst (sN T) (f+1) z+((qL T nd.kids).map (o9 (sN T) f)).sum+((rQ T nd.kids).map λk=>Fw.cst (sN T) f k+o9 (sN T) f k).sum:=by
    rw[o9];show _+((qL T (dV T z)).map _).sum+((rQ T (dV T z)).map _).sum=_;rw[e]
   have hGk:(nd.kids.map G).sum=(19683+39366*(8-d))*(nd.kids.map λk=>(Tr.sub T (f+1) k).length).sum:=by rw[hG];exact LB _ _ _
   rw[hGk]at h3;rw[h4]at h5 ⊢;rw[h6,show 9-d=(8-d)+1 by omega];clear hG hGk;generalize (nd.kids.map λk=>(Tr.sub T (f+1) k).length).sum=S at *;have h7:39366*(8-d+1)*(1+S)=39366*(8-d)+39366+(39366*(8-d)+39366)*S:=by
    rw[Nat.mul_add,Nat.mul_one,Nat.mul_add,Nat.mul_one]
   have h8:(39366*(8-d)+39366)*S=(19683+39366*(8-d))*S+19683*S:=by
    rw[<-Nat.add_mul];congr 1;omega
   omega
end
theorem Er(B:Int->Fw.Bx)(f:Nat)(z r0 r1 t0 t1:Int):(Fw.lay B f z r0 r1 t0 t1).id=z:=rfl
theorem afr(T:Tr.T)(ww wh:Int):∀(f:Nat) (x:Fw.Ld),(tl (sN T) ww wh f x).map (·.id)=nT T (f+1) x.id:=by
 intro f
 induction f with
 | zero =>
   intro x;have e:∀l:List Int,l.flatMap (nT T 0)=[]:=λl=>List.flatMap_eq_nil_iff.2 λ_ _=>rfl;rw[nT,e,e];rfl
 | succ f ih =>
   intro x;have hc:=Fw.N8 (sN T) (f+1) x.id x.i0 x.i1 (λh=>by omega);rw[tl,nT,List.map_cons,List.map_append,List.map_flatMap,List.map_flatMap];congr 1;congr 1
   . rw[<-show(sN T x.id).fl=qL T (dV T x.id)from rfl,<-hc,List.flatMap_map]
     exact congrArg (λg=>List.flatMap g _) (funext λk=>ih _)
   . exact congrArg (λg=>List.flatMap g _) (funext λk=>ih _)
structure Gh(T:Tr.T)(n:Nat):Prop where
 wf:Tr.WF T
 num:(Tr.ord T).length=n
 few:n<=64
 deep:∀x d,Tr.Dp T x d->d<=8
 val:∀z nd,T z=some nd->Re.valid nd.sty=true
theorem Gh.aay{T:Tr.T}{n:Nat}(h:Gh T n):Tr.Fit T 65 0/\Tr.sub T 65 0=Tr.ord T:=by
 have:=Tr.Fit.mono h.wf.vT 65 aN;exact⟨this.1,this.2.1⟩
theorem V6(B:Int->Fw.Bx){w:World}{t n n0:Nat}{L:Lay}{T:Tr.T}(g:Good w t L T n n0)(M:Gh T n)(hBT:∀z,Dsh T z->B z=sN T z)(ww wh:Int)
  (h1:Fw.cst B 64 0+o9 B 64 0<maxLen) (h2:((tl B (max ww 0) (max wh 0) 64 (Cy B (max ww 0) (max wh 0))).map (·.id)).Nodup) (h3:∀z∈(tl B (max ww 0) (max wh 0) 64 (Cy B (max ww 0) (max wh 0))).map (·.id),0<=z/\z<4096) :
  Calls ja0 7 #[t,ww,wh] w λe w'=>(∃b,e=.returned (.map (some b))/\w.heap.size<=b/\GM 3 w' b (rH T B (max ww 0) (max wh 0)).length (FY T B (max ww 0) (max wh 0)))/\Below w w w':=by
 have b3:(nT T 64 0).length<=64:=by
  have:=afq M.wf M.wf.vT;have hn:=M.num;unfold Tr.ord at hn;rw[hn]at this;exact aK this M.few
 have hk:∀z nd,T z=some nd->nd.kids.length<=64:=λz nd h=>by
  have:=M.wf.qZ h;rw[M.num]at this;exact aK this M.few
 have hl:=Tr.uF h2 h3;rw[List.length_map]at hl;have k:=Jr B g.inv.rep M.wf hk (λz nd h=>Ry (M.val z nd h)) hBT ww wh h1 LY LY;refine k.mono ?_;rintro e w' ⟨⟨b,nr,rfl,hb,hG,hle⟩,hB⟩;refine⟨⟨b,rfl,hb,?_⟩,hB⟩
 have hsub:∀z∈(rH T B (max ww 0) (max wh 0)).map (·.id),z∈(tl B (max ww 0) (max wh 0) 64 (Cy B (max ww 0) (max wh 0))).map (·.id):=λz hz=>by
  unfold rH at hz;split at hz
  . exact hz
  . simp at hz
 have hnd:((rH T B (max ww 0) (max wh 0)).map (·.id)).Nodup:=by
  unfold rH;split
  . exact h2
  . exact .nil
 have hge:(rH T B (max ww 0) (max wh 0)).length<=nr:=by
  have:=hG.ge (l:=(rH T B (max ww 0) (max wh 0)).map (·.id)) hnd λz hz=>by
   refine⟨(jZ _).2 (by have:=h3 z (hsub z hz);omega),?_⟩;obtain⟨x,hx,rfl⟩:=List.mem_map.1 hz;unfold FY;rw[OC _ _ x hnd hx];rfl
  rwa [List.length_map]at this
 rwa [show(rH T B (max ww 0) (max wh 0)).length=nr by omega]
theorem Gh.bd{T:Tr.T}{n:Nat}(M:Gh T n):Fw.cst (sN T) 64 0+o9 (sN T) 64 0<maxLen:=by
 obtain⟨rd,hrd,hru⟩:=M.wf.root;have h0:Tr.Dp T 0 0:=.root hrd;have akV:(Tr.sub T 65 0).length<=64:=by rw[M.aay.2,M.num];exact M.few
 have b1:=aax M.wf M.deep 64 0 0 h0;have b2:=acH M.wf M.deep 64 0 0 h0;rw[show 3^(9-0)=19683 from rfl]at b1;have e65:Tr.sub T (64+1) 0=Tr.sub T 65 0:=rfl;rw[e65]at b1 b2;generalize (Tr.sub T 65 0).length=q at *;generalize Fw.cst (sN T) 64 0=x at *;generalize o9 (sN T) 64 0=y at *;unfold maxLen;omega
theorem Gh.Gi{T:Tr.T}{n:Nat}(M:Gh T n)(ww wh:Int):((tl (sN T) ww wh 64 (FX T ww wh)).map (·.id)).Nodup/\∀z∈(tl (sN T) ww wh 64 (FX T ww wh)).map (·.id),0<=z/\z<4096:=by
 have e:=afr T ww wh 64 (FX T ww wh);rw[show(FX T ww wh).id=0 from rfl]at e;rw[e];refine⟨Jz M.wf M.aay.1,λz hz => ?_⟩;obtain⟨nd,h⟩:=uf M.aay.1 hz;exact M.wf.range z nd h
theorem aaz{w:World}{t n n0:Nat}{L:Lay}{T:Tr.T}(g:Good w t L T n n0)(M:Gh T n)(ww wh:Int) :
  Calls ja0 7 #[t,ww,wh] w λe w'=>(∃b,e=.returned (.map (some b))/\w.heap.size<=b/\GM 3 w' b (Ic T (max ww 0) (max wh 0)).length (ae1 T (max ww 0) (max wh 0)))/\Below w w w' :=
 V6 (sN T) g M (λ_ _=>rfl) ww wh M.bd (M.Gi _ _).1 (M.Gi _ _).2
section
variable {B:Int->Fw.Bx} (hv:∀z,Re.valid (B z).sty=true)
include hv
end
end
open Go.Deep Go.Joins Go.Shelf
open List renaming getElem?_eq_getElem → ja6,mem_cons_of_mem → ja7,length_append → ja8,getElem?_toArray → ja',mem_cons_self → jb1,length_cons → jb4,length_take → jc1
variable {i r g c m k:Nat}{nd:Tr.Nd}{l:List Int}{v:Value}{K:Int->Value}{w W:World}{z:Int}{cur cs:Array Value}
theorem Good.low{t n n0 n1:Nat}{L:Lay}{T:Tr.T}(h:Good W t L T n n0)(hl:n1<=n0):Good W t L T n n1:=⟨h.inv,λb hb=>aK hl (h.own b hb),h.fit⟩
section
variable {w:World} {t n n0:Nat} {L:Lay} {T:Tr.T}
end
theorem Kept.cells{t:Nat}{L:Lay}{T:Tr.T}(h:Kept W t L T v l)(h0:0<l.length):∃g c,v=.slice (some ⟨g,0,none⟩) l.length c/\g<W.heap.size/\∀k,k<l.length->W.cell? ⟨g,k,none⟩=some (.int .i64 (l.getD k 0)):=by
 rcases h.row.cases with⟨_,rfl⟩|⟨g,c,rfl,hr⟩
 . simp at h0
 . obtain⟨b,o,e,hc⟩:=hr.ints.2 h0
   injection e with e;injection e with e1 e2 _;subst e1 e2;exact⟨g,c,rfl,hr.lt,λk hk=>by rw[<-hc k hk,Nat.zero_add]⟩
section
variable {ops:Array Oper} {rest:List Oper} {o:Oper} {a:Act} {w:World} {Q:Exit->Act->World->Prop} {s t:Re.St}
end
def iC(u:Int)(v:Value)(s:Re.St):Array Value:=#[.bool true,.int .i64 u,v]++cells s
def jR:Array Value:=#[.bool false,.int .i64 0,.slice none 0 0]++cells Re.zero
theorem CJ(u:Int)(v:Value)(s:Re.St):(iC u v s).size=58:=by simp[iC,dB]
theorem oK:jR.size=58:=by simp[jR,dB]
theorem Gj(u:Int)(v:Value)(s:Re.St){j:Nat}(h:j<55):(iC u v s)[3+j]? = some (cell s j):=by
 unfold iC;rw[Array.getElem?_append_right bI,show 3+j-(#[true,u,v]:Array Value).size=j by simp,iT s h]
theorem oL(u:Int)(v:Value)(s:Re.St){j:Nat}(h:j<3):(iC u v s)[j]? = (#[Value.bool true,Value.int .i64 u,v]:Array Value)[j]? := by
 unfold iC;rw[Array.getElem?_append_left (by simpa using h)]
theorem D8(u:Int)(W:World):(Instr.build 126 #[(0,.bool true),(1,.int .i64 u)]).run ja0 W=.ok (.agg (iC u (.slice none 0 0) Re.zero)) W:=by kernel_rfl
theorem xF(W:World):(Instr.build 126 #[]).run ja0 W=.ok (.agg jR) W:=by kernel_rfl
theorem OG(A:Option Addr)(n c:Nat)(W:World):(Instr.build 129 #[(0,.slice A n c)]).run ja0 W=.ok (.agg #[.slice A n c]) W:=by kernel_rfl
theorem OH(W:World):(Instr.buildSlice 127 1 #[(0,.agg (iC (-1) (.slice none 0 0) Re.zero))]).run ja0 W=.ok (.slice W 1 1) (W.alloc (.cells (iC (-1) (.slice none 0 0) Re.zero) 126)):=by kernel_rfl
theorem CK(W:World):(Instr.buildSlice 127 1 #[(0,.agg jR)]).run ja0 W=.ok (.slice W 1 1) (W.alloc (.cells jR 126)):=by kernel_rfl
theorem wpList_buildSlice{ops:Array Oper}{rest:List Oper}{o:Oper}{a:Act}{w w':World}{Q:Exit->Act->World->Prop}(hw:Region.wanted o (yielded ops a.tmps)=true)(t:TypeId)(n:Nat)(ps:Array (Nat×Operand))(ho:o.op=.buildSlice t n ps)(qs:Array (Nat×Value))(hq:(ps.map λp=>(p.1,a.eval p.2))=qs)
  (hrun:(Instr.buildSlice t n qs).run ja0 w=.ok v w') (h:wpList ja0 ops Q rest (a.put o.dst v) w'):wpList ja0 ops Q (o::rest) a w :=
 fq hw (by unfold execOp;simp only[ho,hq,Sem.run_bind,hrun,Result.andThen_ok,Sem.run_pure]) h
structure Place(cur:Array Value)(i:Nat)(v:Value)(o:Option Tr.Nd):Prop where
 live:cur[i*58]? = some (.bool o.isSome)
 up:∀nd,o=some nd->cur[i*58+1]? = some (.int .i64 nd.up)
 kids:∀nd,o=some nd->cur[i*58+2]? = some v
 sty:∀nd,o=some nd->∀j,j<55->cur[i*58+3+j]? = some (cell nd.sty j)
structure Doc(W:World)(r g c m:Nat)(K:Int->Value)(T:Tr.T):Prop where
 at_:At W r (.cells #[.slice g m c] 129)
 cur:∃cur:Array Value,At W g (.cells cur 126)/\cur.size=c*58/\∀i:Nat,i<m->Place cur i (K i) (T i)
 cap:m<=c
 lim:c<=maxLen
 row:∀z nd,T z=some nd->KS W (K z) nd.kids
 range:∀z nd,T z=some nd->0<=z/\z<m
 small:m<=4096
def jN(r g:Nat)(K:Int->Value)(T:Tr.T)(b:Nat):Prop:=b=r\/b=g\/∃z nd,T z=some nd/\(K z).ownBlock=some b
section
variable {W W':World} {r g c m:Nat} {K:Int->Value} {T:Tr.T}
theorem Doc.out{M:Nat->Prop}(h:Doc W r g c m K T)(hm:∀b,jN r g K T b->¬ M b)(k:Out M W W'):Doc W' r g c m K T where
 at_:=h.at_.out (hm r (.inl rfl)) k
 cur:=by obtain⟨cur,h1,h2⟩:=h.cur;exact⟨cur,h1.out (hm g (.inr (.inl rfl))) k,h2⟩
 cap:=h.cap
 lim:=h.lim
 row:=λz nd hz=>(h.row z nd hz).out (λb hb=>hm b (.inr (.inr ⟨z,nd,hz,hb⟩))) k
 range:=h.range
 small:=h.small
theorem Doc.after(h:Doc W r g c m K T)(hb:Below W W W'):Doc W' r g c m K T:=h.out (M:=λ_=>False) (λ_ _ q=>q) (Out.of_below hb)
theorem Doc.lt(h:Doc W r g c m K T){b:Nat}(hb:jN r g K T b):b<W.heap.size:=by
 rcases hb with rfl|rfl|⟨z,nd,hz,hb⟩
 . exact h.at_.lt
 . obtain⟨cur,h1,_⟩:=h.cur;exact h1.lt
 . exact(h.row z nd hz).lt hb
theorem Doc.cT(h:Doc W r g c m K T):W.cell? ⟨r,0,none⟩=some (.slice g m c):=by rw[h.at_.cell];rfl
theorem Doc.ahX(h:Doc W r g c m K T)(hi:i<m):W.cell? ⟨g,i*58,none⟩=some (.bool (T i).isSome):=by
 obtain⟨cur,h1,_,h3⟩:=h.cur;rw[h1.cell,(h3 i hi).live]
theorem Doc.cUp(h:Doc W r g c m K T)(hn:T i=some nd):W.cell? ⟨g,i*58+1,none⟩=some (.int .i64 nd.up):=by
 obtain⟨cur,h1,_,h3⟩:=h.cur;rw[h1.cell,(h3 i (by have:=h.range _ _ hn;omega)).up nd hn]
theorem Doc.mM(h:Doc W r g c m K T)(hn:T i=some nd):W.cell? ⟨g,i*58+2,none⟩=some (K i):=by
 obtain⟨cur,h1,_,h3⟩:=h.cur;rw[h1.cell,(h3 i (by have:=h.range _ _ hn;omega)).kids nd hn]
theorem Doc.sty(h:Doc W r g c m K T)(hn:T i=some nd):vN W g (i*58+3) nd.sty:=λj hj=>by
 obtain⟨cur,h1,_,h3⟩:=h.cur;rw[h1.cell,(h3 i (by have:=h.range _ _ hn;omega)).sty nd hn j hj]
theorem Doc.wf(h:Doc W r g c m K T)(hz:T z=some nd):Wf z:=by have:=h.range z nd hz;have:=h.small;rw[jZ];omega
theorem Doc.nat(h:Doc W r g c m K T)(hz:T z=some nd):∃i:Nat,z=i/\i<m:=⟨z.toNat,by have:=h.range z nd hz;omega,by have:=h.range z nd hz;omega⟩
theorem Doc.rg(h:Doc W r g c m K T):r≠g:=λe=>by
 obtain⟨cur,h1,_⟩:=h.cur;have:=h.at_.uniq (e▸h1);injection this with _ e2;exact absurd e2 aN
theorem jv(h:Doc W r g c m K T)(z:Int):Calls ja0 63 #[r,z] W λe w'=>e=.returned (.bool (T z).isSome)/\W=w':=by
 have c0:=h.cT;by_cases h0:0<=z
 . by_cases h1:z<(m:Int)
   . obtain⟨i,rfl⟩:∃i:Nat,z=i:=⟨z.toNat,by omega⟩
     have cl:=h.ahX (i:=i) ak;have him:i<m:=by omega
     clear h;generalize (T (i:Int)).isSome=b at *;go_enter Tryz.func63,Tryz.ntmps63
     go_wp2;exact Zy
   . have hn:(T z).isSome=false:=by
      cases e:T z with
      | none=>rfl
      | some nd=>have:=h.range z nd e;omega
     rw[hn];clear h hn;go_enter Tryz.func63,Tryz.ntmps63
     go_wp2;exact Zy
 . have hn:(T z).isSome=false:=by
    cases e:T z with
    | none=>rfl
    | some nd=>have:=h.range z nd e;omega
   rw[hn];clear h hn c0;go_enter Tryz.func63,Tryz.ntmps63
   go_wp2;exact Zy
theorem mD{T:Tr.T}(h:T z=some nd):(T z).isSome=true:=by rw[h];rfl
theorem mF{T:Tr.T}(h:T z=none):(T z).isSome=false:=by rw[h];rfl
theorem rM(h:Doc W r g c m K T)(hr:∀nd,T 0=some nd->nd.up = -1){d:Nat}(hd:Tr.Dp T z d)(PW:d<=1000):Calls ja0 27 #[r,z] W λe w'=>e=.returned (.int .i64 (d:Int))/\w'=W:=by
 have hm:T (-1)=none:=by
  cases e:T (-1)with
  | none=>rfl
  | some nd=>have:=(h.range _ nd e).1;omega
 have HR:=ah h;have Ij:=ah hr;have HD:=ah hd;clear h hr hd;go_enter Tryz.func27,Tryz.ntmps27
 go_wp2
 go_loop [1,5] (λi p=>(∃(y:Int) (q:Nat) (k:Int),i=.int .i64 y/\p=.int .i64 k/\q<=d/\k=(d:Int)-q-1/\Tr.Dp T y q)\/(i=.int .i64 (-1)/\p=.int .i64 (d:Int))) (λ_ p=>(d-intOf p).toNat)
 case atStart=>exact .inl ⟨z,d,-1,rfl,rfl,aO _,by omega,HD.out⟩
 case round =>
  rcases hrel with⟨y,q,k,rfl,rfl,hmd,hk,hD⟩|⟨rfl,rfl⟩
  . obtain⟨nd,hT⟩:=hD.live
    obtain⟨i,rfl,him⟩:=HR.out.nat hT;have key:=jv HR.out (i:Int);rw[mD hT]at key;have c0:=HR.out.cT;have c1:=HR.out.cUp hT;have hw:IntKind.i64.wrap (k+1)=k+1:=by rw[IntWalk.i64_in _ ak]
    have HK:=ah hk;have RF:=ah hD;clear hk hD
    go_wp2_with (go_at_call 63;(with_reducible refine key.mono ?_);rintro e w' ⟨rfl,rfl⟩)
    go_round
    case rel =>
     have hk:=HK.out;generalize hii:(i:Int)=ii at *;exact Z2p
    case measure=>have hk:=HK.out;simp[intOf];omega
  . have key:=jv HR.out (-1)
    rw[mF hm]at key
    go_wp2_with (go_at_call 63;(with_reducible refine key.mono ?_);rintro e w' ⟨rfl,rfl⟩)
    exact Zy
theorem vC(h:Doc W r g c m K T)(H:Tr.WF T)(z:Int):Calls ja0 27 #[r,z] W λe w'=>e=.returned (.int .i64 (Tr.dep T z))/\w'=W:=by
 cases hT:T z with
 | none =>
   rw[Tr.Mf hT];have key:=jv h z;rw[mF hT]at key;clear h;go_enter Tryz.func27,Tryz.ntmps27
   go_wp2;refine wp_loop_rounds 1 ?_;rw[rounds_succ]
   go_wp2_with (go_at_call 63;(with_reducible refine key.mono ?_);rintro e w' ⟨rfl,rfl⟩)
   exact Zy
 | some nd =>
   obtain⟨d,h1,h2,h3⟩:=H.jo hT;rw[h3];exact rM h (λ_ q=>H.iF q) h2 ak
end
def ny(T:Tr.T)(f:Nat)(x:Int)(l:List Int)(k:Nat):List Int:=x::(l.take k).flatMap (Tr.sub T f)
theorem LD(T:Tr.T)(f:Nat)(x:Int)(h:k<l.length):ny T f x l (k+1)=ny T f x l k++Tr.sub T f (l.getD k 0):=by
 unfold ny;rw[fJ l k h,List.flatMap_append];simp
theorem Rz(T:Tr.T)(f:Nat)(x:Int)(l:List Int)(h:k<=l.length):(ny T f x l k).length<=(ny T f x l l.length).length:=by
 unfold ny;rw[List.take_length];have e:l=l.take k++l.drop k:=(List.take_append_drop k l).symm;have:=congrArg (λz:List Int=>(z.flatMap (Tr.sub T f)).length) e;simp only[List.flatMap_append,ja8]at this;simp only[jb4];omega
theorem rO(f:Nat):∀(x:Int) {W:World} {r g c m:Nat} {K:Int->Value} {T:Tr.T},Doc W r g c m K T->Tr.Fit T f x->(Tr.sub T f x).length<=10000->Calls ja0 26 #[r,x] W λe w'=>(∃v,e=.returned v/\w'.ownsRow W.heap.size 3 1 v (Tr.sub T f x).length ((Tr.sub T f x).map (Value.int .i64)))/\Below W W w':=by
 induction f with
 | zero=>intro x W r g c m K T _ h;exact h.elim
 | succ f ih =>
   intro x W r g c m K T h hfit hlen;obtain⟨nd,hT,hk⟩:=hfit;have key:=jv h x;rw[mD hT]at key;have hsub:=Tr.iB (f:=f) hT;have hall:Hid (Tr.sub T (f+1) x=ny T f x nd.kids nd.kids.length):=ah (by rw[hsub];unfold ny;rw[List.take_length]);have hrow:=h.row _ _ hT;rw[hall.out]at hlen;rw[hall.out];have hle:=λk (hk:k<=nd.kids.length)=>Rz T f x nd.kids hk;have hkl:nd.kids.length<=10000:=by
    have:∀(l:List Int),(∀y∈l,Tr.Fit T f y)->l.length<=(l.flatMap (Tr.sub T f)).length:=λl=>by
     induction l with
     | nil=>intro _;simp
     | cons y l ihl =>
       intro hy;have h1:=ihl λz hz=>hy z (ja7 _ hz);have h2:0<(Tr.sub T f y).length:=by
        cases f with
        | zero=>exact(hy y jb1).elim
        | succ f=>obtain⟨yd,Sc,_⟩:=hy y jb1;rw[Tr.iB Sc];simp
       simp only[List.flatMap_cons,ja8,jb4];omega
    have h1:=this nd.kids hk;unfold ny at hlen;rw[List.take_length,jb4]at hlen;omega
   obtain⟨i,rfl,him⟩:=h.nat hT;have c0:=h.cT;have hB0:Below W W (W.alloc (.cells #[.int .i64 (i:Int)] 3)):=aD aG _;have hown0:(W.alloc (.cells #[.int .i64 (i:Int)] 3)).ownsRow W.heap.size 3 1 (.slice W 1 1) 1 [.int .i64 (i:Int)]:=zO aF rfl ak;have HD:=ah h;have HT:=ah hT;have HLE:=ah hle;have HK:=ah hk;have HLEN:=ah hlen;clear h hrow hsub hall hk hle hlen;generalize hl:nd.kids=l at *;have HL:=ah hl;go_enter Tryz.func26,Tryz.ntmps26
   go_wp2_with (go_at_call 63;(with_reducible refine key.mono ?_);rintro e w' ⟨rfl,rfl⟩)
   generalize hn:l.length=n at *;have HN:=ah hn;clear hl hn c0 key
   go_loopw [5,6] (λlv iv wr=>∃k:Nat,k<=n/\iv=.int .i64 (k:Int)/\wr.ownsRow W.heap.size 3 1 lv (ny T f (i:Int) l k).length ((ny T f (i:Int) l k).map (Value.int .i64))/\Below W W wr) (λ_ iv _=>n-(intOf iv).toNat)
   case atStart=>exact⟨0,by omega,rfl,hown0,hB0⟩
   case round =>
    clear hown0 hB0;obtain⟨k,hk,rfl,hown,hb⟩:=hrel;have hd:=HD.out.after hb;have c0:=hd.cT;have c1:=hd.mM HT.out;have hks:=hd.row _ _ HT.out;obtain⟨A,cc,hs,hI,_⟩:=hks.ints;rw[hs]at c1;rw[HL.out,HN.out]at c1;rw[HL.out]at hI;have HB:=ah hb;have HOWN:=ah hown;have hsz:=hb.size;by_cases hlt:k<n
    . have hltz:(k:Int)<(n:Int):=by omega
      obtain⟨b6,o6,rfl,lb6,Gl⟩:=hI.at_ (k:=k) Wq;have hmem:l.getD k 0∈l:=by
       rw[List.getD,ja6 Wq];exact List.getElem_mem _
      have Wu:=HK.out _ hmem;have hstep:=ah (LD T f (i:Int) (k:=k) Wq (l:=l));have hl1:=HLE.out (k+1) ak;have hl2:=HLEN.out;rw[hstep.out,ja8]at hl1;have pK:=ih (l.getD k 0) hd Wu ak;generalize l.getD k 0=y at *;have hlim:Hid ((ny T f (i:Int) l k).length+(Tr.sub T f y).length<=100000):=ah ak;clear hd hks hs hI hown hb hmem Wu hl1 hl2
      go_wp2_with (first|(go_at_call 26;(with_reducible refine pK.mono ?_);rintro e w5 ⟨⟨v2,rfl,ho2⟩,hb5⟩;obtain⟨A2,c2,rfl,hI2,_,_,ajz⟩:=KS.ints (fD ho2 qh);obtain⟨v',w',hr,ho',hb',hs'⟩:=j4 (w0:=W) (base:=W.heap.size) (cK (M:=λ_=>False) HOWN.out (λ_ _ q=>q) (Out.of_below hb5)) (HB.out.trans (hb5.mono hsz)) (aK hsz hb5.size) hI2 rfl ajz hlim.out;have HR:=ah hr;have HO:=ah ho';have HB':=ah hb';clear hr ho' hb' hs' ho2 hI2 hb5)|(at_builtin;refine wpList_append_run bB _ _ 37 rfl rfl rfl HR.out ?_))
      go_roundw
      case rel=>exact⟨k+1,by omega,by go_num,by rw[hstep.out,ja8];exact HO.out,HB'.out⟩
      case measure=>simp[intOf];omega
    . have hltz:¬ (k:Int)<(n:Int):=by omega
      obtain rfl:k=n:=by omega
      clear hd hks hs hI hown hb;go_wp2
      go_ret
      rw[HN.out];exact⟨⟨_,rfl,HOWN.out⟩,HB.out⟩
theorem Gm{T:Tr.T}(h:Doc W r g c m K T)(H:Tr.WF T):Calls ja0 94 #[r] W λe w'=>e=.returned (.int .i64 ((Tr.ord T).length:Int))/\Below W W w':=by
 have key:=rO 64 0 h H.vT (by have:=H.jm;unfold Tr.ord at this;omega);change Calls _ _ _ _ (λe w'=>(∃v,e=.returned v/\w'.ownsRow _ _ 1 v (Tr.ord T).length ((Tr.ord T).map (Value.int .i64)))/\_)at key;generalize Tr.ord T=l at *;clear h;go_enter Tryz.func94,Tryz.ntmps94
 go_wp2_with (go_at_call 26;(with_reducible refine key.mono ?_);rintro e w1 ⟨⟨v,rfl,ho⟩,hb⟩;obtain⟨A,c1,rfl⟩:=fK ho)
 go_ret
 exact⟨rfl,hb⟩
theorem vD(h:KS w v l)(hl:l.length<=10000)(x:Int):Calls ja0 88 #[v,x] w λe w'=>(∃v',e=.returned v'/\w'.ownsRow w.heap.size 3 1 v' (Tr.wo l x).length ((Tr.wo l x).map (Value.int .i64)))/\Below w w w':=by
 obtain⟨A,c,rfl,hI,_⟩:=h.ints;have HI:=ah hI;clear h hI;generalize hn:l.length=n at *;have HN:=ah hn;clear hn;go_enter Tryz.func88,Tryz.ntmps88
 go_wp2
 go_loopw [5,6] (λov iv wr=>∃k:Nat,k<=n/\iv=.int .i64 (k:Int)/\wr.ownsRow w.heap.size 3 1 ov (Tr.wo (l.take k) x).length ((Tr.wo (l.take k) x).map (Value.int .i64))/\Below w w wr) (λ_ iv _=>n-(intOf iv).toNat)
 case atStart=>exact⟨0,by omega,rfl,World.ownsRow_nil _ _ _ _,Below.refl _ _⟩
 case round =>
  obtain⟨k,hk,rfl,hown,hb⟩:=hrel;by_cases hlt:k<n
  . have hltz:(k:Int)<(n:Int):=by omega
    obtain⟨b6,o6,rfl,lb6,Gl⟩:=(HI.out.after hb).at_ (k:=k) Wq
    have hstep:Hid (Tr.wo (l.take (k+1)) x=Tr.wo (l.take k) x++if l.getD k 0=x then []else [l.getD k 0]):=ah (by
     rw[fJ l k Wq];unfold Tr.wo;rw[List.filter_append];congr 1;generalize l.getD k 0=y;by_cases e:y=x
     . rw[if_pos e];simp[e]
     . rw[if_neg e];simp[e])
    have GU:(Tr.wo (l.take k) x).length<=10000:=aK (List.length_filter_le _ _) (by rw[jc1];omega);generalize l.getD k 0=y at *;have HB:=ah hb;have HOWN:=ah hown;by_cases hyx:y=x
    . rw[if_pos hyx,List.append_nil]at hstep
      subst hyx;clear hown hb;go_wp2
      go_roundw
      case rel=>exact⟨k+1,by omega,by go_num,by rw[hstep.out];exact HOWN.out,HB.out⟩
      case measure=>simp[intOf];omega
    . rw[if_neg hyx]at hstep
      have akW:(y==x)=false:=by simpa using hyx
      have hll:Hid ((Tr.wo (l.take (k+1)) x).length=(Tr.wo (l.take k) x).length+1):=ah (by rw[hstep.out];simp);obtain⟨v',w',hr,ho',hb',hs'⟩:=Ez y hown hb hb.size GU;have HR:=ah hr;have HO:=ah ho';have HB':=ah hb';clear hown hb hr ho' hb' hs'
      go_wp2_with (at_builtin;refine wpList_append_run bB _ _ 37 rfl rfl rfl HR.out ?_)
      go_roundw
      case rel=>exact⟨k+1,by omega,by go_num,by rw[hll.out,hstep.out];exact HO.out,HB'.out⟩
      case measure=>simp[intOf];omega
  . have hltz:¬ (k:Int)<(n:Int):=by omega
    obtain rfl:k=n:=by omega
    rw[List.take_of_length_le (by rw[HN.out];exact aO _)]at hown;have HB:=ah hb;have HOWN:=ah hown;clear hown hb;go_wp2
    go_ret
    exact⟨⟨_,rfl,HOWN.out⟩,HB.out⟩
theorem Ih(h:KS w v l)(hl:l.length<=10000)(hi:i<=l.length)(x:Int):Calls ja0 92 #[v,.int .i64 (i:Int),x] w λe w'=>(∃v',e=.returned v'/\w'.ownsRow w.heap.size 3 1 v' (Tr.wi l i x).length ((Tr.wi l i x).map (Value.int .i64)))/\Below w w w':=by
 obtain⟨A,c,rfl,hI,hlc,_,hcn⟩:=h.ints;have F1:=ah (EC A l.length c i ak);have F2:=ah (qA A l.length c i hi);have U1:=hI.upto i c hi hlc;have U2:=λW (hb:Below w w W)=>(hI.after hb).from_ i c hi hlc
 have N1:(if c=0 then A else A.map (·.add (0*1)))=none->c=0:=λh=>by
  split at h
  . assumption
  . cases A with
    | none=>exact hcn rfl
    | some _=>cases h
 have N2:(if c=i then A else A.map (·.add (i*1)))=none->c-i=0:=λh=>by
  split at h
  . omega
  . cases A with
    | none=>have:=hcn rfl;omega
    | some _=>cases h
 generalize (if c=0 then A else A.map (·.add (0*1)))=B1 at *;generalize (if c=i then A else A.map (·.add (i*1)))=B2 at *;obtain⟨v1,w1,hr1,ho1,hb1,hs1⟩:=j4 (w0:=w) (base:=w.heap.size) (xs:=[]) (World.ownsRow_nil _ _ _ _) aG aF U1 (m:=i) (by rw[jc1];omega) N1 ak;obtain⟨v2,w2,hr2,ho2,hb2,hs2⟩:=Ez x ho1 hb1 hs1 ak;obtain⟨v3,w3,hr3,ho3,hb3,hs3⟩:=j4 ho2 hb2 hs2 (U2 w2 hb2) (m:=l.length-i) (by rw[List.length_drop]) N2 ak;have e:(([]++l.take i)++[x])++l.drop i=Tr.wi l i x:=by unfold Tr.wi;simp
 have e2:0+i+1+(l.length-i)=(Tr.wi l i x).length:=by rw[Tr.nI];omega
 rw[e,e2]at ho3;have HR1:=ah hr1;have HR2:=ah hr2;have HR3:=ah hr3;have HO:=ah ho3;have HB:=ah hb3;clear hr1 hr2 hr3 ho1 ho2 ho3 hb1 hb2 hb3 hs1 hs2 hs3 U1 U2 N1 N2 h hI hcn e e2 hlc;generalize Tr.wi l i x=l2 at *;generalize l.length=n at *;go_enter Tryz.func92,Tryz.ntmps92
 go_upto_region 3 with(first|(refine rX rfl bB (F1.out _) ?_)|(at_builtin;refine wpList_append_run bB _ _ 37 rfl rfl rfl HR1.out ?_))
 go_upto_region 4 with(at_builtin;refine wpList_append_run bB _ _ 37 rfl rfl rfl HR2.out ?_)
 go_wp2_with (first|(refine rX rfl bB (F2.out _) ?_)|(at_builtin;refine wpList_append_run bB _ _ 37 rfl rfl rfl HR3.out ?_))
 go_ret
 exact⟨⟨_,rfl,HO.out⟩,HB.out⟩
def nA(cur:Array Value)(o:Nat)(cs:Array Value):Array Value:=(cur.toList.take o++cs.toList++cur.toList.drop (o+cs.size)).toArray
theorem vE{o:Nat}(h:o+cs.size<=cur.size):(nA cur o cs).size=cur.size:=by
 unfold nA;simp only[List.size_toArray,ja8,jc1,List.length_drop,Array.length_toList];omega
theorem zl{o:Nat}(h:o+cs.size<=cur.size){j:Nat}(hj:j<cs.size):(nA cur o cs)[o+j]? = cs[j]? := by
 unfold nA;have ht:(cur.toList.take o).length=o:=by rw[jc1,Array.length_toList];omega
 rw[ja',List.append_assoc,List.getElem?_append_right ak,ht,show o+j-o=j by omega,List.getElem?_append_left (by rw[Array.length_toList];exact hj),Array.getElem?_toList]
theorem xG{o:Nat}(h:o+cs.size<=cur.size)(hk:k<o\/o+cs.size<=k):(nA cur o cs)[k]? = cur[k]? := by
 unfold nA;have ht:(cur.toList.take o).length=o:=by rw[jc1,Array.length_toList];omega
 rw[ja',List.append_assoc];rcases hk with hk|hk
 . rw[List.getElem?_append_left ak,List.getElem?_take,if_pos hk,Array.getElem?_toList]
 . rw[List.getElem?_append_right ak,ht,List.getElem?_append_right (by rw[Array.length_toList];omega),Array.length_toList,List.getElem?_drop,show o+cs.size+(k-o-cs.size)=k by omega,Array.getElem?_toList]
theorem RA(u:Int)(A:Option Addr)(n c:Nat)(s:Re.St):(iC u (.slice A n c) s).all Value.oneCell'=true:=by
 unfold iC;rw[Array.all_append,cells_one,Bool.and_true];simp[Value.oneCell']
theorem JA:jR.all Value.oneCell'=true:=by
 unfold jR;rw[Array.all_append,cells_one,Bool.and_true];simp[Value.oneCell']
theorem zm{g o:Nat}{cur cs:Array Value}{T t:TypeId}(h:At W g (.cells cur T))(hz:(sizeOf t).run ja0 W=.ok cs.size W)(hone:cs.all Value.oneCell'=true)(hfit:o+cs.size<=cur.size):(Instr.storeAt t (.pointer (some ⟨g,o,none⟩)) (.agg cs)).run ja0 W=.ok () (W.setRow g (nA cur o cs)):=by
 have hst:=run_storeCells_at ja0 g o T cs.toList 0 cur W h (by rw[Array.length_toList];omega) (λx hx=>by
  have:=Array.all_eq_true_iff_forall_mem.1 hone x (by simpa using hx);exact this)
 rw[Nat.add_zero,Array.length_toList]at hst;have hc:(Value.agg cs).cells=cs:=rfl;simp only[Instr.storeAt,Instr.sureAddr,storeVar,Sem.run_bind,Sem.run_pure,Result.andThen_ok,hz,hc,ne_eq,not_true_eq_false,if_false,hst];rfl
theorem Place.keep{cur cur':Array Value}{i j:Nat}{o:Option Tr.Nd}(h:Place cur j v o)(hag:∀k,(k<i*58\/i*58+58<=k)->cur'[k]? = cur[k]?)(hne:j≠i):Place cur' j v o :=
 ⟨by rw[hag _ ak];exact h.live,λnd hn=>by rw[hag _ ak];exact h.up nd hn,λnd hn=>by rw[hag _ ak];exact h.kids nd hn,λnd hn q hq=>by rw[hag _ ak];exact h.sty nd hn q hq⟩
section
variable {W W':World} {r g c m:Nat} {K K':Int->Value} {T T':Tr.T}
theorem Doc.gb(h:Doc W r g c m K T)(hv:KS W v l):v.ownBlock≠some g:=λe=>by
 obtain⟨cur,h1,_⟩:=h.cur;obtain⟨ajA,h2⟩:=hv.rowAt e;have:=h1.uniq h2;injection this with _ e2;exact absurd e2 aN
theorem Doc.put(h:Doc W r g c m K T)(hi:i<m){cur cur':Array Value}(hcur:At W g (.cells cur 126))(hA:At W' g (.cells cur' 126))(hsz:cur'.size=cur.size)(hO:Out (λb=>b=g) W W')
  (hag:∀k,(k<i*58\/i*58+58<=k)->cur'[k]? = cur[k]?) (hP:Place cur' i (K' i) (T' i)) (hT:∀z,z≠(i:Int)->T' z=T z/\K' z=K z) (hrow:∀nd,T' i=some nd->KS W' (K' i) nd.kids):Doc W' r g c m K' T' where
 at_:=h.at_.out (λe=>h.rg e) hO
 cur:=by
  obtain⟨akX,h1,h2,h3⟩:=h.cur;have e:=h1.uniq hcur;injection e with e;subst e;refine⟨cur',hA,by rw[hsz,h2],λj hj => ?_⟩;by_cases e:j=i
  . subst e;exact hP
  . obtain⟨e1,e2⟩:=hT (j:Int) ak
    rw[e1,e2];exact(h3 j hj).keep hag e
 cap:=h.cap
 lim:=h.lim
 row:=λz nd hz=>by
  by_cases e:z=(i:Int)
  . subst e;exact hrow nd hz
  . obtain⟨e1,e2⟩:=hT z e
    rw[e1]at hz;rw[e2];exact(h.row z nd hz).out (λb hb (q:b=g)=>h.gb (h.row z nd hz) (by rw[hb,q])) hO
 range:=λz nd hz=>by
  by_cases e:z=(i:Int)
  . omega
  . rw[(hT z e).1]at hz;exact h.range z nd hz
 small:=h.small
def DG(r g:Nat)(K:Int->Value)(T:Tr.T)(W W':World)(g':Nat)(K':Int->Value)(T':Tr.T):Prop:=Out (jN r g K T) W W'/\∀b,jN r g' K' T' b->jN r g K T b\/W.heap.size<=b
theorem DG.refl(r g:Nat)(K:Int->Value)(T:Tr.T)(W:World):DG r g K T W W g K T:=⟨Out.refl _ _,λ_ h => .inl h⟩
theorem DG.of_below(h:Below W W W'):DG r g K T W W' g K T:=⟨Out.of_below h,λ_ h => .inl h⟩
theorem DG.trans{W'':World}{g' g'':Nat}{K'':Int->Value}{T'':Tr.T}(h:DG r g K T W W' g' K' T')(k:DG r g' K' T' W' W'' g'' K'' T''):DG r g K T W W'' g'' K'' T'':=by
 have hs:=h.1.size;refine⟨⟨h.1.1.trans k.1.1,λb hb hn => ?_⟩,λb hb => ?_⟩
 . rw[k.1.2 b ak (λq=>(h.2 b q).elim hn λq2=>by omega),h.1.2 b hb hn]
 . rcases k.2 b hb with h1|h1
   . exact h.2 b h1
   . exact .inr ak
theorem Doc.Xz(h:Doc W r g c m K T)(hn:T i=some nd)(u:Int):Doc (W.setCell ⟨g,i*58+1,none⟩ (.int .i64 u)) r g c m K (Tr.set T i { nd with up:=u })/\DG r g K T W (W.setCell ⟨g,i*58+1,none⟩ (.int .i64 u)) g K (Tr.set T i { nd with up:=u }):=by
 obtain⟨cur,h1,h2,h3⟩:=h.cur;have him:i<m:=by have:=h.range _ _ hn;omega
 have hO:Out (λb=>b=g) W (W.setCell ⟨g,i*58+1,none⟩ (.int .i64 u)):=(Out.refl _ _).set (M:=λb=>b=g) rfl _ _;have hcap:=h.cap;have P:=h3 i him;have hne:∀k,k≠i*58+1->(cur.setIfInBounds (i*58+1) (.int .i64 u))[k]? = cur[k]? := λk hk=>Array.getElem?_setIfInBounds_ne ak;refine⟨h.put him h1 (h1.set _ _) bI hO (λk hk=>hne k ak) ?_ (λz hz=>⟨Tr.aT _ _ hz,rfl⟩) (λnd' hn' => ?_),hO.mono λb _ q => .inr (.inl q),λb hb => .inl ?_⟩
 . rw[Tr.aX]
   rw[hn]at P;refine⟨by rw[hne _ ak];exact P.live,λnd' e => ?_,λnd' e => ?_,λnd' e j hj => ?_⟩
   . cases e
     rw[Array.getElem?_setIfInBounds_self_of_lt ak]
   . cases e;rw[hne _ ak];exact P.kids nd rfl
   . cases e;rw[hne _ ak];exact P.sty nd rfl j hj
 . rw[Tr.aX]at hn';cases hn'
   exact(h.row _ _ hn).out (λb hb (q:b=g)=>h.gb (h.row _ _ hn) (by rw[hb,q])) hO
 . exact Z2h
theorem Doc.uw(h:Doc W r g c m K T)(hn:T i=some nd)(hv:KS W v l):Doc (W.setCell ⟨g,i*58+2,none⟩ v) r g c m (λz=>if z=(i:Int)then v else K z) (Tr.set T i { nd with kids:=l }):=by
 obtain⟨cur,h1,h2,h3⟩:=h.cur;have him:i<m:=by have:=h.range _ _ hn;omega
 have hO:Out (λb=>b=g) W (W.setCell ⟨g,i*58+2,none⟩ v):=(Out.refl _ _).set (M:=λb=>b=g) rfl _ _;have hcap:=h.cap;have P:=h3 i him;have hne:∀k,k≠i*58+2->(cur.setIfInBounds (i*58+2) v)[k]? = cur[k]? := λk hk=>Array.getElem?_setIfInBounds_ne ak;refine h.put him h1 (h1.set _ _) bI hO (λk hk=>hne k ak) ?_ (λz hz=>⟨Tr.aT _ _ hz,if_neg hz⟩) (λnd' hn' => ?_)
 . rw[Tr.aX]
   simp only[if_true];rw[hn]at P;refine⟨by rw[hne _ ak];exact P.live,λnd' e => ?_,λnd' e => ?_,λnd' e j hj => ?_⟩
   . cases e;rw[hne _ ak];exact P.up nd rfl
   . cases e
     rw[Array.getElem?_setIfInBounds_self_of_lt ak]
   . cases e;rw[hne _ ak];exact P.sty nd rfl j hj
 . rw[Tr.aX]at hn';cases hn'
   simp only[if_true];exact hv.out (λb hb (q:b=g)=>h.gb hv (by rw[hb,q])) hO
theorem qX(hn:T z=some nd){b:Nat}(hb:jN r g (λy=>if y=z then v else K y) (Tr.set T z { nd with kids:=l }) b):jN r g K T b\/v.ownBlock=some b:=by
 rcases hb with e|e|⟨y,yd,hy,e⟩
 . exact .inl (.inl e)
 . exact .inl (.inr (.inl e))
 . by_cases e2:y=z
   . subst e2
     simp only[if_true]at e;exact .inr e
   . exact Z2x
theorem Doc.PV(h:Doc W r g c m K T)(hn:T i=some nd)(s:Re.St):∃W',(Instr.storeAt 59 (.pointer (some ⟨g,i*58+3,none⟩)) (.agg (cells s))).run ja0 W=.ok () W'/\Out (λb=>b=g) W W'/\Doc W' r g c m K (Tr.set T i { nd with sty:=s })/\DG r g K T W W' g K (Tr.set T i { nd with sty:=s }):=by
 obtain⟨cur,h1,h2,h3⟩:=h.cur;have him:i<m:=by have:=h.range _ _ hn;omega
 have hcap:=h.cap;have hfit:i*58+3+(cells s).size<=cur.size:=by rw[dB,h2];omega
 have hst:=zm h1 (t:=59) (cs:=cells s) (o:=i*58+3) (by rw[dB];kernel_rfl) (cells_one s) hfit;have hO:Out (λb=>b=g) W (W.setRow g (nA cur (i*58+3) (cells s))):=(Out.refl _ _).setRow (M:=λb=>b=g) rfl _;have P:=h3 i him;have hne:∀k,(k<i*58+3\/i*58+58<=k)->(nA cur (i*58+3) (cells s))[k]? = cur[k]? := λk hk=>xG hfit Z4r;refine⟨_,hst,hO,h.put him h1 (h1.setRow _) (vE hfit) hO (λk hk=>hne k ak) ?_ (λz hz=>⟨Tr.aT _ _ hz,rfl⟩) (λnd' hn' => ?_),hO.mono λb _ q => .inr (.inl q),λb hb => .inl ?_⟩
 . rw[Tr.aX]
   rw[hn]at P;refine⟨by rw[hne _ ak];exact P.live,λnd' e => ?_,λnd' e => ?_,λnd' e j hj => ?_⟩
   . cases e;rw[hne _ ak];exact P.up nd rfl
   . cases e;rw[hne _ ak];exact P.kids nd rfl
   . cases e
     rw[zl hfit (by rw[dB];exact hj),iT s hj]
 . rw[Tr.aX]at hn';cases hn'
   exact(h.row _ _ hn).out (λb hb (q:b=g)=>h.gb (h.row _ _ hn) (by rw[hb,q])) hO
 . exact Z2h
theorem Doc.adq(h:Doc W r g c m K T)(him:i<m)(hn:T i=none)(u:Int):∃W',(Instr.storeAt 126 (.pointer (some ⟨g,i*58,none⟩)) (.agg (iC u (.slice none 0 0) Re.zero))).run ja0 W=.ok () W'/\Out (λb=>b=g) W W'/\Doc W' r g c m (λz=>if z=(i:Int)then .slice none 0 0 else K z) (Tr.set T i ⟨u,[],Re.zero⟩)/\DG r g K T W W' g (λz=>if z=(i:Int)then .slice none 0 0 else K z) (Tr.set T i ⟨u,[],Re.zero⟩):=by
 obtain⟨cur,h1,h2,h3⟩:=h.cur;have hcap:=h.cap;have hsz:=CJ u (.slice none 0 0) Re.zero;have hfit:i*58+(iC u (.slice none 0 0) Re.zero).size<=cur.size:=by rw[hsz,h2];omega
 have hst:=zm h1 (t:=126) (cs:=iC u (.slice none 0 0) Re.zero) (o:=i*58) (by rw[hsz];kernel_rfl) (RA _ _ _ _ _) hfit;have hO:Out (λb=>b=g) W (W.setRow g (nA cur (i*58) (iC u (.slice none 0 0) Re.zero))):=(Out.refl _ _).setRow (M:=λb=>b=g) rfl _;have hin:∀j,j<58->(nA cur (i*58) (iC u (.slice none 0 0) Re.zero))[i*58+j]? = (iC u (.slice none 0 0) Re.zero)[j]? := λj hj=>zl hfit (by rw[hsz];exact hj);refine⟨_,hst,hO,h.put him h1 (h1.setRow _) (vE hfit) hO (λk hk=>xG hfit (by rw[hsz];omega)) ?_ (λz hz=>⟨Tr.aT _ _ hz,if_neg hz⟩) (λnd' hn' => ?_),hO.mono λb _ q => .inr (.inl q),λb hb => ?_⟩
 . rw[Tr.aX]
   simp only[if_true];refine⟨?_,λnd' e => ?_,λnd' e => ?_,λnd' e j hj => ?_⟩
   . have:=hin 0 ak;rw[Nat.add_zero,oL _ _ _ ak]at this;exact this
   . cases e;have:=hin 1 ak;rw[oL _ _ _ ak]at this;exact this
   . cases e;have:=hin 2 ak;rw[oL _ _ _ ak]at this;exact this
   . cases e;have:=hin (3+j) ak;rw[Gj _ _ _ hj]at this;rw[Nat.add_assoc];exact this
 . rw[Tr.aX]at hn';cases hn'
   simp only[if_true];exact KS.nil _
 . rcases hb with e|e|⟨z,zd,hz,e⟩
   . exact .inl (.inl e)
   . exact .inl (.inr (.inl e))
   . by_cases e2:z=(i:Int)
     . subst e2;simp only[if_true]at e;cases e
     . rw[Tr.aT _ _ e2]at hz
       simp only[if_neg e2]at e;exact .inl (.inr (.inr ⟨z,zd,hz,e⟩))
theorem Doc.aaA(h:Doc W r g c m K T)(him:i<m):∃W',(Instr.storeAt 126 (.pointer (some ⟨g,i*58,none⟩)) (.agg jR)).run ja0 W=.ok () W'/\Out (λb=>b=g) W W'/\Doc W' r g c m K (Tr.del T [(i:Int)])/\DG r g K T W W' g K (Tr.del T [(i:Int)]):=by
 obtain⟨cur,h1,h2,h3⟩:=h.cur;have hcap:=h.cap;have hfit:i*58+jR.size<=cur.size:=by rw[oK,h2];omega
 have hst:=zm h1 (t:=126) (cs:=jR) (o:=i*58) (by rw[oK];kernel_rfl) JA hfit;have hO:Out (λb=>b=g) W (W.setRow g (nA cur (i*58) jR)):=(Out.refl _ _).setRow (M:=λb=>b=g) rfl _;have hdel:Tr.del T [(i:Int)] i=none:=by simp[Tr.del]
 have hdo:∀z,z≠(i:Int)->Tr.del T [(i:Int)] z=T z:=λz hz=>by simp[Tr.del,hz]
 refine⟨_,hst,hO,h.put him h1 (h1.setRow _) (vE hfit) hO (λk hk=>xG hfit (by rw[oK];omega)) ?_ (λz hz=>⟨hdo z hz,rfl⟩) (λnd' hn' => ?_),hO.mono λb _ q => .inr (.inl q),λb hb => ?_⟩
 . rw[hdel]
   refine⟨?_,λnd' e=>(by cases e),λnd' e=>(by cases e),λnd' e=>(by cases e)⟩;have:=zl hfit (j:=0) (by rw[oK];omega);rw[Nat.add_zero]at this;rw[this];rfl
 . rw[hdel]at hn';cases hn'
 . rcases hb with e|e|⟨z,zd,hz,e⟩
   . exact .inl (.inl e)
   . exact .inl (.inr (.inl e))
   . by_cases e2:z=(i:Int)
     . subst e2;rw[hdel]at hz;cases hz
     . rw[hdo z e2]at hz;exact .inl (.inr (.inr ⟨z,zd,hz,e⟩))
end
theorem aaB:(Tryz.prog.info? 126).map (λi=>(i.zero,i.size,i.bytes))=some (some (.agg jR),58,472):=by kernel_rfl
section
variable {W W':World} {r g c m:Nat} {K K':Int->Value} {T T':Tr.T}
theorem Doc.grow(h:Doc W r g c m K T)(hm:m+1<=4096):∃g' c' w1,(Builtin.append_ #[127,127] 127 #[.slice g m c,.slice W 1 1]).run ja0 (W.alloc (.cells jR 126))=.ok (.slice (some ⟨g',0,none⟩) (m+1) c') w1 /\
  At w1 r (.cells #[.slice g m c] 129)/\Doc (w1.setCell ⟨r,0,none⟩ (.slice g' (m+1) c')) r g' c' (m+1) K T/\DG r g K T W (w1.setCell ⟨r,0,none⟩ (.slice g' (m+1) c')) g' K T:=by
 obtain⟨i0,hi0,hz0,hz1,hz2⟩:=info_parts aaB;obtain⟨cur,h1,h2,h3⟩:=h.cur;have hcap:=h.cap;have hlim:=h.lim;have hown:W.ownsRow 0 126 58 (.slice g m c) m (cur.toList.take (m*58)):=by
  refine⟨by rw[jc1,Array.length_toList];omega,.inr ⟨g,c,cur,rfl,gF _,h1,hcap,hlim,h2,rfl⟩⟩
 have hA:=At.new W (.cells jR 126)
 obtain⟨v',w1,hr,ho,hg,_,hblk⟩:=run_append_own_at (P:=ja0) (w:=W.alloc (.cells jR 126)) 0 127 127 126 i0 _ 58 472 Tryz.underlying127 hi0 hz0 hz1 hz2 oK aN _ m _ (hown.alloc _) ⟨W,0,none⟩ 1 1 jR.toList (by rw[Array.length_toList,oK])
  (by intro j u hj
      rw[addr_add,Nat.zero_add,hA.cell,<-hj,Array.getElem?_toList])
  (λx hx=>Array.all_eq_true_iff_forall_mem.1 JA x (by simpa using hx)) RN ak bI
 rcases ho.2 with⟨_,h0⟩|⟨g',c',cur',rfl,_,hg',hc1,hc2,hc3,hc4⟩
 . omega
 have hs1:(W.alloc (.cells jR 126)).heap.size=W.heap.size+1:=by simp
 have iR:Out (λb=>b=g) (W.alloc (.cells jR 126)) w1:=Out.grown hg (λb e=>by injection e with e;exact e.symm);have hO0:Out (λb=>b=g) W (W.alloc (.cells jR 126)):=Out.of_below (aD aG _);have hO:Out (λb=>b=g) W w1:=hO0.trans iR;have hrA:=h.at_.out (λe=>h.rg e) hO;have hgn:g'=g\/W.heap.size<=g':=by
  rcases hblk with e|e
  . injection e with e;exact .inl e
  . injection e with e;have e':g'=(W.alloc (.cells jR 126)).heap.size:=e;exact .inr ak
 have hgr:g'≠r:=by
  rcases hgn with e|e
  . rw[e];exact λq=>h.rg q.symm
  . have:=h.lt (.inl rfl);omega
 have hget:∀k,k<(m+1)*58->cur'[k]? = (cur.toList.take (m*58)++jR.toList)[k]? := λk hk=>by
  rw[<-hc4,List.getElem?_take,if_pos hk,Array.getElem?_toList]
 have htl:(cur.toList.take (m*58)).length=m*58:=by rw[jc1,Array.length_toList];omega
 have hold:∀k,k<m*58->cur'[k]? = cur[k]? := λk hk=>by
  rw[hget k ak,List.getElem?_append_left ak,List.getElem?_take,if_pos hk,Array.getElem?_toList]
 have hO2:Out (λb=>b=r) w1 (w1.setCell ⟨r,0,none⟩ (.slice g' (m+1) c')):=(Out.refl _ _).set (M:=λb=>b=r) rfl _ _;have hO3:Out (jN r g K T) W (w1.setCell ⟨r,0,none⟩ (.slice g' (m+1) c')):=(hO.mono λb _ q => .inr (.inl q)).trans (hO2.mono λb _ q => .inl q);refine⟨g',c',w1,hr,hrA,⟨hrA.set 0 _,⟨cur',(show At w1 g' _ from hg').off hgr 0 _,hc3,λi hi => ?_⟩,hc1,hc2,λz nd hz => ?_,λz nd hz => ?_,hm⟩,hO3,λb hb => ?_⟩
 . by_cases e:i=m
   . subst e
     have hn:T (i:Int)=none:=by
      cases e:T (i:Int)with
      | none=>rfl
      | some nd=>have:=h.range _ _ e;omega
     rw[hn];refine⟨?_,λnd' e=>(by cases e),λnd' e=>(by cases e),λnd' e=>(by cases e)⟩;rw[hget _ ak,List.getElem?_append_right ak,htl,Nat.sub_self];rfl
   . have P:=h3 i ak
     exact⟨by rw[hold _ ak];exact P.live,λnd hn=>by rw[hold _ ak];exact P.up nd hn,λnd hn=>by rw[hold _ ak];exact P.kids nd hn,λnd hn q hq=>by rw[hold _ ak];exact P.sty nd hn q hq⟩
 . have hk:=(h.row z nd hz).out (λb hb (q:b=g)=>h.gb (h.row z nd hz) (by rw[hb,q])) hO
   refine hk.out (λb hb (q:b=r) => ?_) hO2;obtain⟨ajA,hc⟩:=hk.rowAt (hb.trans (congrArg some q));have:=hrA.uniq hc;injection this with _ e2;exact absurd e2 aN
 . have:=h.range z nd hz;omega
 . rcases hb with e|e|hb
   . exact .inl (.inl e)
   . rcases hgn with q|q
     . exact .inl (.inr (.inl (e.trans q)))
     . exact .inr ak
   . exact .inl (.inr (.inr hb))
end
theorem aaC(w:World):Calls ja0 23 #[] w λe w'=>(∃r,e=.returned (.pointer (some ⟨r,0,none⟩))/\∃g c K,Doc w' r g c 1 K T0/\∀b,jN r g K T0 b->w.heap.size<=b)/\Below w w w':=by
 have hA1:At (w.alloc (.cells (iC (-1) (.slice none 0 0) Re.zero) 126)) w.heap.size (.cells (iC (-1) (.slice none 0 0) Re.zero) 126):=At.new _ _;have hB1:Below w w (w.alloc (.cells (iC (-1) (.slice none 0 0) Re.zero) 126)):=aD aG _;have hs1:(w.alloc (.cells (iC (-1) (.slice none 0 0) Re.zero) 126)).heap.size=w.heap.size+1:=by simp
 have hB2:=aD hB1 (.cells #[.slice w 1 1] 129)
 have some_:∀z nd,T0 z=some nd->z=0/\nd=⟨-1,[],Re.zero⟩:=λz nd hz=>by
  unfold T0 at hz;split at hz
  . injection hz with hz;exact⟨by assumption,hz.symm⟩
  . cases hz
 have hsz:=CJ (-1) (.slice none 0 0) Re.zero
 have hD:Hid (Doc ((w.alloc (.cells (iC (-1) (.slice none 0 0) Re.zero) 126)).alloc (.cells #[.slice w 1 1] 129)) (w.heap.size+1) w.heap.size 1 1 (λ_ => .slice none 0 0) T0):=ah (by
  refine⟨At.new' _ bI,⟨_,hA1.alloc _,by rw[hsz],λi hi => ?_⟩,aO _,by simp[maxLen],λz nd hz => ?_,λz nd hz => ?_,by omega⟩
  . obtain rfl:i=0:=by omega
    have e0:T0 ((0:Nat):Int)=some ⟨-1,[],Re.zero⟩:=rfl;rw[e0];refine⟨?_,λnd e => ?_,λnd e => ?_,λnd e j hj => ?_⟩
    . rw[oL _ _ _ ak];rfl
    . cases e;rw[oL _ _ _ ak];rfl
    . cases e;rw[oL _ _ _ ak];rfl
    . cases e;rw[show 0*58+3+j=3+j by omega,Gj _ _ _ hj]
  . rw[(some_ z nd hz).2];exact KS.nil _
  . rw[(some_ z nd hz).1];omega)
 have hBB:=ah hB2;clear hA1 hB1 hB2;go_enter Tryz.func23,Tryz.ntmps23
 go_wp2_with (first|(refine wpList_build bB 126 _ rfl #[(0,.bool true),(1,.int .i64 (-1))] Z40 (D8 _ _) ?_)|(refine wpList_buildSlice bB 127 1 _ rfl #[(0,.agg (iC (-1) (.slice none 0 0) Re.zero))] Z40 (OH _) ?_)|(refine wpList_build bB 129 _ rfl #[(0,.slice w 1 1)] Z40 (OG _ _ _ _) ?_))
 go_ret
 refine⟨⟨w.heap.size+1,rfl,_,_,_,hD.out,λb hb => ?_⟩,hBB.out⟩;rcases hb with rfl|rfl|⟨z,nd,hz,e⟩
 . omega
 . exact aO _
 . cases e
theorem aaD{T:Tr.T}(h:Doc w r g c m K T)(z:Int)(s:Re.St):Calls ja0 61 #[r,z,.agg (cells s)] w λe w'=>e=.returned (.int .i64 (tF T z s))/\Doc w' r g c m K (lI T z s)/\DG r g K T w w' g K (lI T z s):=by
 have hB:Below w w (w.alloc (.cells (cells s) 59)):=aD aG _;have h1:=h.after hB;have hA:At (w.alloc (.cells (cells s) 59)) w.heap.size (.cells (cells s) 59):=At.new _ _;have hnb:¬ jN r g K T w.heap.size:=λq=>absurd (h.lt q) ak;generalize hW:w.alloc (.cells (cells s) 59)=w1 at *;have key:=jv h1 z;cases hT:T z with
 | none =>
   have hE:tF T z s=2:=by unfold tF;rw[hT];rfl
   have hS:lI T z s=T:=by unfold lI;rw[hE];rfl
   rw[mF hT]at key;rw[hE,hS];have HR:=ah h1;have HB:=ah hB;clear h h1 hB hE hS;go_enter Tryz.func61,Tryz.ntmps61
   go_wp2_with (go_at_call 63;(with_reducible refine key.mono ?_);rintro e w' ⟨rfl,rfl⟩)
   go_ret
   exact⟨rfl,HR.out,DG.of_below HB.out⟩
 | some nd =>
   rw[mD hT]at key;have key2:=GX s w1;cases hv:Re.valid s with
   | false =>
     have hE:tF T z s=1:=by unfold tF;rw[hT,hv];rfl
     have hS:lI T z s=T:=by unfold lI;rw[hE];rfl
     rw[hv]at key2;rw[hE,hS];have HR:=ah h1;have HB:=ah hB;clear h h1 hB hE hS;go_enter Tryz.func61,Tryz.ntmps61
     go_wp2_with (first|(refine bC bB _ rfl rfl hA ?_)|(go_at_call 63;(with_reducible refine key.mono ?_);rintro e w' ⟨rfl,rfl⟩)|(go_at_call 93;(with_reducible refine key2.mono ?_);rintro e w2 ⟨rfl,hb2⟩))
     go_ret
     exact⟨rfl,HR.out.after hb2,DG.of_below (HB.out.trans (hb2.mono HB.out.size))⟩
   | true =>
     have hE:tF T z s=0:=by unfold tF;rw[hT,hv];rfl
     have hS:lI T z s=Tr.set T z { nd with sty:=s }:=by unfold lI Tr.GH;rw[hE,hT];rfl
     rw[hv]at key2;rw[hE,hS];obtain⟨i,rfl,him⟩:=h.nat hT;have HR:=ah h1;have HB:=ah hB;clear h h1 hB hE hS;go_enter Tryz.func61,Tryz.ntmps61
     go_upto_region 6 with(first|(refine bC bB _ rfl rfl hA ?_)|(go_at_call 63;(with_reducible refine key.mono ?_);rintro e w' ⟨rfl,rfl⟩)|(go_at_call 93;(with_reducible refine key2.mono ?_);rintro e w2 ⟨rfl,hb2⟩))
     have hR2:=(HR.out.after hb2).after (Below.refl _ w2).drew;have hA2:At w2.drew w (.cells (cells s) 59):=(hA.keep hb2).drew;have hO2:Below w w w2.drew:=(HB.out.trans (hb2.mono HB.out.size)).drew;obtain⟨W3,hst,hOO,hD3,hG3⟩:=hR2.PV hT s;have hA3:=hA2.out (λ(q:w.heap.size=g)=>hnb (.inr (.inl q))) hOO;generalize hW2:w2.drew=W2 at *;have hS0:W2.cell? ⟨r,0,none⟩=some (.slice g m c)/\At W2 w (.cells (cells s) 59):=⟨hR2.cT,hA2⟩;have rY:=ah (show _/\At W3 w (.cells (cells s) 59)from⟨hD3.cT,hA3⟩);have HST:=ah hst;have HD3:=ah hD3;have HG3:=ah ((DG.of_below hO2).trans hG3);clear hR2 hA2 hO2 hD3 hG3 hst hA3 HR HB hA hb2 hOO;refine aj.rW (S:=(λW'=>W'.cell? ⟨r,0,none⟩=some (.slice g m c)/\At W' w (.cells (cells s) 59))) 9 bE ?_ ?_
     . rw[hW2];exact hS0
     intro hS1;rw[hW2];clear hS1 hW2;refine aW 0 ?_;refine aW 1 ?_;refine aW 2 ?_;refine aW 3 ?_;refine aW 4 ?_;refine mG 5 rfl (gD bB (.tmp 5) rfl rfl (λW h=>h.2)) ?_;refine aW 6 ?_;refine aW 7 ?_;refine tk1 8 ?_;refine aj.Step.skip (uq (.tmp 23) (.tmp 21) rfl rfl rfl HST.out) ?_;refine⟨λ_=>rY.out,?_⟩
     (try simp only[bV,bW,bX,tks])
     refine jk ?_;go_wp2
     go_ret
     exact⟨rfl,HD3.out,HG3.out⟩
theorem OI{T:Tr.T}{z u:Int}{p:Tr.Nd}(hu:T u=some p)(hz:T z=none):Tr.pU T z u i=Tr.set (Tr.set T z ⟨u,[],Re.zero⟩) u { p with kids:=Tr.wi p.kids i z }:=by
 have hne:u≠z:=λe=>by rw[e,hz]at hu;cases hu
 funext y;rw[Tr.JM hu hz];by_cases e:y=z
 . rw[if_pos e,e,Tr.aT _ _ (Ne.symm hne),Tr.aX]
 . rw[if_neg e]
   by_cases e2:y=u
   . rw[if_pos e2,e2,Tr.aX]
   . rw[if_neg e2,Tr.aT _ _ e2,Tr.aT _ _ e]
theorem acI{T:Tr.T}(h:Doc w r g c m K T)(H:Tr.WF T)(hn:(Tr.ord T).length<4096){u a:Int}(hE0:Tr.nO T u a≠0):Calls ja0 62 #[r,u,a] w λe w'=>e=.returned (.tuple #[Tr.uH T u a,Tr.nO T u a])/\Doc w' r g c m K (Tr.lG T u a)/\DG r g K T w w' g K (Tr.lG T u a):=by
 have hI:Tr.uH T u a = -1:=by unfold Tr.uH;rw[if_neg hE0]
 have hR:Tr.lG T u a=T:=by unfold Tr.lG;rw[if_neg hE0]
 rw[hI,hR];have HD:=ah h;have key:=jv h u;cases hT:T u with
 | none =>
   have hE:Tr.nO T u a=2:=by unfold Tr.nO;rw[hT]
   rw[hE];rw[mF hT]at key;clear h hI hR hE hE0;exact Z1m
 | some p =>
   rw[mD hT]at key;obtain⟨iu,rfl,him⟩:=h.nat hT;have c0:=h.cT;have c1:=h.mM hT;obtain⟨A,cc,hv,_⟩:=(h.row _ p hT).ints;rw[hv]at c1;have hkl:=H.qZ hT;by_cases hr:a<0\/(p.kids.length:Int)<a
   . have hE:Tr.nO T iu a=1:=by unfold Tr.nO;rw[hT];dsimp only;rw[if_pos hr]
     rw[hE];clear h hI hR hE hE0 hv;generalize p.kids.length=n at *;rcases hr with hr|hr
     . exact Z1m
     . have hr0:¬ a<0:=by omega
       exact Z1m
   . have hr0:¬ a<0:=λe=>hr (.inl e)
     have hr1:¬ (p.kids.length:Int)<a:=λe=>hr (.inr e);have nY:=Gm h H;obtain⟨d,hd1,hd2,hd3⟩:=H.jo hT;have KD:=ah λW (hb:Below w w W)=>rM (h.after hb) (λ_ q=>H.iF q) hd2 ak;have XK:(63:Int)<=(d:Int):=by
      unfold Tr.nO at hE0;rw[hT]at hE0;dsimp only at hE0;rw[if_neg hr,hd3]at hE0;by_cases e:(63:Int)<=(d:Int)
      . exact e
      . rw[if_neg e]at hE0;exact absurd rfl hE0
     have hE:Tr.nO T iu a=5:=by unfold Tr.nO;rw[hT];dsimp only;rw[if_neg hr,hd3,if_pos XK]
     rw[hE];have hnn:¬ (4096:Int)<=((Tr.ord T).length:Int):=by omega
     clear h hI hR hE hE0 hv hd2 hd3 hr;generalize p.kids.length=n at *;generalize (Tr.ord T).length=q at *;go_enter Tryz.func62,Tryz.ntmps62
     go_wp2_with (first|(go_at_call 63;(with_reducible refine key.mono ?_);rintro e w' ⟨rfl,rfl⟩)|(go_at_call 94;(with_reducible refine nY.mono ?_);rintro e w1 ⟨rfl,hb1⟩)|(go_at_call 27;(with_reducible refine(KD.out _ hb1).mono ?_);rintro e w' ⟨rfl,rfl⟩))
     go_ret2
     exact⟨rfl,HD.out.after hb1,DG.of_below hb1⟩
theorem V7{T:Tr.T}(h:Doc w r g c m K T)(H:Tr.WF T)(hn:(Tr.ord T).length<4096)(hmm:m+1<=4096){u a:Int}{p:Tr.Nd}(hu:T u=some p)(ha:a=i)(hi:i<=p.kids.length){d:Nat}(hd:Tr.Dp T u d)(PW:d<63)(hk:Tr.Free T (k:Int))(hkm:k<m):Calls ja0 62 #[r,u,a] w λe w'=>e=.returned (.tuple #[.int .i64 (k:Int),()])/\∃g' c' m' K',Doc w' r g' c' m' K' (Tr.pU T (k:Int) u i)/\m'<=m+1/\DG r g K T w w' g' K' (Tr.pU T (k:Int) u i):=by
 subst ha;have key:=jv h u;rw[mD hu]at key;obtain⟨iu,rfl,him⟩:=h.nat hu;have c0:=h.cT;have c1:=h.mM hu;obtain⟨A,cc,hv,_⟩:=(h.row _ p hu).ints;rw[hv]at c1;have hkl:=H.qZ hu;have nY:=Gm h H;have KD:=ah λW (hb:Below w w W)=>rM (h.after hb) (λ_ q=>H.iF q) hd ak;have hnn:¬ (4096:Int)<=((Tr.ord T).length:Int):=by omega
 have hdd:¬ (63:Int)<=(d:Int):=by omega
 have hr0:¬ (i:Int)<0:=by omega
 have hr1:¬ (p.kids.length:Int)<(i:Int):=by omega
 have hT:=ah (OI (i:=i) hu hk.2.1);rw[hT.out];have HD:=ah h;have HV:=ah hv;have HU:=ah hu;have HK:=ah hk;have hil:=ah hi;have afy:Hid (p.kids.length<=10000):=ah ak;clear h hv hd hT hu hk hi hkl;generalize hnk:p.kids.length=nk at *;have HNK:=ah hnk;clear hnk;generalize (Tr.ord T).length=q at *;go_enter Tryz.func62,Tryz.ntmps62
 go_upto_region 9 with(first|(go_at_call 63;(with_reducible refine key.mono ?_);rintro e w' ⟨rfl,rfl⟩)|(go_at_call 94;(with_reducible refine nY.mono ?_);rintro e w1 ⟨rfl,hb1⟩)|(go_at_call 27;(with_reducible refine(KD.out _ hb1).mono ?_);rintro e w' ⟨rfl,rfl⟩))
 have HB1:=ah hb1;clear key nY KD c1;have H1:=ah (HD.out.after hb1);clear hb1 HD c0;go_wp2
 go_loopw [8] (λiv wr=>∃k':Nat,k'<=k/\iv=.int .i64 (k':Int)/\wr=w') (λiv _=>k-(intOf iv).toNat)
 case atStart=>exact⟨0,by omega,rfl,rfl⟩
 case round =>
  obtain⟨k',hk',rfl,rfl⟩:=hrel;have CQ:=jv H1.out (k':Int);by_cases hlt:k'<k
  . exact Z1j
  . obtain rfl:k'=k:=by omega
    rw[mF HK.out.2.1]at CQ;have h1:=H1.out;obtain⟨gd,rfl⟩:∃x,x=g:=⟨_,rfl⟩;obtain⟨cd,rfl⟩:∃x,x=c:=⟨_,rfl⟩;obtain⟨md,rfl⟩:∃x,x=m:=⟨_,rfl⟩;have hD:=h1;have hG:=DG.refl r gd K T wr;have hkd:k'<md:=hkm;have ajB:iu<md:=him;have hml:md<=md+1:=ak;have hkz:¬ (k':Int)=(md:Int):=ak;have akY:((k':Int)==(md:Int))=false:=(by simpa using hkz);have c0:=h1.cT;have HD:=ah hD;have HG:=ah hG;clear hD hG h1 H1
    go_upto_region 14 with(first|(go_at_call 63;(with_reducible refine CQ.mono ?_);rintro e w' ⟨rfl,rfl⟩)|(refine wpList_build bB 126 _ rfl #[] bI (xF _) ?_)|(refine wpList_buildSlice bB 127 1 _ rfl #[(0,.agg jR)] Z40 (CK _) ?_)|(at_builtin;refine wpList_append_run bB _ _ 127 rfl rfl rfl ahY.out ?_))
    obtain⟨Wd,rfl⟩:∃x,x=wr:=⟨_,rfl⟩;exact Z7
theorem V8{T:Tr.T}(h:Doc w r g c m K T)(H:Tr.WF T)(hn:(Tr.ord T).length<4096)(hmm:m+1<=4096){u a:Int}{p:Tr.Nd}(hu:T u=some p)(ha:a=i)(hi:i<=p.kids.length){d:Nat}(hd:Tr.Dp T u d)(PW:d<63)(hk:Tr.Free T (k:Int))(hkm:k=m):Calls ja0 62 #[r,u,a] w λe w'=>e=.returned (.tuple #[.int .i64 (k:Int),()])/\∃g' c' m' K',Doc w' r g' c' m' K' (Tr.pU T (k:Int) u i)/\m'<=m+1/\DG r g K T w w' g' K' (Tr.pU T (k:Int) u i):=by
 subst ha;have key:=jv h u;rw[mD hu]at key;obtain⟨iu,rfl,him⟩:=h.nat hu;have c0:=h.cT;have c1:=h.mM hu;obtain⟨A,cc,hv,_⟩:=(h.row _ p hu).ints;rw[hv]at c1;have hkl:=H.qZ hu;have nY:=Gm h H;have KD:=ah λW (hb:Below w w W)=>rM (h.after hb) (λ_ q=>H.iF q) hd ak;have hnn:¬ (4096:Int)<=((Tr.ord T).length:Int):=by omega
 have hdd:¬ (63:Int)<=(d:Int):=by omega
 have hr0:¬ (i:Int)<0:=by omega
 have hr1:¬ (p.kids.length:Int)<(i:Int):=by omega
 have hT:=ah (OI (i:=i) hu hk.2.1);rw[hT.out];have HD:=ah h;have HV:=ah hv;have HU:=ah hu;have HK:=ah hk;have hil:=ah hi;have afy:Hid (p.kids.length<=10000):=ah ak;clear h hv hd hT hu hk hi hkl;generalize hnk:p.kids.length=nk at *;have HNK:=ah hnk;clear hnk;generalize (Tr.ord T).length=q at *;go_enter Tryz.func62,Tryz.ntmps62
 go_upto_region 9 with(first|(go_at_call 63;(with_reducible refine key.mono ?_);rintro e w' ⟨rfl,rfl⟩)|(go_at_call 94;(with_reducible refine nY.mono ?_);rintro e w1 ⟨rfl,hb1⟩)|(go_at_call 27;(with_reducible refine(KD.out _ hb1).mono ?_);rintro e w' ⟨rfl,rfl⟩))
 have HB1:=ah hb1;clear key nY KD c1;have H1:=ah (HD.out.after hb1);clear hb1 HD c0;go_wp2
 go_loopw [8] (λiv wr=>∃k':Nat,k'<=k/\iv=.int .i64 (k':Int)/\wr=w') (λiv _=>k-(intOf iv).toNat)
 case atStart=>exact⟨0,by omega,rfl,rfl⟩
 case round =>
  obtain⟨k',hk',rfl,rfl⟩:=hrel;have CQ:=jv H1.out (k':Int);by_cases hlt:k'<k
  . exact Z1j
  . obtain rfl:k'=k:=by omega
    rw[mF HK.out.2.1]at CQ;have h1:=H1.out;obtain⟨gd,cd,w2,ahZ,hrA,hD,hG⟩:=h1.grow hmm;have ahY:=ah ahZ;have c0:=h1.cT;have cB:w2.cell? ⟨r,0,none⟩=some (.slice g m c):=(by rw[hrA.cell];rfl);have cC:=hrA.thaw 0;have hkd:k'<m+1:=ak;have ajB:iu<m+1:=ak;have hml:m+1<=m+1:=aO _;clear ahZ hrA;subst hkm;have HD:=ah hD;have HG:=ah hG;clear hD hG h1 H1
    go_upto_region 14 with(first|(go_at_call 63;(with_reducible refine CQ.mono ?_);rintro e w' ⟨rfl,rfl⟩)|(refine wpList_build bB 126 _ rfl #[] bI (xF _) ?_)|(refine wpList_buildSlice bB 127 1 _ rfl #[(0,.agg jR)] Z40 (CK _) ?_)|(at_builtin;refine wpList_append_run bB _ _ 127 rfl rfl rfl ahY.out ?_))
    generalize w2.setCell ⟨r,0,none⟩ (.slice gd (k'+1) cd)=Wd at *;generalize hmd:k'+1=md at *;replace hml:=Nat.le_of_eq hmd.symm;clear hmd;exact Z7
end Go.Proofs.YtfohooineeijkaaGreat.Fix
