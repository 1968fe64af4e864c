/- Boxes laid by the program: what its functions do, part 34. -/
import Derived.Lib.MinMax
import Derived.Test.YteggipnplbkijaaGreatWK
import Derived.Test.YteggipnplbkijaaGreatW06
import Derived.Test.YteggipnplbkijaaGreatW33
set_option linter.unusedVariables false
set_option linter.unusedSimpArgs false
set_option linter.unusedSectionVars false
set_option maxRecDepth 100000
namespace Go.Proofs.YteggipnplbkijaaGreat.Fix
open Go.ChangeShapes Go.WideShapes Go.ChangeAt Go.RowKit
def tmL (k n:Int):Bool := !((decide (k=1) && (decide (1048576<n) || decide (n < -1048576))) || (decide (k=2) && decide (10000<n)))
def tameB (t:Re.St):Bool:=Re.lens.all fun i=>tmL (t.c i) (t.c (i + 1))
theorem append_len2 {W:World} {base n:Nat} {v:Value} {xs:List Value} (y0 y1 y2 y3:Int) (hown:W.ownsRow base 28 2 v n xs) (hbase:base≤W.heap.size) (hn:n≤1000) :
  ∃ A c w',(Builtin.append_ #[83,83] 83 #[v,.slice (some ⟨W.heap.size,0,none⟩) 2 2]).run Tryz.prog (W.alloc (.cells #[.int .i64 y0,.int .i64 y1,.int .i64 y2,.int .i64 y3] 28)) = .ok (.slice A (n + 2) c) w'∧w'.ownsRow base 28 2 (.slice A (n + 2) c) (n + 2) (xs ++ [.int .i64 y0,.int .i64 y1,.int .i64 y2,.int .i64 y3])∧Below base W w'∧base≤w'.heap.size:=by
 obtain ⟨i0,hi0,hz0,hz1,hz2⟩:=info_parts lenInfo
 have hA:=At.new W (.cells #[.int .i64 y0,.int .i64 y1,.int .i64 y2,.int .i64 y3] 28)
 obtain ⟨v',w',hr,ho,hg,_,_⟩:=run_append_own_at (P:=Tryz.prog) (w:=W.alloc (.cells #[.int .i64 y0,.int .i64 y1,.int .i64 y2,.int .i64 y3] 28)) base 83 83 28 i0 _ 2 16 Tryz.underlying83 hi0 hz0 hz1 hz2 rfl Z3i v n _ (hown.alloc _) ⟨W.heap.size,0,none⟩ 2 2 [.int .i64 y0,.int .i64 y1,.int .i64 y2,.int .i64 y3] rfl
  (by intro j u hj
      rw [addr_add,Nat.zero_add,hA.cell, ← hj]
      simp)
  Z45 Z40 Z3f Z3p
 obtain ⟨A,c,rfl⟩:=own_sliceR ho
 have hB:Below base W (W.alloc (.cells #[.int .i64 y0,.int .i64 y1,.int .i64 y2,.int .i64 y3] 28)):=Below.alloc (Below.refl _ _) hbase _
 refine ⟨A,c,w',hr,ho,hB.grown hg Z3p (fun g hgg=>(hown.lt g hgg).1),?_⟩
 have h1:=hg.size
 have h2:W.heap.size≤(W.alloc (.cells #[.int .i64 y0,.int .i64 y1,.int .i64 y2,.int .i64 y3] 28)).heap.size:=by simp
 omega
set_option maxRecDepth 100000 in
set_option maxHeartbeats 4000000 in
theorem fltame_any (t:Re.St) (w:World):Calls Tryz.prog 13 #[.agg (cells t)] w fun e w'=>e = .returned (.bool (tameB t))∧Below w.heap.size w w':=by
 go_enter Tryz.func13,Tryz.ntmps13
 go_upto_region 1 with (fail)
 have hA:At (w.alloc (.cells (cells t) 37)) w.heap.size (.cells (cells t) 37):=At.new _ _
 have hB:Below w.heap.size w (w.alloc (.cells (cells t) 37)):=Below.alloc' (Below.refl _ _) _
 generalize w.alloc (.cells (cells t) 37)=W1 at *
 generalize hbox:w.heap.size=bx at *
 have lb:=hA.lt
 have HBOX:=Lib.hid hbox
 clear hbox
 have d3:=hA.st 3 Z3i rfl
 have d4:=hA.st 4 Z3i rfl
 have d5:=hA.st 5 Z3i rfl
 have d6:=hA.st 6 Z3i rfl
 have d7:=hA.st 7 Z3i rfl
 have d8:=hA.st 8 Z3i rfl
 have d9:=hA.st 9 Z3i rfl
 have d10:=hA.st 10 Z3i rfl
 have d11:=hA.st 11 Z3i rfl
 have d12:=hA.st 12 Z3i rfl
 have d13:=hA.st 13 Z3i rfl
 have d14:=hA.st 14 Z3i rfl
 have d41:=hA.st 41 Z3i rfl
 have d42:=hA.st 42 Z3i rfl
 have n1:(W1.alloc (.cells #[.int .i64 (t.c 3),.int .i64 (t.c 4),.int .i64 (t.c 5),.int .i64 (t.c 6),.int .i64 (t.c 7),.int .i64 (t.c 8),.int .i64 (t.c 9),.int .i64 (t.c 10),.int .i64 (t.c 11),.int .i64 (t.c 12),.int .i64 (t.c 13),.int .i64 (t.c 14),.int .i64 (t.c 41),.int .i64 (t.c 42)] 28)).ownsRow W1.heap.size 28 2 (.slice (some ⟨W1.heap.size,0,none⟩) 7 7) 7 (lenVals t (lp 0)):=own_made (Nat.le_refl _) rfl Z3i
 have hA2:=At.alloc hA (.cells #[.int .i64 (t.c 3),.int .i64 (t.c 4),.int .i64 (t.c 5),.int .i64 (t.c 6),.int .i64 (t.c 7),.int .i64 (t.c 8),.int .i64 (t.c 9),.int .i64 (t.c 10),.int .i64 (t.c 11),.int .i64 (t.c 12),.int .i64 (t.c 13),.int .i64 (t.c 14),.int .i64 (t.c 41),.int .i64 (t.c 42)] 28)
 have hB2:Below W1.heap.size W1 (W1.alloc (.cells #[.int .i64 (t.c 3),.int .i64 (t.c 4),.int .i64 (t.c 5),.int .i64 (t.c 6),.int .i64 (t.c 7),.int .i64 (t.c 8),.int .i64 (t.c 9),.int .i64 (t.c 10),.int .i64 (t.c 11),.int .i64 (t.c 12),.int .i64 (t.c 13),.int .i64 (t.c 14),.int .i64 (t.c 41),.int .i64 (t.c 42)] 28)):=Below.alloc' (Below.refl _ _) _
 have N1:=Lib.hid n1
 clear n1
 go_upto_region 2 with (fail)
 generalize hbase:W1.heap.size=base at *
 have lbx:=Lib.hid (show bx<base from hbase ▸ lb)
 generalize World.alloc W1 _=W2 at *
 have hsz2:base≤W2.heap.size:=hbase ▸ hB2.size
 clear hbase
 clear d3 d4 d5 d6 d7 d8 d9 d10 d11 d12 d13 d14 d41 d42
 go_wp2
 go_loopw [3,4] (fun v i wr=>∃ (k n:Nat) (A:Option Addr) (c:Nat),k≤4∧i = .int .i64 k∧v = .slice A n c∧Hid (n=7 + 2 * k)∧Hid (wr.ownsRow base 28 2 (.slice A n c) n (lenVals t (lp k)))∧At wr bx (.cells (cells t) 37)∧Below base W1 wr∧base≤wr.heap.size) (fun _ i _=>4 - (intOf i).toNat)
 case atStart=>exact ⟨0,7,_,_,by omega,rfl,rfl,Lib.hid rfl,N1,hA2,hB2,hsz2⟩
 case round =>
  obtain ⟨k,n,A,c,hk,rfl,rfl,HN,O1,a,hB3,hsz⟩:=hrel
  obtain rfl | rfl | rfl | rfl | rfl:k=0∨k=1∨k=2∨k=3∨k=4:=by omega
  · obtain rfl:n=7:=by have:=HN.out;omega
    obtain ⟨A',c',w1,hrun1,s1,s2,s3⟩:=append_len2 (W:=wr.drew) (t.c 15) (t.c 16) (t.c 23) (t.c 24) O1.out hsz Z3i
    have keep1:∀ W',Below base wr W'→W'.cell? ⟨bx,15,none⟩=some (.int .i64 (t.c 15))∧W'.cell? ⟨bx,16,none⟩=some (.int .i64 (t.c 16))∧W'.cell? ⟨bx,23,none⟩=some (.int .i64 (t.c 23))∧W'.cell? ⟨bx,24,none⟩=some (.int .i64 (t.c 24)):=fun W' h=>⟨(atLowR a lbx.out h).st 15 Z3i rfl,(atLowR a lbx.out h).st 16 Z3i rfl,(atLowR a lbx.out h).st 23 Z3i rfl,(atLowR a lbx.out h).st 24 Z3i rfl⟩
    have E1:Hid (w1.ownsRow base 28 2 (.slice A' 9 c') 9 (lenVals t (lp 1))):=Lib.hid s1
    have B1:Below base wr w1:=(Below.drew (Below.refl base wr)).trans s2
    have a1:=Lib.hid (show At w1 bx _ from atLowR a lbx.out B1)
    have hB4:Below base W1 w1:=hB3.trans B1
    have K1:=Lib.hid keep1
    have R1:=Lib.hid hrun1
    have HB1:=Lib.hid B1
    clear s1 s2 keep1 hrun1 B1 a
    go_upto_region 5 with (fail)
    refine tkX (S:=(fun W'=>W'.cell? ⟨bx,15,none⟩=some (.int .i64 (t.c 15))∧W'.cell? ⟨bx,16,none⟩=some (.int .i64 (t.c 16))∧W'.cell? ⟨bx,23,none⟩=some (.int .i64 (t.c 23))∧W'.cell? ⟨bx,24,none⟩=some (.int .i64 (t.c 24)))) 11 ?_ ?_
    · exact K1.out _ (Below.drew (Below.refl _ _))
    intro hS0
    refine tkC 0 ?_
    refine tkC 1 ?_
    refine tkC 2 ?_
    refine tkC 3 ?_
    refine tkC 4 ?_
    refine tkC 5 ?_
    refine tkC 6 ?_
    refine tkC 7 ?_
    refine tkC 8 ?_
    refine tk1 9 ?_
    refine tkV ?_ (hS:=by first | (intro hlt;exact absurd hlt Z3i) | (intro _;exact K1.out _ (Below.alloc (Below.drew (Below.refl _ _)) hsz _)))
    refine tk1 10 ?_
    refine Drawn.Step.value (run_append_op (.tmp 25) (.tmp 34) 83 rfl rfl rfl R1.out) ⟨fun _=>K1.out _ HB1.out,?_⟩
    (try simp only [tkp,tka,tkz,tks])
    refine tk1 11 ?_
    refine tkV ?_ (hS:=by first | (intro hlt;exact absurd hlt Z3i) | (intro _;omega))
    refine tkE ?_
    go_wp2
    go_roundw
    case rel=>exact ⟨1,9,_,_,by omega,by go_num,rfl,Lib.hid rfl,E1,a1.out,hB4,s3⟩
    case measure=>simp [intOf]
  · obtain rfl:n=9:=by have:=HN.out;omega
    obtain ⟨A',c',w1,hrun1,s1,s2,s3⟩:=append_len2 (W:=wr.drew) (t.c 17) (t.c 18) (t.c 25) (t.c 26) O1.out hsz Z3i
    have keep1:∀ W',Below base wr W'→W'.cell? ⟨bx,17,none⟩=some (.int .i64 (t.c 17))∧W'.cell? ⟨bx,18,none⟩=some (.int .i64 (t.c 18))∧W'.cell? ⟨bx,25,none⟩=some (.int .i64 (t.c 25))∧W'.cell? ⟨bx,26,none⟩=some (.int .i64 (t.c 26)):=fun W' h=>⟨(atLowR a lbx.out h).st 17 Z3i rfl,(atLowR a lbx.out h).st 18 Z3i rfl,(atLowR a lbx.out h).st 25 Z3i rfl,(atLowR a lbx.out h).st 26 Z3i rfl⟩
    have E1:Hid (w1.ownsRow base 28 2 (.slice A' 11 c') 11 (lenVals t (lp 2))):=Lib.hid s1
    have B1:Below base wr w1:=(Below.drew (Below.refl base wr)).trans s2
    have a1:=Lib.hid (show At w1 bx _ from atLowR a lbx.out B1)
    have hB4:Below base W1 w1:=hB3.trans B1
    have K1:=Lib.hid keep1
    have R1:=Lib.hid hrun1
    have HB1:=Lib.hid B1
    clear s1 s2 keep1 hrun1 B1 a
    go_upto_region 5 with (fail)
    refine tkX (S:=(fun W'=>W'.cell? ⟨bx,17,none⟩=some (.int .i64 (t.c 17))∧W'.cell? ⟨bx,18,none⟩=some (.int .i64 (t.c 18))∧W'.cell? ⟨bx,25,none⟩=some (.int .i64 (t.c 25))∧W'.cell? ⟨bx,26,none⟩=some (.int .i64 (t.c 26)))) 11 ?_ ?_
    · exact K1.out _ (Below.drew (Below.refl _ _))
    intro hS0
    refine tkC 0 ?_
    refine tkC 1 ?_
    refine tkC 2 ?_
    refine tkC 3 ?_
    refine tkC 4 ?_
    refine tkC 5 ?_
    refine tkC 6 ?_
    refine tkC 7 ?_
    refine tkC 8 ?_
    refine tk1 9 ?_
    refine tkV ?_ (hS:=by first | (intro hlt;exact absurd hlt Z3i) | (intro _;exact K1.out _ (Below.alloc (Below.drew (Below.refl _ _)) hsz _)))
    refine tk1 10 ?_
    refine Drawn.Step.value (run_append_op (.tmp 25) (.tmp 34) 83 rfl rfl rfl R1.out) ⟨fun _=>K1.out _ HB1.out,?_⟩
    (try simp only [tkp,tka,tkz,tks])
    refine tk1 11 ?_
    refine tkV ?_ (hS:=by first | (intro hlt;exact absurd hlt Z3i) | (intro _;omega))
    refine tkE ?_
    go_wp2
    go_roundw
    case rel=>exact ⟨2,11,_,_,by omega,by go_num,rfl,Lib.hid rfl,E1,a1.out,hB4,s3⟩
    case measure=>simp [intOf]
  · obtain rfl:n=11:=by have:=HN.out;omega
    obtain ⟨A',c',w1,hrun1,s1,s2,s3⟩:=append_len2 (W:=wr.drew) (t.c 19) (t.c 20) (t.c 27) (t.c 28) O1.out hsz Z3i
    have keep1:∀ W',Below base wr W'→W'.cell? ⟨bx,19,none⟩=some (.int .i64 (t.c 19))∧W'.cell? ⟨bx,20,none⟩=some (.int .i64 (t.c 20))∧W'.cell? ⟨bx,27,none⟩=some (.int .i64 (t.c 27))∧W'.cell? ⟨bx,28,none⟩=some (.int .i64 (t.c 28)):=fun W' h=>⟨(atLowR a lbx.out h).st 19 Z3i rfl,(atLowR a lbx.out h).st 20 Z3i rfl,(atLowR a lbx.out h).st 27 Z3i rfl,(atLowR a lbx.out h).st 28 Z3i rfl⟩
    have E1:Hid (w1.ownsRow base 28 2 (.slice A' 13 c') 13 (lenVals t (lp 3))):=Lib.hid s1
    have B1:Below base wr w1:=(Below.drew (Below.refl base wr)).trans s2
    have a1:=Lib.hid (show At w1 bx _ from atLowR a lbx.out B1)
    have hB4:Below base W1 w1:=hB3.trans B1
    have K1:=Lib.hid keep1
    have R1:=Lib.hid hrun1
    have HB1:=Lib.hid B1
    clear s1 s2 keep1 hrun1 B1 a
    go_upto_region 5 with (fail)
    refine tkX (S:=(fun W'=>W'.cell? ⟨bx,19,none⟩=some (.int .i64 (t.c 19))∧W'.cell? ⟨bx,20,none⟩=some (.int .i64 (t.c 20))∧W'.cell? ⟨bx,27,none⟩=some (.int .i64 (t.c 27))∧W'.cell? ⟨bx,28,none⟩=some (.int .i64 (t.c 28)))) 11 ?_ ?_
    · exact K1.out _ (Below.drew (Below.refl _ _))
    intro hS0
    refine tkC 0 ?_
    refine tkC 1 ?_
    refine tkC 2 ?_
    refine tkC 3 ?_
    refine tkC 4 ?_
    refine tkC 5 ?_
    refine tkC 6 ?_
    refine tkC 7 ?_
    refine tkC 8 ?_
    refine tk1 9 ?_
    refine tkV ?_ (hS:=by first | (intro hlt;exact absurd hlt Z3i) | (intro _;exact K1.out _ (Below.alloc (Below.drew (Below.refl _ _)) hsz _)))
    refine tk1 10 ?_
    refine Drawn.Step.value (run_append_op (.tmp 25) (.tmp 34) 83 rfl rfl rfl R1.out) ⟨fun _=>K1.out _ HB1.out,?_⟩
    (try simp only [tkp,tka,tkz,tks])
    refine tk1 11 ?_
    refine tkV ?_ (hS:=by first | (intro hlt;exact absurd hlt Z3i) | (intro _;omega))
    refine tkE ?_
    go_wp2
    go_roundw
    case rel=>exact ⟨3,13,_,_,by omega,by go_num,rfl,Lib.hid rfl,E1,a1.out,hB4,s3⟩
    case measure=>simp [intOf]
  · obtain rfl:n=13:=by have:=HN.out;omega
    obtain ⟨A',c',w1,hrun1,s1,s2,s3⟩:=append_len2 (W:=wr.drew) (t.c 21) (t.c 22) (t.c 29) (t.c 30) O1.out hsz Z3i
    have keep1:∀ W',Below base wr W'→W'.cell? ⟨bx,21,none⟩=some (.int .i64 (t.c 21))∧W'.cell? ⟨bx,22,none⟩=some (.int .i64 (t.c 22))∧W'.cell? ⟨bx,29,none⟩=some (.int .i64 (t.c 29))∧W'.cell? ⟨bx,30,none⟩=some (.int .i64 (t.c 30)):=fun W' h=>⟨(atLowR a lbx.out h).st 21 Z3i rfl,(atLowR a lbx.out h).st 22 Z3i rfl,(atLowR a lbx.out h).st 29 Z3i rfl,(atLowR a lbx.out h).st 30 Z3i rfl⟩
    have E1:Hid (w1.ownsRow base 28 2 (.slice A' 15 c') 15 (lenVals t (lp 4))):=Lib.hid s1
    have B1:Below base wr w1:=(Below.drew (Below.refl base wr)).trans s2
    have a1:=Lib.hid (show At w1 bx _ from atLowR a lbx.out B1)
    have hB4:Below base W1 w1:=hB3.trans B1
    have K1:=Lib.hid keep1
    have R1:=Lib.hid hrun1
    have HB1:=Lib.hid B1
    clear s1 s2 keep1 hrun1 B1 a
    go_upto_region 5 with (fail)
    refine tkX (S:=(fun W'=>W'.cell? ⟨bx,21,none⟩=some (.int .i64 (t.c 21))∧W'.cell? ⟨bx,22,none⟩=some (.int .i64 (t.c 22))∧W'.cell? ⟨bx,29,none⟩=some (.int .i64 (t.c 29))∧W'.cell? ⟨bx,30,none⟩=some (.int .i64 (t.c 30)))) 11 ?_ ?_
    · exact K1.out _ (Below.drew (Below.refl _ _))
    intro hS0
    refine tkC 0 ?_
    refine tkC 1 ?_
    refine tkC 2 ?_
    refine tkC 3 ?_
    refine tkC 4 ?_
    refine tkC 5 ?_
    refine tkC 6 ?_
    refine tkC 7 ?_
    refine tkC 8 ?_
    refine tk1 9 ?_
    refine tkV ?_ (hS:=by first | (intro hlt;exact absurd hlt Z3i) | (intro _;exact K1.out _ (Below.alloc (Below.drew (Below.refl _ _)) hsz _)))
    refine tk1 10 ?_
    refine Drawn.Step.value (run_append_op (.tmp 25) (.tmp 34) 83 rfl rfl rfl R1.out) ⟨fun _=>K1.out _ HB1.out,?_⟩
    (try simp only [tkp,tka,tkz,tks])
    refine tk1 11 ?_
    refine tkV ?_ (hS:=by first | (intro hlt;exact absurd hlt Z3i) | (intro _;omega))
    refine tkE ?_
    go_wp2
    go_roundw
    case rel=>exact ⟨4,15,_,_,by omega,by go_num,rfl,Lib.hid rfl,E1,a1.out,hB4,s3⟩
    case measure=>simp [intOf]
  · obtain rfl:n=15:=by have:=HN.out;omega
    obtain ⟨g,rfl,hg1,hg2,hgc⟩:=own_cells O1.out Z3i
    have CL:Hid (∀ (k p:Nat),Re.lens[k]? = some p→wr.cell? ⟨g,k * 2,none⟩=some (.int .i64 (t.c p))∧wr.cell? ⟨g,k * 2 + 1,none⟩=some (.int .i64 (t.c (p + 1)))):=Lib.hid fun k p hp=>by
     obtain ⟨q0,q1⟩:=lenVals_get t (l:=Re.lens) hp
     exact ⟨hgc _ _ q0,hgc _ _ q1⟩
    have HBW:=Lib.hid (hB.trans (hB3.mono (Nat.le_of_lt lbx.out)))
    clear O1 N1 hgc hA hA2 hB2 hB a hB3 hg1
    generalize wr=W5 at *
    go_wp2
    go_loopw [5] (fun i wr=>∃ k:Nat,k≤15∧i = .int .i64 k∧Hid (((Re.lens.take k).all fun i=>tmL (t.c i) (t.c (i + 1)))=true)∧wr=W5) (fun i _=>15 - (intOf i).toNat)
    case atStart=>exact ⟨0,by omega,rfl,Lib.hid rfl,rfl⟩
    case round =>
     obtain ⟨k,hk,rfl,HF,rfl⟩:=hrel
     by_cases hlt:k<15
     · have hltz:(k:Int)<15:=by omega
       obtain ⟨p,hp⟩:∃ p,Re.lens[k]? = some p:=⟨_,List.getElem?_eq_getElem (show k<Re.lens.length from hlt)⟩
       obtain ⟨c0,c1⟩:=CL.out k p hp
       have HS:Hid ((Re.lens.take (k + 1)).all (fun i=>tmL (t.c i) (t.c (i + 1)))=tmL (t.c p) (t.c (p + 1))):=Lib.hid (by rw [List.take_add_one,hp,List.all_append,HF.out];simp)
       have HT:Hid (tmL (t.c p) (t.c (p + 1))=false→tameB t=false):=Lib.hid fun h=>by
        by_cases e:tameB t=true
        · exfalso
          have:=List.all_eq_true.1 e p (List.mem_of_getElem? hp)
          rw [h] at this
          cases this
        · simpa using e
       clear hp
       generalize t.c p=x at *
       generalize t.c (p + 1)=y at *
       by_cases h1:x=1
       · subst h1
         by_cases h2:(1048576:Int)<y
         · have HV:=Lib.hid (HT.out (by simp [tmL,h2]))
           exact Z2l
         · by_cases h3:y < -1048576
           · have HV:=Lib.hid (HT.out (by simp [tmL,h3]))
             exact Z2l
           · have HV:=Lib.hid (show tmL 1 y=true by simp [tmL,h2,h3])
             exact Z2e
       · by_cases h4:x=2
         · subst h4
           by_cases h5:(10000:Int)<y
           · have HV:=Lib.hid (HT.out (by simp [tmL,h5]))
             exact Z2l
           · have HV:=Lib.hid (show tmL 2 y=true by simp [tmL,h5])
             exact Z2e
         · have HV:=Lib.hid (show tmL x y=true by simp [tmL,h1,h4])
           exact Z2e
     · obtain rfl:k=15:=by omega
       have HV:Hid (tameB t=true):=Lib.hid HF.out
       exact Z2l
end Go.Proofs.YteggipnplbkijaaGreat.Fix
namespace Go.Proofs.YteggipnplbkijaaGreat.Fix
theorem part_small {w n:Int} (h0:0≤w) (h1:w≤1048576) (hn:n≤10000):0≤Fx.part w n∧Fx.part w n≤1048576:=by
 unfold Fx.part
 have c:Fx.cut w=w:=by unfold Fx.cut;omega
 rw [c]
 obtain ⟨p,hp⟩:∃ p,Fx.parts n=p:=⟨_,rfl⟩
 have hp0:0≤p∧p≤10000:=by rw [← hp];unfold Fx.parts;omega
 rw [hp]
 have a:0≤w * p:=Int.mul_nonneg h0 hp0.1
 have b:w * p≤w * 10000:=Int.mul_le_mul_of_nonneg_left hp0.2 h0
 have d:0≤w * p / 10000:=Int.ediv_nonneg a Z3f
 have e:w * p / 10000≤1048576:=by omega
 unfold Fx.cut
 omega
theorem len_small {k n w x:Int} (ht:tmL k n=true) (h0:0≤w) (h1:w≤1048576) (hk:Fx.fixd k w=true) : -1048576≤Fx.len k n w x∧Fx.len k n w x≤1048576:=by
 rcases Fx.fixd_iff.1 hk with e | ⟨e,_⟩
 · subst e
   rw [Fx.len_px rfl]
   have:¬ (1048576<n)∧¬ (n < -1048576):=by
    refine ⟨fun h => ?_,fun h => ?_⟩ <;> simp [tmL,h] at ht
   unfold Fx.cut
   omega
 · subst e
   rw [Fx.len_per rfl h0]
   have:¬ (10000<n):=fun h=>by simp [tmL,h] at ht
   have:=part_small (n:=n) h0 h1 Z3f
   omega
theorem len_un {k n w x:Int} (hk:Fx.fixd k w=false):Fx.len k n w x=Fx.cut x:=by
 obtain ⟨a,b⟩:=Fx.fixd_not.1 hk
 unfold Fx.len
 rw [if_neg a,if_neg (by rintro ⟨e,h⟩;have:=b e;omega)]
theorem len_zero {k n w:Int} (ht:tmL k n=true) (h0:0≤w) (h1:w≤1048576) : -1048576≤Fx.len k n w 0∧Fx.len k n w 0≤1048576:=by
 cases hk:Fx.fixd k w
 · rw [len_un hk];unfold Fx.cut;omega
 · exact len_small ht h0 h1 hk
theorem limit_small {n lk ln hk hn w:Int} (tl:tmL lk ln=true) (h0:0≤w) (h1:w≤1048576) (hnn:n≤16777216):0≤Fx.limit n lk ln hk hn w∧Fx.limit n lk ln hk hn w≤16777216:=by
 unfold Fx.limit
 have a:Fx.len lk ln w (-1099511627776)≤1048576:=by
  cases h:Fx.fixd lk w
  · rw [len_un h];unfold Fx.cut;omega
  · exact (len_small tl h0 h1 h).2
 generalize Fx.len lk ln w (-1099511627776)=lo at *
 generalize Fx.len hk hn w 1099511627776=hi at *
 unfold Fx.mx Fx.clamp Fx.cut
 repeat' split
 all_goals omega
theorem tame_at {t:Re.St} (h:tameB t=true) {i:Nat} (hi:i ∈ Re.lens):tmL (t.c i) (t.c (i + 1))=true:=List.all_eq_true.1 h i hi
theorem valid_size {t:Re.St} (h:Re.valid t=true) {i:Nat} (hi:i ∈ Re.sizes):0≤t.c i∧t.c i≤1048576:=by
 have hs:Re.sizesV t=true:=by
  unfold Re.valid at h
  simp only [Bool.and_eq_true] at h
  exact h.1.1.1.2
 have:=List.all_eq_true.1 hs i hi
 simpa [Re.inn] using this
theorem valid_kind {t:Re.St} (h:Re.valid t=true):0≤t.c 0∧t.c 0≤3:=by
 unfold Re.valid Re.kindsV at h
 simp only [Bool.and_eq_true,Re.inn,decide_eq_true_eq] at h
 exact h.1.1.1.1.1.1.1.1.1.1.1
theorem ed_small {t:Re.St} (h:Re.valid t=true) {i:Nat} (hi:i<4):0≤Fw.ed t i∧Fw.ed t i≤2097152:=by
 have h1:=valid_size h (i:=31 + i) (by rcases (by omega:i=0∨i=1∨i=2∨i=3) with rfl | rfl | rfl | rfl <;> decide)
 have h2:=valid_size h (i:=35 + i) (by rcases (by omega:i=0∨i=1∨i=2∨i=3) with rfl | rfl | rfl | rfl <;> decide)
 unfold Fw.ed Fw.wr
 omega
theorem width_of {t:Re.St} (hv:Re.valid t=true) (ht:tameB t=true) {w:Int} (h0:0≤w) (h1:w≤1048576):∃ m1 m3 e1 e3 q lm:Int,
  Fx.len (t.c 17) (t.c 18) w 0=m1∧Fx.len (t.c 21) (t.c 22) w 0=m3∧Fw.ed t 1=e1∧Fw.ed t 3=e3∧(-1048576≤m1∧m1≤1048576)∧(-1048576≤m3∧m3≤1048576)∧(0≤e1∧e1≤2097152)∧(0≤e3∧e3≤2097152) ∧
  q=(if Fx.fixd (t.c 3) w=true then Fx.len (t.c 3) (t.c 4) w 0 else max (w - m1 - m3 - e1 - e3) 0)∧Fx.limit q (t.c 7) (t.c 8) (t.c 11) (t.c 12) w=lm∧(0≤lm∧lm≤16777216) ∧
  Fx.cut (Fw.wr (Fw.wth t 0 w w (-1) + Fw.eds t 0))=lm + e1 + e3:=by
 have a1:=len_zero (tame_at ht (i:=17) Z3i) h0 h1
 have a3:=len_zero (tame_at ht (i:=21) Z3i) h0 h1
 have b1:=ed_small hv (i:=1) Z3i
 have b3:=ed_small hv (i:=3) Z3i
 have aw:=len_zero (tame_at ht (i:=3) Z3i) h0 h1
 have hl:=fun n h=>limit_small (n:=n) (hk:=t.c 11) (hn:=t.c 12) (tame_at ht (i:=7) Z3i) h0 h1 h
 obtain ⟨m1,hm1⟩:∃ m,Fx.len (t.c 17) (t.c (17 + 1)) w 0=m:=⟨_,rfl⟩
 obtain ⟨m3,hm3⟩:∃ m,Fx.len (t.c 21) (t.c (21 + 1)) w 0=m:=⟨_,rfl⟩
 obtain ⟨e1,he1⟩:∃ m,Fw.ed t 1=m:=⟨_,rfl⟩
 obtain ⟨e3,he3⟩:∃ m,Fw.ed t 3=m:=⟨_,rfl⟩
 rw [hm1] at a1
 rw [hm3] at a3
 rw [he1] at b1
 rw [he3] at b3
 obtain ⟨q,hq⟩:∃ q,q=(if Fx.fixd (t.c 3) w=true then Fx.len (t.c 3) (t.c 4) w 0 else max (w - m1 - m3 - e1 - e3) 0):=⟨_,rfl⟩
 have hq2:q≤16777216:=by
  rw [hq]
  split
  · have:Fx.len (t.c 3) (t.c 4) w 0≤1048576:=aw.2
    omega
  · omega
 have hlm:=hl q hq2
 have hws:Fw.wth t 0 w w (-1)=Fx.limit q (t.c 7) (t.c 8) (t.c 11) (t.c 12) w:=by
  unfold Fw.wth
  rw [if_neg Z3i,hq]
  have f:Fw.fxd t 0 w=Fx.fixd (t.c 3) w:=rfl
  rw [f]
  cases hf:Fx.fixd (t.c 3) w
  · simp only [Bool.false_eq_true,if_false,if_true]
    have g1:Fw.mgs t 0 w=m3 + m1:=by
     have e:Fw.mgs t 0 w=Fw.wr (Fx.len (t.c 21) (t.c (21 + 1)) w 0 + Fx.len (t.c 17) (t.c (17 + 1)) w 0):=rfl
     rw [e,hm1,hm3]
     unfold Fw.wr
     omega
    have g2:Fw.eds t 0=e3 + e1:=by
     have e:Fw.eds t 0=Fw.wr (Fw.ed t 3 + Fw.ed t 1):=rfl
     rw [e,he1,he3]
     unfold Fw.wr
     omega
    rw [g1,g2]
    have g3:Fw.wr (Fw.wr (w - (m3 + m1)) - (e3 + e1))=w - m1 - m3 - e1 - e3:=by unfold Fw.wr;omega
    rw [g3]
    rfl
  · simp only [if_true]
    rfl
 refine ⟨m1,m3,e1,e3,q,_,hm1,hm3,he1,he3,a1,a3,b1,b3,hq,rfl,hlm,?_⟩
 rw [hws]
 obtain ⟨lm,hlm2⟩:∃ lm,Fx.limit q (t.c 7) (t.c 8) (t.c 11) (t.c 12) w=lm:=⟨_,rfl⟩
 have hlm3:0≤lm∧lm≤16777216:=hlm2 ▸ hlm
 rw [hlm2]
 have g2:Fw.eds t 0=e3 + e1:=by
  have e:Fw.eds t 0=Fw.wr (Fw.ed t 3 + Fw.ed t 1):=rfl
  rw [e,he1,he3]
  unfold Fw.wr
  omega
 rw [g2]
 unfold Fw.wr Fx.cut
 omega
end Go.Proofs.YteggipnplbkijaaGreat.Fix
namespace Go.Proofs.YteggipnplbkijaaGreat.Fix
open Go.ChangeShapes Go.WideShapes Go.ChangeAt Go.RowKit
theorem T2_look {s:Re.St} (h3:s.c 0≠3) (hp2:s.c 1≠2) (hp3:s.c 1≠3) {w h:Int} (hw:0≤w∧w≤1048576):∃ q0 q1 q3:Int,∀ (X:World) (b nr:Nat),GM 3 X b nr (layG (T2 s) w h) →
  (Instr.lookup 47 (.map (some b)) (.int .i64 1) false).run Tryz.prog X = .ok (.agg #[.int .i64 q0,.int .i64 q1,.int .i64 (Fx.cut (Fw.wr (Fw.wth s 0 w w (-1) + Fw.eds s 0))),.int .i64 q3]) X:=by
 obtain ⟨x0,x1, -, hl,i0,i1,hs⟩:=T2_two h3 hp2 hp3 (h:=h) hw
 refine ⟨Fx.cut x1.a0,Fx.cut x1.a1,Fx.cut x1.s1,fun X b nr hG => ?_⟩
 have hnd:([x0,x1].map (·.id)).Nodup:=by simp [i0,i1]
 have hq1:layG (T2 s) w h (.int .i64 1)=some (rcv x1):=by
  unfold layG
  rw [hl]
  have h:=gputs_at [x0,x1] (fun _=>none) x1 hnd Z3t
  rwa [i1] at h
 have hk1:=hG.look keyLaw Tryz.underlying47 (z:= .agg #[.int .i64 0,.int .i64 0,.int .i64 0,.int .i64 0]) Z3q (key_int (show Wf 1 by rw [wf_iff];omega))
 rw [hq1,Option.getD_some] at hk1
 rw [← hs]
 exact hk1
set_option maxHeartbeats 8000000 in
theorem fwidth_walk (a0:Int) (a1:Re.St) (w:World) (w0:(Lit.int .i64 a0).wf=true) (w1:Fits a1):Calls Tryz.prog 7 #[.int .i64 a0,.agg (cells a1)] w fun e w'=>e = .returned (.bool true)∧Below w.heap.size w w':=by
 have HF:=Lib.hid w1
 clear w0 w1
 go_enter Tryz.func7,Tryz.ntmps7
 go_upto_region 1 with (fail)
 have hbx:At (w.alloc (.cells (cells a1) 37)) w.heap.size (.cells (cells a1) 37):=At.new _ _
 have hB0:Below w.heap.size w (w.alloc (.cells (cells a1) 37)):=Below.alloc' (Below.refl _ _) _
 generalize w.alloc (.cells (cells a1) 37)=wb at *
 go_upto_region 4 with (go_at_call 11;(with_reducible refine (flworks_any _).mono ?_);rintro e w1 ⟨rfl,hb1⟩)
 have HB1:=hB0.trans (hb1.mono hB0.size)
 have HX1:=hbx.keep hb1
 clear hbx hB0 hb1
 by_cases g1:a0<0
 · go_wp2
   go_ret
   exact ⟨rfl,HB1⟩
 by_cases g2:(1048576:Int)<a0
 · go_wp2
   go_ret
   exact ⟨rfl,HB1⟩
 have kT:=fun X=>fltame_any a1 X
 have d1:∀ X,Below w1.heap.size w1 X→X.cell? ⟨w.heap.size,1,none⟩=some (.int .i64 (a1.c 1)):=fun X h=>(HX1.keep h).st 1 Z3i rfl
 have lb1:=HX1.lt
 cases ht:tameB a1
 · rw [ht] at kT
   go_wp2_with (first | (refine wpList_load_style Z3n _ rfl rfl HX1 ?_) | (go_at_call 13;(with_reducible refine (kT _).mono ?_);rintro e w2 ⟨rfl,hb2⟩))
   go_ret
   exact ⟨rfl,HB1.trans (hb2.mono HB1.size)⟩
 rw [ht] at kT
 by_cases p2:a1.c 1=2
 · rw [p2] at d1
   exact Z2d
 by_cases p3:a1.c 1=3
 · rw [p3] at d1
   exact Z2d
 have p2b:(a1.c 1 == 2)=false:=by simpa using p2
 have p3b:(a1.c 1 == 3)=false:=by simpa using p3
 go_upto_region 6 with (first | (refine wpList_load_style Z3n _ rfl rfl HX1 ?_) | (go_at_call 13;(with_reducible refine (kT _).mono ?_);rintro e w2 ⟨rfl,hb2⟩;have d1:=d1 _ hb2;have lb1:=Nat.lt_of_lt_of_le lb1 hb2.size))
 have HB2:=HB1.trans (hb2.mono HB1.size)
 have HX2:=HX1.keep hb2
 clear d1 kT HB1 HX1 hb2
 go_upto_region 7 with (go_at_call 28;(with_reducible refine (gnew_any _).mono ?_);rintro e w3 ⟨⟨t,rfl,L0,g0⟩,hb3⟩)
 have lb2:=HX2.lt
 have kA:=w_add1 g0 Z3f hb3.size
 go_upto_region 8 with (go_at_call 26;(with_reducible refine kA.mono ?_);rintro e w4 ⟨rfl,L1,n1,g4,hn1,hb4⟩)
 have hb24:=hb3.trans hb4
 have HX4:At w4 w.heap.size _:=atLowR HX2 lb2 hb24
 have kS:=gset_any g4 hb24.size (x:=1) ((wf_iff _).2 Z3f) HF.out
 have HB4:=HB2.trans (hb24.mono HB2.size)
 clear kA g0 hb3 hb4 HX2 HB2
 have d0:∀ X,Below w2.heap.size w4 X→X.cell? ⟨w.heap.size,0,none⟩=some (.int .i64 (a1.c 0)):=fun X h=>(atLowR HX4 lb2 h).st 0 Z3i rfl
 have lb4:=HX4.lt
 cases hv:Re.valid a1
 · have e1:setE A1 1 a1=1:=by unfold setE;rw [if_neg Z3i,if_pos hv]
   rw [e1] at kS
   go_wp2_with (first | (refine wpList_load_style Z3n _ rfl rfl HX4 ?_) | (go_at_call 27;refine Calls.mono (show _ from kS) ?_;rintro e w5 ⟨rfl, -, -, hb5⟩))
   go_ret
   exact ⟨rfl,HB4.trans (hb5.mono (Nat.le_of_lt (by have:=hb24.size;omega)))⟩
 have e1:setE A1 1 a1=0:=by unfold setE;rw [if_neg Z3i,if_neg (by rw [hv];decide)]
 have e2:setT A1 1 a1=T2 a1:=by unfold setT;rw [e1,if_pos rfl];rfl
 rw [e1,e2] at kS
 by_cases h3:a1.c 0=3
 · rw [h3] at d0
   go_wp2_with (first | (refine wpList_load_style Z3n _ rfl rfl HX4 ?_) | (go_at_call 27;refine Calls.mono (show _ from kS) ?_;rintro e w5 ⟨rfl, -, -, hb5⟩;have d0:=d0 _ hb5;have lb4:=Nat.lt_of_lt_of_le lb2 (Nat.le_trans hb24.size hb5.size)))
   go_ret
   exact ⟨rfl,HB4.trans (hb5.mono (Nat.le_of_lt (by have:=hb24.size;omega)))⟩
 have h3b:(a1.c 0 == 3)=false:=by simpa using h3
 go_upto_region 10 with (first | (refine wpList_load_style Z3n _ rfl rfl HX4 ?_) | (go_at_call 27;refine Calls.mono (show _ from kS) ?_;rintro e w5 ⟨rfl,g5, -, hb5⟩;have d0:=d0 _ hb5;have lb4:=Nat.lt_of_lt_of_le lb2 (Nat.le_trans hb24.size hb5.size)))
 have hb25:=hb24.trans hb5
 have HX5:At w5 w.heap.size _:=atLowR HX4 lb2 hb5
 have HB5:=HB4.trans (hb5.mono (Nat.le_of_lt (by have:=hb24.size;omega)))
 obtain ⟨q0,q1,q3,keyLk⟩:=T2_look h3 p2 p3 (w:=a0) (h:=100) ⟨by omega,by omega⟩
 obtain ⟨m1,m3,e1v,e3v,q,lm,hm1,hm3,he1,he3,bm1,bm3,be1,be3,hq,hlm,blm,hcut⟩:=width_of hv ht (w:=a0) Z3f Z3f
 rw [hcut] at keyLk
 obtain ⟨x0,x1,htl, -⟩:=T2_two h3 p2 p3 (w:=a0) (h:=100) ⟨by omega,by omega⟩
 have em1:max a0 0=a0:=by omega
 have em2:max (100:Int) 0=100:=by decide
 have kL:=flay_any g5.inv.rep g5.inv.wf (T2_kids a1) (T2_kind (valid_kind hv)) a0 100 (by rw [T2_cst h3 p2 p3];unfold maxLen;omega) (by rw [em1,em2,htl];simp [maxLen]) (by rw [T2_shs h3 p2 p3];unfold maxLen;omega)
 rw [em1,em2] at kL
 have HLK:=Lib.hid keyLk
 clear d0 kS hb24 em1 em2 htl hcut keyLk g4 g5 hb5 HX4 HB4
 go_upto_region 11 with (go_at_call 18;(with_reducible refine kL.mono ?_);rintro e w6 ⟨⟨b,nr,rfl,gb,hG, -⟩,hb6⟩;have hk1:=HLK.out _ _ _ hG)
 have HR7:At (w6.alloc (.cells #[.int .i64 q0,.int .i64 q1,.int .i64 (lm + e1v + e3v),.int .i64 q3] 59)) w6.heap.size (.cells #[.int .i64 q0,.int .i64 q1,.int .i64 (lm + e1v + e3v),.int .i64 q3] 59):=At.new _ _
 have HX7:At (w6.alloc (.cells #[.int .i64 q0,.int .i64 q1,.int .i64 (lm + e1v + e3v),.int .i64 q3] 59)) w.heap.size _:=At.alloc (HX5.keep hb6) _
 have hb7:Below w5.heap.size w5 (w6.alloc (.cells #[.int .i64 q0,.int .i64 q1,.int .i64 (lm + e1v + e3v),.int .i64 q3] 59)):=Below.alloc hb6 hb6.size _
 generalize w6.alloc (.cells #[.int .i64 q0,.int .i64 q1,.int .i64 (lm + e1v + e3v),.int .i64 q3] 59)=w7 at *
 generalize hR:w6.heap.size=R at *
 have HB7:=HB5.trans (hb7.mono HB5.size)
 clear hR hk1 hb6 hG gb kL hb25 HX5 HB5 hb7 HLK
 obtain ⟨e0v,he0⟩:∃ v,Fw.ed a1 0=v:=⟨_,rfl⟩
 obtain ⟨e2v,he2⟩:∃ v,Fw.ed a1 2=v:=⟨_,rfl⟩
 have kE:=fun X=>fedges_any a1 X
 simp only [he0,he1,he2,he3] at kE
 go_upto_region 12 with (first | (refine wpList_load_style Z3n _ rfl rfl HX7 ?_) | (go_at_call 15;(with_reducible refine (kE _).mono ?_);rintro e w8 ⟨rfl,hb8⟩))
 have HE9:At (w8.alloc (.cells #[.int .i64 e0v,.int .i64 e1v,.int .i64 e2v,.int .i64 e3v] 30)) w8.heap.size (.cells #[.int .i64 e0v,.int .i64 e1v,.int .i64 e2v,.int .i64 e3v] 30):=At.new _ _
 have hb9:Below w7.heap.size w7 (w8.alloc (.cells #[.int .i64 e0v,.int .i64 e1v,.int .i64 e2v,.int .i64 e3v] 30)):=Below.alloc hb8 hb8.size _
 generalize w8.alloc (.cells #[.int .i64 e0v,.int .i64 e1v,.int .i64 e2v,.int .i64 e3v] 30)=w9 at *
 generalize hE:w8.heap.size=E at *
 have HX9:=HX7.keep hb9
 have HR9:=HR7.keep hb9
 have HB9:=HB7.trans (hb9.mono HB7.size)
 clear hE kE hb8 hb9 HX7 HR7 HB7 he0 he2
 have d15:=HX9.st 15 Z3i rfl
 have d16:=HX9.st 16 Z3i rfl
 have d17:=HX9.st 17 Z3i rfl
 have d18:=HX9.st 18 Z3i rfl
 have d19:=HX9.st 19 Z3i rfl
 have d20:=HX9.st 20 Z3i rfl
 have d21:=HX9.st 21 Z3i rfl
 have d22:=HX9.st 22 Z3i rfl
 have lb9:=HX9.lt
 obtain ⟨m0,hm0⟩:∃ v,Fx.len (a1.c 15) (a1.c 16) a0 0=v:=⟨_,rfl⟩
 obtain ⟨m2,hm2⟩:∃ v,Fx.len (a1.c 19) (a1.c 20) a0 0=v:=⟨_,rfl⟩
 have kM:=fun X=>lsides_any (a1.c 15) (a1.c 16) (a1.c 17) (a1.c 18) (a1.c 19) (a1.c 20) (a1.c 21) (a1.c 22) a0 X
 simp only [hm0,hm1,hm2,hm3] at kM
 go_upto_region 13 with (go_at_call 29;(with_reducible refine (kM _).mono ?_);rintro e w10 ⟨rfl,hb10⟩)
 have HM11:At (w10.alloc (.cells #[.int .i64 m0,.int .i64 m1,.int .i64 m2,.int .i64 m3] 30)) w10.heap.size (.cells #[.int .i64 m0,.int .i64 m1,.int .i64 m2,.int .i64 m3] 30):=At.new _ _
 have hb11:Below w9.heap.size w9 (w10.alloc (.cells #[.int .i64 m0,.int .i64 m1,.int .i64 m2,.int .i64 m3] 30)):=Below.alloc hb10 hb10.size _
 generalize w10.alloc (.cells #[.int .i64 m0,.int .i64 m1,.int .i64 m2,.int .i64 m3] 30)=w11 at *
 generalize hM:w10.heap.size=M at *
 have HX11:=HX9.keep hb11
 have HR11:=HR9.keep hb11
 have HE11:=HE9.keep hb11
 have HB11:=HB9.trans (hb11.mono HB9.size)
 clear hM kM hb10 hb11 HX9 HR9 HE9 HB9 hm0 hm1 hm2 hm3 d15 d16 d17 d18 d19 d20 d21 d22 lb9
 have K:=Lib.hid fun (X:World) (h:Below w11.heap.size w11 X)=>(show (X.cell? ⟨E,1,none⟩=some (.int .i64 e1v)∧X.cell? ⟨E,3,none⟩=some (.int .i64 e3v)∧X.cell? ⟨R,2,none⟩=some (.int .i64 (lm + e1v + e3v))∧X.cell? ⟨w.heap.size,3,none⟩=some (.int .i64 (a1.c 3))∧X.cell? ⟨w.heap.size,4,none⟩=some (.int .i64 (a1.c 4))∧X.cell? ⟨w.heap.size,7,none⟩=some (.int .i64 (a1.c 7))∧X.cell? ⟨w.heap.size,8,none⟩=some (.int .i64 (a1.c 8))∧X.cell? ⟨w.heap.size,11,none⟩=some (.int .i64 (a1.c 11))∧X.cell? ⟨w.heap.size,12,none⟩=some (.int .i64 (a1.c 12))∧E<X.heap.size∧R<X.heap.size∧w.heap.size<X.heap.size) from
  ⟨((HE11.keep h).cell 1).trans rfl,((HE11.keep h).cell 3).trans rfl,((HR11.keep h).cell 2).trans rfl,(HX11.keep h).st 3 Z3i rfl,(HX11.keep h).st 4 Z3i rfl,(HX11.keep h).st 7 Z3i rfl,(HX11.keep h).st 8 Z3i rfl,(HX11.keep h).st 11 Z3i rfl,(HX11.keep h).st 12 Z3i rfl,(HE11.keep h).lt,(HR11.keep h).lt,(HX11.keep h).lt⟩)
 have c1:w11.cell? ⟨M,1,none⟩=some (.int .i64 m1):=(HM11.cell 1).trans rfl
 have c3:w11.cell? ⟨M,3,none⟩=some (.int .i64 m3):=(HM11.cell 3).trans rfl
 have lM:=HM11.lt
 obtain ⟨y1,y3,y2,s3,s4,s7,s8,s11,s12,lE,lR,lX⟩:=K.out _ (Below.refl _ _)
 clear HM11 HX11 HR11 HE11
 have v1:IntKind.i64.wrap (a0 - m1)=a0 - m1:=IntWalk.i64_in _ Z3f
 have v2:IntKind.i64.wrap (a0 - m1 - m3)=a0 - m1 - m3:=IntWalk.i64_in _ Z3f
 have v3:IntKind.i64.wrap (a0 - m1 - m3 - e1v)=a0 - m1 - m3 - e1v:=IntWalk.i64_in _ Z3f
 have v4:IntKind.i64.wrap (a0 - m1 - m3 - e1v - e3v)=a0 - m1 - m3 - e1v - e3v:=IntWalk.i64_in _ Z3f
 have v5:IntKind.i64.wrap (lm + e1v)=lm + e1v:=IntWalk.i64_in _ Z3f
 have v6:IntKind.i64.wrap (lm + e1v + e3v)=lm + e1v + e3v:=IntWalk.i64_in _ Z3f
 have kF:=fun X=>fixed_any (a1.c 3) (a1.c 4) a0 X
 have kO:=fun X=>len_any (a1.c 3) (a1.c 4) a0 0 X
 have kI:=fun X=>limit_any q (a1.c 7) (a1.c 8) (a1.c 11) (a1.c 12) a0 X
 rw [hlm] at kI
 go_upto_region 14 with (fail)
 clear v1 v2 v3 v4 c1 c3 lM
 obtain ⟨mx,hmx⟩:∃ v,max (a0 - m1 - m3 - e1v - e3v) 0=v:=⟨_,rfl⟩
 rw [hmx] at hq
 cases hfx:Fx.fixd (a1.c 3) a0
 · rw [hfx,if_neg Z3i] at hq
   simp only [hfx] at kF
   subst hq
   go_upto_region 16 with (go_at_call 30;(with_reducible refine (kF _).mono ?_);rintro e w12 ⟨rfl,hb12⟩)
   have hS0:=K.out w12.drew (hb12.drew)
   refine tkX (S:=(fun X=>X.cell? ⟨E,1,none⟩=some (.int .i64 e1v)∧X.cell? ⟨E,3,none⟩=some (.int .i64 e3v)∧X.cell? ⟨R,2,none⟩=some (.int .i64 (lm + e1v + e3v))∧X.cell? ⟨w.heap.size,3,none⟩=some (.int .i64 (a1.c 3))∧X.cell? ⟨w.heap.size,4,none⟩=some (.int .i64 (a1.c 4))∧X.cell? ⟨w.heap.size,7,none⟩=some (.int .i64 (a1.c 7))∧X.cell? ⟨w.heap.size,8,none⟩=some (.int .i64 (a1.c 8))∧X.cell? ⟨w.heap.size,11,none⟩=some (.int .i64 (a1.c 11))∧X.cell? ⟨w.heap.size,12,none⟩=some (.int .i64 (a1.c 12))∧E<X.heap.size∧R<X.heap.size∧w.heap.size<X.heap.size)) 19 ?_ ?_
   · exact hS0
   clear hS0
   intro hS0
   refine tkC 0 ?_
   refine tkC 1 ?_
   refine tkC 2 ?_
   refine tkC 3 ?_
   refine tkC 4 ?_
   refine tkC 5 ?_
   refine tkC 6 ?_
   refine tkC 7 ?_
   refine tkC 8 ?_
   refine tkC 9 ?_
   refine tkC 11 ?_
   refine tkC 12 ?_
   refine tkC 14 ?_
   refine tkC 15 ?_
   refine tk1 10 ?_
   refine Drawn.Step.call tkL (kI _) ?_
   rintro e w14 ⟨rfl,hb14⟩
   have hb15:=hb12.drew.trans (hb14.mono hb12.drew.size)
   exact Z1x
 · rw [hfx,if_pos rfl] at hq
   simp only [hfx] at kF
   rw [← hq] at kO
   go_upto_region 16 with (first | (go_at_call 30;(with_reducible refine (kF _).mono ?_);rintro e w12 ⟨rfl,hb12⟩;obtain ⟨y1,y3,y2,s3,s4,s7,s8,s11,s12,lE,lR,lX⟩:=K.out _ hb12) | (go_at_call 31;(with_reducible refine (kO _).mono ?_);rintro e w13 ⟨rfl,hb13⟩;have hb13':=hb12.trans (hb13.mono hb12.size)))
   have hS0:=K.out w13.drew (hb13'.drew)
   refine tkX (S:=(fun X=>X.cell? ⟨E,1,none⟩=some (.int .i64 e1v)∧X.cell? ⟨E,3,none⟩=some (.int .i64 e3v)∧X.cell? ⟨R,2,none⟩=some (.int .i64 (lm + e1v + e3v))∧X.cell? ⟨w.heap.size,3,none⟩=some (.int .i64 (a1.c 3))∧X.cell? ⟨w.heap.size,4,none⟩=some (.int .i64 (a1.c 4))∧X.cell? ⟨w.heap.size,7,none⟩=some (.int .i64 (a1.c 7))∧X.cell? ⟨w.heap.size,8,none⟩=some (.int .i64 (a1.c 8))∧X.cell? ⟨w.heap.size,11,none⟩=some (.int .i64 (a1.c 11))∧X.cell? ⟨w.heap.size,12,none⟩=some (.int .i64 (a1.c 12))∧E<X.heap.size∧R<X.heap.size∧w.heap.size<X.heap.size)) 19 ?_ ?_
   · exact hS0
   clear hS0
   intro hS0
   refine tkC 0 ?_
   refine tkC 1 ?_
   refine tkC 2 ?_
   refine tkC 3 ?_
   refine tkC 4 ?_
   refine tkC 5 ?_
   refine tkC 6 ?_
   refine tkC 7 ?_
   refine tkC 8 ?_
   refine tkC 9 ?_
   refine tkC 11 ?_
   refine tkC 12 ?_
   refine tkC 14 ?_
   refine tkC 15 ?_
   refine tk1 10 ?_
   refine Drawn.Step.call tkL (kI _) ?_
   rintro e w14 ⟨rfl,hb14⟩
   have hb15:=hb13'.drew.trans (hb14.mono hb13'.drew.size)
   exact Z1x
end Go.Proofs.YteggipnplbkijaaGreat.Fix
