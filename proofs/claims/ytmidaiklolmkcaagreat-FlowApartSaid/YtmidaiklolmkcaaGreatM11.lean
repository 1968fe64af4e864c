/- What functions of the program do, in plain numbers, part 11; no conditions. -/
import Derived.Test.YtmidaiklolmkcaaGreatM10
set_option linter.unusedVariables false
set_option linter.unusedSimpArgs false
set_option linter.unusedSectionVars false
set_option maxRecDepth 100000
set_option maxHeartbeats 16000000
namespace Go.Proofs.YtmidaiklolmkcaaGreat.Fix
open Go.ChangeShapes Go.WideShapes Go.ChangeAt Go.RowKit
def mM(l:Nat->Fe.It)(n:Nat)(x:Int):List Int:=(List.range n).map λi=>(Fe.fin l n (Fe.to x 67108864) i).z
def vG(S:Nat->Fe.St)(n:Nat):Prop:=Sound S n/\∀i,i<n->-134217728<=(S i).m/\(S i).m<=134217728
theorem La(gr:Bool)(l:Nat->Fe.It)(n:Nat):vG (Fe.begun gr l) n:=by
 refine⟨λi _ => ?_,λi _=>⟨by show -134217728<=(0:Int);omega,by show(0:Int)<=134217728;omega⟩⟩;obtain⟨q1,q2,_,_,_,_,_,_,q3,q4⟩:=Fe.H8 (l i);exact⟨⟨⟨q1,q2⟩,q3,q4⟩,Fe.jQ (l i) _⟩
theorem aaf{gr:Bool}{room:Int}{S:Nat->Fe.St}{n i:Nat}(h:Sound S n)(hi:i<n)(hf:(S i).f=false) : -67108864<=Fe.want gr (Fe.parts gr room S n) S i/\Fe.want gr (Fe.parts gr room S n) S i<=68157440:=by
 have hp:=Fe.PO S hi hf;obtain⟨⟨⟨hb1,hb2⟩,_⟩,_⟩:=h i hi;have hpv:0<=(Fe.parts gr room S n).getD (Fe.pl S i) 0/\(Fe.parts gr room S n).getD (Fe.pl S i) 0<=67108864:=by
  unfold Fe.parts;rw[Fe.Gi _ _ (by rw[Fe.rQ];exact hp)];exact Fe.Ca _ _ (by rw[Fe.rQ];exact hp)
 unfold Fe.want;have hq : -67108864<=Fe.sg gr*(Fe.parts gr room S n).getD (Fe.pl S i) 0/\Fe.sg gr*(Fe.parts gr room S n).getD (Fe.pl S i) 0<=67108864:=by cases gr<;>simp only[Fe.sg,Bool.false_eq_true,if_false,if_true]<;>omega
 omega
theorem tQ{gr:Bool}{room:Int}{S:Nat->Fe.St}{n:Nat}(h:vG S n):vG (Fe.shared gr room n S) n:=by
 constructor
 . intro i hi
   obtain⟨h1,h2⟩:=h.1 i hi;unfold Fe.shared Fe.fU;cases hf:(S i).f
   . simp only[Bool.false_eq_true,if_false]
     exact⟨h1,Fe.jQ _ _⟩
   . simp only[if_true]
     exact⟨h1,h2⟩
 . intro i hi
   have h3:=h.2 i hi;unfold Fe.shared Fe.fU;cases hf:(S i).f
   . simp only[Bool.false_eq_true,if_false]
     have:=aaf (gr:=gr) (room:=room) h.1 hi hf;have:=Fe.jQ (S i).x (Fe.want gr (Fe.parts gr room S n) S i);omega
   . simp only[if_true]
     exact h3
theorem Lb{S:Nat->Fe.St}{n:Nat}(h:vG S n):vG (Fe.froze n S) n:=by
 constructor
 . intro i hi
   have h1:=h.1 i hi;unfold Fe.froze;cases hf:(S i).f<;>simp only[Bool.false_eq_true,if_false,if_true]<;>exact h1
 . intro i hi
   have h1:=h.2 i hi;unfold Fe.froze;cases hf:(S i).f<;>simp only[Bool.false_eq_true,if_false,if_true]<;>exact h1
theorem IK{gr:Bool}{room:Int}{S:Nat->Fe.St}{n:Nat}(h:vG S n)(k:Nat):vG (Fe.rounds gr room n S k) n:=by
 induction k with
 | zero=>exact h
 | succ k ih=>exact Lb (tQ ih)
theorem Gw(R I n:Nat)(room:Int)(gr:Bool)(S:Nat->Fe.St)(w:World)(h:fA w R I n room gr S)(hn:n<=64) :
  Calls Tryz.prog 164 #[.pointer (some ⟨R,0,none⟩)] w λe w'=>(∃b,e=.returned (.slice (some ⟨b,0,none⟩) n n)/\w.heap.size<=b/\Ints w' (some ⟨b,0,none⟩) ((List.range n).map λi=>(S i).z))/\Below w.heap.size w w':=by
 obtain⟨i0,hi0,hz0,hz1,hz2⟩:=info_parts intZero;have HR:=ah h;obtain⟨l0,c0,c1,c2⟩:=h.cells;clear h c1 c2;go_enter Tryz.func164,Tryz.ntmps164
 go_upto_region 2 with(at_make;refine wpList_make_row _ rfl _ _ 30 rfl 3 i0 (.int .i64 0) Tryz.underlying30 hi0 hz0 hz1 rfl .i64 .i64 n rfl rfl QS aj ?_)
 have Vb:At (w.alloc (.cells (madeCells #[.int .i64 0] n) 3)) w.heap.size (.cells (aO (λi=>(S i).z) n 0) 3):=by rw[<-jT];exact At.new _ _
 have hB0:Below w.heap.size w (w.alloc (.cells (madeCells #[.int .i64 0] n) 3)):=Below.alloc' aF _;generalize (w.alloc (.cells (madeCells #[.int .i64 0] n) 3))=W1 at *;obtain⟨l0',c0',-, -⟩:=(HR.out.keep hB0).cells;go_wp2
 go_loopw [17] (λi wr=>∃k:Nat,k<=n/\i=.int .i64 k/\At wr w.heap.size (.cells (aO (λi=>(S i).z) n k) 3)/\Below w.heap.size w wr) (λi _=>n-(intOf i).toNat)
 case atStart=>exact⟨0,by omega,rfl,Vb,hB0⟩
 case round =>
  obtain⟨k,hk,rfl,hA,hB⟩:=hrel;by_cases hlt:k<n
  . obtain⟨l1,d0,d1,d2,d3,d4,d5,d6,d7⟩:=(HR.out.keep hB).2.fields hlt
    have HZ:Hid ((λi=>(S i).z) k=(S k).z):=ah rfl;have hz:=hA.thaw k;have hc0:=hA.cell k;rw[dh _ hlt]at hc0;simp only[Nat.lt_irrefl,if_false]at hc0;have hlb:=hA.lt;have hsz:=hB.size
    have fin:∀(W5:World),Below wr.heap.size wr W5->At (W5.setCell ⟨w.heap.size,k,none⟩ (.int .i64 (S k).z)) w.heap.size (.cells (aO (λi=>(S i).z) n (k+1)) 3)/\Below w.heap.size w (W5.setCell ⟨w.heap.size,k,none⟩ (.int .i64 (S k).z)):=λW5 hb =>
     ⟨by rw[<-ku _ hlt];exact(hA.keep hb).set k _,Below.setCell (Below.trans hB (hb.mono aj)) aD _⟩
    have FIN:=ah fin;clear fin;generalize (S k).x.b=v0 at *;generalize (S k).x.lo=v1 at *;generalize (S k).x.hi=v2 at *;generalize (S k).x.g=v3 at *;generalize (S k).x.s=v4 at *;generalize (S k).z=v5 at *;generalize (S k).m=v6 at *;generalize (S k).f=v7 at *;go_wp2
    go_roundw
    case rel=>exact⟨k+1,by omega,by go_num,(FIN.out wr aF).1.alloc _,Below.alloc' (FIN.out wr aF).2 _⟩
    case measure=>simp[intOf];omega
  . obtain rfl:k=n:=by omega
    go_wp2;refine bodyPost_ret (v:=.slice (some ⟨w.heap.size,0,none⟩) k k) (by simp[results,Tryz.results164,go_sem, *];first|done|exact⟨rfl,rfl⟩|rfl) rfl ⟨⟨w.heap.size,rfl,aG _,tO _ k JK hA⟩,hB⟩
def aag(W:World)(I:Nat):Nat->Nat
 | 0=>0
 | k+1=>aag W I k+(match W.cell? ⟨I,k*8+7,none⟩with
   | some (.bool false)=>1
   | _=>0)
def yQ(W:World)(v:Value):Nat :=
 match v with
 | .pointer (some p)=>(match W.cell? ⟨p.block,0,none⟩with
   | some (.slice (some q) n _)=>aag W q.block n
   | _=>0)
 | _=>0
theorem AO{W:World}{R I n:Nat}{room:Int}{gr:Bool}{S:Nat->Fe.St}(h:fA W R I n room gr S):yQ W (.pointer (some ⟨R,0,none⟩))=Fe.pl S n:=by
 have c:∀k,k<=n->aag W I k=Fe.pl S k:=by
  intro k hk
  induction k with
  | zero=>rfl
  | succ k ih =>
    have h7:W.cell? ⟨I,k*8+7,none⟩=some (.bool (S k).f):=h.2.cell (show k<n by omega) 7 aj;simp only[aag,Fe.pl,ih aj,h7];cases (S k).f<;>simp
 simp only[yQ,h.cells.2.1];exact c n aD
set_option maxRecDepth 100000 in
theorem M6(A:Option Addr)(l:Nat->Fe.It)(n c:Nat)(x:Int)(w:World)(hI:Items w A l n)(hn:n<=64) :
  Calls Tryz.prog 157 #[.slice A n c,.int .i64 x] w λe w'=>(∃b,e=.returned (.slice (some ⟨b,0,none⟩) n n)/\w.heap.size<=b/\Ints w' (some ⟨b,0,none⟩) (mM l n x))/\Below w.heap.size w w':=by
 obtain⟨room,hroom⟩:∃room,room=Fe.to x 67108864:=⟨_,rfl⟩;have r1:0<=room:=by rw[hroom];exact Fe.rP aj
 have r2:room<=67108864:=by rw[hroom];exact Fe.uy aj
 have HRM:=ah hroom;clear hroom;have HI:=ah hI;clear hI;obtain⟨gr,hgr⟩:∃gr,gr=Fe.yB l n room:=⟨_,rfl⟩;have HS:Hid (∀k,vG (Fe.rounds gr room n (Fe.begun gr l) k) n):=ah (λk=>IK (La gr l n) k)
 have HF:Hid (∀k,k<=n->Fe.pl (Fe.rounds gr room n (Fe.begun gr l) k) n=0->(List.range n).map (λi=>(Fe.rounds gr room n (Fe.begun gr l) k i).z)=mM l n x):=ah (by
  intro k hk h0;unfold mM Fe.fin;rw[<-HRM.out,<-hgr];apply List.map_congr_left;intro i hi;have hi:i<n:=by simpa using hi
  rw[Fe.Ic (Fe.YX h0 i hi) n hk])
 have HG:=ah hgr;clear hgr;go_enter Tryz.func157,Tryz.ntmps157
 go_wp2
 refine wp_scope_jumps 0 (λa' w'=>∃(R I k:Nat) (u8 u13 u14 u15 u16 u17 u18 u19 u20:Value),a'={ tmps:=#[.slice A n c,.int .i64 x,undef,undef,.slice none 0 0,.pointer (some ⟨R,0,none⟩),.slice A n c,.int .i64 n,u8,.slice A n c,.int .i64 x,.int .i64 room,.pointer (some ⟨R,0,none⟩),u13,u14,u15,u16,u17,u18,u19,u20],defers:=[] } /\
  w.heap.size<=I/\fA w' R I n room gr (Fe.rounds gr room n (Fe.begun gr l) k)/\Below w.heap.size w w'/\k+Fe.pl (Fe.rounds gr room n (Fe.begun gr l) k) n<=n) (λa' w'=>yQ w' (a'.tmps.getD 5 undef)) rfl ?_ ?_
 . go_wp2_with (first|(go_at_call 110;refine(IJ _ _ _ aj).mono ?_;rintro e w' ⟨rfl,rfl⟩;rw[<-HRM.out])|(go_at_call 160;refine(RD A l n c room _ HI.out hn ⟨r1,r2⟩).mono ?_;rintro e w1 ⟨⟨R,I,rfl,Yd,wV⟩,hB⟩;rw[<-HG.out]at wV))
   go_step3;replace wV:fA w1 R I n room gr (Fe.rounds gr room n (Fe.begun gr l) 0):=wV;have hS:=HS.out 0;by_cases hp:0<Fe.pl (Fe.rounds gr room n (Fe.begun gr l) 0) n
   . go_wp2_with (first|(go_at_call 161;refine(Cn R I n room gr _ _ wV hn).mono ?_;rintro e w2 ⟨rfl,hb2⟩;rw[decide_eq_true hp];replace wV:=wV.keep hb2;replace hB:=Below.ay hB aD hb2;clear hb2)|(go_at_call 162;refine(DW w.heap.size R I n room gr _ _ wV hn ⟨Yd,hB.size⟩ hS.1 ⟨r1,r2⟩).mono ?_;rintro e w3 ⟨⟨v3,rfl⟩,acs,hb3⟩;replace hB:=Below.trans hB hb3;clear hb3)|(go_at_call 163;refine(DU w.heap.size R I n room gr _ _ acs hn ⟨Yd,hB.size⟩ (tQ hS).2).mono ?_;rintro e w4 ⟨⟨v4,rfl⟩,aah,hb4⟩;replace hB:=Below.trans hB hb4;clear hb4))
     go_step3;have hless:=Fe.Da gr room hp;refine⟨rfl,R,I,1,_,_,_,_,_,_,_,_,_,rfl,Yd,aah,hB,?_⟩;have h1:=Fe.PN (Fe.rounds gr room n (Fe.begun gr l) 0) n;change 1+Fe.pl (Fe.round gr room n (Fe.rounds gr room n (Fe.begun gr l) 0)) n<=n;omega
   . have h0:Fe.pl (Fe.rounds gr room n (Fe.begun gr l) 0) n=0:=by omega
     go_wp2_with (first|(go_at_call 161;refine(Cn R I n room gr _ _ wV hn).mono ?_;rintro e w2 ⟨rfl,hb2⟩;rw[decide_eq_false hp];replace wV:=wV.keep hb2;replace hB:=Below.ay hB aD hb2;clear hb2)|(go_at_call 164;refine(Gw R I n room gr _ _ wV hn).mono ?_;rintro e w3 ⟨⟨b,rfl,hbb,Uc⟩,hb3⟩;rw[HF.out 0 aj h0]at Uc;have hsz:=hB.size;replace hB:=Below.ay hB aD hb3;clear hb3))
     exact Z32
 . rintro a' w' ⟨R,I,k,u8,u13,u14,u15,u16,u17,u18,u19,u20,rfl,Yd,wV,hB,hk⟩
   have HLO:=ah (AO wV);have hS:=HS.out k;by_cases hp:0<Fe.pl (Fe.rounds gr room n (Fe.begun gr l) k) n
   . go_wp2_with (first|(go_at_call 161;refine(Cn R I n room gr _ _ wV hn).mono ?_;rintro e w2 ⟨rfl,hb2⟩;rw[decide_eq_true hp];replace wV:=wV.keep hb2;replace hB:=Below.ay hB aD hb2;clear hb2)|(go_at_call 162;refine(DW w.heap.size R I n room gr _ _ wV hn ⟨Yd,hB.size⟩ hS.1 ⟨r1,r2⟩).mono ?_;rintro e w3 ⟨⟨v3,rfl⟩,acs,hb3⟩;replace hB:=Below.trans hB hb3;clear hb3)|(go_at_call 163;refine(DU w.heap.size R I n room gr _ _ acs hn ⟨Yd,hB.size⟩ (tQ hS).2).mono ?_;rintro e w4 ⟨⟨v4,rfl⟩,aah,hb4⟩;replace hB:=Below.trans hB hb4;clear hb4))
     go_step3;have hless:=Fe.Da gr room hp;refine⟨rfl,⟨R,I,k+1,_,_,_,_,_,_,_,_,_,rfl,Yd,aah,hB,?_⟩,?_⟩
     . change k+1+Fe.pl (Fe.round gr room n (Fe.rounds gr room n (Fe.begun gr l) k)) n<=n
       omega
     . show yQ _ (.pointer (some ⟨R,0,none⟩))<yQ _ (.pointer (some ⟨R,0,none⟩))
       rw[AO aah,HLO.out];exact hless
   . have h0:Fe.pl (Fe.rounds gr room n (Fe.begun gr l) k) n=0:=by omega
     go_wp2_with (first|(go_at_call 161;refine(Cn R I n room gr _ _ wV hn).mono ?_;rintro e w2 ⟨rfl,hb2⟩;rw[decide_eq_false hp];replace wV:=wV.keep hb2;replace hB:=Below.ay hB aD hb2;clear hb2)|(go_at_call 164;refine(Gw R I n room gr _ _ wV hn).mono ?_;rintro e w3 ⟨⟨b,rfl,hbb,Uc⟩,hb3⟩;rw[HF.out k aj h0]at Uc;have hsz:=hB.size;replace hB:=Below.ay hB aD hb3;clear hb3))
     exact Z32
structure Im where
 it:Fe.It
 ld:Fw.Ld
 bx:Nat
 m0:Int
 m1:Int
 m2:Int
 m3:Int
def eH(x:Fw.Ld):Array Value:=#[.int .i64 x.id,.int .i64 x.i0,.int .i64 x.i1,.int .i64 x.s0,.int .i64 x.s1,.int .i64 x.a0,.int .i64 x.a1]
def nS(x:Im):Array Value:=#[.int .i64 x.it.b,.int .i64 x.it.lo,.int .i64 x.it.hi,.int .i64 x.it.g,.int .i64 x.it.s,.int .i64 x.ld.id,.int .i64 x.ld.i0,.int .i64 x.ld.i1,.int .i64 x.ld.s0,.int .i64 x.ld.s1,.int .i64 x.ld.a0,.int .i64 x.ld.a1,.pointer (some ⟨x.bx,0,none⟩),.int .i64 x.m0,.int .i64 x.m1,.int .i64 x.m2,.int .i64 x.m3]
theorem At.im{W:World}{b:Nat}{x:Im}{T:TypeId}(h:At W b (.cells (nS x) T)):b<W.heap.size/\W.cell? ⟨b,0,none⟩=some (.int .i64 x.it.b)/\W.cell? ⟨b,1,none⟩=some (.int .i64 x.it.lo)/\W.cell? ⟨b,2,none⟩=some (.int .i64 x.it.hi)/\W.cell? ⟨b,3,none⟩=some (.int .i64 x.it.g)/\W.cell? ⟨b,4,none⟩=some (.int .i64 x.it.s)/\W.cell? ⟨b,5,none⟩=some (.int .i64 x.ld.id)/\W.cell? ⟨b,6,none⟩=some (.int .i64 x.ld.i0)/\W.cell? ⟨b,7,none⟩=some (.int .i64 x.ld.i1)/\W.cell? ⟨b,8,none⟩=some (.int .i64 x.ld.s0)/\W.cell? ⟨b,9,none⟩=some (.int .i64 x.ld.s1)/\W.cell? ⟨b,10,none⟩=some (.int .i64 x.ld.a0)/\W.cell? ⟨b,11,none⟩=some (.int .i64 x.ld.a1)/\W.cell? ⟨b,12,none⟩=some (.pointer (some ⟨x.bx,0,none⟩))/\W.cell? ⟨b,13,none⟩=some (.int .i64 x.m0)/\W.cell? ⟨b,14,none⟩=some (.int .i64 x.m1)/\W.cell? ⟨b,15,none⟩=some (.int .i64 x.m2)/\W.cell? ⟨b,16,none⟩=some (.int .i64 x.m3) :=
 ⟨h.lt,h.cell 0,h.cell 1,h.cell 2,h.cell 3,h.cell 4,h.cell 5,h.cell 6,h.cell 7,h.cell 8,h.cell 9,h.cell 10,h.cell 11,h.cell 12,h.cell 13,h.cell 14,h.cell 15,h.cell 16⟩
theorem Lc:(Tryz.prog.info? 168).map (·.size)=some 17:=by kernel_rfl
theorem RF{W:World}{b:Nat}{x:Im}(h:At W b (.cells (nS x) 168)):(Instr.loadAt 168 (.pointer (some ⟨b,0,none⟩))).run Tryz.prog W=.ok (.agg (nS x)) W:=by
 simp only[Instr.loadAt,Instr.sureAddr,Sem.run_bind,Sem.run_pure,Result.andThen_ok,run_loadVar_row W b 168 168 (nS x) (0,0) _ h Tryz.underlying168 rfl (by exact Lc)]
theorem vH{o:Oper}{a:Act}{w:World}{b:Nat}{x:Im}(p:Operand)(ho:o.op=.load 168 p)(hp:a.eval p=.pointer (some ⟨b,0,none⟩))(h:At w b (.cells (nS x) 168)):(execOp a.eval o).run Tryz.prog w=.ok (.value (.agg (nS x))) w:=by
 unfold execOp;simp only[ho,hp,Sem.run_bind,RF h,Result.andThen_ok,Sem.run_pure]
def Vn(x:Im)(s:Re.St):Int:=Fw.wr (Fw.wr (x.m0+x.m1)+Fw.iB s 0)
def ext1(x:Im)(s:Re.St):Int:=Fw.wr (Fw.wr (x.m2+x.m3)+Fw.iB s 1)
theorem Qb(x:Im)(s:Re.St)(fl ap:Value)(ib:Bool)(w:World)(h:aL w x.bx s fl ap ib):Calls Tryz.prog 132 #[.agg (nS x),.int .i64 0] w λe w'=>e=.returned (.int .i64 (Vn x s))/\Below w.heap.size w w':=by
 obtain⟨it,ld,b,m0,m1,m2,m3⟩:=x;go_enter Tryz.func132,Tryz.ntmps132
 go_upto_region 1 with(fail)
 generalize hW:World.alloc _ _=W0;have A0:At W0 w.heap.size (.cells (nS ⟨it,ld,b,m0,m1,m2,m3⟩) 168):=hW▸At.new _ _;have A2:aL W0 b s fl ap ib:=hW▸aL.alloc h _;have hB:Below w.heap.size w W0:=hW▸Below.alloc' aF _;clear hW h;obtain⟨l0,-, -, -, -, -, -, -, -, -, -, -, -, c0,c1,c2,c3,c4⟩:=At.im A0;obtain⟨l2,aR,aS,aT,aU,bC,bD,bA,bB⟩:=At.bx0 A2;simp only at c0 c1 c2 c3 c4;exact Z1k
theorem Qc(x:Im)(s:Re.St)(fl ap:Value)(ib:Bool)(w:World)(h:aL w x.bx s fl ap ib):Calls Tryz.prog 132 #[.agg (nS x),.int .i64 1] w λe w'=>e=.returned (.int .i64 (ext1 x s))/\Below w.heap.size w w':=by
 obtain⟨it,ld,b,m0,m1,m2,m3⟩:=x;go_enter Tryz.func132,Tryz.ntmps132
 go_upto_region 1 with(fail)
 generalize hW:World.alloc _ _=W0;have A0:At W0 w.heap.size (.cells (nS ⟨it,ld,b,m0,m1,m2,m3⟩) 168):=hW▸At.new _ _;have A2:aL W0 b s fl ap ib:=hW▸aL.alloc h _;have hB:Below w.heap.size w W0:=hW▸Below.alloc' aF _;clear hW h;obtain⟨l0,-, -, -, -, -, -, -, -, -, -, -, -, c0,c1,c2,c3,c4⟩:=At.im A0;obtain⟨l2,aR,aS,aT,aU,bC,bD,bA,bB⟩:=At.bx1 A2;simp only at c0 c1 c2 c3 c4;exact Z1k
def AV(x:Im):Int:=Fw.wr (x.ld.s0+Fw.wr (x.m0+x.m1))
def AZ(x:Im):Int:=Fw.wr (x.ld.s1+Fw.wr (x.m2+x.m3))
theorem Qd(x:Im)(B:Nat)(w:World)(h:w.cell? ⟨B,0,none⟩=some (.int .i64 0)):Calls Tryz.prog 137 #[.agg (nS x),.pointer (some ⟨B,0,none⟩)] w λe w'=>e=.returned (.int .i64 (AV x))/\Below w.heap.size w w':=by
 exact Z11
theorem Qe(x:Im)(B:Nat)(w:World)(h:w.cell? ⟨B,0,none⟩=some (.int .i64 1)):Calls Tryz.prog 137 #[.agg (nS x),.pointer (some ⟨B,0,none⟩)] w λe w'=>e=.returned (.int .i64 (AZ x))/\Below w.heap.size w w':=by
 exact Z11
theorem Vo(x:Im)(s:Re.St)(fl ap:Value)(ib:Bool)(B:Nat)(w:World)(hb:aL w x.bx s fl ap ib)(h:w.cell? ⟨B,0,none⟩=some (.int .i64 0)):Calls Tryz.prog 130 #[.agg (nS x),.pointer (some ⟨B,0,none⟩)] w λe w'=>e=.returned (.int .i64 (Fw.wr (Fe.clamp x.it x.it.b+Vn x s)))/\Below w.heap.size w w':=by
 obtain⟨⟨ib0,ilo,ihi,ig,is⟩,ld,b,m0,m1,m2,m3⟩:=x;have hlt:B<w.heap.size:=World.block_lt_of_cell? _ _ h;go_enter Tryz.func130,Tryz.ntmps130
 go_upto_region 1 with(fail)
 have hB:Below w.heap.size w (w.alloc (.cells (nS ⟨⟨ib0,ilo,ihi,ig,is⟩,ld,b,m0,m1,m2,m3⟩) 168)):=Below.alloc' aF _;generalize hW:World.alloc _ _=W0;have A0:At W0 w.heap.size (.cells (nS ⟨⟨ib0,ilo,ihi,ig,is⟩,ld,b,m0,m1,m2,m3⟩) 168):=hW▸At.new _ _;have A2:aL W0 b s fl ap ib:=hW▸aL.alloc hb _;replace hB:Below w.heap.size w W0:=hW▸hB;have lB:B<W0.heap.size:=aV hlt hB.size;have cB:=(Below.cell_ hB hlt 0).trans h;clear hW h hlt hb;obtain⟨l0,e0,e1,e2,e3,e4,d0,d1,d2,d3,d4,d5,d6,c0,c1,c2,c3,c4⟩:=At.im A0;simp only at e0 e1 e2 e3 e4 d0 d1 d2 d3 d4 d5 d6 c0 c1 c2 c3 c4;have HX:aL W0 (Im.mk ⟨ib0,ilo,ihi,ig,is⟩ ld b m0 m1 m2 m3).bx s fl ap ib:=A2;have hx:=λw' (hS:Below W0.heap.size W0 w')=>Qb ⟨⟨ib0,ilo,ihi,ig,is⟩,ld,b,m0,m1,m2,m3⟩ s fl ap ib w' (aL.keep HX hS);have hc:=λw'=>Co ib0 ilo ihi ig is ib0 w';clear HX A2;have HI:=ah A0;refine xW ?_
 (refine ak.jc aX Z4e ?_;(try simp only[bL,bM,bN,tks]))
 (refine ak.jc aX Z4e ?_;(try simp only[bL,bM,bN,tks]))
 (refine ak.jc aX Z4e ?_;(try simp only[bL,bM,bN,tks]))
 (refine ak.jc aX Z4e ?_;(try simp only[bL,bM,bN,tks]))
 (refine ak.jc aX Z4e ?_;(try simp only[bL,bM,bN,tks]))
 (refine ak.Dk (o:=⟨_,.call ⟨.value _,_,_⟩,_,_,_,_⟩) aX (by intro w2 hS;go_simp;first|done|with_reducible rfl|exact⟨rfl,rfl⟩) (by intro w2 hS;(with_reducible refine(hc w2).mono ?_);rintro e w' ⟨rfl,hb⟩;exact⟨rfl,Below.after hS hb⟩) ?_;(try simp only[bL,bM,bN,tks]))
 (refine ak.jc aX (λw2 hS=>vH (.tmp 2) rfl rfl (At.keep HI.out hS)) ?_;(try simp only[bL,bM,bN,tks]))
 (refine ak.jc aX Z4e ?_;(try simp only[bL,bM,bN,tks]))
 (refine ak.Dk (o:=⟨_,.call ⟨.value _,_,_⟩,_,_,_,_⟩) aX (by intro w2 hS;go_simp;first|done|with_reducible rfl|exact⟨rfl,rfl⟩) (by intro w2 hS;(with_reducible refine(hx w2 hS).mono ?_);rintro e w' ⟨rfl,hb⟩;exact⟨rfl,Below.after hS hb⟩) ?_;(try simp only[bL,bM,bN,tks]))
 (refine ak.jc aX Z4e ?_;(try simp only[bL,bM,bN,tks]))
 (refine ak.jc aX Z4e ?_;(try simp only[bL,bM,bN,tks]))
 refine ak.cK ?_;intro w2 hS;go_wp2
 go_ret
 exact⟨bO (by first|(simp only[uR,rH];done)|(simp only[uR,rH];rfl)),Below.ay hB aD hS⟩
theorem acu(x:Im)(w:World):Calls Tryz.prog 136 #[.agg (nS x)] w λe w'=>e=.returned (.int .i64 (Fe.clamp x.it x.it.b))/\Below w.heap.size w w':=by
 obtain⟨⟨ib0,ilo,ihi,ig,is⟩,ld,b,m0,m1,m2,m3⟩:=x;go_enter Tryz.func136,Tryz.ntmps136
 go_upto_region 1 with(fail)
 have hB:Below w.heap.size w (w.alloc (.cells (nS ⟨⟨ib0,ilo,ihi,ig,is⟩,ld,b,m0,m1,m2,m3⟩) 168)):=Below.alloc' aF _;generalize hW:World.alloc _ _=W0;have A0:At W0 w.heap.size (.cells (nS ⟨⟨ib0,ilo,ihi,ig,is⟩,ld,b,m0,m1,m2,m3⟩) 168):=hW▸At.new _ _;replace hB:Below w.heap.size w W0:=hW▸hB;clear hW;obtain⟨l0,e0,e1,e2,e3,e4,-, -, -, -, -, -, -, -, -, -, -, -⟩:=At.im A0;simp only at e0 e1 e2 e3 e4
 go_wp2_with (first|(go_at_call 131;(with_reducible refine(Co _ _ _ _ _ _ _).mono ?_);rintro e w' ⟨rfl,hb⟩;(try replace hb:=Below.after (by assumption) hb);obtain⟨hc,hf⟩:=kY hb;have hz:=hb.size;(try simp at hz)))
 go_ret
 exact⟨rfl,hb⟩
def EX(s:Re.St)(y:Nat)(base room:Int):Fe.It:=⟨Fx.len (s.c 41) (s.c 42) room base,Fx.limit 0 (s.c (7+2*y)) (s.c (8+2*y)) 0 0 room,max (Fx.len (s.c (11+2*y)) (s.c (12+2*y)) room 1048576) 0,s.c 39,s.c 40⟩
def wI(x:Fe.It):Array Value:=#[.int .i64 x.b,.int .i64 x.lo,.int .i64 x.hi,.int .i64 x.g,.int .i64 x.s]
theorem At.abG{W:World}{b:Nat}{x0 x1 x2 x3 x4:Value}{T:TypeId}(h:At W b (.cells #[x0,x1,x2,x3,x4] T)):b<W.heap.size/\W.cell? ⟨b,0,none⟩=some x0/\W.cell? ⟨b,1,none⟩=some x1/\W.cell? ⟨b,2,none⟩=some x2/\W.cell? ⟨b,3,none⟩=some x3/\W.cell? ⟨b,4,none⟩=some x4:=⟨h.lt,h.cell 0,h.cell 1,h.cell 2,h.cell 3,h.cell 4⟩
theorem Qf(k0 n0 k1 n1 k2 n2:Int)(s:Re.St)(base room:Int)(w:World):Calls Tryz.prog 93 #[.agg #[.int .i64 k0,.int .i64 n0,.int .i64 k1,.int .i64 n1,.int .i64 k2,.int .i64 n2],.agg (cells s),.int .i64 base,.int .i64 room] w λe w'=>e=.returned (.agg #[.int .i64 (Fx.len (s.c 41) (s.c 42) room base),.int .i64 (Fx.limit 0 k1 n1 0 0 room),.int .i64 (max (Fx.len k2 n2 room 1048576) 0),.int .i64 (s.c 39),.int .i64 (s.c 40)])/\Below w.heap.size w w':=by
 go_enter Tryz.func93,Tryz.ntmps93
 go_upto_region 1 with(fail)
 generalize hW:World.alloc _ _=W0;have A0:At W0 w.heap.size (.cells #[.int .i64 k0,.int .i64 n0,.int .i64 k1,.int .i64 n1,.int .i64 k2,.int .i64 n2] 112):=hW▸At.alloc (At.alloc (At.new _ _) _) _;have A1:At W0 (w.heap.size+1) (.cells (cells s) 46):=by rw[<-hW];exact At.alloc (At.new' _ EM) _
 have A2:At W0 (w.heap.size+1+1) (.cells #[.int .i64 0,.int .i64 0,.int .i64 0,.int .i64 0,.int .i64 0] 166):=by rw[<-hW];exact At.new' _ EM
 have hB:Below w.heap.size w W0:=hW▸Below.alloc' (Below.alloc' (Below.alloc' aF _) _) _;clear hW;obtain⟨l0,c0,c1,c2,c3,c4,c5⟩:=At.six A0;have l1:=A1.lt;have d0:=A1.st 41 aH rfl;have d1:=A1.st 42 aH rfl;have d2:=A1.st 39 aH rfl;have d3:=A1.st 40 aH rfl;refine xq 20 1 ?_
 (repeat (first|refine nW ?_ | refine nX ?_ (hc:=by intro w2 hS;first|with_reducible exact nR hS (nI _ _ _ _ _)|with_reducible exact nR hS (Gn _ _ _ _ _ _ _))|refine nY ?_))
 refine ak.dN ?_;intro w2 hS;replace A2:=A2.keep hS;replace hB:=Below.ay hB aD hS;obtain⟨l2,y0,y1,y2,y3,y4⟩:=At.abG A2;have z0:=A2.thaw 0;have z1:=A2.thaw 1;have z2:=A2.thaw 2;have z3:=A2.thaw 3;have z4:=A2.thaw 4;refine x9 ?_;intro K hK;go_simp;refine hK _ _ (ak.bV ?_);clear hK K;generalize hW:World.setCell _ _ _=W1;replace A2:At W1 (w.heap.size+1+1) (.cells #[_,_,_,_,_] 166):=hW▸At.set (At.set (At.set (At.set (At.set A2 0 _) 1 _) 2 _) 3 _) 4 _;replace hB:Below w.heap.size w W1:=hW▸Below.setCell (Below.setCell (Below.setCell (Below.setCell (Below.setCell hB jM _) jM _) jM _) jM _) jM _;clear hW y0 y1 y2 y3 y4 z0 z1 z2 z3 z4 l2;obtain⟨l2,y0,y1,y2,y3,y4⟩:=At.abG A2;go_wp2;refine bodyPost_ret (v:=.agg #[.int .i64 _,.int .i64 _,.int .i64 _,.int .i64 _,.int .i64 _]) (by simp[results,Tryz.results93,go_sem, *];first|done|exact⟨rfl,rfl⟩|exact⟨rfl,rfl,rfl,rfl,rfl⟩|rfl) rfl ⟨KW rfl rfl rfl rfl rfl,hB⟩
def hR:Value->Option (DataW Value×List MemPlace):=λv=>some (.held v,[])
def GM(k:TypeId)(W:World)(b n:Nat)(g:Lit->Option Value):Prop :=
 ∃D:DataW Value,W.ownsMap Tryz.prog k hR b n D/\Maps.size D=n/\∀l,WideAt.IsKeyLit l->(∀z,D.atKey l (.held z)=.held ((g l).getD z))/\Maps.has D l=(g l).isSome
section
variable {k t e:TypeId} {W W':World} {b n:Nat} {g:Lit->Option Value}
theorem GM.lt(h:GM k W b n g):b<W.heap.size:=by obtain⟨D,h,_⟩:=h;exact h.lt
theorem GM.obj(h:GM k W b n g):∃es clock,At W b (.map es clock):=by obtain⟨D,⟨es,clock,hb,_⟩,_⟩:=h;exact⟨es,clock,hb⟩
theorem GM.out{M:Nat->Prop}(h:GM k W b n g)(hm:¬ M b)(q:Out M W W'):GM k W' b n g:=by
 have hl:=h.lt;obtain⟨D,⟨es,clock,hb,r⟩,r2⟩:=h;exact⟨D,⟨es,clock,(q.2 b hl hm).trans hb,r⟩,r2⟩
theorem GM.keep(h:GM k W b n g)(hb:Below W.heap.size W W'):GM k W' b n g:=h.out (M:=λ_=>False) (λq=>q) (Out.of_below hb)
theorem GM.congr{g':Lit->Option Value}(h:GM k W b n g)(q:∀l,WideAt.IsKeyLit l->g l=g' l):GM k W b n g':=by
 obtain⟨D,h1,h2,h3⟩:=h;exact⟨D,h1,h2,λl hl=>by rw[<-q l hl];exact h3 l hl⟩
theorem GM.look(h:GM k W b n g)(K:Maps.Keyed Tryz.prog k)(ht:Tryz.prog.underlying t=some (.map k e)){z:Value}(hz:(zeroValue e).run Tryz.prog W=.ok z W){key:Value}{kl:Lit}(hkey:keyOf Tryz.prog k key=some kl) :
  (Instr.lookup t (.map (some b)) key false).run Tryz.prog W=.ok ((g kl).getD z) W:=by
 obtain⟨D,h1,_,h3⟩:=h;obtain⟨v,ps,hr,hv⟩:=h1.lookup (z:=z) (zd:=.held z) (zp:=[]) K ht hz rfl hkey;rw[(h3 kl (K.key hkey)).1 z]at hv;simp only[hR,Option.some.injEq,Prod.mk.injEq,DataW.held.injEq]at hv;rw[hr,hv.1]
theorem GM.look_ok(h:GM k W b n g)(K:Maps.Keyed Tryz.prog k)(ht:Tryz.prog.underlying t=some (.map k e)){z:Value}(hz:(zeroValue e).run Tryz.prog W=.ok z W){key:Value}{kl:Lit}(hkey:keyOf Tryz.prog k key=some kl) :
  (Instr.lookup t (.map (some b)) key true).run Tryz.prog W=.ok (.tuple #[(g kl).getD z,.bool (g kl).isSome]) W:=by
 obtain⟨D,h1,_,h3⟩:=h;obtain⟨v,ps,hr,hv⟩:=h1.look_ok (z:=z) (zd:=.held z) (zp:=[]) K ht hz rfl hkey;rw[(h3 kl (K.key hkey)).1 z]at hv;simp only[hR,Option.some.injEq,Prod.mk.injEq,DataW.held.injEq]at hv;rw[hr,hv.1,(h3 kl (K.key hkey)).2]
theorem GM.len(h:GM k W b n g)(ht:Tryz.prog.underlying t=some (.map k e))(ty:TypeId):(Builtin.len_ #[t] ty #[.map (some b)]).run Tryz.prog W=.ok (.int .i64 (n:Int)) W:=by
 obtain⟨D,h1,h2,_⟩:=h;rw[h1.len ht ty,h2]
noncomputable def xM(g:Lit->Option Value)(l:Lit)(v:Value):Lit->Option Value:=λy=>@ite (Option Value) (y=l) (Classical.propDecidable _) (some v) (g y)
theorem mY(g:Lit->Option Value)(l:Lit)(v:Value):xM g l v l=some v:=if_pos rfl
theorem oM{g:Lit->Option Value}{l y:Lit}{v:Value}(h:y≠l):xM g l v y=g y:=if_neg h
theorem Vp{P:Program}{k:TypeId}{R:Value->Option (DataW Value×List MemPlace)}{W:World}{b n:Nat}{D:DataW Value}(h:W.ownsMap P k R b n D):W.ownsMap P k R b (Maps.size D) D:=by
 obtain⟨es,clock,hb,F,hs,rfl⟩:=h;exact⟨es,clock,hb,F,by simp[Maps.size,length_sorted],rfl⟩
theorem GM.store(h:GM k W b n g)(K:Maps.Keyed Tryz.prog k)(ht:Tryz.prog.underlying t=some (.map k e))(hn:n<maxLen){key v:Value}{kl:Lit}(hkey:keyOf Tryz.prog k key=some kl)(hf:g kl=none) :
  ∃W',(Instr.mapUpdate t (.map (some b)) key v).run Tryz.prog W=.ok () W'/\GM k W' b (n+1) (xM g kl v)/\Out (λx=>x=b) W W':=by
 obtain⟨D,h1,h2,h3⟩:=h;obtain⟨W',hr,ho,ht⟩:=h1.store K ht hn hkey (val:=v) rfl;have hsz:Maps.size (D.put kl (.held v))=n+1:=by
  rw[Maps.size_put (h1.tidy K),(h3 kl (K.key hkey)).2,hf,h2];rfl
 refine⟨W',hr,⟨_,hsz▸Vp ho,hsz,λy hy => ?_⟩,Out.turned ht⟩;exact Z2b
theorem GM.made(k:TypeId)(W:World):GM k (W.alloc (.map #[] 0)) W.heap.size 0 (λ_=>none) :=
 ⟨.map [],World.ownsMap_made _ _ _ _,rfl,λl hl=>⟨λz=>rfl,rfl⟩⟩
end
theorem Cq:Maps.Keyed Tryz.prog 75:=Maps.Keyed.of_law (deep_law (m:=5) aH jD jD jD)
def Oc(z a b:Int):Value:=.agg #[.int .i64 z,.int .i64 a,.int .i64 b]
def klit(z a b:Int):Lit:=.string (keyBytes [.int .i64 z,.int .i64 a,.int .i64 b])
theorem IL(d:Nat){z:Int}(h:Wf z):Tryz.prog.keyLits (d+1) 3 [.int .i64 z]=some [.int .i64 z]:=by
 have h':(Lit.int .i64 z).wf=true:=h;simp[Program.keyLits,Tryz.underlying3,h']
theorem Vq(d:Nat){a b:Int}(ha:Wf a)(hb:Wf b):Tryz.prog.keyLits (d+2) 71 [.int .i64 a,.int .i64 b]=some [.int .i64 a,.int .i64 b]:=by
 have hc:Tryz.prog.cellsOf 71=2:=by kernel_rfl
 have hi:Tryz.prog.cellsOf 3=1:=by kernel_rfl
 have e1:=IL d ha;have e2:=IL d hb;unfold Program.keyLits;simp only[Tryz.underlying71,hc,hi,List.length_cons,List.length_nil,Nat.reduceAdd,if_true];rw[show List.range 2=[0,1]from rfl];simp[e1,e2]
theorem Le{z a b:Int}(hz:Wf z)(ha:Wf a)(hb:Wf b):keyOf Tryz.prog 75 (Oc z a b)=some (klit z a b):=by
 have hc:Tryz.prog.cellsOf 75=3:=by kernel_rfl
 have hs:Tryz.prog.cellsOf 71=2:=by kernel_rfl
 have hi:Tryz.prog.cellsOf 3=1:=by kernel_rfl
 have hk:Tryz.prog.keyType 75=true:=by kernel_rfl
 obtain⟨d,hd⟩:∃d,Tryz.prog.types.size+1=d+3:=⟨Tryz.prog.types.size-2,by have h:Nat.ble 2 Tryz.prog.types.size=true:=jD;have:=Nat.le_of_ble_eq_true h;omega⟩;have e1:=IL (d+1) hz;have e2:=Vq d ha hb;have hf:Value.formed Tryz.prog 75 (Oc z a b)=true:=by simp[Value.formed,Oc,Tryz.underlying75,hc]
 have hl:Tryz.prog.keyLits (d+3) 75 [.int .i64 z,.int .i64 a,.int .i64 b]=some [.int .i64 z,.int .i64 a,.int .i64 b]:=by
  unfold Program.keyLits;simp only[Tryz.underlying75,hc,List.length_cons,List.length_nil,Nat.reduceAdd];simp[hs,hi,e1,e2]
 unfold keyOf;simp only[Tryz.underlying75,hk,hd,hf,Bool.and_self,if_true];rw[show(Oc z a b).cells.toList=[.int .i64 z,.int .i64 a,.int .i64 b]from rfl,hl];rfl
theorem Vr{z a b z' a' b':Int}(hz:Wf z)(ha:Wf a)(hb:Wf b)(hz':Wf z')(ha':Wf a')(hb':Wf b')(h:klit z a b=klit z' a' b'):z=z'/\a=a'/\b=b':=by
 have e:=Cq.inj (Le hz ha hb) (h▸Le hz' ha' hb');simpa[Oc]using e
theorem iT(w:World):Calls Tryz.prog 26 #[] w λe w'=>e=.returned (.agg #[.int .i64 (-1),.int .i64 (-1)])/\Below w.heap.size w w':=by
 go_enter Tryz.func26,Tryz.ntmps26
 go_wp2;refine bodyPost_ret (v:=.agg #[.int .i64 (-1),.int .i64 (-1)]) (by simp[results,Tryz.results26,go_sem, *];first|done|exact⟨rfl,rfl⟩|rfl) rfl ⟨rfl,?_⟩;exact Z5
theorem IQ(s:Re.St)(fl ap:Value)(ib:Bool)(W:World):(Instr.box 117 (.agg (F9 s fl ap ib))).run Tryz.prog W=.ok (.pointer (some ⟨W.heap.size,0,none⟩)) (W.alloc (.cells (F9 s fl ap ib) 117)):=by kernel_rfl
theorem Fp{o:Oper}{a:Act}{W:World}{s:Re.St}{fl ap:Value}{ib:Bool}(p:Operand)(ho:o.op=.box 117 p)(hp:a.eval p=.agg (F9 s fl ap ib)):(execOp a.eval o).run Tryz.prog W=.ok (.value (.pointer (some ⟨W.heap.size,0,none⟩))) (W.alloc (.cells (F9 s fl ap ib) 117)):=by
 unfold execOp;simp only[ho,hp,Sem.run_bind,IQ,Result.andThen_ok,Sem.run_pure]
theorem Od{ops:Array Oper}{S:World->Prop}{o:Oper}{a:Act}(s:Re.St)(hw:Region.wanted o (yielded ops a.tmps)=true)(ps:Array (Nat×Operand))(ho:o.op=.build 117 ps)(hq:(ps.map λp=>(p.1,a.eval p.2))=#[(0,.agg (cells s)),(1,.agg #[.int .i64 (s.c 3),.int .i64 (s.c 4),.int .i64 (s.c 7),.int .i64 (s.c 8),.int .i64 (s.c 11),.int .i64 (s.c 12),.int .i64 (s.c 5),.int .i64 (s.c 6),.int .i64 (s.c 9),.int .i64 (s.c 10),.int .i64 (s.c 13),.int .i64 (s.c 14)]),(2,.agg #[.int .i64 (Fw.ed s 3),.int .i64 (Fw.ed s 1),.int .i64 (Fw.ed s 0),.int .i64 (Fw.ed s 2)])]):ak.Reads Tryz.prog ops S o (.agg (F9 s (.slice none 0 0) (.slice none 0 0) false)) a:=by
 refine .inl ⟨hw,λw _ => ?_⟩;unfold execOp;simp only[ho,hq,Sem.run_bind,ND,Result.andThen_ok,Sem.run_pure]
theorem Lf(s:Re.St)(w:World):Calls Tryz.prog 45 #[.agg (cells s)] w λe w'=>(∃b,e=.returned (.pointer (some ⟨b,0,none⟩))/\w.heap.size<=b/\aL w' b s (.slice none 0 0) (.slice none 0 0) false)/\Below w.heap.size w w':=by
 go_enter Tryz.func45,Tryz.ntmps45
 go_upto_region 1 with(fail)
 generalize hW:World.alloc _ _=W0;have A1:At W0 w.heap.size (.cells (cells s) 46):=hW▸At.new _ _;have hB:Below w.heap.size w W0:=hW▸Below.alloc' aF _;clear hW;have HA:=ah A1;have l1:=A1.lt;have c3:=A1.st 3 aH rfl;have c4:=A1.st 4 aH rfl;have c5:=A1.st 5 aH rfl;have c6:=A1.st 6 aH rfl;have c7:=A1.st 7 aH rfl;have c8:=A1.st 8 aH rfl;have c9:=A1.st 9 aH rfl;have c10:=A1.st 10 aH rfl;have c11:=A1.st 11 aH rfl;have c12:=A1.st 12 aH rfl;have c13:=A1.st 13 aH rfl;have c14:=A1.st 14 aH rfl;have hS0:Below W0.heap.size W0 W0.drew:=Below.drew aF;refine lF (S:=λW=>Below W0.heap.size W0 W) 22 ?_ ?_
 . exact hS0
 intro hS1;clear hS0;refine rO 0 rfl (kI aX (.tmp 1) rfl rfl (λW h=>At.keep HA.out h)) ?_;refine aM 1 ?_;refine aM 2 ?_;refine aM 3 ?_;refine aM 4 ?_;refine aM 5 ?_;refine aM 6 ?_;refine aM 7 ?_;refine aM 8 ?_;refine aM 9 ?_;refine aM 10 ?_;refine aM 11 ?_;refine aM 12 ?_;refine aM 13 ?_;refine aM 14 ?_;refine aM 15 ?_;refine rO 16 rfl (kI aX (.tmp 1) rfl rfl (λW h=>At.keep HA.out h)) ?_;refine tk1 17 ?_;refine ak.Step.call dV (Dx s _) ?_;rintro e w2 ⟨rfl,hb2⟩;refine⟨_,rfl,λ_=>Below.after hS1 hb2,?_⟩;replace hS1:=Below.after hS1 hb2;clear hb2
 (try simp only[bL,bM,bN,tks])
 refine tk1 18 ?_;refine ak.Step.call YE (iO _ _ _ _ _) ?_;rintro e w3 ⟨rfl,hb3⟩;refine⟨_,rfl,λ_=>Below.after hS1 hb3,?_⟩;replace hS1:=Below.after hS1 hb3;clear hb3
 (try simp only[bL,bM,bN,tks])
 refine rO 19 rfl (Od s aX _ rfl YD) ?_;refine tk1 20 ?_;refine ak.Step.value (Fp (.tmp 22) rfl rfl) ?_;refine⟨λ_=>hS1.alloc hS1.size _,?_⟩;have hA2:aL (w3.alloc (.cells (F9 s (.slice none 0 0) (.slice none 0 0) false) 117)) w3.heap.size s (.slice none 0 0) (.slice none 0 0) false:=At.new _ _;have hle:=hS1.size;replace hS1:=hS1.alloc hS1.size (.cells (F9 s (.slice none 0 0) (.slice none 0 0) false) 117);generalize hbn:w3.heap.size=bn at *;generalize w3.alloc _=w4 at *
 (try simp only[bL,bM,bN,tks])
 refine aM 21 ?_;refine ko ?_;go_wp2;refine bodyPost_ret (results_tmp rfl _ _ _) rfl ⟨⟨bn,rfl,aJ hB.size hle,hA2⟩,Below.ay hB aD hS1⟩
theorem At.seven{W:World}{b:Nat}{x0 x1 x2 x3 x4 x5 x6:Value}{T:TypeId}(h:At W b (.cells #[x0,x1,x2,x3,x4,x5,x6] T)):b<W.heap.size/\W.cell? ⟨b,0,none⟩=some x0/\W.cell? ⟨b,1,none⟩=some x1/\W.cell? ⟨b,2,none⟩=some x2/\W.cell? ⟨b,3,none⟩=some x3/\W.cell? ⟨b,4,none⟩=some x4/\W.cell? ⟨b,5,none⟩=some x5/\W.cell? ⟨b,6,none⟩=some x6:=⟨h.lt,h.cell 0,h.cell 1,h.cell 2,h.cell 3,h.cell 4,h.cell 5,h.cell 6⟩
structure sj where
 lb:Nat
 bm:Nat
 km:Nat
 pm:Nat
 rm:Nat
 ww:Int
 wh:Int
 bl:Int->Nat
 vf:Int->Value
 va:Int->Value
structure RO(W:World)(Y:sj)(B:Int->Fw.Bx)(D:Int->Prop)(KM:World->Nat->Prop):Prop where
 lay:At W Y.lb (.cells #[.int .i64 Y.ww,.int .i64 Y.wh,.map (some Y.bm),.map (some Y.km),.map (some Y.pm),.map (some Y.rm)] 83)
 boxes:∃n g,GM 3 W Y.bm n g/\∀z,D z->g (.int .i64 z)=some (.pointer (some ⟨Y.bl z,0,none⟩))
 box:∀z,D z->aL W (Y.bl z) (B z).sty (Y.vf z) (Y.va z) (B z).ib/\KS W (Y.vf z) (B z).fl/\KS W (Y.va z) (B z).ap
 kinds:KM W Y.km
 wf:∀z,D z->Wf z
 EO:∃es clock,At W Y.pm (.map es clock)
 pmb:Y.pm≠Y.bm
 pmk:Y.pm≠Y.km
 pmr:Y.pm≠Y.rm
theorem Out.cell{M:Nat->Prop}{W W':World}(h:Out M W W'){b:Nat}(o:Nat)(hb:b<W.heap.size)(hm:¬ M b):W'.cell? ⟨b,o,none⟩=W.cell? ⟨b,o,none⟩:=by
 have e:=h.2 b hb hm;unfold World.cell?;rw[e]
theorem Fq(v:Value)(h:Int)(W:World):(Instr.field 120 (.agg #[v,.int .i64 h]) 1).run Tryz.prog W=.ok (.int .i64 h) W:=by kernel_rfl
theorem yK{q:Nat}{W W':World}(h:Out (λb=>b=q) W W'):∀b o,b<W.heap.size->b≠q->W'.cell? ⟨b,o,none⟩=W.cell? ⟨b,o,none⟩:=λb o hb hn=>Out.cell h o hb hn
theorem Kk{q r:Nat}{W W':World}(h:Out (λb=>b=q\/b=r) W W'):∀b o,b<W.heap.size->b≠q->b≠r->W'.cell? ⟨b,o,none⟩=W.cell? ⟨b,o,none⟩:=λb o hb hn hm=>Out.cell h o hb (by rintro(e|e);exact hn e;exact hm e)
section
variable {W W':World} {Y:sj} {B:Int->Fw.Bx} {D:Int->Prop} {KM:World->Nat->Prop}
theorem RO.keep(hK:∀(X X':World) (b:Nat),KM X b->Below X.heap.size X X'->KM X' b)(h:RO W Y B D KM)(hb:Below W.heap.size W W'):RO W' Y B D KM where
 lay:=h.lay.keep hb
 boxes:=by obtain⟨n,g,h1,h2⟩:=h.boxes;exact⟨n,g,h1.keep hb,h2⟩
 box:=λz hz=>by obtain⟨h1,h2,h3⟩:=h.box z hz;exact⟨h1.keep hb,h2.after hb,h3.after hb⟩
 kinds:=hK _ _ _ h.kinds hb
 wf:=h.wf
 EO:=by obtain⟨es,ck,q⟩:=h.EO;exact⟨es,ck,q.keep hb⟩
 pmb:=h.pmb
 pmk:=h.pmk
 pmr:=h.pmr
theorem RO.look(h:RO W Y B D KM){z:Int}(hz:D z):(Instr.lookup 79 (.map (some Y.bm)) (.int .i64 z) false).run Tryz.prog W=.ok (.pointer (some ⟨Y.bl z,0,none⟩)) W:=by
 obtain⟨n,g,h1,h2⟩:=h.boxes;rw[h1.look mU Tryz.underlying79 (z:=.pointer none) jD (mJ (h.wf z hz)),h2 z hz];rfl
end
section
variable {Y:sj} {B:Int->Fw.Bx} {D:Int->Prop} {KM:World->Nat->Prop} {Iv Iv2:(Nat->Prop)->World->Prop}
theorem aai(hK:∀(X X':World) (b:Nat),KM X b->Below X.heap.size X X'->KM X' b)(hI:∀{P M:Nat->Prop} {X X':World},Iv P X->Out M X X'->(∀b,P b->¬ M b)->Iv P X')(hI2:∀{P M:Nat->Prop} {X X':World},Iv2 P X->Out M X X'->(∀b,P b->¬ M b)->Iv2 P X')(h12:∀{P:Nat->Prop} {X:World},Iv P X->Iv2 P X)(P:Nat->Prop)
  (z r0 r1 t0 t1:Int) (hz:D z) (w:World) (hR:RO w Y B D KM) (hw:Iv P w) (hP:∀b,P b->b<w.heap.size) (cn:Int->Int->Int->List Fw.Ld×Int)
  (hin:∀X i0,RO X Y B D KM->Iv P X->i0=Fw.jk (B z).sty 0 r0 r0 t0->Calls Tryz.prog 47 #[.pointer (some ⟨Y.lb,0,none⟩),.agg #[.int .i64 z,.int .i64 i0,.int .i64 (-1)]] X λe X'=>(∃v,e=.returned (.agg #[v,.int .i64 (cn z i0 (-1)).2]))/\(∃P',Iv2 P' X'/\∀b,P' b->P b\/X.heap.size<=b)/\Out (λb=>b=Y.pm) X X') :
  Calls Tryz.prog 25 #[.pointer (some ⟨Y.lb,0,none⟩),.int .i64 z,.agg #[.int .i64 r0,.int .i64 r1],.agg #[.int .i64 t0,.int .i64 t1]] w λe w'=>e=.returned (.agg (eH (Fw.iU B cn z r0 r1 t0 t1)))/\(∃P',Iv2 P' w'/\∀b,P' b->P b\/w.heap.size<=b)/\Out (λb=>b=Y.pm) w w':=by
 obtain⟨es0,RG,hpm⟩:=hR.EO;have hpl:=hpm.lt;have hbx:=(hR.box z hz).1;have hblt:=hbx.lt
 have aha:Y.bl z≠Y.pm:=λq=>by
  have:=At.uniq hbx (q▸hpm);cases this
 have Fh:=hR.lay.lt;have wL:=ah hR;have hbig:=hR.keep hK (Below.alloc' (Below.alloc' (Below.alloc' (Below.refl w.heap.size w) (.cells #[.int .i64 r0,.int .i64 r1] 71)) (.cells #[.int .i64 t0,.int .i64 t1] 71)) (.cells #[.int .i64 0,.int .i64 0,.int .i64 0,.int .i64 0,.int .i64 0,.int .i64 0,.int .i64 0] 77));have hl1:=hbig.look hz;have qI:=hbig.lay;clear hR;obtain⟨ans,gY⟩:∃x,Hid (Fw.iU B cn z r0 r1 t0 t1=x):=⟨_,ah rfl⟩;rw[gY.out];generalize hs:(B z).sty=s at *;generalize Y.vf z=vf at *;generalize Y.va z=va at *;generalize hib:(B z).ib=ib at *;generalize hbz:Y.bl z=bz at *;go_enter Tryz.func25,Tryz.ntmps25
 go_upto_region 1 with(fail)
 have A0:At (((w.alloc (.cells #[.int .i64 r0,.int .i64 r1] 71)).alloc (.cells #[.int .i64 t0,.int .i64 t1] 71)).alloc (.cells #[.int .i64 0,.int .i64 0,.int .i64 0,.int .i64 0,.int .i64 0,.int .i64 0,.int .i64 0] 77)) w.heap.size (.cells #[.int .i64 r0,.int .i64 r1] 71):=At.alloc (At.alloc (At.new _ _) _) _;have A1:At (((w.alloc (.cells #[.int .i64 r0,.int .i64 r1] 71)).alloc (.cells #[.int .i64 t0,.int .i64 t1] 71)).alloc (.cells #[.int .i64 0,.int .i64 0,.int .i64 0,.int .i64 0,.int .i64 0,.int .i64 0,.int .i64 0] 77)) (w.heap.size+1) (.cells #[.int .i64 t0,.int .i64 t1] 71):=At.alloc (At.new' _ EM) _;have A3:At (((w.alloc (.cells #[.int .i64 r0,.int .i64 r1] 71)).alloc (.cells #[.int .i64 t0,.int .i64 t1] 71)).alloc (.cells #[.int .i64 0,.int .i64 0,.int .i64 0,.int .i64 0,.int .i64 0,.int .i64 0,.int .i64 0] 77)) (w.heap.size+1+1) (.cells #[.int .i64 0,.int .i64 0,.int .i64 0,.int .i64 0,.int .i64 0,.int .i64 0,.int .i64 0] 77):=At.new' _ EM;have A2:=hbx.alloc (.cells #[.int .i64 r0,.int .i64 r1] 71) |>.alloc (.cells #[.int .i64 t0,.int .i64 t1] 71) |>.alloc (.cells #[.int .i64 0,.int .i64 0,.int .i64 0,.int .i64 0,.int .i64 0,.int .i64 0,.int .i64 0] 77)
 have hB:Below w.heap.size w (((w.alloc (.cells #[.int .i64 r0,.int .i64 r1] 71)).alloc (.cells #[.int .i64 t0,.int .i64 t1] 71)).alloc (.cells #[.int .i64 0,.int .i64 0,.int .i64 0,.int .i64 0,.int .i64 0,.int .i64 0,.int .i64 0] 77)):=Below.alloc' (Below.alloc' (Below.alloc' aF _) _) _;generalize ((w.alloc (.cells #[.int .i64 r0,.int .i64 r1] 71)).alloc (.cells #[.int .i64 t0,.int .i64 t1] 71)).alloc (.cells #[.int .i64 0,.int .i64 0,.int .i64 0,.int .i64 0,.int .i64 0,.int .i64 0,.int .i64 0] 77)=W0 at *;have BJ:=qI.lt;have l3':=A3.lt;have Fu:W0.cell? ⟨Y.lb,2,none⟩=some (.map (some Y.bm)):=qI.cell 2
 go_upto_region 3 with(fail)
 generalize hW:World.alloc _ _=W1;have A4:At W1 W0.heap.size (.cells #[.int .i64 z,.int .i64 0,.int .i64 0,.int .i64 0,.int .i64 0,.int .i64 0,.int .i64 0] 77):=hW▸At.new _ _;replace A0:At W1 _ _:=hW▸At.alloc A0 _;replace A1:At W1 _ _:=hW▸At.alloc A1 _;replace A2:At W1 _ _:=hW▸At.alloc A2 _;replace A3:At W1 _ _:=hW▸At.alloc A3 _;replace hB:Below w.heap.size w W1:=hW▸Below.alloc' hB _;clear hW hl1 qI Fu BJ hbig;generalize W0.heap.size=bx at *;obtain⟨l0,aB,aC⟩:=At.two A0;obtain⟨l1,aP,aQ⟩:=At.two A1;obtain⟨l2,aR,aS,aT,aU,bC,bD,bA,bB⟩:=At.bx0 A2;obtain⟨l3,bP,bQ,dO,dP,dQ,dU,kJ⟩:=At.seven A3;have gW:=A3.thaw 0;have gX:=A3.thaw 1;have iI:=A3.thaw 2;have iJ:=A3.thaw 3;have iK:=A3.thaw 4;have iL:=A3.thaw 5;have mH:=A3.thaw 6;obtain⟨l4,fF,fG,jK,jY,jZ,j3,j4⟩:=At.seven A4;have iQ:=A4.thaw 0;have iR:=A4.thaw 1;have kK:=A4.thaw 2;have kN:=A4.thaw 3;have kP:=A4.thaw 4;have kQ:=A4.thaw 5;have kU:=A4.thaw 6;go_wp2;refine wp_loop_rounds 3 ?_;rw[rounds_succ]
 go_upto_region 6 with(fail)
 go_upto_region 7 with(first|(go_at_call 49;(with_reducible refine(aep _ _ _ _ _ _ _ _ _ _ (by first|exact A2|exact At.keep A2 hS)).mono ?_);rintro e w' ⟨rfl,hb⟩;(clear l0 aB aC l1 aP aQ l2 aR aS aT aU bC bD bA bB l3 bP bQ dO dP dQ dU kJ gW gX iI iJ iK iL mH l4 fF fG jK jY jZ j3 j4 iQ iR kK kN kP kQ kU);(replace hB:=Below.ay zn aD hb);replace A0:=At.keep BX hb;replace A1:=At.keep zD hb;replace A2:=At.keep Bo hb;replace A3:=At.keep MN hb;replace A4:=At.keep Z4t hb;clear hb;obtain⟨l0,aB,aC⟩:=At.two A0;obtain⟨l1,aP,aQ⟩:=At.two A1;obtain⟨l2,aR,aS,aT,aU,bC,bD,bA,bB⟩:=At.bx0 A2;obtain⟨l3,bP,bQ,dO,dP,dQ,dU,kJ⟩:=At.seven A3;have gW:=A3.thaw 0;have gX:=A3.thaw 1;have iI:=A3.thaw 2;have iJ:=A3.thaw 3;have iK:=A3.thaw 4;have iL:=A3.thaw 5;have mH:=A3.thaw 6;obtain⟨l4,fF,fG,jK,jY,jZ,j3,j4⟩:=At.seven A4;have iQ:=A4.thaw 0;have iR:=A4.thaw 1;have kK:=A4.thaw 2;have kN:=A4.thaw 3;have kP:=A4.thaw 4;have kQ:=A4.thaw 5;have kU:=A4.thaw 6))
 generalize hW:World.setCell _ _ _=W2;clear l0 aB aC l1 aP aQ l2 aR aS aT aU bC bD bA bB l3 bP bQ dO dP dQ dU kJ gW gX iI iJ iK iL mH l4 fF fG jK jY jZ j3 j4 iQ iR kK kN kP kQ kU;replace A4:At W2 bx (.cells #[.int .i64 z,.int .i64 (Fw.jk s 0 r0 r0 t0),.int .i64 0,.int .i64 0,.int .i64 0,.int .i64 0,.int .i64 0] 77):=hW▸At.set (A4) 1 _;replace A0:At W2 _ _:=hW▸At.off (A0) aj _ _;replace A1:At W2 _ _:=hW▸At.off (A1) aj _ _;replace A2:At W2 _ _:=hW▸At.off (A2) aj _ _;replace A3:At W2 _ _:=hW▸At.off (A3) aj _ _;replace hB:Below w.heap.size w W2:=hW▸Below.setCell (hB) jM _;clear hW;obtain⟨l0,aB,aC⟩:=At.two A0;obtain⟨l1,aP,aQ⟩:=At.two A1;obtain⟨l2,aR,aS,aT,aU,bC,bD,bA,bB⟩:=At.bx0 A2;obtain⟨l3,bP,bQ,dO,dP,dQ,dU,kJ⟩:=At.seven A3;have gW:=A3.thaw 0;have gX:=A3.thaw 1;have iI:=A3.thaw 2;have iJ:=A3.thaw 3;have iK:=A3.thaw 4;have iL:=A3.thaw 5;have mH:=A3.thaw 6;obtain⟨l4,fF,fG,jK,jY,jZ,j3,j4⟩:=At.seven A4;have iQ:=A4.thaw 0;have iR:=A4.thaw 1;have kK:=A4.thaw 2;have kN:=A4.thaw 3;have kP:=A4.thaw 4;have kQ:=A4.thaw 5;have kU:=A4.thaw 6;obtain⟨l2,aR,aS,aT,aU,bC,bD,bA,bB⟩:=At.bx1 A2;go_wp2;rw[rounds_succ]
 go_upto_region 6 with(fail)
 go_upto_region 7 with(first|(go_at_call 49;(with_reducible refine(aer _ _ _ _ _ _ _ _ _ _ (by first|exact A2|exact At.keep A2 hS)).mono ?_);rintro e w' ⟨rfl,hb⟩;(clear l0 aB aC l1 aP aQ l2 aR aS aT aU bC bD bA bB l3 bP bQ dO dP dQ dU kJ gW gX iI iJ iK iL mH l4 fF fG jK jY jZ j3 j4 iQ iR kK kN kP kQ kU);(replace hB:=Below.ay zn aD hb);replace A0:=At.keep BX hb;replace A1:=At.keep zD hb;replace A2:=At.keep Bo hb;replace A3:=At.keep MN hb;replace A4:=At.keep Z4t hb;clear hb;obtain⟨l0,aB,aC⟩:=At.two A0;obtain⟨l1,aP,aQ⟩:=At.two A1;obtain⟨l2,aR,aS,aT,aU,bC,bD,bA,bB⟩:=At.bx1 A2;obtain⟨l3,bP,bQ,dO,dP,dQ,dU,kJ⟩:=At.seven A3;have gW:=A3.thaw 0;have gX:=A3.thaw 1;have iI:=A3.thaw 2;have iJ:=A3.thaw 3;have iK:=A3.thaw 4;have iL:=A3.thaw 5;have mH:=A3.thaw 6;obtain⟨l4,fF,fG,jK,jY,jZ,j3,j4⟩:=At.seven A4;have iQ:=A4.thaw 0;have iR:=A4.thaw 1;have kK:=A4.thaw 2;have kN:=A4.thaw 3;have kP:=A4.thaw 4;have kQ:=A4.thaw 5;have kU:=A4.thaw 6))
 generalize hW:World.setCell _ _ _=W3;clear l0 aB aC l1 aP aQ l2 aR aS aT aU bC bD bA bB l3 bP bQ dO dP dQ dU kJ gW gX iI iJ iK iL mH l4 fF fG jK jY jZ j3 j4 iQ iR kK kN kP kQ kU;replace A4:At W3 bx (.cells #[.int .i64 z,.int .i64 (Fw.jk s 0 r0 r0 t0),.int .i64 (Fw.jk s 1 r0 r1 t1),.int .i64 0,.int .i64 0,.int .i64 0,.int .i64 0] 77):=hW▸At.set (A4) 2 _;replace A0:At W3 _ _:=hW▸At.off (A0) aj _ _;replace A1:At W3 _ _:=hW▸At.off (A1) aj _ _;replace A2:At W3 _ _:=hW▸At.off (A2) aj _ _;replace A3:At W3 _ _:=hW▸At.off (A3) aj _ _;replace hB:Below w.heap.size w W3:=hW▸Below.setCell (hB) jM _;clear hW;obtain⟨l0,aB,aC⟩:=At.two A0;obtain⟨l1,aP,aQ⟩:=At.two A1;obtain⟨l2,aR,aS,aT,aU,bC,bD,bA,bB⟩:=At.bx1 A2;obtain⟨l3,bP,bQ,dO,dP,dQ,dU,kJ⟩:=At.seven A3;have gW:=A3.thaw 0;have gX:=A3.thaw 1;have iI:=A3.thaw 2;have iJ:=A3.thaw 3;have iK:=A3.thaw 4;have iL:=A3.thaw 5;have mH:=A3.thaw 6;obtain⟨l4,fF,fG,jK,jY,jZ,j3,j4⟩:=At.seven A4;have iQ:=A4.thaw 0;have iR:=A4.thaw 1;have kK:=A4.thaw 2;have kN:=A4.thaw 3;have kP:=A4.thaw 4;have kQ:=A4.thaw 5;have kU:=A4.thaw 6;obtain⟨i0,HI0⟩:∃x,Hid (Fw.jk s 0 r0 r0 t0=x):=⟨_,ah rfl⟩;obtain⟨i1,HI1⟩:∃x,Hid (Fw.jk s 1 r0 r1 t1=x):=⟨_,ah rfl⟩;rw[HI0.out,HI1.out]at A4;clear l4 fF fG jK jY jZ j3 j4 iQ iR kK kN kP kQ kU;obtain⟨l4,fF,fG,jK,jY,jZ,j3,j4⟩:=At.seven A4;have iQ:=A4.thaw 0;have iR:=A4.thaw 1;have kK:=A4.thaw 2;have kN:=A4.thaw 3;have kP:=A4.thaw 4;have kQ:=A4.thaw 5;have kU:=A4.thaw 6;go_wp2;rw[rounds_succ]
 go_upto_region 8 with(fail)
 go_upto_region 9 with(fail)
 generalize hW:World.setCell _ _ _=W4;clear l0 aB aC l1 aP aQ l2 aR aS aT aU bC bD bA bB l3 bP bQ dO dP dQ dU kJ gW gX iI iJ iK iL mH l4 fF fG jK jY jZ j3 j4 iQ iR kK kN kP kQ kU;replace A4:At W4 bx (.cells #[.int .i64 z,.int .i64 i0,.int .i64 i1,.int .i64 i0,.int .i64 i1,.int .i64 0,.int .i64 0] 77):=hW▸At.set (At.set (A4) 3 _) 4 _;replace A0:At W4 _ _:=hW▸At.off (At.off (A0) aj _ _) aj _ _;replace A1:At W4 _ _:=hW▸At.off (At.off (A1) aj _ _) aj _ _;replace A2:At W4 _ _:=hW▸At.off (At.off (A2) aj _ _) aj _ _;replace A3:At W4 _ _:=hW▸At.off (At.off (A3) aj _ _) aj _ _;replace hB:Below w.heap.size w W4:=hW▸Below.setCell (Below.setCell (hB) jM _) jM _;clear hW;obtain⟨l0,aB,aC⟩:=At.two A0;obtain⟨l1,aP,aQ⟩:=At.two A1;obtain⟨l2,aR,aS,aT,aU,bC,bD,bA,bB⟩:=At.bx1 A2;obtain⟨l3,bP,bQ,dO,dP,dQ,dU,kJ⟩:=At.seven A3;have gW:=A3.thaw 0;have gX:=A3.thaw 1;have iI:=A3.thaw 2;have iJ:=A3.thaw 3;have iK:=A3.thaw 4;have iL:=A3.thaw 5;have mH:=A3.thaw 6;obtain⟨l4,fF,fG,jK,jY,jZ,j3,j4⟩:=At.seven A4;have iQ:=A4.thaw 0;have iR:=A4.thaw 1;have kK:=A4.thaw 2;have kN:=A4.thaw 3;have kP:=A4.thaw 4;have kQ:=A4.thaw 5;have kU:=A4.thaw 6;have lp0:w.heap.size≠Y.pm:=by omega
 have lp1:w.heap.size+1≠Y.pm:=by omega
 have lp3:w.heap.size+1+1≠Y.pm:=by omega
 have lp4:bx≠Y.pm:=by omega
 by_cases hu:i1 = -1
 . have HU:=ah hu
   subst hu
   go_upto_region 10 with(fail)
   have hR4:=wL.out.keep hK (Below.drew hB);have RH:=hI (M:=λ_=>False) hw (Out.of_below (Below.drew hB)) λ_ _ q=>q;have hcall:=hin _ i0 hR4 RH HI0.out.symm;have hO4:Out (λb=>b=Y.pm) W4 W4.drew:=(Out.refl _ _).drew;have JA:bz≠Y.pm:=aha;have lbx:bz≠bx:=by omega
   have lx0:w.heap.size≠bx:=by omega
   have lk4:bx<W4.heap.size:=l4;have lk3:w.heap.size+1+1<W4.heap.size:=l3;have mkS:∀X,Out (λb=>b=Y.pm) W4 X->Out (λb=>b=Y.pm\/b=bx) W4 X/\X.cell? ⟨bx,0,none⟩=some (.int .i64 z)/\X.cell? ⟨bx,1,none⟩=some (.int .i64 i0)/\X.cell? ⟨bx,2,none⟩=some (.int .i64 (-1)):=λX h=>⟨h.mono λb _ q => .inl q,(yK h _ _ l4 lp4).trans fF,(yK h _ _ l4 lp4).trans fG,(yK h _ _ l4 lp4).trans jK⟩;have MKS:=ah mkS;clear mkS;clear fF fG jK;refine lF (S:=λX=>Out (λb=>b=Y.pm\/b=bx) W4 X/\X.cell? ⟨bx,0,none⟩=some (.int .i64 z)/\X.cell? ⟨bx,1,none⟩=some (.int .i64 i0)/\X.cell? ⟨bx,2,none⟩=some (.int .i64 (-1))) 16 ?_ ?_
   . exact MKS.out _ hO4
   intro hS5;refine gJ 0 ?_;refine gJ 1 ?_;refine gJ 2 ?_;refine gJ 3 ?_;refine gJ 4 ?_;refine gJ 5 ?_;refine gJ 6 ?_;refine gJ 7 ?_;refine gJ 10 ?_;refine gJ 11 ?_;refine gJ 13 ?_;refine tk1 8 ?_;refine ak.Step.call dV hcall ?_;rintro e w5 ⟨⟨v,rfl⟩,⟨P5,hI5,Cr⟩,JF⟩;refine⟨_,rfl,λ_=>MKS.out _ (hO4.trans JF),?_⟩;replace hO4:=hO4.trans JF;replace hS5:=MKS.out _ hO4;clear hcall JF;have hfc:=Fq v (cn z i0 (-1)).2
   (try simp only[bL,bM,bN,tks])
   refine gJ 9 ?_;refine tk1 12 ?_;refine ak.Step.call (by go_simp;first|done|with_reducible rfl|exact⟨⟨rfl,rfl,rfl,rfl,rfl,rfl⟩,rfl,rfl⟩|exact⟨⟨⟨rfl,rfl,rfl,rfl,rfl,rfl⟩,rfl,rfl⟩,rfl⟩) (rX _ _ _ _ _ _ _ _ _) ?_;rintro e w6 ⟨rfl,hb6⟩;refine⟨_,rfl,λ_=>MKS.out _ (hO4.trans (Out.of_below hb6)),?_⟩;replace hO4:=hO4.trans (Out.of_below hb6);replace hS5:=MKS.out _ hO4;replace hI5:=hI2 (M:=λ_=>False) hI5 (Out.of_below hb6) λ_ _ q=>q;clear hb6
   (try simp only[bL,bM,bN,tks])
   refine gJ 14 ?_;refine tk1 15 ?_;have A5:=A4.out lp4 hO4;have d4:w6.cell? ⟨bx,4,none⟩=some (.int .i64 (-1)):=A5.cell 4;have e4:=A5.thaw 4;refine ak.Step.skip dV ?_;refine⟨λ_=>⟨Out.set (hO4.mono λb _ q => .inl q) (.inr rfl) 4 _,(A5.set 4 _).cell 0,(A5.set 4 _).cell 1,(A5.set 4 _).cell 2⟩,?_⟩
   (try simp only[Act.put])
   refine ko ?_;have hQ:Out (λb=>b=bx\/b=w.heap.size+1+1) w6 w6:=Out.refl _ _;replace A0:=A0.out lp0 hO4;replace A1:=A1.out lp1 hO4;replace A2:=At.out A2 JA hO4;replace A3:=A3.out lp3 hO4;replace A4:=A5;clear A5 d4 e4 hS5;obtain⟨hh,Lg⟩:=aA (Fw.lim s 1 (cn z i0 (-1)).2 r1);have hlm:Fx.limit (cn z i0 (-1)).2 (s.c 9) (s.c 10) (s.c 13) (s.c 14) r1=hh:=Lg;rw[hlm];clear hlm;have HHH:=ah Lg;clear Lg;have aiT:W4.heap.size<=w6.heap.size:=hO4.size;clear l0 aB aC l1 aP aQ l2 aR aS aT aU bC bD bA bB l3 bP bQ dO dP dQ dU kJ gW gX iI iJ iK iL mH l4 jY jZ j3 j4 iQ iR kK kN kP kQ kU;generalize hW:World.setCell _ _ _=W5;replace A4:At W5 bx (.cells #[.int .i64 z,.int .i64 i0,.int .i64 (-1),.int .i64 i0,.int .i64 hh,.int .i64 0,.int .i64 0] 77):=hW▸At.set (A4) 4 _;replace A0:At W5 _ _:=hW▸At.off (A0) aj _ _;replace A1:At W5 _ _:=hW▸At.off (A1) aj _ _;replace A2:At W5 _ _:=hW▸At.off (A2) aj _ _;replace A3:At W5 _ _:=hW▸At.off (A3) aj _ _;replace hQ:Out _ _ W5:=hW▸Out.set (hQ) (.inl rfl) 4 _;clear hW;obtain⟨l0,aB,aC⟩:=At.two A0;obtain⟨l1,aP,aQ⟩:=At.two A1;obtain⟨l2,aR,aS,aT,aU,bC,bD,bA,bB⟩:=At.bx0 A2;obtain⟨l3,bP,bQ,dO,dP,dQ,dU,kJ⟩:=At.seven A3;have gW:=A3.thaw 0;have gX:=A3.thaw 1;have iI:=A3.thaw 2;have iJ:=A3.thaw 3;have iK:=A3.thaw 4;have iL:=A3.thaw 5;have mH:=A3.thaw 6;obtain⟨l4,fF,fG,jK,jY,jZ,j3,j4⟩:=At.seven A4;have iQ:=A4.thaw 0;have iR:=A4.thaw 1;have kK:=A4.thaw 2;have kN:=A4.thaw 3;have kP:=A4.thaw 4;have kQ:=A4.thaw 5;have kU:=A4.thaw 6;go_wp2;refine wp_loop_rounds 3 ?_;rw[rounds_succ]
   go_upto_region 14 with(fail)
   refine xq 14 1 ?_
   (repeat (first|refine nW ?_ | refine nX ?_ (hc:=by intro w2 hS;first|with_reducible exact nR hS (dX _ _ _))|refine nY ?_))
   refine ak.dN ?_;intro w2 hS;clear l0 aB aC l1 aP aQ l2 aR aS aT aU bC bD bA bB l3 bP bQ dO dP dQ dU kJ gW gX iI iJ iK iL mH l4 fF fG jK jY jZ j3 j4 iQ iR kK kN kP kQ kU;replace hQ:=hQ.trans (Out.of_below hS);replace A0:=At.keep A0 hS;replace A1:=At.keep A1 hS;replace A2:=At.keep A2 hS;replace A3:=At.keep A3 hS;replace A4:=At.keep A4 hS;clear hS;obtain⟨l0,aB,aC⟩:=At.two A0;obtain⟨l1,aP,aQ⟩:=At.two A1;obtain⟨l2,aR,aS,aT,aU,bC,bD,bA,bB⟩:=At.bx0 A2;obtain⟨l3,bP,bQ,dO,dP,dQ,dU,kJ⟩:=At.seven A3;have gW:=A3.thaw 0;have gX:=A3.thaw 1;have iI:=A3.thaw 2;have iJ:=A3.thaw 3;have iK:=A3.thaw 4;have iL:=A3.thaw 5;have mH:=A3.thaw 6;obtain⟨l4,fF,fG,jK,jY,jZ,j3,j4⟩:=At.seven A4;have iQ:=A4.thaw 0;have iR:=A4.thaw 1;have kK:=A4.thaw 2;have kN:=A4.thaw 3;have kP:=A4.thaw 4;have kQ:=A4.thaw 5;have kU:=A4.thaw 6;refine x9 ?_;intro K hK;go_simp;refine hK _ _ (ak.bV ?_);clear hK K;generalize hW:World.setCell _ _ _=W6;clear l0 aB aC l1 aP aQ l2 aR aS aT aU bC bD bA bB l3 bP bQ dO dP dQ dU kJ gW gX iI iJ iK iL mH l4 fF fG jK jY jZ j3 j4 iQ iR kK kN kP kQ kU;replace A4:At W6 bx (.cells #[.int .i64 z,.int .i64 i0,.int .i64 (-1),.int .i64 (IntKind.i64.wrap (i0+Fw.wr (Fw.ed s 3+Fw.ed s 1))),.int .i64 hh,.int .i64 0,.int .i64 0] 77):=hW▸At.set (A4) 3 _;replace A0:At W6 _ _:=hW▸At.off (A0) aj _ _;replace A1:At W6 _ _:=hW▸At.off (A1) aj _ _;replace A2:At W6 _ _:=hW▸At.off (A2) aj _ _;replace A3:At W6 _ _:=hW▸At.off (A3) aj _ _;replace hQ:Out _ _ W6:=hW▸Out.set (hQ) (.inl rfl) 3 _;clear hW;obtain⟨l0,aB,aC⟩:=At.two A0;obtain⟨l1,aP,aQ⟩:=At.two A1;obtain⟨l2,aR,aS,aT,aU,bC,bD,bA,bB⟩:=At.bx0 A2;obtain⟨l3,bP,bQ,dO,dP,dQ,dU,kJ⟩:=At.seven A3;have gW:=A3.thaw 0;have gX:=A3.thaw 1;have iI:=A3.thaw 2;have iJ:=A3.thaw 3;have iK:=A3.thaw 4;have iL:=A3.thaw 5;have mH:=A3.thaw 6;obtain⟨l4,fF,fG,jK,jY,jZ,j3,j4⟩:=At.seven A4;have iQ:=A4.thaw 0;have iR:=A4.thaw 1;have kK:=A4.thaw 2;have kN:=A4.thaw 3;have kP:=A4.thaw 4;have kQ:=A4.thaw 5;have kU:=A4.thaw 6;obtain⟨l2,aR,aS,aT,aU,bC,bD,bA,bB⟩:=At.bx1 A2;go_wp2;rw[rounds_succ]
   go_upto_region 14 with(fail)
   refine xq 14 1 ?_
   (repeat (first|refine nW ?_ | refine nX ?_ (hc:=by intro w2 hS;first|with_reducible exact nR hS (dX _ _ _))|refine nY ?_))
   refine ak.dN ?_;intro w2 hS;clear l0 aB aC l1 aP aQ l2 aR aS aT aU bC bD bA bB l3 bP bQ dO dP dQ dU kJ gW gX iI iJ iK iL mH l4 fF fG jK jY jZ j3 j4 iQ iR kK kN kP kQ kU;replace hQ:=hQ.trans (Out.of_below hS);replace A0:=At.keep A0 hS;replace A1:=At.keep A1 hS;replace A2:=At.keep A2 hS;replace A3:=At.keep A3 hS;replace A4:=At.keep A4 hS;clear hS;obtain⟨l0,aB,aC⟩:=At.two A0;obtain⟨l1,aP,aQ⟩:=At.two A1;obtain⟨l2,aR,aS,aT,aU,bC,bD,bA,bB⟩:=At.bx1 A2;obtain⟨l3,bP,bQ,dO,dP,dQ,dU,kJ⟩:=At.seven A3;have gW:=A3.thaw 0;have gX:=A3.thaw 1;have iI:=A3.thaw 2;have iJ:=A3.thaw 3;have iK:=A3.thaw 4;have iL:=A3.thaw 5;have mH:=A3.thaw 6;obtain⟨l4,fF,fG,jK,jY,jZ,j3,j4⟩:=At.seven A4;have iQ:=A4.thaw 0;have iR:=A4.thaw 1;have kK:=A4.thaw 2;have kN:=A4.thaw 3;have kP:=A4.thaw 4;have kQ:=A4.thaw 5;have kU:=A4.thaw 6;refine x9 ?_;intro K hK;go_simp;refine hK _ _ (ak.bV ?_);clear hK K;generalize hW:World.setCell _ _ _=W7;clear l0 aB aC l1 aP aQ l2 aR aS aT aU bC bD bA bB l3 bP bQ dO dP dQ dU kJ gW gX iI iJ iK iL mH l4 fF fG jK jY jZ j3 j4 iQ iR kK kN kP kQ kU;replace A4:At W7 bx (.cells #[.int .i64 z,.int .i64 i0,.int .i64 (-1),.int .i64 (IntKind.i64.wrap (i0+Fw.wr (Fw.ed s 3+Fw.ed s 1))),.int .i64 (IntKind.i64.wrap (hh+Fw.wr (Fw.ed s 0+Fw.ed s 2))),.int .i64 0,.int .i64 0] 77):=hW▸At.set (A4) 4 _;replace A0:At W7 _ _:=hW▸At.off (A0) aj _ _;replace A1:At W7 _ _:=hW▸At.off (A1) aj _ _;replace A2:At W7 _ _:=hW▸At.off (A2) aj _ _;replace A3:At W7 _ _:=hW▸At.off (A3) aj _ _;replace hQ:Out _ _ W7:=hW▸Out.set (hQ) (.inl rfl) 4 _;clear hW;obtain⟨l0,aB,aC⟩:=At.two A0;obtain⟨l1,aP,aQ⟩:=At.two A1;obtain⟨l2,aR,aS,aT,aU,bC,bD,bA,bB⟩:=At.bx1 A2;obtain⟨l3,bP,bQ,dO,dP,dQ,dU,kJ⟩:=At.seven A3;have gW:=A3.thaw 0;have gX:=A3.thaw 1;have iI:=A3.thaw 2;have iJ:=A3.thaw 3;have iK:=A3.thaw 4;have iL:=A3.thaw 5;have mH:=A3.thaw 6;obtain⟨l4,fF,fG,jK,jY,jZ,j3,j4⟩:=At.seven A4;have iQ:=A4.thaw 0;have iR:=A4.thaw 1;have kK:=A4.thaw 2;have kN:=A4.thaw 3;have kP:=A4.thaw 4;have kQ:=A4.thaw 5;have kU:=A4.thaw 6;go_wp2;rw[rounds_succ];go_wp2;have iM:ans=⟨z,i0,-1,Fw.wr (i0+Fw.iB s 0),Fw.wr (hh+Fw.iB s 1),0,0⟩:=by
    rw[<-gY.out];unfold Fw.iU;simp only[hs,HI0.out,HI1.out,HHH.out,if_true]
   subst iM;simp only[uR];generalize hW:World.setCell _ _ _=W8;clear l0 aB aC l1 aP aQ l2 aR aS aT aU bC bD bA bB l4 fF fG jK jY jZ j3 j4 iQ iR kK kN kP kQ kU l3 bP bQ dO dP dQ dU kJ gW gX iI iJ iK iL mH;replace A3:At W8 (w.heap.size+1+1) (.cells #[.int .i64 z,.int .i64 i0,.int .i64 (-1),.int .i64 (Fw.wr (i0+Fw.iB s 0)),.int .i64 (Fw.wr (hh+Fw.iB s 1)),.int .i64 0,.int .i64 0] 77):=hW▸At.set (At.set (At.set (At.set (At.set (At.set (At.set (A3) 0 _) 1 _) 2 _) 3 _) 4 _) 5 _) 6 _;replace A0:At W8 _ _:=hW▸At.off (At.off (At.off (At.off (At.off (At.off (At.off (A0) aj _ _) aj _ _) aj _ _) aj _ _) aj _ _) aj _ _) aj _ _;replace A1:At W8 _ _:=hW▸At.off (At.off (At.off (At.off (At.off (At.off (At.off (A1) aj _ _) aj _ _) aj _ _) aj _ _) aj _ _) aj _ _) aj _ _;replace A2:At W8 _ _:=hW▸At.off (At.off (At.off (At.off (At.off (At.off (At.off (A2) aj _ _) aj _ _) aj _ _) aj _ _) aj _ _) aj _ _) aj _ _;replace A4:At W8 _ _:=hW▸At.off (At.off (At.off (At.off (At.off (At.off (At.off (A4) aj _ _) aj _ _) aj _ _) aj _ _) aj _ _) aj _ _) aj _ _;replace hQ:Out _ _ W8:=hW▸Out.set (Out.set (Out.set (Out.set (Out.set (Out.set (Out.set (hQ) (.inr rfl) 0 _) (.inr rfl) 1 _) (.inr rfl) 2 _) (.inr rfl) 3 _) (.inr rfl) 4 _) (.inr rfl) 5 _) (.inr rfl) 6 _;clear hW;obtain⟨l0,aB,aC⟩:=At.two A0;obtain⟨l1,aP,aQ⟩:=At.two A1;obtain⟨l2,aR,aS,aT,aU,bC,bD,bA,bB⟩:=At.bx1 A2;obtain⟨l4,fF,fG,jK,jY,jZ,j3,j4⟩:=At.seven A4;have iQ:=A4.thaw 0;have iR:=A4.thaw 1;have kK:=A4.thaw 2;have kN:=A4.thaw 3;have kP:=A4.thaw 4;have kQ:=A4.thaw 5;have kU:=A4.thaw 6;obtain⟨l3,bP,bQ,dO,dP,dQ,dU,kJ⟩:=At.seven A3;have gW:=A3.thaw 0;have gX:=A3.thaw 1;have iI:=A3.thaw 2;have iJ:=A3.thaw 3;have iK:=A3.thaw 4;have iL:=A3.thaw 5;have mH:=A3.thaw 6;refine bodyPost_ret (v:=.agg #[.int .i64 _,.int .i64 _,.int .i64 _,.int .i64 _,.int .i64 _,.int .i64 _,.int .i64 _]) (by simp[results,Tryz.results25,go_sem,bP,bQ,dO,dP,dQ,dU,kJ];first|done|exact⟨rfl,rfl,rfl,rfl,rfl,rfl,rfl⟩|rfl) rfl ⟨rfl,⟨P5,hI2 hI5 hQ (λb q => ?_),λb q => ?_⟩,?_⟩
   . rintro(rfl|rfl)
     . rcases Cr _ q with q|q
       . exact absurd (hP _ q) aj
       . simp only[World.size_drew]at q;omega
     . rcases Cr _ q with q|q
       . exact absurd (hP _ q) aj
       . simp only[World.size_drew]at q;omega
   . rcases Cr _ q with q|q
     . exact .inl q
     . exact .inr (by simp only[World.size_drew]at q;exact aJ hB.size q)
   . exact Out.trans' ((Out.of_below hB).trans hO4) hQ λb hb q=>by rcases q with rfl|rfl<;>omega
 . have hne:(i1 == -1)=false:=by simpa using hu
   have HNE:=ah hu;clear hu;obtain⟨hh,Lg⟩:=aA i1
   go_upto_region 11 with(fail)
   replace A4:At W4 bx (.cells #[.int .i64 z,.int .i64 i0,.int .i64 i1,.int .i64 i0,.int .i64 hh,.int .i64 0,.int .i64 0] 77):=Lg▸A4;obtain⟨l4,fF,fG,jK,jY,jZ,j3,j4⟩:=At.seven A4;obtain⟨l2,aR,aS,aT,aU,bC,bD,bA,bB⟩:=At.bx0 A2;have g0:=hB.size;go_wp2;refine wp_loop_rounds 3 ?_;rw[rounds_succ]
   go_upto_region 14 with(fail)
   refine xq 14 1 ?_
   (repeat (first|refine nW ?_ | refine nX ?_ (hc:=by intro w2 hS;first|with_reducible exact nR hS (dX _ _ _))|refine nY ?_))
   refine ak.dN ?_;intro w2 hS
   (clear l0 aB aC l1 aP aQ l2 aR aS aT aU bC bD bA bB l3 bP bQ dO dP dQ dU kJ gW gX iI iJ iK iL mH l4 fF fG jK jY jZ j3 j4 iQ iR kK kN kP kQ kU);(replace hB:=Below.ay zn aD hS);replace A0:=At.keep BX hS;replace A1:=At.keep zD hS;replace A2:=At.keep Bo hS;replace A3:=At.keep MN hS;replace A4:=At.keep Z4t hS;clear hS;obtain⟨l0,aB,aC⟩:=At.two A0;obtain⟨l1,aP,aQ⟩:=At.two A1;obtain⟨l2,aR,aS,aT,aU,bC,bD,bA,bB⟩:=At.bx0 A2;obtain⟨l3,bP,bQ,dO,dP,dQ,dU,kJ⟩:=At.seven A3;have gW:=A3.thaw 0;have gX:=A3.thaw 1;have iI:=A3.thaw 2;have iJ:=A3.thaw 3;have iK:=A3.thaw 4;have iL:=A3.thaw 5;have mH:=A3.thaw 6;obtain⟨l4,fF,fG,jK,jY,jZ,j3,j4⟩:=At.seven A4;have iQ:=A4.thaw 0;have iR:=A4.thaw 1;have kK:=A4.thaw 2;have kN:=A4.thaw 3;have kP:=A4.thaw 4;have kQ:=A4.thaw 5;have kU:=A4.thaw 6
   refine x9 ?_;intro K hK;go_simp;refine hK _ _ (ak.bV ?_);clear hK K;generalize hW:World.setCell _ _ _=W6;clear l0 aB aC l1 aP aQ l2 aR aS aT aU bC bD bA bB l3 bP bQ dO dP dQ dU kJ gW gX iI iJ iK iL mH l4 fF fG jK jY jZ j3 j4 iQ iR kK kN kP kQ kU;replace A4:At W6 bx (.cells #[.int .i64 z,.int .i64 i0,.int .i64 i1,.int .i64 (IntKind.i64.wrap (i0+Fw.wr (Fw.ed s 3+Fw.ed s 1))),.int .i64 hh,.int .i64 0,.int .i64 0] 77):=hW▸At.set (A4) 3 _;replace A0:At W6 _ _:=hW▸At.off (A0) aj _ _;replace A1:At W6 _ _:=hW▸At.off (A1) aj _ _;replace A2:At W6 _ _:=hW▸At.off (A2) aj _ _;replace A3:At W6 _ _:=hW▸At.off (A3) aj _ _;replace hB:Below w.heap.size w W6:=hW▸Below.setCell (hB) jM _;clear hW;obtain⟨l0,aB,aC⟩:=At.two A0;obtain⟨l1,aP,aQ⟩:=At.two A1;obtain⟨l2,aR,aS,aT,aU,bC,bD,bA,bB⟩:=At.bx0 A2;obtain⟨l3,bP,bQ,dO,dP,dQ,dU,kJ⟩:=At.seven A3;have gW:=A3.thaw 0;have gX:=A3.thaw 1;have iI:=A3.thaw 2;have iJ:=A3.thaw 3;have iK:=A3.thaw 4;have iL:=A3.thaw 5;have mH:=A3.thaw 6;obtain⟨l4,fF,fG,jK,jY,jZ,j3,j4⟩:=At.seven A4;have iQ:=A4.thaw 0;have iR:=A4.thaw 1;have kK:=A4.thaw 2;have kN:=A4.thaw 3;have kP:=A4.thaw 4;have kQ:=A4.thaw 5;have kU:=A4.thaw 6;obtain⟨l2,aR,aS,aT,aU,bC,bD,bA,bB⟩:=At.bx1 A2;go_wp2;rw[rounds_succ]
   go_upto_region 14 with(fail)
   refine xq 14 1 ?_
   (repeat (first|refine nW ?_ | refine nX ?_ (hc:=by intro w2 hS;first|with_reducible exact nR hS (dX _ _ _))|refine nY ?_))
   refine ak.dN ?_;intro w2 hS
   (clear l0 aB aC l1 aP aQ l2 aR aS aT aU bC bD bA bB l3 bP bQ dO dP dQ dU kJ gW gX iI iJ iK iL mH l4 fF fG jK jY jZ j3 j4 iQ iR kK kN kP kQ kU);(replace hB:=Below.ay zn aD hS);replace A0:=At.keep BX hS;replace A1:=At.keep zD hS;replace A2:=At.keep Bo hS;replace A3:=At.keep MN hS;replace A4:=At.keep Z4t hS;clear hS;obtain⟨l0,aB,aC⟩:=At.two A0;obtain⟨l1,aP,aQ⟩:=At.two A1;obtain⟨l2,aR,aS,aT,aU,bC,bD,bA,bB⟩:=At.bx1 A2;obtain⟨l3,bP,bQ,dO,dP,dQ,dU,kJ⟩:=At.seven A3;have gW:=A3.thaw 0;have gX:=A3.thaw 1;have iI:=A3.thaw 2;have iJ:=A3.thaw 3;have iK:=A3.thaw 4;have iL:=A3.thaw 5;have mH:=A3.thaw 6;obtain⟨l4,fF,fG,jK,jY,jZ,j3,j4⟩:=At.seven A4;have iQ:=A4.thaw 0;have iR:=A4.thaw 1;have kK:=A4.thaw 2;have kN:=A4.thaw 3;have kP:=A4.thaw 4;have kQ:=A4.thaw 5;have kU:=A4.thaw 6
   refine x9 ?_;intro K hK;go_simp;refine hK _ _ (ak.bV ?_);clear hK K;generalize hW:World.setCell _ _ _=W7;clear l0 aB aC l1 aP aQ l2 aR aS aT aU bC bD bA bB l3 bP bQ dO dP dQ dU kJ gW gX iI iJ iK iL mH l4 fF fG jK jY jZ j3 j4 iQ iR kK kN kP kQ kU;replace A4:At W7 bx (.cells #[.int .i64 z,.int .i64 i0,.int .i64 i1,.int .i64 (IntKind.i64.wrap (i0+Fw.wr (Fw.ed s 3+Fw.ed s 1))),.int .i64 (IntKind.i64.wrap (hh+Fw.wr (Fw.ed s 0+Fw.ed s 2))),.int .i64 0,.int .i64 0] 77):=hW▸At.set (A4) 4 _;replace A0:At W7 _ _:=hW▸At.off (A0) aj _ _;replace A1:At W7 _ _:=hW▸At.off (A1) aj _ _;replace A2:At W7 _ _:=hW▸At.off (A2) aj _ _;replace A3:At W7 _ _:=hW▸At.off (A3) aj _ _;replace hB:Below w.heap.size w W7:=hW▸Below.setCell (hB) jM _;clear hW;obtain⟨l0,aB,aC⟩:=At.two A0;obtain⟨l1,aP,aQ⟩:=At.two A1;obtain⟨l2,aR,aS,aT,aU,bC,bD,bA,bB⟩:=At.bx1 A2;obtain⟨l3,bP,bQ,dO,dP,dQ,dU,kJ⟩:=At.seven A3;have gW:=A3.thaw 0;have gX:=A3.thaw 1;have iI:=A3.thaw 2;have iJ:=A3.thaw 3;have iK:=A3.thaw 4;have iL:=A3.thaw 5;have mH:=A3.thaw 6;obtain⟨l4,fF,fG,jK,jY,jZ,j3,j4⟩:=At.seven A4;have iQ:=A4.thaw 0;have iR:=A4.thaw 1;have kK:=A4.thaw 2;have kN:=A4.thaw 3;have kP:=A4.thaw 4;have kQ:=A4.thaw 5;have kU:=A4.thaw 6;go_wp2;rw[rounds_succ];go_wp2;have iM:ans=⟨z,i0,hh,Fw.wr (i0+Fw.iB s 0),Fw.wr (hh+Fw.iB s 1),0,0⟩:=by
    rw[<-gY.out];unfold Fw.iU;simp only[hs,HI0.out,HI1.out,Lg,if_neg (show¬ hh = -1 from Lg▸HNE.out)]
   subst iM;simp only[uR];generalize hW:World.setCell _ _ _=W8;clear l0 aB aC l1 aP aQ l2 aR aS aT aU bC bD bA bB l4 fF fG jK jY jZ j3 j4 iQ iR kK kN kP kQ kU l3 bP bQ dO dP dQ dU kJ gW gX iI iJ iK iL mH;replace A3:At W8 (w.heap.size+1+1) (.cells #[.int .i64 z,.int .i64 i0,.int .i64 hh,.int .i64 (Fw.wr (i0+Fw.iB s 0)),.int .i64 (Fw.wr (hh+Fw.iB s 1)),.int .i64 0,.int .i64 0] 77):=hW▸At.set (At.set (At.set (At.set (At.set (At.set (At.set (A3) 0 _) 1 _) 2 _) 3 _) 4 _) 5 _) 6 _;replace A0:At W8 _ _:=hW▸At.off (At.off (At.off (At.off (At.off (At.off (At.off (A0) aj _ _) aj _ _) aj _ _) aj _ _) aj _ _) aj _ _) aj _ _;replace A1:At W8 _ _:=hW▸At.off (At.off (At.off (At.off (At.off (At.off (At.off (A1) aj _ _) aj _ _) aj _ _) aj _ _) aj _ _) aj _ _) aj _ _;replace A2:At W8 _ _:=hW▸At.off (At.off (At.off (At.off (At.off (At.off (At.off (A2) aj _ _) aj _ _) aj _ _) aj _ _) aj _ _) aj _ _) aj _ _;replace A4:At W8 _ _:=hW▸At.off (At.off (At.off (At.off (At.off (At.off (At.off (A4) aj _ _) aj _ _) aj _ _) aj _ _) aj _ _) aj _ _) aj _ _;replace hB:Below w.heap.size w W8:=hW▸Below.setCell (Below.setCell (Below.setCell (Below.setCell (Below.setCell (Below.setCell (Below.setCell (hB) jM _) jM _) jM _) jM _) jM _) jM _) jM _;clear hW;obtain⟨l0,aB,aC⟩:=At.two A0;obtain⟨l1,aP,aQ⟩:=At.two A1;obtain⟨l2,aR,aS,aT,aU,bC,bD,bA,bB⟩:=At.bx1 A2;obtain⟨l4,fF,fG,jK,jY,jZ,j3,j4⟩:=At.seven A4;have iQ:=A4.thaw 0;have iR:=A4.thaw 1;have kK:=A4.thaw 2;have kN:=A4.thaw 3;have kP:=A4.thaw 4;have kQ:=A4.thaw 5;have kU:=A4.thaw 6;obtain⟨l3,bP,bQ,dO,dP,dQ,dU,kJ⟩:=At.seven A3;have gW:=A3.thaw 0;have gX:=A3.thaw 1;have iI:=A3.thaw 2;have iJ:=A3.thaw 3;have iK:=A3.thaw 4;have iL:=A3.thaw 5;have mH:=A3.thaw 6;refine bodyPost_ret (v:=.agg #[.int .i64 _,.int .i64 _,.int .i64 _,.int .i64 _,.int .i64 _,.int .i64 _,.int .i64 _]) (by simp[results,Tryz.results25,go_sem,bP,bQ,dO,dP,dQ,dU,kJ];first|done|exact⟨rfl,rfl,rfl,rfl,rfl,rfl,rfl⟩|rfl) rfl ⟨rfl,⟨P,h12 (hI (M:=λ_=>False) hw (Out.of_below hB) λ_ _ q=>q),λb q => .inl q⟩,Out.of_below hB⟩
end
end Go.Proofs.YtmidaiklolmkcaaGreat.Fix
