/- Boxes laid by the program: what its functions do, part 14. -/
import Derived.ScopeJumps
import Derived.WalkMore
import Derived.DeepKeys3
import Derived.DeepKeys4
import Derived.Test.YteggipnplbkijaaGreatWK
import Derived.Test.YteggipnplbkijaaGreatW01
import Derived.Test.YteggipnplbkijaaGreatW09
import Derived.Test.YteggipnplbkijaaGreatW11
import Derived.Test.YteggipnplbkijaaGreatW13
set_option linter.unusedVariables false
set_option linter.unusedSimpArgs false
set_option linter.unusedSectionVars false
set_option maxRecDepth 100000
namespace Go.Proofs.YteggipnplbkijaaGreat.Fix
open Go.ChangeShapes Go.WideShapes Go.ChangeAt Go.RowKit
def sizesOf (l:Nat→Fe.It) (n:Nat) (x:Int):List Int:=(List.range n).map fun i=>(Fe.fin l n (Fe.to x 67108864) i).z
def SoundM (S:Nat→Fe.St) (n:Nat):Prop:=Sound S n∧∀ i,i<n → -134217728≤(S i).m∧(S i).m≤134217728
theorem begun_sound (gr:Bool) (l:Nat→Fe.It) (n:Nat):SoundM (Fe.begun gr l) n:=by
 refine ⟨fun i _ => ?_,fun i _=>⟨by show -134217728≤(0:Int);omega,by show (0:Int)≤134217728;omega⟩⟩
 obtain ⟨q1,q2,_,_,_,_,_,_,q3,q4⟩:=Fe.cnt_bd (l i)
 exact ⟨⟨⟨q1,q2⟩,q3,q4⟩,Fe.clamp_bd (l i) _⟩
theorem want_bd {gr:Bool} {room:Int} {S:Nat→Fe.St} {n i:Nat} (h:Sound S n) (hi:i<n) (hf:(S i).f=false) : -67108864≤Fe.want gr (Fe.parts gr room S n) S i∧Fe.want gr (Fe.parts gr room S n) S i≤68157440:=by
 have hp:=Fe.pl_lt S hi hf
 obtain ⟨⟨⟨hb1,hb2⟩,_⟩,_⟩:=h i hi
 have hpv:0≤(Fe.parts gr room S n).getD (Fe.pl S i) 0∧(Fe.parts gr room S n).getD (Fe.pl S i) 0≤67108864:=by
  unfold Fe.parts
  rw [Fe.share_get _ _ (by rw [Fe.ws_length];exact hp)]
  exact Fe.part_bd _ _ (by rw [Fe.ws_length];exact hp)
 unfold Fe.want
 have hq : -67108864≤Fe.sg gr * (Fe.parts gr room S n).getD (Fe.pl S i) 0∧Fe.sg gr * (Fe.parts gr room S n).getD (Fe.pl S i) 0≤67108864:=by cases gr <;> simp only [Fe.sg,Bool.false_eq_true,if_false,if_true] <;> omega
 omega
theorem shared_sound {gr:Bool} {room:Int} {S:Nat→Fe.St} {n:Nat} (h:SoundM S n):SoundM (Fe.shared gr room n S) n:=by
 constructor
 · intro i hi
   obtain ⟨h1,h2⟩:=h.1 i hi
   unfold Fe.shared Fe.sharedBy
   cases hf:(S i).f
   · simp only [Bool.false_eq_true,if_false]
     exact ⟨h1,Fe.clamp_bd _ _⟩
   · simp only [if_true]
     exact ⟨h1,h2⟩
 · intro i hi
   have h3:=h.2 i hi
   unfold Fe.shared Fe.sharedBy
   cases hf:(S i).f
   · simp only [Bool.false_eq_true,if_false]
     have:=want_bd (gr:=gr) (room:=room) h.1 hi hf
     have:=Fe.clamp_bd (S i).x (Fe.want gr (Fe.parts gr room S n) S i)
     omega
   · simp only [if_true]
     exact h3
theorem froze_sound {S:Nat→Fe.St} {n:Nat} (h:SoundM S n):SoundM (Fe.froze n S) n:=by
 constructor
 · intro i hi
   have h1:=h.1 i hi
   unfold Fe.froze
   cases hf:(S i).f <;> simp only [Bool.false_eq_true,if_false,if_true] <;> exact h1
 · intro i hi
   have h1:=h.2 i hi
   unfold Fe.froze
   cases hf:(S i).f <;> simp only [Bool.false_eq_true,if_false,if_true] <;> exact h1
theorem rounds_sound {gr:Bool} {room:Int} {S:Nat→Fe.St} {n:Nat} (h:SoundM S n) (k:Nat):SoundM (Fe.rounds gr room n S k) n:=by
 induction k with
 | zero=>exact h
 | succ k ih=>exact froze_sound (shared_sound ih)
set_option maxHeartbeats 4000000 in
theorem sizes_any (R I n:Nat) (room:Int) (gr:Bool) (S:Nat→Fe.St) (w:World) (h:RowW w R I n room gr S) (hn:n≤64) :
  Calls Tryz.prog 217 #[.pointer (some ⟨R,0,none⟩)] w fun e w'=>(∃ b,e = .returned (.slice (some ⟨b,0,none⟩) n n)∧w.heap.size≤b∧Ints w' (some ⟨b,0,none⟩) ((List.range n).map fun i=>(S i).z))∧Below w.heap.size w w':=by
 obtain ⟨i0,hi0,hz0,hz1,hz2⟩:=info_parts intZero
 have HR:=Lib.hid h
 obtain ⟨l0,c0,c1,c2⟩:=h.cells
 clear h c1 c2
 go_enter Tryz.func217,Tryz.ntmps217
 go_upto_region 2 with (at_make;refine wpList_make_row _ rfl _ _ 52 rfl 3 i0 (.int .i64 0) Tryz.underlying52 hi0 hz0 hz1 rfl .i64 .i64 n rfl rfl Z42 Z3f ?_)
 have hA0:At (w.alloc (.cells (madeCells #[.int .i64 0] n) 3)) w.heap.size (.cells (stRow (fun i=>(S i).z) n 0) 3):=by rw [← stRow_made];exact At.new _ _
 have hB0:Below w.heap.size w (w.alloc (.cells (madeCells #[.int .i64 0] n) 3)):=Below.alloc' (Below.refl _ _) _
 generalize (w.alloc (.cells (madeCells #[.int .i64 0] n) 3))=W1 at *
 obtain ⟨l0',c0', -, -⟩:=(HR.out.keep hB0).cells
 go_wp2
 go_loopw [17] (fun i wr=>∃ k:Nat,k≤n∧i = .int .i64 k∧At wr w.heap.size (.cells (stRow (fun i=>(S i).z) n k) 3)∧Below w.heap.size w wr) (fun i _=>n - (intOf i).toNat)
 case atStart=>exact ⟨0,by omega,rfl,hA0,hB0⟩
 case round =>
  obtain ⟨k,hk,rfl,hA,hB⟩:=hrel
  by_cases hlt:k<n
  · obtain ⟨l1,d0,d1,d2,d3,d4,d5,d6,d7⟩:=(HR.out.keep hB).2.fields hlt
    have HZ:Hid ((fun i=>(S i).z) k=(S k).z):=Lib.hid rfl
    have hz:=hA.thaw k
    have hc0:=hA.cell k
    rw [stRow_get _ hlt] at hc0
    simp only [Nat.lt_irrefl,if_false] at hc0
    have hlb:=hA.lt
    have hsz:=hB.size
    have fin:∀ (W5:World),Below wr.heap.size wr W5→At (W5.setCell ⟨w.heap.size,k,none⟩ (.int .i64 (S k).z)) w.heap.size (.cells (stRow (fun i=>(S i).z) n (k + 1)) 3)∧Below w.heap.size w (W5.setCell ⟨w.heap.size,k,none⟩ (.int .i64 (S k).z)):=fun W5 hb =>
     ⟨by rw [← stRow_set _ hlt];exact (hA.keep hb).set k _,Below.setCell (Below.trans hB (hb.mono Z3f)) (Nat.le_refl _) _⟩
    have FIN:=Lib.hid fin
    clear fin
    generalize (S k).x.b=v0 at *
    generalize (S k).x.lo=v1 at *
    generalize (S k).x.hi=v2 at *
    generalize (S k).x.g=v3 at *
    generalize (S k).x.s=v4 at *
    generalize (S k).z=v5 at *
    generalize (S k).m=v6 at *
    generalize (S k).f=v7 at *
    go_wp2
    go_roundw
    case rel=>exact ⟨k + 1,by omega,by go_num,(FIN.out wr (Below.refl _ _)).1.alloc _,Below.alloc' (FIN.out wr (Below.refl _ _)).2 _⟩
    case measure=>simp [intOf];omega
  · obtain rfl:k=n:=by omega
    go_wp2
    refine bodyPost_ret (v:= .slice (some ⟨w.heap.size,0,none⟩) k k) (by simp [results,Tryz.results217,go_sem, *];first | done | exact ⟨rfl,rfl⟩ | rfl) rfl ⟨⟨w.heap.size,rfl,Nat.le_refl _,ints_of_made _ k Z3y hA⟩,hB⟩
def cntU (W:World) (I:Nat):Nat→Nat
 | 0=>0
 | k + 1=>cntU W I k + (match W.cell? ⟨I,k * 8 + 7,none⟩ with
   | some (.bool false)=>1
   | _=>0)
def looseIn (W:World) (v:Value):Nat :=
 match v with
 | .pointer (some p)=>(match W.cell? ⟨p.block,0,none⟩ with
   | some (.slice (some q) n _)=>cntU W q.block n
   | _=>0)
 | _=>0
theorem looseIn_row {W:World} {R I n:Nat} {room:Int} {gr:Bool} {S:Nat→Fe.St} (h:RowW W R I n room gr S):looseIn W (.pointer (some ⟨R,0,none⟩))=Fe.pl S n:=by
 have c:∀ k,k≤n→cntU W I k=Fe.pl S k:=by
  intro k hk
  induction k with
  | zero=>rfl
  | succ k ih =>
    have h7:W.cell? ⟨I,k * 8 + 7,none⟩=some (.bool (S k).f):=h.2.cell (show k<n by omega) 7 Z3f
    simp only [cntU,Fe.pl,ih Z3f,h7]
    cases (S k).f <;> simp
 simp only [looseIn,h.cells.2.1]
 exact c n (Nat.le_refl _)
set_option maxRecDepth 100000 in
set_option maxHeartbeats 8000000 in
theorem xsizes_any (A:Option Addr) (l:Nat→Fe.It) (n c:Nat) (x:Int) (w:World) (hI:Items w A l n) (hn:n≤64) :
  Calls Tryz.prog 209 #[.slice A n c,.int .i64 x] w fun e w'=>(∃ b,e = .returned (.slice (some ⟨b,0,none⟩) n n)∧w.heap.size≤b∧Ints w' (some ⟨b,0,none⟩) (sizesOf l n x))∧Below w.heap.size w w':=by
 obtain ⟨room,hroom⟩:∃ room,room=Fe.to x 67108864:=⟨_,rfl⟩
 have r1:0≤room:=by rw [hroom];exact Fe.to_ge Z3f
 have r2:room≤67108864:=by rw [hroom];exact Fe.to_le Z3f
 have HRM:=Lib.hid hroom
 clear hroom
 have HI:=Lib.hid hI
 clear hI
 obtain ⟨gr,hgr⟩:∃ gr,gr=Fe.gro l n room:=⟨_,rfl⟩
 have HS:Hid (∀ k,SoundM (Fe.rounds gr room n (Fe.begun gr l) k) n):=Lib.hid (fun k=>rounds_sound (begun_sound gr l n) k)
 have HF:Hid (∀ k,k≤n→Fe.pl (Fe.rounds gr room n (Fe.begun gr l) k) n=0→(List.range n).map (fun i=>(Fe.rounds gr room n (Fe.begun gr l) k i).z)=sizesOf l n x):=Lib.hid (by
  intro k hk h0
  unfold sizesOf Fe.fin
  rw [← HRM.out, ← hgr]
  apply List.map_congr_left
  intro i hi
  have hi:i<n:=by simpa using hi
  rw [Fe.rounds_still (Fe.pl_none h0 i hi) n hk])
 have HG:=Lib.hid hgr
 clear hgr
 go_enter Tryz.func209,Tryz.ntmps209
 go_wp2
 refine wp_scope_jumps 0 (fun a' w'=>∃ (R I k:Nat) (u8 u13 u14 u15 u16 u17 u18 u19 u20:Value),a'={ tmps:=#[.slice A n c,.int .i64 x,undef,undef,.slice none 0 0,.pointer (some ⟨R,0,none⟩),.slice A n c,.int .i64 n,u8,.slice A n c,.int .i64 x,.int .i64 room,.pointer (some ⟨R,0,none⟩),u13,u14,u15,u16,u17,u18,u19,u20],defers:=[] } ∧
  w.heap.size≤I∧RowW w' R I n room gr (Fe.rounds gr room n (Fe.begun gr l) k)∧Below w.heap.size w w'∧k + Fe.pl (Fe.rounds gr room n (Fe.begun gr l) k) n≤n) (fun a' w'=>looseIn w' (a'.tmps.getD 5 undef)) rfl ?_ ?_
 · go_wp2_with (first | (go_at_call 62;refine (fto_any _ _ _ Z3f).mono ?_;rintro e w' ⟨rfl,rfl⟩;rw [← HRM.out]) | (go_at_call 213;refine (rowOf_any A l n c room _ HI.out hn ⟨r1,r2⟩).mono ?_;rintro e w1 ⟨⟨R,I,rfl,hIw,hRW⟩,hB⟩;rw [← HG.out] at hRW))
   go_step3
   replace hRW:RowW w1 R I n room gr (Fe.rounds gr room n (Fe.begun gr l) 0):=hRW
   have hS:=HS.out 0
   by_cases hp:0<Fe.pl (Fe.rounds gr room n (Fe.begun gr l) 0) n
   · go_wp2_with (first | (go_at_call 214;refine (any_any R I n room gr _ _ hRW hn).mono ?_;rintro e w2 ⟨rfl,hb2⟩;rw [decide_eq_true hp];replace hRW:=hRW.keep hb2;replace hB:=Below.after2 hB (Nat.le_refl _) hb2;clear hb2) | (go_at_call 215;refine (mshare_any w.heap.size R I n room gr _ _ hRW hn ⟨hIw,hB.size⟩ hS.1 ⟨r1,r2⟩).mono ?_;rintro e w3 ⟨⟨v3,rfl⟩,hRW3,hb3⟩;replace hB:=Below.trans hB hb3;clear hb3) | (go_at_call 216;refine (freeze_any w.heap.size R I n room gr _ _ hRW3 hn ⟨hIw,hB.size⟩ (shared_sound hS).2).mono ?_;rintro e w4 ⟨⟨v4,rfl⟩,hRW4,hb4⟩;replace hB:=Below.trans hB hb4;clear hb4))
     go_step3
     have hless:=Fe.round_less gr room hp
     refine ⟨rfl,R,I,1,_,_,_,_,_,_,_,_,_,rfl,hIw,hRW4,hB,?_⟩
     have h1:=Fe.pl_le (Fe.rounds gr room n (Fe.begun gr l) 0) n
     change 1 + Fe.pl (Fe.round gr room n (Fe.rounds gr room n (Fe.begun gr l) 0)) n≤n
     omega
   · have h0:Fe.pl (Fe.rounds gr room n (Fe.begun gr l) 0) n=0:=by omega
     go_wp2_with (first | (go_at_call 214;refine (any_any R I n room gr _ _ hRW hn).mono ?_;rintro e w2 ⟨rfl,hb2⟩;rw [decide_eq_false hp];replace hRW:=hRW.keep hb2;replace hB:=Below.after2 hB (Nat.le_refl _) hb2;clear hb2) | (go_at_call 217;refine (sizes_any R I n room gr _ _ hRW hn).mono ?_;rintro e w3 ⟨⟨b,rfl,hbb,hIb⟩,hb3⟩;rw [HF.out 0 Z3f h0] at hIb;have hsz:=hB.size;replace hB:=Below.after2 hB (Nat.le_refl _) hb3;clear hb3))
     exact Z2q
 · rintro a' w' ⟨R,I,k,u8,u13,u14,u15,u16,u17,u18,u19,u20,rfl,hIw,hRW,hB,hk⟩
   have HLO:=Lib.hid (looseIn_row hRW)
   have hS:=HS.out k
   by_cases hp:0<Fe.pl (Fe.rounds gr room n (Fe.begun gr l) k) n
   · go_wp2_with (first | (go_at_call 214;refine (any_any R I n room gr _ _ hRW hn).mono ?_;rintro e w2 ⟨rfl,hb2⟩;rw [decide_eq_true hp];replace hRW:=hRW.keep hb2;replace hB:=Below.after2 hB (Nat.le_refl _) hb2;clear hb2) | (go_at_call 215;refine (mshare_any w.heap.size R I n room gr _ _ hRW hn ⟨hIw,hB.size⟩ hS.1 ⟨r1,r2⟩).mono ?_;rintro e w3 ⟨⟨v3,rfl⟩,hRW3,hb3⟩;replace hB:=Below.trans hB hb3;clear hb3) | (go_at_call 216;refine (freeze_any w.heap.size R I n room gr _ _ hRW3 hn ⟨hIw,hB.size⟩ (shared_sound hS).2).mono ?_;rintro e w4 ⟨⟨v4,rfl⟩,hRW4,hb4⟩;replace hB:=Below.trans hB hb4;clear hb4))
     go_step3
     have hless:=Fe.round_less gr room hp
     refine ⟨rfl,⟨R,I,k + 1,_,_,_,_,_,_,_,_,_,rfl,hIw,hRW4,hB,?_⟩,?_⟩
     · change k + 1 + Fe.pl (Fe.round gr room n (Fe.rounds gr room n (Fe.begun gr l) k)) n≤n
       omega
     · show looseIn _ (.pointer (some ⟨R,0,none⟩))<looseIn _ (.pointer (some ⟨R,0,none⟩))
       rw [looseIn_row hRW4,HLO.out]
       exact hless
   · have h0:Fe.pl (Fe.rounds gr room n (Fe.begun gr l) k) n=0:=by omega
     go_wp2_with (first | (go_at_call 214;refine (any_any R I n room gr _ _ hRW hn).mono ?_;rintro e w2 ⟨rfl,hb2⟩;rw [decide_eq_false hp];replace hRW:=hRW.keep hb2;replace hB:=Below.after2 hB (Nat.le_refl _) hb2;clear hb2) | (go_at_call 217;refine (sizes_any R I n room gr _ _ hRW hn).mono ?_;rintro e w3 ⟨⟨b,rfl,hbb,hIb⟩,hb3⟩;rw [HF.out k Z3f h0] at hIb;have hsz:=hB.size;replace hB:=Below.after2 hB (Nat.le_refl _) hb3;clear hb3))
     exact Z2q
structure Im where
 it:Fe.It
 ld:Fw.Ld
 bx:Nat
 m0:Int
 m1:Int
 m2:Int
 m3:Int
def ldc (x:Fw.Ld):Array Value:=#[.int .i64 x.id,.int .i64 x.i0,.int .i64 x.i1,.int .i64 x.s0,.int .i64 x.s1,.int .i64 x.a0,.int .i64 x.a1]
def imc (x:Im):Array Value:=#[.int .i64 x.it.b,.int .i64 x.it.lo,.int .i64 x.it.hi,.int .i64 x.it.g,.int .i64 x.it.s,.int .i64 x.ld.id,.int .i64 x.ld.i0,.int .i64 x.ld.i1,.int .i64 x.ld.s0,.int .i64 x.ld.s1,.int .i64 x.ld.a0,.int .i64 x.ld.a1,.pointer (some ⟨x.bx,0,none⟩),.int .i64 x.m0,.int .i64 x.m1,.int .i64 x.m2,.int .i64 x.m3]
theorem At.im {W:World} {b:Nat} {x:Im} {T:TypeId} (h:At W b (.cells (imc x) T)):b<W.heap.size∧W.cell? ⟨b,0,none⟩=some (.int .i64 x.it.b)∧W.cell? ⟨b,1,none⟩=some (.int .i64 x.it.lo)∧W.cell? ⟨b,2,none⟩=some (.int .i64 x.it.hi)∧W.cell? ⟨b,3,none⟩=some (.int .i64 x.it.g)∧W.cell? ⟨b,4,none⟩=some (.int .i64 x.it.s)∧W.cell? ⟨b,5,none⟩=some (.int .i64 x.ld.id)∧W.cell? ⟨b,6,none⟩=some (.int .i64 x.ld.i0)∧W.cell? ⟨b,7,none⟩=some (.int .i64 x.ld.i1)∧W.cell? ⟨b,8,none⟩=some (.int .i64 x.ld.s0)∧W.cell? ⟨b,9,none⟩=some (.int .i64 x.ld.s1)∧W.cell? ⟨b,10,none⟩=some (.int .i64 x.ld.a0)∧W.cell? ⟨b,11,none⟩=some (.int .i64 x.ld.a1)∧W.cell? ⟨b,12,none⟩=some (.pointer (some ⟨x.bx,0,none⟩))∧W.cell? ⟨b,13,none⟩=some (.int .i64 x.m0)∧W.cell? ⟨b,14,none⟩=some (.int .i64 x.m1)∧W.cell? ⟨b,15,none⟩=some (.int .i64 x.m2)∧W.cell? ⟨b,16,none⟩=some (.int .i64 x.m3) :=
 ⟨h.lt,h.cell 0,h.cell 1,h.cell 2,h.cell 3,h.cell 4,h.cell 5,h.cell 6,h.cell 7,h.cell 8,h.cell 9,h.cell 10,h.cell 11,h.cell 12,h.cell 13,h.cell 14,h.cell 15,h.cell 16⟩
theorem itemSize:(Tryz.prog.info? 203).map (·.size)=some 17:=by kernel_rfl
theorem load_item {W:World} {b:Nat} {x:Im} (h:At W b (.cells (imc x) 203)):(Instr.loadAt 203 (.pointer (some ⟨b,0,none⟩))).run Tryz.prog W = .ok (.agg (imc x)) W:=by
 simp only [Instr.loadAt,Instr.sureAddr,Sem.run_bind,Sem.run_pure,Result.andThen_ok,run_loadVar_row W b 203 203 (imc x) (0,0) _ h Tryz.underlying203 rfl (by exact itemSize)]
theorem exec_load_item {o:Oper} {a:Act} {w:World} {b:Nat} {x:Im} (p:Operand) (ho:o.op = .load 203 p) (hp:a.eval p = .pointer (some ⟨b,0,none⟩)) (h:At w b (.cells (imc x) 203)):(execOp a.eval o).run Tryz.prog w = .ok (.value (.agg (imc x))) w:=by
 unfold execOp;simp only [ho,hp,Sem.run_bind,load_item h,Result.andThen_ok,Sem.run_pure]
def ext0 (x:Im) (s:Re.St):Int:=Fw.wr (Fw.wr (x.m0 + x.m1) + Fw.eds s 0)
def ext1 (x:Im) (s:Re.St):Int:=Fw.wr (Fw.wr (x.m2 + x.m3) + Fw.eds s 1)
set_option maxHeartbeats 4000000 in
theorem fextra0 (x:Im) (s:Re.St) (fl ap:Value) (ib:Bool) (w:World) (h:BxAt w x.bx s fl ap ib):Calls Tryz.prog 184 #[.agg (imc x),.int .i64 0] w fun e w'=>e = .returned (.int .i64 (ext0 x s))∧Below w.heap.size w w':=by
 obtain ⟨it,ld,b,m0,m1,m2,m3⟩:=x
 go_enter Tryz.func184,Tryz.ntmps184
 go_upto_region 1 with (fail)
 generalize hW:World.alloc _ _=W0
 have A0:At W0 w.heap.size (.cells (imc ⟨it,ld,b,m0,m1,m2,m3⟩) 203):=hW ▸ At.new _ _
 have A2:BxAt W0 b s fl ap ib:=hW ▸ BxAt.alloc h _
 have hB:Below w.heap.size w W0:=hW ▸ Below.alloc' (Below.refl _ _) _
 clear hW h
 obtain ⟨l0, -, -, -, -, -, -, -, -, -, -, -, -, c0,c1,c2,c3,c4⟩:=At.im A0
 obtain ⟨l2,c2_0,c2_1,c2_2,c2_3,c2_4,c2_5,c2_6,c2_7⟩:=At.bx0 A2
 simp only at c0 c1 c2 c3 c4
 exact Z1i
set_option maxHeartbeats 4000000 in
theorem fextra1 (x:Im) (s:Re.St) (fl ap:Value) (ib:Bool) (w:World) (h:BxAt w x.bx s fl ap ib):Calls Tryz.prog 184 #[.agg (imc x),.int .i64 1] w fun e w'=>e = .returned (.int .i64 (ext1 x s))∧Below w.heap.size w w':=by
 obtain ⟨it,ld,b,m0,m1,m2,m3⟩:=x
 go_enter Tryz.func184,Tryz.ntmps184
 go_upto_region 1 with (fail)
 generalize hW:World.alloc _ _=W0
 have A0:At W0 w.heap.size (.cells (imc ⟨it,ld,b,m0,m1,m2,m3⟩) 203):=hW ▸ At.new _ _
 have A2:BxAt W0 b s fl ap ib:=hW ▸ BxAt.alloc h _
 have hB:Below w.heap.size w W0:=hW ▸ Below.alloc' (Below.refl _ _) _
 clear hW h
 obtain ⟨l0, -, -, -, -, -, -, -, -, -, -, -, -, c0,c1,c2,c3,c4⟩:=At.im A0
 obtain ⟨l2,c2_0,c2_1,c2_2,c2_3,c2_4,c2_5,c2_6,c2_7⟩:=At.bx1 A2
 simp only at c0 c1 c2 c3 c4
 exact Z1i
def outr0 (x:Im):Int:=Fw.wr (x.ld.s0 + Fw.wr (x.m0 + x.m1))
def outr1 (x:Im):Int:=Fw.wr (x.ld.s1 + Fw.wr (x.m2 + x.m3))
set_option maxHeartbeats 4000000 in
theorem fouter0 (x:Im) (B:Nat) (w:World) (h:w.cell? ⟨B,0,none⟩=some (.int .i64 0)):Calls Tryz.prog 189 #[.agg (imc x),.pointer (some ⟨B,0,none⟩)] w fun e w'=>e = .returned (.int .i64 (outr0 x))∧Below w.heap.size w w':=by
 exact Z10
set_option maxHeartbeats 4000000 in
theorem fouter1 (x:Im) (B:Nat) (w:World) (h:w.cell? ⟨B,0,none⟩=some (.int .i64 1)):Calls Tryz.prog 189 #[.agg (imc x),.pointer (some ⟨B,0,none⟩)] w fun e w'=>e = .returned (.int .i64 (outr1 x))∧Below w.heap.size w w':=by
 exact Z10
set_option maxHeartbeats 4000000 in
theorem fclamped (x:Im) (s:Re.St) (fl ap:Value) (ib:Bool) (B:Nat) (w:World) (hb:BxAt w x.bx s fl ap ib) (h:w.cell? ⟨B,0,none⟩=some (.int .i64 0)):Calls Tryz.prog 182 #[.agg (imc x),.pointer (some ⟨B,0,none⟩)] w fun e w'=>e = .returned (.int .i64 (Fw.wr (Fe.clamp x.it x.it.b + ext0 x s)))∧Below w.heap.size w w':=by
 obtain ⟨⟨ib0,ilo,ihi,ig,is⟩,ld,b,m0,m1,m2,m3⟩:=x
 have hlt:B<w.heap.size:=World.block_lt_of_cell? _ _ h
 go_enter Tryz.func182,Tryz.ntmps182
 go_upto_region 1 with (fail)
 have hB:Below w.heap.size w (w.alloc (.cells (imc ⟨⟨ib0,ilo,ihi,ig,is⟩,ld,b,m0,m1,m2,m3⟩) 203)):=Below.alloc' (Below.refl _ _) _
 generalize hW:World.alloc _ _=W0
 have A0:At W0 w.heap.size (.cells (imc ⟨⟨ib0,ilo,ihi,ig,is⟩,ld,b,m0,m1,m2,m3⟩) 203):=hW ▸ At.new _ _
 have A2:BxAt W0 b s fl ap ib:=hW ▸ BxAt.alloc hb _
 replace hB:Below w.heap.size w W0:=hW ▸ hB
 have lB:B<W0.heap.size:=Nat.lt_of_lt_of_le hlt hB.size
 have cB:=(Below.cell_ hB hlt 0).trans h
 clear hW h hlt hb
 obtain ⟨l0,e0,e1,e2,e3,e4,d0,d1,d2,d3,d4,d5,d6,c0,c1,c2,c3,c4⟩:=At.im A0
 simp only at e0 e1 e2 e3 e4 d0 d1 d2 d3 d4 d5 d6 c0 c1 c2 c3 c4
 have HX:BxAt W0 (Im.mk ⟨ib0,ilo,ihi,ig,is⟩ ld b m0 m1 m2 m3).bx s fl ap ib:=A2
 have hx:=fun w' (hS:Below W0.heap.size W0 w')=>fextra0 ⟨⟨ib0,ilo,ihi,ig,is⟩,ld,b,m0,m1,m2,m3⟩ s fl ap ib w' (BxAt.keep HX hS)
 have hc:=fun w'=>xclamp5 ib0 ilo ihi ig is ib0 w'
 clear HX A2
 have HI:=Lib.hid A0
 refine sqt ?_
 (refine Drawn.seq_value Z3n Z3o ?_;(try simp only [tkp,tka,tkz,tks]))
 (refine Drawn.seq_value Z3n Z3o ?_;(try simp only [tkp,tka,tkz,tks]))
 (refine Drawn.seq_value Z3n Z3o ?_;(try simp only [tkp,tka,tkz,tks]))
 (refine Drawn.seq_value Z3n Z3o ?_;(try simp only [tkp,tka,tkz,tks]))
 (refine Drawn.seq_value Z3n Z3o ?_;(try simp only [tkp,tka,tkz,tks]))
 (refine Drawn.seq_call (o:=⟨_,.call ⟨.value _,_,_⟩,_,_,_,_⟩) Z3n (by intro w2 hS;go_simp;first | done | with_reducible rfl | exact ⟨rfl,rfl⟩) (by intro w2 hS;(with_reducible refine (hc w2).mono ?_);rintro e w' ⟨rfl,hb⟩;exact ⟨rfl,Below.after hS hb⟩) ?_;(try simp only [tkp,tka,tkz,tks]))
 (refine Drawn.seq_value Z3n (fun w2 hS=>exec_load_item (.tmp 2) rfl rfl (At.keep HI.out hS)) ?_;(try simp only [tkp,tka,tkz,tks]))
 (refine Drawn.seq_value Z3n Z3o ?_;(try simp only [tkp,tka,tkz,tks]))
 (refine Drawn.seq_call (o:=⟨_,.call ⟨.value _,_,_⟩,_,_,_,_⟩) Z3n (by intro w2 hS;go_simp;first | done | with_reducible rfl | exact ⟨rfl,rfl⟩) (by intro w2 hS;(with_reducible refine (hx w2 hS).mono ?_);rintro e w' ⟨rfl,hb⟩;exact ⟨rfl,Below.after hS hb⟩) ?_;(try simp only [tkp,tka,tkz,tks]))
 (refine Drawn.seq_value Z3n Z3o ?_;(try simp only [tkp,tka,tkz,tks]))
 (refine Drawn.seq_value Z3n Z3o ?_;(try simp only [tkp,tka,tkz,tks]))
 refine Drawn.seq_end ?_;intro w2 hS
 go_wp2
 go_ret
 exact ⟨ret_int (by first | (simp only [wr64,wri];done) | (simp only [wr64,wri];rfl)),Below.after2 hB (Nat.le_refl _) hS⟩
set_option maxHeartbeats 4000000 in
theorem fcolsz (x:Im) (w:World):Calls Tryz.prog 188 #[.agg (imc x)] w fun e w'=>e = .returned (.int .i64 (Fe.clamp x.it x.it.b))∧Below w.heap.size w w':=by
 obtain ⟨⟨ib0,ilo,ihi,ig,is⟩,ld,b,m0,m1,m2,m3⟩:=x
 go_enter Tryz.func188,Tryz.ntmps188
 go_upto_region 1 with (fail)
 have hB:Below w.heap.size w (w.alloc (.cells (imc ⟨⟨ib0,ilo,ihi,ig,is⟩,ld,b,m0,m1,m2,m3⟩) 203)):=Below.alloc' (Below.refl _ _) _
 generalize hW:World.alloc _ _=W0
 have A0:At W0 w.heap.size (.cells (imc ⟨⟨ib0,ilo,ihi,ig,is⟩,ld,b,m0,m1,m2,m3⟩) 203):=hW ▸ At.new _ _
 replace hB:Below w.heap.size w W0:=hW ▸ hB
 clear hW
 obtain ⟨l0,e0,e1,e2,e3,e4, -, -, -, -, -, -, -, -, -, -, -, -⟩:=At.im A0
 simp only at e0 e1 e2 e3 e4
 go_wp2_with (first | (go_at_call 183;(with_reducible refine (xclamp5 _ _ _ _ _ _ _).mono ?_);rintro e w' ⟨rfl,hb⟩;(try replace hb:=Below.after Z3v hb);obtain ⟨hc,hf⟩:=bcell hb;have hz:=hb.size;(try simp at hz)))
 go_ret
 exact ⟨rfl,hb⟩
def asI (s:Re.St) (y:Nat) (base room:Int):Fe.It:=⟨Fx.len (s.c 41) (s.c 42) room base,Fx.limit 0 (s.c (7 + 2 * y)) (s.c (8 + 2 * y)) 0 0 room,max (Fx.len (s.c (11 + 2 * y)) (s.c (12 + 2 * y)) room 1048576) 0,s.c 39,s.c 40⟩
def itv (x:Fe.It):Array Value:=#[.int .i64 x.b,.int .i64 x.lo,.int .i64 x.hi,.int .i64 x.g,.int .i64 x.s]
theorem At.five' {W:World} {b:Nat} {x0 x1 x2 x3 x4:Value} {T:TypeId} (h:At W b (.cells #[x0,x1,x2,x3,x4] T)):b<W.heap.size∧W.cell? ⟨b,0,none⟩=some x0∧W.cell? ⟨b,1,none⟩=some x1∧W.cell? ⟨b,2,none⟩=some x2∧W.cell? ⟨b,3,none⟩=some x3∧W.cell? ⟨b,4,none⟩=some x4:=⟨h.lt,h.cell 0,h.cell 1,h.cell 2,h.cell 3,h.cell 4⟩
set_option maxHeartbeats 4000000 in
theorem fasitem (k0 n0 k1 n1 k2 n2:Int) (s:Re.St) (base room:Int) (w:World):Calls Tryz.prog 142 #[.agg #[.int .i64 k0,.int .i64 n0,.int .i64 k1,.int .i64 n1,.int .i64 k2,.int .i64 n2],.agg (cells s),.int .i64 base,.int .i64 room] w fun e w'=>e = .returned (.agg #[.int .i64 (Fx.len (s.c 41) (s.c 42) room base),.int .i64 (Fx.limit 0 k1 n1 0 0 room),.int .i64 (max (Fx.len k2 n2 room 1048576) 0),.int .i64 (s.c 39),.int .i64 (s.c 40)])∧Below w.heap.size w w':=by
 go_enter Tryz.func142,Tryz.ntmps142
 go_upto_region 1 with (fail)
 generalize hW:World.alloc _ _=W0
 have A0:At W0 w.heap.size (.cells #[.int .i64 k0,.int .i64 n0,.int .i64 k1,.int .i64 n1,.int .i64 k2,.int .i64 n2] 136):=hW ▸ At.alloc (At.alloc (At.new _ _) _) _
 have A1:At W0 (w.heap.size + 1) (.cells (cells s) 37):=by rw [← hW];exact At.alloc (At.new' _ Z3s) _
 have A2:At W0 (w.heap.size + 1 + 1) (.cells #[.int .i64 0,.int .i64 0,.int .i64 0,.int .i64 0,.int .i64 0] 201):=by rw [← hW];exact At.new' _ Z3s
 have hB:Below w.heap.size w W0:=hW ▸ Below.alloc' (Below.alloc' (Below.alloc' (Below.refl _ _) _) _) _
 clear hW
 obtain ⟨l0,c0,c1,c2,c3,c4,c5⟩:=At.six A0
 have l1:=A1.lt
 have d0:=A1.st 41 Z3i rfl
 have d1:=A1.st 42 Z3i rfl
 have d2:=A1.st 39 Z3i rfl
 have d3:=A1.st 40 Z3i rfl
 refine sqtT 20 1 ?_
 (repeat (first | refine sqk ?_ | refine sqc ?_ (hc:=by intro w2 hS;first | with_reducible exact qaB hS (len_any _ _ _ _ _) | with_reducible exact qaB hS (limit_any _ _ _ _ _ _ _)) | refine sqv ?_))
 refine Drawn.seq_tail ?_;intro w2 hS
 replace A2:=A2.keep hS
 replace hB:=Below.after2 hB (Nat.le_refl _) hS
 obtain ⟨l2,y0,y1,y2,y3,y4⟩:=At.five' A2
 have z0:=A2.thaw 0
 have z1:=A2.thaw 1
 have z2:=A2.thaw 2
 have z3:=A2.thaw 3
 have z4:=A2.thaw 4
 refine tkT ?_;intro K hK;go_simp;refine hK _ _ (Drawn.text_nil ?_);clear hK K
 generalize hW:World.setCell _ _ _=W1
 replace A2:At W1 (w.heap.size + 1 + 1) (.cells #[_,_,_,_,_] 201):=hW ▸ At.set (At.set (At.set (At.set (At.set A2 0 _) 1 _) 2 _) 3 _) 4 _
 replace hB:Below w.heap.size w W1:=hW ▸ Below.setCell (Below.setCell (Below.setCell (Below.setCell (Below.setCell hB Z3p _) Z3p _) Z3p _) Z3p _) Z3p _
 clear hW y0 y1 y2 y3 y4 z0 z1 z2 z3 z4 l2
 obtain ⟨l2,y0,y1,y2,y3,y4⟩:=At.five' A2
 go_wp2
 refine bodyPost_ret (v:= .agg #[.int .i64 _,.int .i64 _,.int .i64 _,.int .i64 _,.int .i64 _]) (by simp [results,Tryz.results142,go_sem, *];first | done | exact ⟨rfl,rfl⟩ | exact ⟨rfl,rfl,rfl,rfl,rfl⟩ | rfl) rfl ⟨ret_five rfl rfl rfl rfl rfl,hB⟩
def hR:Value→Option (DataW Value × List MemPlace):=fun v=>some (.held v,[])
def GM (k:TypeId) (W:World) (b n:Nat) (g:Lit→Option Value):Prop :=
 ∃ D:DataW Value,W.ownsMap Tryz.prog k hR b n D∧Maps.size D=n∧∀ l,WideAt.IsKeyLit l→(∀ z,D.atKey l (.held z) = .held ((g l).getD z))∧Maps.has D l=(g l).isSome
section
variable {k t e:TypeId} {W W':World} {b n:Nat} {g:Lit→Option Value}
theorem GM.lt (h:GM k W b n g):b<W.heap.size:=by obtain ⟨D,h,_⟩:=h;exact h.lt
theorem GM.obj (h:GM k W b n g):∃ es clock,At W b (.map es clock):=by obtain ⟨D,⟨es,clock,hb,_⟩,_⟩:=h;exact ⟨es,clock,hb⟩
theorem GM.out {M:Nat→Prop} (h:GM k W b n g) (hm:¬ M b) (q:Out M W W'):GM k W' b n g:=by
 have hl:=h.lt
 obtain ⟨D,⟨es,clock,hb,r⟩,r2⟩:=h
 exact ⟨D,⟨es,clock,(q.2 b hl hm).trans hb,r⟩,r2⟩
theorem GM.keep (h:GM k W b n g) (hb:Below W.heap.size W W'):GM k W' b n g:=h.out (M:=fun _=>False) (fun q=>q) (Out.of_below hb)
theorem GM.congr {g':Lit→Option Value} (h:GM k W b n g) (q:∀ l,WideAt.IsKeyLit l→g l=g' l):GM k W b n g':=by
 obtain ⟨D,h1,h2,h3⟩:=h
 exact ⟨D,h1,h2,fun l hl=>by rw [← q l hl];exact h3 l hl⟩
theorem GM.look (h:GM k W b n g) (K:Maps.Keyed Tryz.prog k) (ht:Tryz.prog.underlying t=some (.map k e)) {z:Value} (hz:(zeroValue e).run Tryz.prog W = .ok z W) {key:Value} {kl:Lit} (hkey:keyOf Tryz.prog k key=some kl) :
  (Instr.lookup t (.map (some b)) key false).run Tryz.prog W = .ok ((g kl).getD z) W:=by
 obtain ⟨D,h1,_,h3⟩:=h
 obtain ⟨v,ps,hr,hv⟩:=h1.lookup (z:=z) (zd:= .held z) (zp:=[]) K ht hz rfl hkey
 rw [(h3 kl (K.key hkey)).1 z] at hv
 simp only [hR,Option.some.injEq,Prod.mk.injEq,DataW.held.injEq] at hv
 rw [hr,hv.1]
theorem GM.look_ok (h:GM k W b n g) (K:Maps.Keyed Tryz.prog k) (ht:Tryz.prog.underlying t=some (.map k e)) {z:Value} (hz:(zeroValue e).run Tryz.prog W = .ok z W) {key:Value} {kl:Lit} (hkey:keyOf Tryz.prog k key=some kl) :
  (Instr.lookup t (.map (some b)) key true).run Tryz.prog W = .ok (.tuple #[(g kl).getD z,.bool (g kl).isSome]) W:=by
 obtain ⟨D,h1,_,h3⟩:=h
 obtain ⟨v,ps,hr,hv⟩:=h1.look_ok (z:=z) (zd:= .held z) (zp:=[]) K ht hz rfl hkey
 rw [(h3 kl (K.key hkey)).1 z] at hv
 simp only [hR,Option.some.injEq,Prod.mk.injEq,DataW.held.injEq] at hv
 rw [hr,hv.1,(h3 kl (K.key hkey)).2]
theorem GM.len (h:GM k W b n g) (ht:Tryz.prog.underlying t=some (.map k e)) (ty:TypeId):(Builtin.len_ #[t] ty #[.map (some b)]).run Tryz.prog W = .ok (.int .i64 (n:Int)) W:=by
 obtain ⟨D,h1,h2,_⟩:=h
 rw [h1.len ht ty,h2]
noncomputable def gset (g:Lit→Option Value) (l:Lit) (v:Value):Lit→Option Value:=fun y=>@ite (Option Value) (y=l) (Classical.propDecidable _) (some v) (g y)
theorem gset_same (g:Lit→Option Value) (l:Lit) (v:Value):gset g l v l=some v:=if_pos rfl
theorem gset_off {g:Lit→Option Value} {l y:Lit} {v:Value} (h:y≠l):gset g l v y=g y:=if_neg h
theorem tightG {P:Program} {k:TypeId} {R:Value→Option (DataW Value × List MemPlace)} {W:World} {b n:Nat} {D:DataW Value} (h:W.ownsMap P k R b n D):W.ownsMap P k R b (Maps.size D) D:=by
 obtain ⟨es,clock,hb,F,hs,rfl⟩:=h
 exact ⟨es,clock,hb,F,by simp [Maps.size,length_sorted],rfl⟩
theorem GM.store (h:GM k W b n g) (K:Maps.Keyed Tryz.prog k) (ht:Tryz.prog.underlying t=some (.map k e)) (hn:n<maxLen) {key v:Value} {kl:Lit} (hkey:keyOf Tryz.prog k key=some kl) (hf:g kl=none) :
  ∃ W',(Instr.mapUpdate t (.map (some b)) key v).run Tryz.prog W = .ok () W'∧GM k W' b (n + 1) (gset g kl v)∧Out (fun x=>x=b) W W':=by
 obtain ⟨D,h1,h2,h3⟩:=h
 obtain ⟨W',hr,ho,ht⟩:=h1.store K ht hn hkey (val:=v) rfl
 have hsz:Maps.size (D.put kl (.held v))=n + 1:=by
  rw [Maps.size_put (h1.tidy K),(h3 kl (K.key hkey)).2,hf,h2];rfl
 refine ⟨W',hr,⟨_,hsz ▸ tightG ho,hsz,fun y hy => ?_⟩,Out.turned ht⟩
 exact Z20
theorem GM.made (k:TypeId) (W:World):GM k (W.alloc (.map #[] 0)) W.heap.size 0 (fun _=>none) :=
 ⟨.map [],World.ownsMap_made _ _ _ _,rfl,fun l hl=>⟨fun z=>rfl,rfl⟩⟩
end
theorem keyLawK:Maps.Keyed Tryz.prog 92:=Maps.Keyed.of_law (deep_law (m:=5) Z3i Z3q Z3q Z3q)
def kval (z a b:Int):Value:= .agg #[.int .i64 z,.int .i64 a,.int .i64 b]
def klit (z a b:Int):Lit:= .string (keyBytes [.int .i64 z,.int .i64 a,.int .i64 b])
theorem klf_int (d:Nat) {z:Int} (h:Wf z):Tryz.prog.keyLits (d + 1) 3 [.int .i64 z]=some [.int .i64 z]:=by
 have h':(Lit.int .i64 z).wf=true:=h
 simp [Program.keyLits,Tryz.underlying3,h']
theorem klf_size (d:Nat) {a b:Int} (ha:Wf a) (hb:Wf b):Tryz.prog.keyLits (d + 2) 88 [.int .i64 a,.int .i64 b]=some [.int .i64 a,.int .i64 b]:=by
 have hc:Tryz.prog.cellsOf 88=2:=by kernel_rfl
 have hi:Tryz.prog.cellsOf 3=1:=by kernel_rfl
 have e1:=klf_int d ha
 have e2:=klf_int d hb
 unfold Program.keyLits
 simp only [Tryz.underlying88,hc,hi,List.length_cons,List.length_nil,Nat.reduceAdd,if_true]
 rw [show List.range 2=[0,1] from rfl]
 simp [e1,e2]
theorem key_k {z a b:Int} (hz:Wf z) (ha:Wf a) (hb:Wf b):keyOf Tryz.prog 92 (kval z a b)=some (klit z a b):=by
 have hc:Tryz.prog.cellsOf 92=3:=by kernel_rfl
 have hs:Tryz.prog.cellsOf 88=2:=by kernel_rfl
 have hi:Tryz.prog.cellsOf 3=1:=by kernel_rfl
 have hk:Tryz.prog.keyType 92=true:=by kernel_rfl
 obtain ⟨d,hd⟩:∃ d,Tryz.prog.types.size + 1=d + 3:=⟨Tryz.prog.types.size - 2,by have h:Nat.ble 2 Tryz.prog.types.size=true:=Z3q;have:=Nat.le_of_ble_eq_true h;omega⟩
 have e1:=klf_int (d + 1) hz
 have e2:=klf_size d ha hb
 have hf:Value.formed Tryz.prog 92 (kval z a b)=true:=by simp [Value.formed,kval,Tryz.underlying92,hc]
 have hl:Tryz.prog.keyLits (d + 3) 92 [.int .i64 z,.int .i64 a,.int .i64 b]=some [.int .i64 z,.int .i64 a,.int .i64 b]:=by
  unfold Program.keyLits
  simp only [Tryz.underlying92,hc,List.length_cons,List.length_nil,Nat.reduceAdd]
  simp [hs,hi,e1,e2]
 unfold keyOf
 simp only [Tryz.underlying92,hk,hd,hf,Bool.and_self,if_true]
 rw [show (kval z a b).cells.toList=[.int .i64 z,.int .i64 a,.int .i64 b] from rfl,hl]
 rfl
theorem klit_inj {z a b z' a' b':Int} (hz:Wf z) (ha:Wf a) (hb:Wf b) (hz':Wf z') (ha':Wf a') (hb':Wf b') (h:klit z a b=klit z' a' b'):z=z'∧a=a'∧b=b':=by
 have e:=keyLawK.inj (key_k hz ha hb) (h ▸ key_k hz' ha' hb')
 simpa [kval] using e
theorem funset_any (w:World):Calls Tryz.prog 46 #[] w fun e w'=>e = .returned (.agg #[.int .i64 (-1),.int .i64 (-1)])∧Below w.heap.size w w':=by
 go_enter Tryz.func46,Tryz.ntmps46
 go_wp2
 refine bodyPost_ret (v:= .agg #[.int .i64 (-1),.int .i64 (-1)]) (by simp [results,Tryz.results46,go_sem, *];first | done | exact ⟨rfl,rfl⟩ | rfl) rfl ⟨rfl,?_⟩
 exact Z6
theorem run_box_fbox (s:Re.St) (fl ap:Value) (ib:Bool) (W:World):(Instr.box 141 (.agg (bxc s fl ap ib))).run Tryz.prog W = .ok (.pointer (some ⟨W.heap.size,0,none⟩)) (W.alloc (.cells (bxc s fl ap ib) 141)):=by kernel_rfl
theorem exec_box_fbox {o:Oper} {a:Act} {W:World} {s:Re.St} {fl ap:Value} {ib:Bool} (p:Operand) (ho:o.op = .box 141 p) (hp:a.eval p = .agg (bxc s fl ap ib)):(execOp a.eval o).run Tryz.prog W = .ok (.value (.pointer (some ⟨W.heap.size,0,none⟩))) (W.alloc (.cells (bxc s fl ap ib) 141)):=by
 unfold execOp;simp only [ho,hp,Sem.run_bind,run_box_fbox,Result.andThen_ok,Sem.run_pure]
theorem reads_fbox {ops:Array Oper} {S:World→Prop} {o:Oper} {a:Act} (s:Re.St) (hw:Region.wanted o (yielded ops a.tmps)=true) (ps:Array (Nat × Operand)) (ho:o.op = .build 141 ps) (hq:(ps.map fun p=>(p.1,a.eval p.2))=#[(0,.agg (cells s)),(1,.agg #[.int .i64 (s.c 3),.int .i64 (s.c 4),.int .i64 (s.c 7),.int .i64 (s.c 8),.int .i64 (s.c 11),.int .i64 (s.c 12),.int .i64 (s.c 5),.int .i64 (s.c 6),.int .i64 (s.c 9),.int .i64 (s.c 10),.int .i64 (s.c 13),.int .i64 (s.c 14)]),(2,.agg #[.int .i64 (Fw.ed s 3),.int .i64 (Fw.ed s 1),.int .i64 (Fw.ed s 0),.int .i64 (Fw.ed s 2)])]):Drawn.Reads Tryz.prog ops S o (.agg (bxc s (.slice none 0 0) (.slice none 0 0) false)) a:=by
 refine .inl ⟨hw,fun w _ => ?_⟩
 unfold execOp;simp only [ho,hq,Sem.run_bind,build_fbox,Result.andThen_ok,Sem.run_pure]
set_option maxHeartbeats 4000000 in
theorem fnewbox_any (s:Re.St) (w:World):Calls Tryz.prog 71 #[.agg (cells s)] w fun e w'=>(∃ b,e = .returned (.pointer (some ⟨b,0,none⟩))∧w.heap.size≤b∧BxAt w' b s (.slice none 0 0) (.slice none 0 0) false)∧Below w.heap.size w w':=by
 go_enter Tryz.func71,Tryz.ntmps71
 go_upto_region 1 with (fail)
 generalize hW:World.alloc _ _=W0
 have A1:At W0 w.heap.size (.cells (cells s) 37):=hW ▸ At.new _ _
 have hB:Below w.heap.size w W0:=hW ▸ Below.alloc' (Below.refl _ _) _
 clear hW
 have HA:=Lib.hid A1
 have l1:=A1.lt
 have c3:=A1.st 3 Z3i rfl
 have c4:=A1.st 4 Z3i rfl
 have c5:=A1.st 5 Z3i rfl
 have c6:=A1.st 6 Z3i rfl
 have c7:=A1.st 7 Z3i rfl
 have c8:=A1.st 8 Z3i rfl
 have c9:=A1.st 9 Z3i rfl
 have c10:=A1.st 10 Z3i rfl
 have c11:=A1.st 11 Z3i rfl
 have c12:=A1.st 12 Z3i rfl
 have c13:=A1.st 13 Z3i rfl
 have c14:=A1.st 14 Z3i rfl
 have hS0:Below W0.heap.size W0 W0.drew:=Below.drew (Below.refl _ _)
 refine tkX (S:=fun W=>Below W0.heap.size W0 W) 22 ?_ ?_
 · exact hS0
 intro hS1
 clear hS0
 refine tkR 0 rfl (reads_load_style Z3n (.tmp 1) rfl rfl (fun W h=>At.keep HA.out h)) ?_
 refine tkB 1 ?_
 refine tkB 2 ?_
 refine tkB 3 ?_
 refine tkB 4 ?_
 refine tkB 5 ?_
 refine tkB 6 ?_
 refine tkB 7 ?_
 refine tkB 8 ?_
 refine tkB 9 ?_
 refine tkB 10 ?_
 refine tkB 11 ?_
 refine tkB 12 ?_
 refine tkB 13 ?_
 refine tkB 14 ?_
 refine tkB 15 ?_
 refine tkR 16 rfl (reads_load_style Z3n (.tmp 1) rfl rfl (fun W h=>At.keep HA.out h)) ?_
 refine tk1 17 ?_
 refine Drawn.Step.call tkL (fedges_any s _) ?_
 rintro e w2 ⟨rfl,hb2⟩
 refine ⟨_,rfl,fun _=>Below.after hS1 hb2,?_⟩
 replace hS1:=Below.after hS1 hb2
 clear hb2
 (try simp only [tkp,tka,tkz,tks])
 refine tk1 18 ?_
 refine Drawn.Step.call Z3r (fbyway_any _ _ _ _ _) ?_
 rintro e w3 ⟨rfl,hb3⟩
 refine ⟨_,rfl,fun _=>Below.after hS1 hb3,?_⟩
 replace hS1:=Below.after hS1 hb3
 clear hb3
 (try simp only [tkp,tka,tkz,tks])
 refine tkR 19 rfl (reads_fbox s Z3n _ rfl Z4b) ?_
 refine tk1 20 ?_
 refine Drawn.Step.value (exec_box_fbox (.tmp 22) rfl rfl) ?_
 refine ⟨fun _=>hS1.alloc hS1.size _,?_⟩
 have hA2:BxAt (w3.alloc (.cells (bxc s (.slice none 0 0) (.slice none 0 0) false) 141)) w3.heap.size s (.slice none 0 0) (.slice none 0 0) false:=At.new _ _
 have hle:=hS1.size
 replace hS1:=hS1.alloc hS1.size (.cells (bxc s (.slice none 0 0) (.slice none 0 0) false) 141)
 generalize hbn:w3.heap.size=bn at *
 generalize w3.alloc _=w4 at *
 (try simp only [tkp,tka,tkz,tks])
 refine tkB 21 ?_
 refine tkE ?_
 go_wp2
 refine bodyPost_ret (results_tmp rfl _ _ _) rfl ⟨⟨bn,rfl,Nat.le_trans hB.size hle,hA2⟩,Below.after2 hB (Nat.le_refl _) hS1⟩
end Go.Proofs.YteggipnplbkijaaGreat.Fix
