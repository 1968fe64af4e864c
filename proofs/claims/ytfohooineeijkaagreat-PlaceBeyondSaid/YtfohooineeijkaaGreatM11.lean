/- Steps of the program (11); no conditions. -/
import Derived.Test.YtfohooineeijkaaGreatM10
set_option linter.all false
set_option maxRecDepth 100000
set_option maxHeartbeats 16000000
namespace Go.Proofs.YtfohooineeijkaaGreat.Fix
open Go.ChangeShapes Go.WideShapes Go.ChangeAt Go.RowKit
open Go.Proofs.Tryz renaming prog → ja0
open World renaming setCell → ja4,setRow → jb8
open List renaming getElem?_eq_getElem → ja6,getElem?_toArray → ja',getElem?_map → jb7
variable {cs vs:Array Value}{xs:List Im}{W W':World}{R q b n:Nat}{T T':TypeId}{x:Im}{A:Option Addr}{M:Nat->Prop}
theorem At.seven{W:World}{x0 x1 x2 x3 x4 x5 x6:Value}(h:At W b (.cells #[x0,x1,x2,x3,x4,x5,x6] T)):b<W.heap.size/\W.cell? ⟨b,0,none⟩=some x0/\W.cell? ⟨b,1,none⟩=some x1/\W.cell? ⟨b,2,none⟩=some x2/\W.cell? ⟨b,3,none⟩=some x3/\W.cell? ⟨b,4,none⟩=some x4/\W.cell? ⟨b,5,none⟩=some x5/\W.cell? ⟨b,6,none⟩=some x6:=⟨h.lt,h.cell 0,h.cell 1,h.cell 2,h.cell 3,h.cell 4,h.cell 5,h.cell 6⟩
structure rF where
 lb:Nat
 bm:Nat
 km:Nat
 pm:Nat
 rm:Nat
 ww:Int
 wh:Int
 bl:Int->Nat
 vf:Int->Value
 va:Int->Value
structure RO(W:World)(Y:rF)(B:Int->Fw.Bx)(D:Int->Prop)(KM:World->Nat->Prop):Prop where
 lay:At W Y.lb (.cells #[Y.ww,Y.wh,.map (some Y.bm),.map (some Y.km),.map (some Y.pm),.map (some Y.rm)] 94)
 boxes:∃n g,GM 3 W Y.bm n g/\∀z,D z->g (.int .i64 z)=some (.pointer (some ⟨Y.bl z,0,none⟩))
 box:∀z,D z->aR W (Y.bl z) (B z).sty (Y.vf z) (Y.va z) (B z).ib/\KS W (Y.vf z) (B z).fl/\KS W (Y.va z) (B z).ap
 kinds:KM W Y.km
 wf:∀z,D z->Wf z
 Gv:∃es clock,At W Y.pm (.map es clock)
 pmb:Y.pm≠Y.bm
 pmk:Y.pm≠Y.km
 pmr:Y.pm≠Y.rm
theorem Out.cell(h:Out M W W')(o:Nat)(hb:b<W.heap.size)(hm:¬ M b):W'.cell? ⟨b,o,none⟩=W.cell? ⟨b,o,none⟩:=by
 have e:=h.2 b hb hm;unfold World.cell?;rw[e]
theorem G8(v:Value)(h:Int)(W:World):(Instr.field 147 (.agg #[v,h]) 1).run ja0 W=.ok (.int .i64 h) W:=by kernel_rfl
theorem xI{q:Nat}(h:Out (λb=>b=q) W W'):∀b o,b<W.heap.size->b≠q->W'.cell? ⟨b,o,none⟩=W.cell? ⟨b,o,none⟩:=λb o hb hn=>Out.cell h o hb hn
theorem MB{q r:Nat}(h:Out (λb=>b=q\/b=r) W W'):∀b o,b<W.heap.size->b≠q->b≠r->W'.cell? ⟨b,o,none⟩=W.cell? ⟨b,o,none⟩:=λb o hb hn hm=>Out.cell h o hb (by rintro(e|e);exact hn e;exact hm e)
section
variable {W W':World} {Y:rF} {B:Int->Fw.Bx} {D:Int->Prop} {KM:World->Nat->Prop}
theorem RO.keep(hK:∀(X X':World) (b:Nat),KM X b->Below X X X'->KM X' b)(h:RO W Y B D KM)(hb:Below W W W'):RO W' Y B D KM where
 lay:=h.lay.keep hb
 boxes:=by obtain⟨n,g,h1,h2⟩:=h.boxes;exact⟨n,g,h1.keep hb,h2⟩
 box:=λz hz=>by obtain⟨h1,h2,h3⟩:=h.box z hz;exact⟨h1.keep hb,h2.after hb,h3.after hb⟩
 kinds:=hK _ _ _ h.kinds hb
 wf:=h.wf
 Gv:=by obtain⟨es,ck,q⟩:=h.Gv;exact⟨es,ck,q.keep hb⟩
 pmb:=h.pmb
 pmk:=h.pmk
 pmr:=h.pmr
theorem RO.look(h:RO W Y B D KM){z:Int}(hz:D z):(Instr.lookup 90 (.map (some Y.bm)) (.int .i64 z) false).run ja0 W=.ok (.pointer (some ⟨Y.bl z,0,none⟩)) W:=by
 obtain⟨n,g,h1,h2⟩:=h.boxes;rw[h1.look jH Tryz.underlying90 (z:=.pointer none) bE (jh (h.wf z hz)),h2 z hz];rfl
end
section
variable {Y:rF} {B:Int->Fw.Bx} {D:Int->Prop} {KM:World->Nat->Prop} {Iv Iv2:(Nat->Prop)->World->Prop}
theorem abC(hK:∀(X X':World) (b:Nat),KM X b->Below X X X'->KM X' b)(hI:∀{P M:Nat->Prop} {X X':World},Iv P X->Out M X X'->(∀b,P b->¬ M b)->Iv P X')(hI2:∀{P M:Nat->Prop} {X X':World},Iv2 P X->Out M X X'->(∀b,P b->¬ M b)->Iv2 P X')(h12:∀{P:Nat->Prop} {X:World},Iv P X->Iv2 P X)(P:Nat->Prop)
  (z r0 r1 t0 t1:Int) (hz:D z) (w:World) (hR:RO w Y B D KM) (hw:Iv P w) (hP:∀b,P b->b<w.heap.size) (cn:Int->Int->Int->List Fw.Ld×Int)
  (hin:∀X i0,RO X Y B D KM->Iv P X->i0=Fw.GI (B z).sty 0 r0 r0 t0->Calls ja0 67 #[Y.lb,.agg #[z,.int .i64 i0,.int .i64 (-1)]] X λe X'=>(∃v,e=.returned (.agg #[v,.int .i64 (cn z i0 (-1)).2]))/\(∃P',Iv2 P' X'/\∀b,P' b->P b\/X.heap.size<=b)/\Out (λb=>b=Y.pm) X X') :
  Calls ja0 32 #[Y.lb,z,.agg #[r0,r1],.agg #[t0,t1]] w λe w'=>e=.returned (.agg (fH (Fw.Ug B cn z r0 r1 t0 t1)))/\(∃P',Iv2 P' w'/\∀b,P' b->P b\/w.heap.size<=b)/\Out (λb=>b=Y.pm) w w':=by
 obtain⟨es0,U0,hpm⟩:=hR.Gv;have hpl:=hpm.lt;have hbx:=(hR.box z hz).1;have hblt:=hbx.lt
 have ait:Y.bl z≠Y.pm:=λq=>by
  have:=At.uniq hbx (q▸hpm);cases this
 have GU:=hR.lay.lt;have yg:=ah hR;have hbig:=hR.keep hK (aD (aD (aD (Below.refl w.heap.size w) (.cells #[r0,r1] 81)) (.cells #[t0,t1] 81)) (.cells #[(),(),(),(),(),(),()] 88));have hl1:=hbig.look hz;have xS:=hbig.lay;clear hR;obtain⟨ans,fT⟩:∃x,Hid (Fw.Ug B cn z r0 r1 t0 t1=x):=⟨_,ah rfl⟩;rw[fT.out];generalize hs:(B z).sty=s at *;generalize Y.vf z=vf at *;generalize Y.va z=va at *;generalize hib:(B z).ib=ib at *;generalize hbz:Y.bl z=bz at *;go_enter Tryz.func32,Tryz.ntmps32
 go_upto_region 1 with(fail)
 have A0:At (((w.alloc (.cells #[r0,r1] 81)).alloc (.cells #[t0,t1] 81)).alloc (.cells #[(),(),(),(),(),(),()] 88)) w.heap.size (.cells #[r0,r1] 81):=At.alloc (At.alloc (At.new _ _) _) _;have A1:At (((w.alloc (.cells #[r0,r1] 81)).alloc (.cells #[t0,t1] 81)).alloc (.cells #[(),(),(),(),(),(),()] 88)) (w.heap.size+1) (.cells #[t0,t1] 81):=At.alloc (At.new' _ Gs) _;have A3:At (((w.alloc (.cells #[r0,r1] 81)).alloc (.cells #[t0,t1] 81)).alloc (.cells #[(),(),(),(),(),(),()] 88)) (w.heap.size+1+1) (.cells #[(),(),(),(),(),(),()] 88):=At.new' _ Gs;have A2:=hbx.alloc (.cells #[r0,r1] 81) |>.alloc (.cells #[t0,t1] 81) |>.alloc (.cells #[(),(),(),(),(),(),()] 88)
 have hB:Below w w (((w.alloc (.cells #[r0,r1] 81)).alloc (.cells #[t0,t1] 81)).alloc (.cells #[(),(),(),(),(),(),()] 88)):=aD (aD (aD aG _) _) _;generalize ((w.alloc (.cells #[r0,r1] 81)).alloc (.cells #[t0,t1] 81)).alloc (.cells #[(),(),(),(),(),(),()] 88)=W0 at *;have Di:=xS.lt;have l3':=A3.lt;have G9:W0.cell? ⟨Y.lb,2,none⟩=some (.map (some Y.bm)):=xS.cell 2
 go_upto_region 3 with(fail)
 generalize hW:World.alloc _ _=W1;have A4:At W1 W0 (.cells #[z,(),(),(),(),(),()] 88):=hW▸At.new _ _;replace A0:At W1 _ _:=hW▸At.alloc A0 _;replace A1:At W1 _ _:=hW▸At.alloc A1 _;replace A2:At W1 _ _:=hW▸At.alloc A2 _;replace A3:At W1 _ _:=hW▸At.alloc A3 _;replace hB:Below w w W1:=hW▸aD hB _;clear hW hl1 xS G9 Di hbig;generalize W0.heap.size=bx at *;obtain⟨l0,aA,aB⟩:=At.two A0;obtain⟨l1,aH,aJ⟩:=At.two A1;obtain⟨l2,aL,aM,aP,aQ,bO,bP,bM,bN⟩:=At.bx0 A2;obtain⟨l3,aZ,bq,bZ,cu,dD,dF,fI⟩:=At.seven A3;have eF:=A3.thaw 0;have eG:=A3.thaw 1;have eX:=A3.thaw 2;have eY:=A3.thaw 3;have fA:=A3.thaw 4;have fB:=A3.thaw 5;have gZ:=A3.thaw 6;obtain⟨l4,fF,fG,jT,kr,kD,kF,kH⟩:=At.seven A4;have je:=A4.thaw 0;have jf:=A4.thaw 1;have lJ:=A4.thaw 2;have lM:=A4.thaw 3;have lW:=A4.thaw 4;have lX:=A4.thaw 5;have lZ:=A4.thaw 6;go_wp2;refine wp_loop_rounds 3 ?_;rw[rounds_succ]
 go_upto_region 6 with(fail)
 go_upto_region 7 with(first|(go_at_call 69;(with_reducible refine(afQ _ _ _ _ _ _ _ _ _ _ (by first|exact A2|exact At.keep A2 hS)).mono ?_);rintro e w' ⟨rfl,hb⟩;(clear l0 aA aB l1 aH aJ l2 aL aM aP aQ bO bP bM bN l3 aZ bq bZ cu dD dF fI eF eG eX eY fA fB gZ l4 fF fG jT kr kD kF kH je jf lJ lM lW lX lZ);(replace hB:=Below.ay qj aF hb);replace A0:=At.keep sM hb;replace A1:=At.keep qP hb;replace A2:=At.keep qW hb;replace A3:=At.keep zC hb;replace A4:=At.keep Z45 hb;clear hb;obtain⟨l0,aA,aB⟩:=At.two A0;obtain⟨l1,aH,aJ⟩:=At.two A1;obtain⟨l2,aL,aM,aP,aQ,bO,bP,bM,bN⟩:=At.bx0 A2;obtain⟨l3,aZ,bq,bZ,cu,dD,dF,fI⟩:=At.seven A3;have eF:=A3.thaw 0;have eG:=A3.thaw 1;have eX:=A3.thaw 2;have eY:=A3.thaw 3;have fA:=A3.thaw 4;have fB:=A3.thaw 5;have gZ:=A3.thaw 6;obtain⟨l4,fF,fG,jT,kr,kD,kF,kH⟩:=At.seven A4;have je:=A4.thaw 0;have jf:=A4.thaw 1;have lJ:=A4.thaw 2;have lM:=A4.thaw 3;have lW:=A4.thaw 4;have lX:=A4.thaw 5;have lZ:=A4.thaw 6))
 generalize hW:ja4 _ _ _=W2;clear l0 aA aB l1 aH aJ l2 aL aM aP aQ bO bP bM bN l3 aZ bq bZ cu dD dF fI eF eG eX eY fA fB gZ l4 fF fG jT kr kD kF kH je jf lJ lM lW lX lZ;replace A4:At W2 bx (.cells #[z,Fw.GI s 0 r0 r0 t0,(),(),(),(),()] 88):=hW▸At.set (A4) 1 _;replace A0:At W2 _ _:=hW▸At.off (A0) ak _ _;replace A1:At W2 _ _:=hW▸At.off (A1) ak _ _;replace A2:At W2 _ _:=hW▸At.off (A2) ak _ _;replace A3:At W2 _ _:=hW▸At.off (A3) ak _ _;replace hB:Below w w W2:=hW▸Below.setCell (hB) jB _;clear hW;obtain⟨l0,aA,aB⟩:=At.two A0;obtain⟨l1,aH,aJ⟩:=At.two A1;obtain⟨l2,aL,aM,aP,aQ,bO,bP,bM,bN⟩:=At.bx0 A2;obtain⟨l3,aZ,bq,bZ,cu,dD,dF,fI⟩:=At.seven A3;have eF:=A3.thaw 0;have eG:=A3.thaw 1;have eX:=A3.thaw 2;have eY:=A3.thaw 3;have fA:=A3.thaw 4;have fB:=A3.thaw 5;have gZ:=A3.thaw 6;obtain⟨l4,fF,fG,jT,kr,kD,kF,kH⟩:=At.seven A4;have je:=A4.thaw 0;have jf:=A4.thaw 1;have lJ:=A4.thaw 2;have lM:=A4.thaw 3;have lW:=A4.thaw 4;have lX:=A4.thaw 5;have lZ:=A4.thaw 6;obtain⟨l2,aL,aM,aP,aQ,bO,bP,bM,bN⟩:=At.bx1 A2;go_wp2;rw[rounds_succ]
 go_upto_region 6 with(fail)
 go_upto_region 7 with(first|(go_at_call 69;(with_reducible refine(afR _ _ _ _ _ _ _ _ _ _ (by first|exact A2|exact At.keep A2 hS)).mono ?_);rintro e w' ⟨rfl,hb⟩;(clear l0 aA aB l1 aH aJ l2 aL aM aP aQ bO bP bM bN l3 aZ bq bZ cu dD dF fI eF eG eX eY fA fB gZ l4 fF fG jT kr kD kF kH je jf lJ lM lW lX lZ);(replace hB:=Below.ay qj aF hb);replace A0:=At.keep sM hb;replace A1:=At.keep qP hb;replace A2:=At.keep qW hb;replace A3:=At.keep zC hb;replace A4:=At.keep Z45 hb;clear hb;obtain⟨l0,aA,aB⟩:=At.two A0;obtain⟨l1,aH,aJ⟩:=At.two A1;obtain⟨l2,aL,aM,aP,aQ,bO,bP,bM,bN⟩:=At.bx1 A2;obtain⟨l3,aZ,bq,bZ,cu,dD,dF,fI⟩:=At.seven A3;have eF:=A3.thaw 0;have eG:=A3.thaw 1;have eX:=A3.thaw 2;have eY:=A3.thaw 3;have fA:=A3.thaw 4;have fB:=A3.thaw 5;have gZ:=A3.thaw 6;obtain⟨l4,fF,fG,jT,kr,kD,kF,kH⟩:=At.seven A4;have je:=A4.thaw 0;have jf:=A4.thaw 1;have lJ:=A4.thaw 2;have lM:=A4.thaw 3;have lW:=A4.thaw 4;have lX:=A4.thaw 5;have lZ:=A4.thaw 6))
 generalize hW:ja4 _ _ _=W3;clear l0 aA aB l1 aH aJ l2 aL aM aP aQ bO bP bM bN l3 aZ bq bZ cu dD dF fI eF eG eX eY fA fB gZ l4 fF fG jT kr kD kF kH je jf lJ lM lW lX lZ;replace A4:At W3 bx (.cells #[z,Fw.GI s 0 r0 r0 t0,Fw.GI s 1 r0 r1 t1,(),(),(),()] 88):=hW▸At.set (A4) 2 _;replace A0:At W3 _ _:=hW▸At.off (A0) ak _ _;replace A1:At W3 _ _:=hW▸At.off (A1) ak _ _;replace A2:At W3 _ _:=hW▸At.off (A2) ak _ _;replace A3:At W3 _ _:=hW▸At.off (A3) ak _ _;replace hB:Below w w W3:=hW▸Below.setCell (hB) jB _;clear hW;obtain⟨l0,aA,aB⟩:=At.two A0;obtain⟨l1,aH,aJ⟩:=At.two A1;obtain⟨l2,aL,aM,aP,aQ,bO,bP,bM,bN⟩:=At.bx1 A2;obtain⟨l3,aZ,bq,bZ,cu,dD,dF,fI⟩:=At.seven A3;have eF:=A3.thaw 0;have eG:=A3.thaw 1;have eX:=A3.thaw 2;have eY:=A3.thaw 3;have fA:=A3.thaw 4;have fB:=A3.thaw 5;have gZ:=A3.thaw 6;obtain⟨l4,fF,fG,jT,kr,kD,kF,kH⟩:=At.seven A4;have je:=A4.thaw 0;have jf:=A4.thaw 1;have lJ:=A4.thaw 2;have lM:=A4.thaw 3;have lW:=A4.thaw 4;have lX:=A4.thaw 5;have lZ:=A4.thaw 6;obtain⟨i0,HI0⟩:∃x,Hid (Fw.GI s 0 r0 r0 t0=x):=⟨_,ah rfl⟩;obtain⟨i1,HI1⟩:∃x,Hid (Fw.GI s 1 r0 r1 t1=x):=⟨_,ah rfl⟩;rw[HI0.out,HI1.out]at A4;clear l4 fF fG jT kr kD kF kH je jf lJ lM lW lX lZ;obtain⟨l4,fF,fG,jT,kr,kD,kF,kH⟩:=At.seven A4;have je:=A4.thaw 0;have jf:=A4.thaw 1;have lJ:=A4.thaw 2;have lM:=A4.thaw 3;have lW:=A4.thaw 4;have lX:=A4.thaw 5;have lZ:=A4.thaw 6;go_wp2;rw[rounds_succ]
 go_upto_region 8 with(fail)
 go_upto_region 9 with(fail)
 generalize hW:ja4 _ _ _=W4;clear l0 aA aB l1 aH aJ l2 aL aM aP aQ bO bP bM bN l3 aZ bq bZ cu dD dF fI eF eG eX eY fA fB gZ l4 fF fG jT kr kD kF kH je jf lJ lM lW lX lZ;replace A4:At W4 bx (.cells #[z,i0,i1,i0,i1,(),()] 88):=hW▸At.set (At.set (A4) 3 _) 4 _;replace A0:At W4 _ _:=hW▸At.off (At.off (A0) ak _ _) ak _ _;replace A1:At W4 _ _:=hW▸At.off (At.off (A1) ak _ _) ak _ _;replace A2:At W4 _ _:=hW▸At.off (At.off (A2) ak _ _) ak _ _;replace A3:At W4 _ _:=hW▸At.off (At.off (A3) ak _ _) ak _ _;replace hB:Below w w W4:=hW▸Below.setCell (Below.setCell (hB) jB _) jB _;clear hW;obtain⟨l0,aA,aB⟩:=At.two A0;obtain⟨l1,aH,aJ⟩:=At.two A1;obtain⟨l2,aL,aM,aP,aQ,bO,bP,bM,bN⟩:=At.bx1 A2;obtain⟨l3,aZ,bq,bZ,cu,dD,dF,fI⟩:=At.seven A3;have eF:=A3.thaw 0;have eG:=A3.thaw 1;have eX:=A3.thaw 2;have eY:=A3.thaw 3;have fA:=A3.thaw 4;have fB:=A3.thaw 5;have gZ:=A3.thaw 6;obtain⟨l4,fF,fG,jT,kr,kD,kF,kH⟩:=At.seven A4;have je:=A4.thaw 0;have jf:=A4.thaw 1;have lJ:=A4.thaw 2;have lM:=A4.thaw 3;have lW:=A4.thaw 4;have lX:=A4.thaw 5;have lZ:=A4.thaw 6;have lp0:w.heap.size≠Y.pm:=by omega
 have lp1:w.heap.size+1≠Y.pm:=by omega
 have lp3:w.heap.size+1+1≠Y.pm:=by omega
 have lp4:bx≠Y.pm:=by omega
 by_cases hu:i1 = -1
 . have HU:=ah hu
   subst hu
   go_upto_region 10 with(fail)
   have hR4:=yg.out.keep hK (Below.drew hB);have U3:=hI (M:=λ_=>False) hw (Out.of_below (Below.drew hB)) λ_ _ q=>q;have hcall:=hin _ i0 hR4 U3 HI0.out.symm;have hO4:Out (λb=>b=Y.pm) W4 W4.drew:=(Out.refl _ _).drew;have LG:bz≠Y.pm:=ait;have lbx:bz≠bx:=by omega
   have lx0:w.heap.size≠bx:=by omega
   have lk4:bx<W4.heap.size:=l4;have lk3:w.heap.size+1+1<W4.heap.size:=l3;have mkS:∀X,Out (λb=>b=Y.pm) W4 X->Out (λb=>b=Y.pm\/b=bx) W4 X/\X.cell? ⟨bx,0,none⟩=some (.int .i64 z)/\X.cell? ⟨bx,1,none⟩=some (.int .i64 i0)/\X.cell? ⟨bx,2,none⟩=some (.int .i64 (-1)):=λX h=>⟨h.mono λb _ q => .inl q,(xI h _ _ l4 lp4).trans fF,(xI h _ _ l4 lp4).trans fG,(xI h _ _ l4 lp4).trans jT⟩;have MKS:=ah mkS;clear mkS;clear fF fG jT;refine jy (S:=λX=>Out (λb=>b=Y.pm\/b=bx) W4 X/\X.cell? ⟨bx,0,none⟩=some (.int .i64 z)/\X.cell? ⟨bx,1,none⟩=some (.int .i64 i0)/\X.cell? ⟨bx,2,none⟩=some (.int .i64 (-1))) 16 ?_ ?_
   . exact MKS.out _ hO4
   intro hS5;refine iG 0 ?_;refine iG 1 ?_;refine iG 2 ?_;refine iG 3 ?_;refine iG 4 ?_;refine iG 5 ?_;refine iG 6 ?_;refine iG 7 ?_;refine iG 10 ?_;refine iG 11 ?_;refine iG 13 ?_;refine tk1 8 ?_;refine aj.Step.call eD hcall ?_;rintro e w5 ⟨⟨v,rfl⟩,⟨P5,hI5,DW⟩,Gq⟩;refine⟨_,rfl,λ_=>MKS.out _ (hO4.trans Gq),?_⟩;replace hO4:=hO4.trans Gq;replace hS5:=MKS.out _ hO4;clear hcall Gq;have hfc:=G8 v (cn z i0 (-1)).2
   (try simp only[bV,bW,bX,tks])
   refine iG 9 ?_;refine tk1 12 ?_;refine aj.Step.call (by go_simp;first|done|with_reducible rfl|exact⟨⟨rfl,rfl,rfl,rfl,rfl,rfl⟩,rfl,rfl⟩|exact⟨⟨⟨rfl,rfl,rfl,rfl,rfl,rfl⟩,rfl,rfl⟩,rfl⟩) (tH _ _ _ _ _ _ _ _ _) ?_;rintro e w6 ⟨rfl,hb6⟩;refine⟨_,rfl,λ_=>MKS.out _ (hO4.trans (Out.of_below hb6)),?_⟩;replace hO4:=hO4.trans (Out.of_below hb6);replace hS5:=MKS.out _ hO4;replace hI5:=hI2 (M:=λ_=>False) hI5 (Out.of_below hb6) λ_ _ q=>q;clear hb6
   (try simp only[bV,bW,bX,tks])
   refine iG 14 ?_;refine tk1 15 ?_;have A5:=A4.out lp4 hO4;have d4:w6.cell? ⟨bx,4,none⟩=some (.int .i64 (-1)):=A5.cell 4;have e4:=A5.thaw 4;refine aj.Step.skip eD ?_;refine⟨λ_=>⟨Out.set (hO4.mono λb _ q => .inl q) (.inr rfl) 4 _,(A5.set 4 _).cell 0,(A5.set 4 _).cell 1,(A5.set 4 _).cell 2⟩,?_⟩
   (try simp only[Act.put])
   refine jk ?_;have hQ:Out (λb=>b=bx\/b=w.heap.size+1+1) w6 w6:=Out.refl _ _;replace A0:=A0.out lp0 hO4;replace A1:=A1.out lp1 hO4;replace A2:=At.out A2 LG hO4;replace A3:=A3.out lp3 hO4;replace A4:=A5;clear A5 d4 e4 hS5;obtain⟨hh,Nq⟩:=aC (Fw.lim s 1 (cn z i0 (-1)).2 r1);have hlm:Fx.limit (cn z i0 (-1)).2 (s.c 9) (s.c 10) (s.c 13) (s.c 14) r1=hh:=Nq;rw[hlm];clear hlm;have HHH:=ah Nq;clear Nq;have aki:W4.heap.size<=w6.heap.size:=hO4.size;clear l0 aA aB l1 aH aJ l2 aL aM aP aQ bO bP bM bN l3 aZ bq bZ cu dD dF fI eF eG eX eY fA fB gZ l4 kr kD kF kH je jf lJ lM lW lX lZ;generalize hW:ja4 _ _ _=W5;replace A4:At W5 bx (.cells #[z,i0,.int .i64 (-1),i0,hh,(),()] 88):=hW▸At.set (A4) 4 _;replace A0:At W5 _ _:=hW▸At.off (A0) ak _ _;replace A1:At W5 _ _:=hW▸At.off (A1) ak _ _;replace A2:At W5 _ _:=hW▸At.off (A2) ak _ _;replace A3:At W5 _ _:=hW▸At.off (A3) ak _ _;replace hQ:Out _ _ W5:=hW▸Out.set (hQ) (.inl rfl) 4 _;clear hW;obtain⟨l0,aA,aB⟩:=At.two A0;obtain⟨l1,aH,aJ⟩:=At.two A1;obtain⟨l2,aL,aM,aP,aQ,bO,bP,bM,bN⟩:=At.bx0 A2;obtain⟨l3,aZ,bq,bZ,cu,dD,dF,fI⟩:=At.seven A3;have eF:=A3.thaw 0;have eG:=A3.thaw 1;have eX:=A3.thaw 2;have eY:=A3.thaw 3;have fA:=A3.thaw 4;have fB:=A3.thaw 5;have gZ:=A3.thaw 6;obtain⟨l4,fF,fG,jT,kr,kD,kF,kH⟩:=At.seven A4;have je:=A4.thaw 0;have jf:=A4.thaw 1;have lJ:=A4.thaw 2;have lM:=A4.thaw 3;have lW:=A4.thaw 4;have lX:=A4.thaw 5;have lZ:=A4.thaw 6;go_wp2;refine wp_loop_rounds 3 ?_;rw[rounds_succ]
   go_upto_region 14 with(fail)
   refine yI 14 1 ?_
   (repeat (first|refine jV ?_ | refine jW ?_ (hc:=by intro w2 hS;first|with_reducible exact jI hS (eT _ _ _))|refine jX ?_))
   refine aj.dH ?_;intro w2 hS;clear l0 aA aB l1 aH aJ l2 aL aM aP aQ bO bP bM bN l3 aZ bq bZ cu dD dF fI eF eG eX eY fA fB gZ l4 fF fG jT kr kD kF kH je jf lJ lM lW lX lZ;replace hQ:=hQ.trans (Out.of_below hS);replace A0:=At.keep A0 hS;replace A1:=At.keep A1 hS;replace A2:=At.keep A2 hS;replace A3:=At.keep A3 hS;replace A4:=At.keep A4 hS;clear hS;obtain⟨l0,aA,aB⟩:=At.two A0;obtain⟨l1,aH,aJ⟩:=At.two A1;obtain⟨l2,aL,aM,aP,aQ,bO,bP,bM,bN⟩:=At.bx0 A2;obtain⟨l3,aZ,bq,bZ,cu,dD,dF,fI⟩:=At.seven A3;have eF:=A3.thaw 0;have eG:=A3.thaw 1;have eX:=A3.thaw 2;have eY:=A3.thaw 3;have fA:=A3.thaw 4;have fB:=A3.thaw 5;have gZ:=A3.thaw 6;obtain⟨l4,fF,fG,jT,kr,kD,kF,kH⟩:=At.seven A4;have je:=A4.thaw 0;have jf:=A4.thaw 1;have lJ:=A4.thaw 2;have lM:=A4.thaw 3;have lW:=A4.thaw 4;have lX:=A4.thaw 5;have lZ:=A4.thaw 6;refine vH ?_;intro K hK;go_simp;refine hK _ _ (aj.bF ?_);clear hK K;generalize hW:ja4 _ _ _=W6;clear l0 aA aB l1 aH aJ l2 aL aM aP aQ bO bP bM bN l3 aZ bq bZ cu dD dF fI eF eG eX eY fA fB gZ l4 fF fG jT kr kD kF kH je jf lJ lM lW lX lZ;replace A4:At W6 bx (.cells #[z,i0,.int .i64 (-1),.int .i64 (IntKind.i64.wrap (i0+Fw.wr (Fw.ed s 3+Fw.ed s 1))),hh,(),()] 88):=hW▸At.set (A4) 3 _;replace A0:At W6 _ _:=hW▸At.off (A0) ak _ _;replace A1:At W6 _ _:=hW▸At.off (A1) ak _ _;replace A2:At W6 _ _:=hW▸At.off (A2) ak _ _;replace A3:At W6 _ _:=hW▸At.off (A3) ak _ _;replace hQ:Out _ _ W6:=hW▸Out.set (hQ) (.inl rfl) 3 _;clear hW;obtain⟨l0,aA,aB⟩:=At.two A0;obtain⟨l1,aH,aJ⟩:=At.two A1;obtain⟨l2,aL,aM,aP,aQ,bO,bP,bM,bN⟩:=At.bx0 A2;obtain⟨l3,aZ,bq,bZ,cu,dD,dF,fI⟩:=At.seven A3;have eF:=A3.thaw 0;have eG:=A3.thaw 1;have eX:=A3.thaw 2;have eY:=A3.thaw 3;have fA:=A3.thaw 4;have fB:=A3.thaw 5;have gZ:=A3.thaw 6;obtain⟨l4,fF,fG,jT,kr,kD,kF,kH⟩:=At.seven A4;have je:=A4.thaw 0;have jf:=A4.thaw 1;have lJ:=A4.thaw 2;have lM:=A4.thaw 3;have lW:=A4.thaw 4;have lX:=A4.thaw 5;have lZ:=A4.thaw 6;obtain⟨l2,aL,aM,aP,aQ,bO,bP,bM,bN⟩:=At.bx1 A2;go_wp2;rw[rounds_succ]
   go_upto_region 14 with(fail)
   refine yI 14 1 ?_
   (repeat (first|refine jV ?_ | refine jW ?_ (hc:=by intro w2 hS;first|with_reducible exact jI hS (eT _ _ _))|refine jX ?_))
   refine aj.dH ?_;intro w2 hS;clear l0 aA aB l1 aH aJ l2 aL aM aP aQ bO bP bM bN l3 aZ bq bZ cu dD dF fI eF eG eX eY fA fB gZ l4 fF fG jT kr kD kF kH je jf lJ lM lW lX lZ;replace hQ:=hQ.trans (Out.of_below hS);replace A0:=At.keep A0 hS;replace A1:=At.keep A1 hS;replace A2:=At.keep A2 hS;replace A3:=At.keep A3 hS;replace A4:=At.keep A4 hS;clear hS;obtain⟨l0,aA,aB⟩:=At.two A0;obtain⟨l1,aH,aJ⟩:=At.two A1;obtain⟨l2,aL,aM,aP,aQ,bO,bP,bM,bN⟩:=At.bx1 A2;obtain⟨l3,aZ,bq,bZ,cu,dD,dF,fI⟩:=At.seven A3;have eF:=A3.thaw 0;have eG:=A3.thaw 1;have eX:=A3.thaw 2;have eY:=A3.thaw 3;have fA:=A3.thaw 4;have fB:=A3.thaw 5;have gZ:=A3.thaw 6;obtain⟨l4,fF,fG,jT,kr,kD,kF,kH⟩:=At.seven A4;have je:=A4.thaw 0;have jf:=A4.thaw 1;have lJ:=A4.thaw 2;have lM:=A4.thaw 3;have lW:=A4.thaw 4;have lX:=A4.thaw 5;have lZ:=A4.thaw 6;refine vH ?_;intro K hK;go_simp;refine hK _ _ (aj.bF ?_);clear hK K;generalize hW:ja4 _ _ _=W7;clear l0 aA aB l1 aH aJ l2 aL aM aP aQ bO bP bM bN l3 aZ bq bZ cu dD dF fI eF eG eX eY fA fB gZ l4 fF fG jT kr kD kF kH je jf lJ lM lW lX lZ;replace A4:At W7 bx (.cells #[z,i0,.int .i64 (-1),.int .i64 (IntKind.i64.wrap (i0+Fw.wr (Fw.ed s 3+Fw.ed s 1))),.int .i64 (IntKind.i64.wrap (hh+Fw.wr (Fw.ed s 0+Fw.ed s 2))),(),()] 88):=hW▸At.set (A4) 4 _;replace A0:At W7 _ _:=hW▸At.off (A0) ak _ _;replace A1:At W7 _ _:=hW▸At.off (A1) ak _ _;replace A2:At W7 _ _:=hW▸At.off (A2) ak _ _;replace A3:At W7 _ _:=hW▸At.off (A3) ak _ _;replace hQ:Out _ _ W7:=hW▸Out.set (hQ) (.inl rfl) 4 _;clear hW;obtain⟨l0,aA,aB⟩:=At.two A0;obtain⟨l1,aH,aJ⟩:=At.two A1;obtain⟨l2,aL,aM,aP,aQ,bO,bP,bM,bN⟩:=At.bx1 A2;obtain⟨l3,aZ,bq,bZ,cu,dD,dF,fI⟩:=At.seven A3;have eF:=A3.thaw 0;have eG:=A3.thaw 1;have eX:=A3.thaw 2;have eY:=A3.thaw 3;have fA:=A3.thaw 4;have fB:=A3.thaw 5;have gZ:=A3.thaw 6;obtain⟨l4,fF,fG,jT,kr,kD,kF,kH⟩:=At.seven A4;have je:=A4.thaw 0;have jf:=A4.thaw 1;have lJ:=A4.thaw 2;have lM:=A4.thaw 3;have lW:=A4.thaw 4;have lX:=A4.thaw 5;have lZ:=A4.thaw 6;go_wp2;rw[rounds_succ];go_wp2;have gy:ans=⟨z,i0,-1,Fw.wr (i0+Fw.xJ s 0),Fw.wr (hh+Fw.xJ s 1),0,0⟩:=by
    rw[<-fT.out];unfold Fw.Ug;simp only[hs,HI0.out,HI1.out,HHH.out,if_true]
   subst gy;simp only[wC];generalize hW:ja4 _ _ _=W8;clear l0 aA aB l1 aH aJ l2 aL aM aP aQ bO bP bM bN l4 fF fG jT kr kD kF kH je jf lJ lM lW lX lZ l3 aZ bq bZ cu dD dF fI eF eG eX eY fA fB gZ;replace A3:At W8 (w.heap.size+1+1) (.cells #[z,i0,.int .i64 (-1),.int .i64 (Fw.wr (i0+Fw.xJ s 0)),.int .i64 (Fw.wr (hh+Fw.xJ s 1)),(),()] 88):=hW▸At.set (At.set (At.set (At.set (At.set (At.set (At.set (A3) 0 _) 1 _) 2 _) 3 _) 4 _) 5 _) 6 _;replace A0:At W8 _ _:=hW▸At.off (At.off (At.off (At.off (At.off (At.off (At.off (A0) ak _ _) ak _ _) ak _ _) ak _ _) ak _ _) ak _ _) ak _ _;replace A1:At W8 _ _:=hW▸At.off (At.off (At.off (At.off (At.off (At.off (At.off (A1) ak _ _) ak _ _) ak _ _) ak _ _) ak _ _) ak _ _) ak _ _;replace A2:At W8 _ _:=hW▸At.off (At.off (At.off (At.off (At.off (At.off (At.off (A2) ak _ _) ak _ _) ak _ _) ak _ _) ak _ _) ak _ _) ak _ _;replace A4:At W8 _ _:=hW▸At.off (At.off (At.off (At.off (At.off (At.off (At.off (A4) ak _ _) ak _ _) ak _ _) ak _ _) ak _ _) ak _ _) ak _ _;replace hQ:Out _ _ W8:=hW▸Out.set (Out.set (Out.set (Out.set (Out.set (Out.set (Out.set (hQ) (.inr rfl) 0 _) (.inr rfl) 1 _) (.inr rfl) 2 _) (.inr rfl) 3 _) (.inr rfl) 4 _) (.inr rfl) 5 _) (.inr rfl) 6 _;clear hW;obtain⟨l0,aA,aB⟩:=At.two A0;obtain⟨l1,aH,aJ⟩:=At.two A1;obtain⟨l2,aL,aM,aP,aQ,bO,bP,bM,bN⟩:=At.bx1 A2;obtain⟨l4,fF,fG,jT,kr,kD,kF,kH⟩:=At.seven A4;have je:=A4.thaw 0;have jf:=A4.thaw 1;have lJ:=A4.thaw 2;have lM:=A4.thaw 3;have lW:=A4.thaw 4;have lX:=A4.thaw 5;have lZ:=A4.thaw 6;obtain⟨l3,aZ,bq,bZ,cu,dD,dF,fI⟩:=At.seven A3;have eF:=A3.thaw 0;have eG:=A3.thaw 1;have eX:=A3.thaw 2;have eY:=A3.thaw 3;have fA:=A3.thaw 4;have fB:=A3.thaw 5;have gZ:=A3.thaw 6;refine bodyPost_ret (v:=.agg #[_,_,_,_,_,_,_]) (by simp[results,Tryz.results32,go_sem,aZ,bq,bZ,cu,dD,dF,fI];first|done|exact⟨rfl,rfl,rfl,rfl,rfl,rfl,rfl⟩|rfl) rfl ⟨rfl,⟨P5,hI2 hI5 hQ (λb q => ?_),λb q => ?_⟩,?_⟩
   . rintro(rfl|rfl)
     . rcases DW _ q with q|q
       . exact absurd (hP _ q) ak
       . simp only[World.size_drew]at q;omega
     . rcases DW _ q with q|q
       . exact absurd (hP _ q) ak
       . simp only[World.size_drew]at q;omega
   . rcases DW _ q with q|q
     . exact .inl q
     . exact .inr (by simp only[World.size_drew]at q;exact aK hB.size q)
   . exact Out.trans' ((Out.of_below hB).trans hO4) hQ λb hb q=>by rcases q with rfl|rfl<;>omega
 . have hne:(i1 == -1)=false:=by simpa using hu
   have HNE:=ah hu;clear hu;obtain⟨hh,Nq⟩:=aC i1
   go_upto_region 11 with(fail)
   replace A4:At W4 bx (.cells #[z,i0,i1,i0,hh,(),()] 88):=Nq▸A4;obtain⟨l4,fF,fG,jT,kr,kD,kF,kH⟩:=At.seven A4;obtain⟨l2,aL,aM,aP,aQ,bO,bP,bM,bN⟩:=At.bx0 A2;have g0:=hB.size;go_wp2;refine wp_loop_rounds 3 ?_;rw[rounds_succ]
   go_upto_region 14 with(fail)
   refine yI 14 1 ?_
   (repeat (first|refine jV ?_ | refine jW ?_ (hc:=by intro w2 hS;first|with_reducible exact jI hS (eT _ _ _))|refine jX ?_))
   refine aj.dH ?_;intro w2 hS
   (clear l0 aA aB l1 aH aJ l2 aL aM aP aQ bO bP bM bN l3 aZ bq bZ cu dD dF fI eF eG eX eY fA fB gZ l4 fF fG jT kr kD kF kH je jf lJ lM lW lX lZ);(replace hB:=Below.ay qj aF hS);replace A0:=At.keep sM hS;replace A1:=At.keep qP hS;replace A2:=At.keep qW hS;replace A3:=At.keep zC hS;replace A4:=At.keep Z45 hS;clear hS;obtain⟨l0,aA,aB⟩:=At.two A0;obtain⟨l1,aH,aJ⟩:=At.two A1;obtain⟨l2,aL,aM,aP,aQ,bO,bP,bM,bN⟩:=At.bx0 A2;obtain⟨l3,aZ,bq,bZ,cu,dD,dF,fI⟩:=At.seven A3;have eF:=A3.thaw 0;have eG:=A3.thaw 1;have eX:=A3.thaw 2;have eY:=A3.thaw 3;have fA:=A3.thaw 4;have fB:=A3.thaw 5;have gZ:=A3.thaw 6;obtain⟨l4,fF,fG,jT,kr,kD,kF,kH⟩:=At.seven A4;have je:=A4.thaw 0;have jf:=A4.thaw 1;have lJ:=A4.thaw 2;have lM:=A4.thaw 3;have lW:=A4.thaw 4;have lX:=A4.thaw 5;have lZ:=A4.thaw 6
   refine vH ?_;intro K hK;go_simp;refine hK _ _ (aj.bF ?_);clear hK K;generalize hW:ja4 _ _ _=W6;clear l0 aA aB l1 aH aJ l2 aL aM aP aQ bO bP bM bN l3 aZ bq bZ cu dD dF fI eF eG eX eY fA fB gZ l4 fF fG jT kr kD kF kH je jf lJ lM lW lX lZ;replace A4:At W6 bx (.cells #[z,i0,i1,.int .i64 (IntKind.i64.wrap (i0+Fw.wr (Fw.ed s 3+Fw.ed s 1))),hh,(),()] 88):=hW▸At.set (A4) 3 _;replace A0:At W6 _ _:=hW▸At.off (A0) ak _ _;replace A1:At W6 _ _:=hW▸At.off (A1) ak _ _;replace A2:At W6 _ _:=hW▸At.off (A2) ak _ _;replace A3:At W6 _ _:=hW▸At.off (A3) ak _ _;replace hB:Below w w W6:=hW▸Below.setCell (hB) jB _;clear hW;obtain⟨l0,aA,aB⟩:=At.two A0;obtain⟨l1,aH,aJ⟩:=At.two A1;obtain⟨l2,aL,aM,aP,aQ,bO,bP,bM,bN⟩:=At.bx0 A2;obtain⟨l3,aZ,bq,bZ,cu,dD,dF,fI⟩:=At.seven A3;have eF:=A3.thaw 0;have eG:=A3.thaw 1;have eX:=A3.thaw 2;have eY:=A3.thaw 3;have fA:=A3.thaw 4;have fB:=A3.thaw 5;have gZ:=A3.thaw 6;obtain⟨l4,fF,fG,jT,kr,kD,kF,kH⟩:=At.seven A4;have je:=A4.thaw 0;have jf:=A4.thaw 1;have lJ:=A4.thaw 2;have lM:=A4.thaw 3;have lW:=A4.thaw 4;have lX:=A4.thaw 5;have lZ:=A4.thaw 6;obtain⟨l2,aL,aM,aP,aQ,bO,bP,bM,bN⟩:=At.bx1 A2;go_wp2;rw[rounds_succ]
   go_upto_region 14 with(fail)
   refine yI 14 1 ?_
   (repeat (first|refine jV ?_ | refine jW ?_ (hc:=by intro w2 hS;first|with_reducible exact jI hS (eT _ _ _))|refine jX ?_))
   refine aj.dH ?_;intro w2 hS
   (clear l0 aA aB l1 aH aJ l2 aL aM aP aQ bO bP bM bN l3 aZ bq bZ cu dD dF fI eF eG eX eY fA fB gZ l4 fF fG jT kr kD kF kH je jf lJ lM lW lX lZ);(replace hB:=Below.ay qj aF hS);replace A0:=At.keep sM hS;replace A1:=At.keep qP hS;replace A2:=At.keep qW hS;replace A3:=At.keep zC hS;replace A4:=At.keep Z45 hS;clear hS;obtain⟨l0,aA,aB⟩:=At.two A0;obtain⟨l1,aH,aJ⟩:=At.two A1;obtain⟨l2,aL,aM,aP,aQ,bO,bP,bM,bN⟩:=At.bx1 A2;obtain⟨l3,aZ,bq,bZ,cu,dD,dF,fI⟩:=At.seven A3;have eF:=A3.thaw 0;have eG:=A3.thaw 1;have eX:=A3.thaw 2;have eY:=A3.thaw 3;have fA:=A3.thaw 4;have fB:=A3.thaw 5;have gZ:=A3.thaw 6;obtain⟨l4,fF,fG,jT,kr,kD,kF,kH⟩:=At.seven A4;have je:=A4.thaw 0;have jf:=A4.thaw 1;have lJ:=A4.thaw 2;have lM:=A4.thaw 3;have lW:=A4.thaw 4;have lX:=A4.thaw 5;have lZ:=A4.thaw 6
   refine vH ?_;intro K hK;go_simp;refine hK _ _ (aj.bF ?_);clear hK K;generalize hW:ja4 _ _ _=W7;clear l0 aA aB l1 aH aJ l2 aL aM aP aQ bO bP bM bN l3 aZ bq bZ cu dD dF fI eF eG eX eY fA fB gZ l4 fF fG jT kr kD kF kH je jf lJ lM lW lX lZ;replace A4:At W7 bx (.cells #[z,i0,i1,.int .i64 (IntKind.i64.wrap (i0+Fw.wr (Fw.ed s 3+Fw.ed s 1))),.int .i64 (IntKind.i64.wrap (hh+Fw.wr (Fw.ed s 0+Fw.ed s 2))),(),()] 88):=hW▸At.set (A4) 4 _;replace A0:At W7 _ _:=hW▸At.off (A0) ak _ _;replace A1:At W7 _ _:=hW▸At.off (A1) ak _ _;replace A2:At W7 _ _:=hW▸At.off (A2) ak _ _;replace A3:At W7 _ _:=hW▸At.off (A3) ak _ _;replace hB:Below w w W7:=hW▸Below.setCell (hB) jB _;clear hW;obtain⟨l0,aA,aB⟩:=At.two A0;obtain⟨l1,aH,aJ⟩:=At.two A1;obtain⟨l2,aL,aM,aP,aQ,bO,bP,bM,bN⟩:=At.bx1 A2;obtain⟨l3,aZ,bq,bZ,cu,dD,dF,fI⟩:=At.seven A3;have eF:=A3.thaw 0;have eG:=A3.thaw 1;have eX:=A3.thaw 2;have eY:=A3.thaw 3;have fA:=A3.thaw 4;have fB:=A3.thaw 5;have gZ:=A3.thaw 6;obtain⟨l4,fF,fG,jT,kr,kD,kF,kH⟩:=At.seven A4;have je:=A4.thaw 0;have jf:=A4.thaw 1;have lJ:=A4.thaw 2;have lM:=A4.thaw 3;have lW:=A4.thaw 4;have lX:=A4.thaw 5;have lZ:=A4.thaw 6;go_wp2;rw[rounds_succ];go_wp2;have gy:ans=⟨z,i0,hh,Fw.wr (i0+Fw.xJ s 0),Fw.wr (hh+Fw.xJ s 1),0,0⟩:=by
    rw[<-fT.out];unfold Fw.Ug;simp only[hs,HI0.out,HI1.out,Nq,if_neg (show¬ hh = -1 from Nq▸HNE.out)]
   subst gy;simp only[wC];generalize hW:ja4 _ _ _=W8;clear l0 aA aB l1 aH aJ l2 aL aM aP aQ bO bP bM bN l4 fF fG jT kr kD kF kH je jf lJ lM lW lX lZ l3 aZ bq bZ cu dD dF fI eF eG eX eY fA fB gZ;replace A3:At W8 (w.heap.size+1+1) (.cells #[z,i0,hh,.int .i64 (Fw.wr (i0+Fw.xJ s 0)),.int .i64 (Fw.wr (hh+Fw.xJ s 1)),(),()] 88):=hW▸At.set (At.set (At.set (At.set (At.set (At.set (At.set (A3) 0 _) 1 _) 2 _) 3 _) 4 _) 5 _) 6 _;replace A0:At W8 _ _:=hW▸At.off (At.off (At.off (At.off (At.off (At.off (At.off (A0) ak _ _) ak _ _) ak _ _) ak _ _) ak _ _) ak _ _) ak _ _;replace A1:At W8 _ _:=hW▸At.off (At.off (At.off (At.off (At.off (At.off (At.off (A1) ak _ _) ak _ _) ak _ _) ak _ _) ak _ _) ak _ _) ak _ _;replace A2:At W8 _ _:=hW▸At.off (At.off (At.off (At.off (At.off (At.off (At.off (A2) ak _ _) ak _ _) ak _ _) ak _ _) ak _ _) ak _ _) ak _ _;replace A4:At W8 _ _:=hW▸At.off (At.off (At.off (At.off (At.off (At.off (At.off (A4) ak _ _) ak _ _) ak _ _) ak _ _) ak _ _) ak _ _) ak _ _;replace hB:Below w w W8:=hW▸Below.setCell (Below.setCell (Below.setCell (Below.setCell (Below.setCell (Below.setCell (Below.setCell (hB) jB _) jB _) jB _) jB _) jB _) jB _) jB _;clear hW;obtain⟨l0,aA,aB⟩:=At.two A0;obtain⟨l1,aH,aJ⟩:=At.two A1;obtain⟨l2,aL,aM,aP,aQ,bO,bP,bM,bN⟩:=At.bx1 A2;obtain⟨l4,fF,fG,jT,kr,kD,kF,kH⟩:=At.seven A4;have je:=A4.thaw 0;have jf:=A4.thaw 1;have lJ:=A4.thaw 2;have lM:=A4.thaw 3;have lW:=A4.thaw 4;have lX:=A4.thaw 5;have lZ:=A4.thaw 6;obtain⟨l3,aZ,bq,bZ,cu,dD,dF,fI⟩:=At.seven A3;have eF:=A3.thaw 0;have eG:=A3.thaw 1;have eX:=A3.thaw 2;have eY:=A3.thaw 3;have fA:=A3.thaw 4;have fB:=A3.thaw 5;have gZ:=A3.thaw 6;refine bodyPost_ret (v:=.agg #[.int .i64 _,.int .i64 _,.int .i64 _,.int .i64 _,.int .i64 _,.int .i64 _,.int .i64 _]) (by simp[results,Tryz.results32,go_sem,aZ,bq,bZ,cu,dD,dF,fI];first|done|exact⟨rfl,rfl,rfl,rfl,rfl,rfl,rfl⟩|rfl) rfl ⟨rfl,⟨P,h12 (hI (M:=λ_=>False) hw (Out.of_below hB) λ_ _ q=>q),λb q => .inl q⟩,Out.of_below hB⟩
end
theorem abD(hi:∀W,(isAgg T).run ja0 W=.ok true W)(hz:∀W,(sizeOf T).run ja0 W=.ok n W){W:World}{vs:Array Value}(hs:vs.size=n)(h:∀j,j<n->W.cell? ⟨R,q+j,none⟩=vs[j]?) :
  (Instr.loadAt T (.pointer (some ⟨R,q,none⟩))).run ja0 W=.ok (.agg vs) W:=by
 have hl:=run_loadCells_list (P:=ja0) W ⟨R,q,none⟩ vs.toList (λj v hj=>by
  have hj':j<n:=by have:=(List.getElem?_eq_some_iff.1 hj).1;simpa[hs]using this
  rw[addr_add,h j hj'];rw[Array.getElem?_toList]at hj
  exact hj)
 rw[Array.length_toList,hs]at hl;simp only[Instr.loadAt,Instr.sureAddr,loadVar,Sem.run_bind,Sem.run_pure,hi W,hz W,hl,Result.andThen_ok,if_true]
def splice(cs:Array Value)(q:Nat)(vs:Array Value):Array Value:=(cs.toList.take q++vs.toList++cs.toList.drop (q+vs.size)).toArray
theorem fM(h:vs.size=cs.size):splice cs 0 vs=vs:=by
 unfold splice;rw[List.take_zero,List.nil_append,Nat.zero_add,h,List.drop_of_length_le bI,List.append_nil]
theorem jA{q:Nat}(h:q+vs.size<=cs.size):(splice cs q vs).size=cs.size:=by
 simp[splice];omega
theorem om{q j:Nat}(h:q+vs.size<=cs.size)(hj:j<vs.size):(splice cs q vs)[q+j]? = vs[j]? := by
 unfold splice;rw[ja',List.append_assoc,List.getElem?_append_right jB,List.getElem?_append_left jB];have e:q+j-(cs.toList.take q).length=j:=by simp;omega
 rw[e,Array.getElem?_toList]
theorem jd{q k:Nat}(h:q+vs.size<=cs.size)(hk:k<q\/q+vs.size<=k):(splice cs q vs)[k]? = cs[k]? := by
 unfold splice;rw[ja'];rcases hk with hk|hk
 . rw[List.append_assoc,List.getElem?_append_left jB,List.getElem?_take,if_pos hk,Array.getElem?_toList]
 . rw[List.getElem?_append_right jB,List.getElem?_drop,Array.getElem?_toList]
   congr 1;simp;omega
theorem Yc(hz:∀W,(sizeOf T).run ja0 W=.ok n W){W:World}(hA:At W R (.cells cs T'))(hs:vs.size=n)(hf:q+n<=cs.size)(h1:∀v∈vs.toList,v.oneCell'=true) :
  (Instr.storeAt T (.pointer (some ⟨R,q,none⟩)) (.agg vs)).run ja0 W=.ok () (W.setRow R (splice cs q vs)):=by
 have hl:=run_storeCells_at (P:=ja0) R q T' vs.toList 0 cs W hA jB h1;simp only[Nat.add_zero,Array.length_toList]at hl;have hv:(storeVar T ⟨R,q,none⟩ (.agg vs)).run ja0 W=.ok () (W.setRow R (splice cs q vs)):=by
  simp[storeVar,hz W,Value.cells,hs];simpa[splice,hs]using hl
 simp only[Instr.storeAt,Instr.sureAddr,Sem.run_bind,Sem.run_pure,Result.andThen_ok,hv]
section
variable {ops:Array Oper} {rest:List Oper} {o:Oper} {a:Act} {w w':World} {Q:Exit->Act->World->Prop}
theorem iH(hi:∀W,(isAgg T).run ja0 W=.ok true W)(hz:∀W,(sizeOf T).run ja0 W=.ok n W)(p:Operand)(ho:o.op=.load T p)(hp:a.eval p=.pointer (some ⟨R,q,none⟩)){vs:Array Value}(hs:vs.size=n)(h:∀j,j<n->w.cell? ⟨R,q+j,none⟩=vs[j]?):(execOp a.eval o).run ja0 w=.ok (.value (.agg vs)) w:=by
 unfold execOp;simp only[ho,hp,Sem.run_bind,abD hi hz hs h,Result.andThen_ok,Sem.run_pure]
theorem bH(hz:∀W,(sizeOf T).run ja0 W=.ok n W)(p x:Operand)(ho:o.op=.store T p x)(hp:a.eval p=.pointer (some ⟨R,q,none⟩))(hx:a.eval x=.agg vs)(hA:At w R (.cells cs T'))(hs:vs.size=n)(hf:q+n<=cs.size)(h1:∀v∈vs.toList,v.oneCell'=true):(execOp a.eval o).run ja0 w=.ok .skip (w.setRow R (splice cs q vs)):=by
 unfold execOp;simp only[ho,hp,hx,Sem.run_bind,Yc hz hA hs hf h1,Result.andThen_ok,Sem.run_pure]
theorem fQ(hi:∀W,(isAgg T).run ja0 W=.ok true W)(hz:∀W,(sizeOf T).run ja0 W=.ok n W)(hw:Region.wanted o (yielded ops a.tmps)=true)(p:Operand)(ho:o.op=.load T p)(hp:a.eval p=.pointer (some ⟨R,q,none⟩)){vs:Array Value}(hs:vs.size=n)(h:∀j,j<n->w.cell? ⟨R,q+j,none⟩=vs[j]?)
 (hk:wpList ja0 ops Q rest (a.put o.dst (.agg vs)) w):wpList ja0 ops Q (o::rest) a w:=fq hw (iH hi hz p ho hp hs h) hk
theorem iq(hz:∀W,(sizeOf T).run ja0 W=.ok n W)(hw:Region.wanted o (yielded ops a.tmps)=true)(p x:Operand)(ho:o.op=.store T p x)(hp:a.eval p=.pointer (some ⟨R,q,none⟩))(hx:a.eval x=.agg vs)(hA:At w R (.cells cs T'))(hs:vs.size=n)(hf:q+n<=cs.size)(h1:∀v∈vs.toList,v.oneCell'=true)
 (hk:wpList ja0 ops Q rest (a.put o.dst undef) (w.setRow R (splice cs q vs))):wpList ja0 ops Q (o::rest) a w:=oQ hw (bH hz p x ho hp hx hA hs hf h1) hk
end
theorem Yd(W:World):(isAgg 216).run ja0 W=.ok true W:=by kernel_rfl
theorem Qt(W:World):(sizeOf 216).run ja0 W=.ok 17 W:=by kernel_rfl
theorem BF(W:World):(isAgg 88).run ja0 W=.ok true W:=by kernel_rfl
theorem oC(W:World):(sizeOf 88).run ja0 W=.ok 7 W:=by kernel_rfl
theorem Ye(W:World):(isAgg 214).run ja0 W=.ok true W:=by kernel_rfl
theorem BG(W:World):(sizeOf 214).run ja0 W=.ok 5 W:=by kernel_rfl
theorem adR(W:World):(sizeOf 81).run ja0 W=.ok 2 W:=by kernel_rfl
theorem tN(x:Im):(nW x).size=17:=rfl
theorem dW(x:Fw.Ld):(fH x).size=7:=rfl
theorem iU(x:Fe.It):(x8 x).size=5:=rfl
theorem pY(x:Fw.Ld):∀v∈(fH x).toList,v.oneCell'=true:=by simp[fH,Value.oneCell']
theorem DX(x:Fe.It):∀v∈(x8 x).toList,v.oneCell'=true:=by simp[x8,Value.oneCell']
def gV(cs:Array Value)(q:Nat)(xs:List Im):Prop:=q+xs.length*17<=cs.size/\∀i (h:i<xs.length) j,j<17->cs[q+i*17+j]? = (nW xs[i])[j]?
def kK(q m:Nat)(cs cs':Array Value):Prop:=cs'.size=cs.size/\∀k,k<q\/q+m*17<=k->cs'[k]? = cs[k]?
theorem kK.refl(q m:Nat)(cs:Array Value):kK q m cs cs:=⟨rfl,λ_ _=>rfl⟩
theorem kK.trans{q m:Nat}{cs cs' cs'':Array Value}(h:kK q m cs cs')(k:kK q m cs' cs''):kK q m cs cs'':=⟨k.1.trans h.1,λi hi=>(k.2 i hi).trans (h.2 i hi)⟩
theorem gV.put{q i o:Nat}(h:gV cs q xs)(hi:i<xs.length)(y:Im)(ho:o+vs.size<=17)(h1:∀j,j<vs.size->(nW y)[o+j]? = vs[j]?)(h2:∀j,j<17->(j<o\/o+vs.size<=j)->(nW y)[j]? = (nW xs[i])[j]?) :
  gV (splice cs (q+i*17+o) vs) q (xs.set i y)/\kK q xs.length cs (splice cs (q+i*17+o) vs):=by
 have hb:i*17+17<=xs.length*17:=by omega
 have hf:q+i*17+o+vs.size<=cs.size:=by have:=h.1;omega
 refine⟨⟨by rw[jA hf,List.length_set];exact h.1,λk hk j hj => ?_⟩,jA hf,λk hk=>jd hf ak⟩;have hk2:k<xs.length:=by simpa using hk
 by_cases e:k=i
 . subst e
   rw[List.getElem_set_self];by_cases hin:o<=j/\j<o+vs.size
   . obtain⟨d,rfl⟩:∃d,j=o+d:=⟨j-o,by omega⟩
     rw[show q+k*17+(o+d)=q+k*17+o+d by omega,om hf ak,h1 d ak]
   . rw[jd hf ak,h2 j hj ak]
     exact h.2 k hk2 j hj
 . rw[List.getElem_set_ne (λq=>e q.symm),jd hf ak]
   exact h.2 k hk2 j hj
theorem gV.SC{cs:Array Value}{q i:Nat}(h:gV cs q xs)(hi:i<xs.length)(l:Fw.Ld):gV (splice cs (q+i*17+5) (fH l)) q (xs.set i { xs[i]with ld:=l })/\kK q xs.length cs (splice cs (q+i*17+5) (fH l)):=by
 refine h.put (o:=5) (vs:=fH l) hi _ (by simp[dW]) (λj hj => ?_) (λj hj hk => ?_)
 . rw[dW]at hj
   exact Z29
 . rw[dW]at hk
   rcases(by omega:j=0\/j=1\/j=2\/j=3\/j=4\/j=12\/j=13\/j=14\/j=15\/j=16)with rfl|rfl|rfl|rfl|rfl|rfl|rfl|rfl|rfl|rfl<;>rfl
theorem gV.ac1{cs:Array Value}{q i:Nat}(h:gV cs q xs)(hi:i<xs.length)(t:Fe.It):gV (splice cs (q+i*17+0) (x8 t)) q (xs.set i { xs[i]with it:=t })/\kK q xs.length cs (splice cs (q+i*17+0) (x8 t)):=by
 refine h.put (o:=0) (vs:=x8 t) hi _ (by simp[iU]) (λj hj => ?_) (λj hj hk => ?_)
 . rw[iU]at hj
   exact Z2v
 . rw[iU]at hk
   rcases(by omega:j=5\/j=6\/j=7\/j=8\/j=9\/j=10\/j=11\/j=12\/j=13\/j=14\/j=15\/j=16)with rfl|rfl|rfl|rfl|rfl|rfl|rfl|rfl|rfl|rfl|rfl|rfl<;>rfl
theorem gV.putAt{cs:Array Value}{q i:Nat}(h:gV cs q xs)(hi:i<xs.length)(a b:Int):gV (splice cs (q+i*17+10) #[a,b]) q (xs.set i { xs[i]with ld:={ xs[i].ld with a0:=a,a1:=b } })/\kK q xs.length cs (splice cs (q+i*17+10) #[a,b]):=by
 refine h.put (o:=10) (vs:=#[a,b]) hi _ bI (λj hj => ?_) (λj hj hk => ?_)
 . have hj:j<2:=hj
   rcases(by omega:j=0\/j=1)with rfl|rfl<;>rfl
 . have hk:j<10\/12<=j:=hk
   rcases(by omega:j=0\/j=1\/j=2\/j=3\/j=4\/j=5\/j=6\/j=7\/j=8\/j=9\/j=12\/j=13\/j=14\/j=15\/j=16)with rfl|rfl|rfl|rfl|rfl|rfl|rfl|rfl|rfl|rfl|rfl|rfl|rfl|rfl|rfl<;>rfl
def sD(W:World)(R q:Nat)(x:Im):Prop:=∀j,j<17->W.cell? ⟨R,q+j,none⟩=(nW x)[j]?
theorem sD.keep{B R q:Nat}(h:sD W R q x)(hb:Below B W W')(hl:R<B):sD W' R q x:=λj hj=>(hb.cell (p:=⟨R,q+j,none⟩) hl).trans (h j hj)
theorem sD.out(h:sD W R q x)(k:Out M W W')(hl:R<W.heap.size)(hm:¬ M R):sD W' R q x:=λj hj=>(Out.cell k (q+j) hl hm).trans (h j hj)
theorem gV.at_{W:World}{R q i:Nat}{cs:Array Value}(h:gV cs q xs)(hA:At W R (.cells cs 216))(hi:i<xs.length):sD W R (q+i*17) xs[i]:=λj hj=>by rw[hA.cell];exact h.2 i hi j hj
def Ku(W:World)(A:Option Addr)(xs:List Im):Prop:=xs≠[]->∃R q,A=some ⟨R,q,none⟩/\R<W.heap.size/\∀i (h:i<xs.length),sD W R (q+i*17) xs[i]
theorem Ku.after(h:Ku W A xs)(hb:Below W W W'):Ku W' A xs:=λhn=>by
 obtain⟨R,q,e,hl,hc⟩:=h hn;exact⟨R,q,e,bA hl hb.size,λi hi=>(hc i hi).keep hb hl⟩
theorem Ku.out(h:Ku W A xs)(k:Out M W W')(hm:∀R q,A=some ⟨R,q,none⟩->¬ M R):Ku W' A xs:=λhn=>by
 obtain⟨R,q,e,hl,hc⟩:=h hn;exact⟨R,q,e,bA hl k.size,λi hi=>(hc i hi).out k hl (hm R q e)⟩
theorem Ku.at_{W:World}(h:Ku W A xs){i:Nat}(hi:i<xs.length):∃R q,A=some ⟨R,q,none⟩/\R<W.heap.size/\sD W R (q+i*17) xs[i]:=by
 obtain⟨R,q,e,hl,hc⟩:=h (λe=>by rw[e]at hi;simp at hi);exact⟨R,q,e,hl,hc i hi⟩
theorem gV.ims{W:World}{cs:Array Value}(h:gV cs q xs)(hA:At W R (.cells cs 216)):Ku W (some ⟨R,q,none⟩) xs:=λ_=>⟨R,q,rfl,hA.lt,λi hi=>h.at_ hA hi⟩
theorem ni{ops:Array Oper}{rest:List Oper}{o:Oper}{a:Act}{w w':World}{Q:Exit->Act->World->Prop}(hw:Region.wanted o (yielded ops a.tmps)=true)(l c:Operand)(t:TypeId)(ho:o.op=.makeSlice t l c){v:Value}(hrun:(Instr.makeSlice t (a.eval l) (a.eval c)).run ja0 w=.ok v w')
  (h:wpList ja0 ops Q rest (a.put o.dst v) w'):wpList ja0 ops Q (o::rest) a w :=
 fq hw (by unfold execOp;simp only[ho,Sem.run_bind,hrun,Result.andThen_ok,Sem.run_pure]) h
theorem adS:(Tryz.prog.info? 214).map (λi=>(i.zero,i.size,i.bytes))=some (some (.agg #[(),(),(),(),()]),5,40):=by kernel_rfl
theorem adT:(Tryz.prog.info? 216).map (λi=>(i.zero,i.size,i.bytes))=some (some (.agg #[(),(),(),(),(),(),(),(),(),(),(),(),.pointer none,(),(),(),()]),17,136):=by kernel_rfl
theorem Qu:(Tryz.prog.info? 88).map (λi=>(i.zero,i.size,i.bytes))=some (some (.agg #[(),(),(),(),(),(),()]),7,56):=by kernel_rfl
theorem SE(w:World)(n:Nat)(hn:n<=100000):∃cs:Array Value,(Instr.makeSlice 292 (.int .i64 (n:Int)) (.int .i64 (n:Int))).run ja0 w=.ok (.slice w n n) (w.alloc (.cells cs 214))/\cs.size=n*5:=by
 obtain⟨i0,hi0,hz0,hz1,hz2⟩:=info_parts adS;have hrun:=run_make (P:=ja0) w 292 214 i0 _ Tryz.underlying292 hi0 hz0 .i64 .i64 n n ak (Int.le_refl _) TQ ak;exact Z3e
theorem abE(w:World)(n:Nat)(hn:n<=100000):∃cs:Array Value,(Instr.makeSlice 211 (.int .i64 (n:Int)) (.int .i64 (n:Int))).run ja0 w=.ok (.slice w n n) (w.alloc (.cells cs 216))/\cs.size=n*17:=by
 obtain⟨i0,hi0,hz0,hz1,hz2⟩:=info_parts adT;have hrun:=run_make (P:=ja0) w 211 216 i0 _ Tryz.underlying211 hi0 hz0 .i64 .i64 n n ak (Int.le_refl _) TQ ak;exact Z3e
theorem abF(w:World)(n:Nat)(hn:n<=100000):∃cs:Array Value,(Instr.makeSlice 145 (.int .i64 (n:Int)) (.int .i64 (n:Int))).run ja0 w=.ok (.slice w n n) (w.alloc (.cells cs 88))/\cs.size=n*7:=by
 obtain⟨i0,hi0,hz0,hz1,hz2⟩:=info_parts Qu;have hrun:=run_make (P:=ja0) w 145 88 i0 _ Tryz.underlying145 hi0 hz0 .i64 .i64 n n ak (Int.le_refl _) TQ ak;exact Z3e
def imz:Array Value:=#[(),(),(),(),(),(),(),(),(),(),(),(),.pointer none,(),(),(),()]
theorem Yf(W:World):(Instr.alloc 216 true (.tuple #[])).run ja0 W=.ok (.pointer W) (W.alloc (.cells imz 216)):=by kernel_rfl
section
variable {ops:Array Oper} {rest:List Oper} {o:Oper} {a:Act} {w w':World} {Q:Exit->Act->World->Prop}
theorem dJ(hw:Region.wanted o (yielded ops a.tmps)=true)(ho:o.op=.alloc 216)(h:wpList ja0 ops Q rest (a.put o.dst (.pointer w)) (w.alloc (.cells imz 216))):wpList ja0 ops Q (o::rest) a w :=
 fq hw (by unfold execOp;simp only[ho,Sem.run_bind,Yf,Result.andThen_ok,Sem.run_pure]) h
theorem U4{W:World}(h:At W b (.cells imz 216)):(Instr.storeAt 216 (.pointer b) (.agg (nW x))).run ja0 W=.ok () (W.setRow b (nW x)):=by
 have hsz:(Tryz.prog.info? 216).map (·.size)=some (nW x).size:=by rw[tN];exact Np
 simp only[Instr.storeAt,Instr.sureAddr,Sem.run_bind,Sem.run_pure,Result.andThen_ok,run_storeVar_row W b 216 216 imz (nW x) h hsz rfl (by simp[nW,Value.oneCell'])]
theorem dI(hw:Region.wanted o (yielded ops a.tmps)=true)(p y:Operand)(ho:o.op=.store 216 p y)(hp:a.eval p=.pointer b)(hy:a.eval y=.agg (nW x))(hs:At w b (.cells imz 216))
  (h:wpList ja0 ops Q rest (a.put o.dst undef) (w.setRow b (nW x))):wpList ja0 ops Q (o::rest) a w :=
 oQ hw (by unfold execOp;simp only[ho,hp,hy,Sem.run_bind,U4 hs,Result.andThen_ok,Sem.run_pure]) h
theorem dQ(hw:Region.wanted o (yielded ops a.tmps)=true)(p:Operand)(ho:o.op=.load 216 p)(hp:a.eval p=.pointer (some ⟨R,q,none⟩))(hs:sD w R q x)(h:wpList ja0 ops Q rest (a.put o.dst (.agg (nW x))) w):wpList ja0 ops Q (o::rest) a w :=
 fQ Yd Qt hw p ho hp (tN x) hs h
theorem eZ(hw:Region.wanted o (yielded ops a.tmps)=true)(p:Operand)(ho:o.op=.load 216 p)(hp:a.eval p=.pointer b)(hs:At w b (.cells (nW x) 216))(h:wpList ja0 ops Q rest (a.put o.dst (.agg (nW x))) w):wpList ja0 ops Q (o::rest) a w :=
 fq hw (wY p ho hp hs) h
end
theorem aU{N:Nat}{w a:World}(h:Below N w a)(hb:N<=b)(cs:Array Value):Below N w (a.setRow b cs) :=
 ⟨h.os,h.tape,h.output,by simpa[jb8]using h.size,λc hc=>by
  have:=h.block c hc;unfold jb8;simp only[Array.getElem?_modify];rw[if_neg ak]
  exact this⟩
theorem oZ(y:Int)(w:World):Calls ja0 139 #[y] w λe w'=>e=.returned (.func (.func 181) #[] #[w])/\w'=w.alloc (.cells #[y] 3):=by
 have Kc:=@tC;go_enter Tryz.func139,Tryz.ntmps139
 go_wp2;exact Zy
theorem Nr(y:Int)(w:World):Calls ja0 135 #[y] w λe w'=>e=.returned (.func (.func 174) #[] #[w])/\w'=w.alloc (.cells #[y] 3):=by
 have Kc:=@tC;go_enter Tryz.func135,Tryz.ntmps135
 go_wp2;exact Zy
theorem Yg(caps:Array Value)(v:Nat->Int)(A:Option Addr)(xs:List Im)(c:Nat)(w:World)(hx:Ku w A xs)(hl:xs.length<=10000)
  (hcall:∀i (h:i<xs.length) X,Below w w X->Calls ja0 181 (#[.agg (nW xs[i])]++caps) X λe X'=>e=.returned (.int .i64 (v i))/\Below X X X') :
  Calls ja0 134 #[.slice A xs.length c,.func (.func 181) #[] caps] w λe w'=>(∃b,e=.returned (.slice (some ⟨b,0,none⟩) xs.length xs.length)/\w.heap.size<=b/\At w' b (.cells (bG v xs.length xs.length) 3))/\Below w w w':=by
 obtain⟨i0,hi0,hz0,hz1,hz2⟩:=info_parts intZero;obtain⟨m,hm⟩:=aC xs.length;rw[hm]at hl ⊢;have HM:=ah hm;have HX:=ah hx;have HC:=ah hcall;clear hx hcall hm;go_enter Tryz.func134,Tryz.ntmps134
 go_wp2_with (at_make;refine wpList_make_row _ rfl _ _ 37 rfl 3 i0 (.int .i64 0) Tryz.underlying37 hi0 hz0 hz1 rfl .i64 .i64 m rfl rfl TQ ak ?_)
 obtain⟨b,hsz⟩:=aC w.heap.size;have hB1:Below w w (w.alloc (.cells (bG v m 0) 3)):=aD aG _;have A1:At (w.alloc (.cells (bG v m 0) 3)) b (.cells (bG v m 0) 3):=At.new' _ hsz.symm;rw[hsz,j3 v];generalize w.alloc (.cells (bG v m 0) 3)=W2 at *
 go_loopw [6,13] (λ_ vi wr=>∃k:Nat,k<=m/\vi=.int .i64 k/\At wr b (.cells (bG v m k) 3)/\Below w w wr) (λ_ vi _=>m-(intOf vi).toNat)
 case atStart=>exact⟨0,by omega,rfl,A1,hB1⟩
 case round =>
  clear A1 hB1;obtain⟨k,hk,rfl,A1,hB⟩:=hrel;by_cases hlt:k<m
  . have hltz:(k:Int)<(m:Int):=by omega
    have hkx:k<xs.length:=by rw[HM.out];exact hlt
    obtain⟨R,q,rfl,lR,hI⟩:=(HX.out.after hB).at_ hkx;have key:=HC.out k hkx;generalize xs[k]=x at *
    go_upto_region 5 with(first|(refine dQ bB _ rfl rfl (by assumption) ?_)|(refine eZ bB _ rfl rfl (by assumption) ?_)|(refine dJ bB rfl ?_)|(refine dI bB _ _ rfl rfl rfl qN ?_))
    obtain⟨nb,hnb⟩:=aC wr.heap.size;generalize hW:jb8 _ _ _=W3;have A2:At W3 nb (.cells (nW x) 216):=hW▸hnb▸At.setRow (At.new _ _) _;have A3:At W3 b (.cells (bG v m k) 3):=hW▸At.iP (A1.alloc _) (by have:=A1.lt;omega) _;have hB3:Below w w W3:=hW▸aU (aD hB _) hB.size _;rw[hnb];clear hW A1 hI lR hB;have hk3:=key W3 hB3;have HA3:=ah A3
    go_upto_region 6 with(first|(go_at_call 181;(with_reducible refine hk3.mono ?_);rintro e w4 ⟨rfl,hb4⟩;have A4:=HA3.out.keep hb4;have RG:=A4.lt;have zb4:=A4.thaw k;have cb4:=A4.cell k;rw[dO _ hlt]at cb4)|(refine dQ bB _ rfl rfl (by assumption) ?_)|(refine eZ bB _ rfl rfl (by assumption) ?_)|(refine dJ bB rfl ?_)|(refine dI bB _ _ rfl rfl rfl qN ?_))
    exact Zs
  . exact Z33
theorem adU(caps:Array Value)(v:Nat->Int)(A:Option Addr)(xs:List Im)(c:Nat)(w:World)(hx:Ku w A xs)(hl:xs.length<=10000)
  (hcall:∀i (h:i<xs.length) X,Below w w X->Calls ja0 174 (#[.agg (nW xs[i])]++caps) X λe X'=>e=.returned (.int .i64 (v i))/\Below X X X') :
  Calls ja0 134 #[.slice A xs.length c,.func (.func 174) #[] caps] w λe w'=>(∃b,e=.returned (.slice (some ⟨b,0,none⟩) xs.length xs.length)/\w.heap.size<=b/\At w' b (.cells (bG v xs.length xs.length) 3))/\Below w w w':=by
 obtain⟨i0,hi0,hz0,hz1,hz2⟩:=info_parts intZero;obtain⟨m,hm⟩:=aC xs.length;rw[hm]at hl ⊢;have HM:=ah hm;have HX:=ah hx;have HC:=ah hcall;clear hx hcall hm;go_enter Tryz.func134,Tryz.ntmps134
 go_wp2_with (at_make;refine wpList_make_row _ rfl _ _ 37 rfl 3 i0 (.int .i64 0) Tryz.underlying37 hi0 hz0 hz1 rfl .i64 .i64 m rfl rfl TQ ak ?_)
 obtain⟨b,hsz⟩:=aC w.heap.size;have hB1:Below w w (w.alloc (.cells (bG v m 0) 3)):=aD aG _;have A1:At (w.alloc (.cells (bG v m 0) 3)) b (.cells (bG v m 0) 3):=At.new' _ hsz.symm;rw[hsz,j3 v];generalize w.alloc (.cells (bG v m 0) 3)=W2 at *
 go_loopw [6,13] (λ_ vi wr=>∃k:Nat,k<=m/\vi=.int .i64 k/\At wr b (.cells (bG v m k) 3)/\Below w w wr) (λ_ vi _=>m-(intOf vi).toNat)
 case atStart=>exact⟨0,by omega,rfl,A1,hB1⟩
 case round =>
  clear A1 hB1;obtain⟨k,hk,rfl,A1,hB⟩:=hrel;by_cases hlt:k<m
  . have hltz:(k:Int)<(m:Int):=by omega
    have hkx:k<xs.length:=by rw[HM.out];exact hlt
    obtain⟨R,q,rfl,lR,hI⟩:=(HX.out.after hB).at_ hkx;have key:=HC.out k hkx;generalize xs[k]=x at *
    go_upto_region 5 with(first|(refine dQ bB _ rfl rfl (by assumption) ?_)|(refine eZ bB _ rfl rfl (by assumption) ?_)|(refine dJ bB rfl ?_)|(refine dI bB _ _ rfl rfl rfl qN ?_))
    obtain⟨nb,hnb⟩:=aC wr.heap.size;generalize hW:jb8 _ _ _=W3;have A2:At W3 nb (.cells (nW x) 216):=hW▸hnb▸At.setRow (At.new _ _) _;have A3:At W3 b (.cells (bG v m k) 3):=hW▸At.iP (A1.alloc _) (by have:=A1.lt;omega) _;have hB3:Below w w W3:=hW▸aU (aD hB _) hB.size _;rw[hnb];clear hW A1 hI lR hB;have hk3:=key W3 hB3;have HA3:=ah A3
    go_upto_region 6 with(first|(go_at_call 174;(with_reducible refine hk3.mono ?_);rintro e w4 ⟨rfl,hb4⟩;have A4:=HA3.out.keep hb4;have RG:=A4.lt;have zb4:=A4.thaw k;have cb4:=A4.cell k;rw[dO _ hlt]at cb4)|(refine dQ bB _ rfl rfl (by assumption) ?_)|(refine eZ bB _ rfl rfl (by assumption) ?_)|(refine dJ bB rfl ?_)|(refine dI bB _ _ rfl rfl rfl qN ?_))
    exact Zs
  . exact Z33
theorem adV(caps:Array Value)(v:Nat->Int)(A:Option Addr)(xs:List Im)(c:Nat)(w:World)(hx:Ku w A xs)(hl:xs.length<=10000)
  (hcall:∀i (h:i<xs.length) X,Below w w X->Calls ja0 180 (#[.agg (nW xs[i])]++caps) X λe X'=>e=.returned (.int .i64 (v i))/\Below X X X') :
  Calls ja0 134 #[.slice A xs.length c,.func (.func 180) #[] caps] w λe w'=>(∃b,e=.returned (.slice (some ⟨b,0,none⟩) xs.length xs.length)/\w.heap.size<=b/\At w' b (.cells (bG v xs.length xs.length) 3))/\Below w w w':=by
 obtain⟨i0,hi0,hz0,hz1,hz2⟩:=info_parts intZero;obtain⟨m,hm⟩:=aC xs.length;rw[hm]at hl ⊢;have HM:=ah hm;have HX:=ah hx;have HC:=ah hcall;clear hx hcall hm;go_enter Tryz.func134,Tryz.ntmps134
 go_wp2_with (at_make;refine wpList_make_row _ rfl _ _ 37 rfl 3 i0 (.int .i64 0) Tryz.underlying37 hi0 hz0 hz1 rfl .i64 .i64 m rfl rfl TQ ak ?_)
 obtain⟨b,hsz⟩:=aC w.heap.size;have hB1:Below w w (w.alloc (.cells (bG v m 0) 3)):=aD aG _;have A1:At (w.alloc (.cells (bG v m 0) 3)) b (.cells (bG v m 0) 3):=At.new' _ hsz.symm;rw[hsz,j3 v];generalize w.alloc (.cells (bG v m 0) 3)=W2 at *
 go_loopw [6,13] (λ_ vi wr=>∃k:Nat,k<=m/\vi=.int .i64 k/\At wr b (.cells (bG v m k) 3)/\Below w w wr) (λ_ vi _=>m-(intOf vi).toNat)
 case atStart=>exact⟨0,by omega,rfl,A1,hB1⟩
 case round =>
  clear A1 hB1;obtain⟨k,hk,rfl,A1,hB⟩:=hrel;by_cases hlt:k<m
  . have hltz:(k:Int)<(m:Int):=by omega
    have hkx:k<xs.length:=by rw[HM.out];exact hlt
    obtain⟨R,q,rfl,lR,hI⟩:=(HX.out.after hB).at_ hkx;have key:=HC.out k hkx;generalize xs[k]=x at *
    go_upto_region 5 with(first|(refine dQ bB _ rfl rfl (by assumption) ?_)|(refine eZ bB _ rfl rfl (by assumption) ?_)|(refine dJ bB rfl ?_)|(refine dI bB _ _ rfl rfl rfl qN ?_))
    obtain⟨nb,hnb⟩:=aC wr.heap.size;generalize hW:jb8 _ _ _=W3;have A2:At W3 nb (.cells (nW x) 216):=hW▸hnb▸At.setRow (At.new _ _) _;have A3:At W3 b (.cells (bG v m k) 3):=hW▸At.iP (A1.alloc _) (by have:=A1.lt;omega) _;have hB3:Below w w W3:=hW▸aU (aD hB _) hB.size _;rw[hnb];clear hW A1 hI lR hB;have hk3:=key W3 hB3;have HA3:=ah A3
    go_upto_region 6 with(first|(go_at_call 180;(with_reducible refine hk3.mono ?_);rintro e w4 ⟨rfl,hb4⟩;have A4:=HA3.out.keep hb4;have RG:=A4.lt;have zb4:=A4.thaw k;have cb4:=A4.cell k;rw[dO _ hlt]at cb4)|(refine dQ bB _ rfl rfl (by assumption) ?_)|(refine eZ bB _ rfl rfl (by assumption) ?_)|(refine dJ bB rfl ?_)|(refine dI bB _ _ rfl rfl rfl qN ?_))
    exact Zs
  . exact Z33
def o7(xs:List Im):List Int:=xs.map Co
def vO(xs:List Im):List Int:=xs.map Cn
def U5(l:List Int)(k:Nat):Int:=(l.take k).foldl max 0
theorem U6{l:List Int}{k:Nat}(h:k<l.length):U5 l (k+1)=max (U5 l k) l[k]:=by
 unfold U5;rw[List.take_succ_eq_append_getElem h,List.foldl_append];rfl
theorem adW(A:Option Addr)(xs:List Im)(c B:Nat)(w:World)(hx:Ku w A xs)(hl:xs.length<=10000)(hB:w.cell? ⟨B,0,none⟩=some (.int .i64 0))(hBl:B<w.heap.size) :
  Calls ja0 134 #[.slice A xs.length c,.func (.func 181) #[] #[B]] w λe w'=>(∃b,e=.returned (.slice (some ⟨b,0,none⟩) xs.length xs.length)/\w.heap.size<=b/\At w' b (.cells (bG (λi=>(vO xs).getD i 0) xs.length xs.length) 3))/\Below w w w' :=
 Yg #[B] (λi=>(vO xs).getD i 0) A xs c w hx hl λi hi X hb=>by
  have h1:X.cell? ⟨B,0,none⟩=some (.int .i64 0):=(hb.cell (p:=⟨B,0,none⟩) hBl).trans hB;have e:(vO xs).getD i 0=Cn xs[i]:=by unfold vO;rw[List.getD,jb7,ja6 hi];rfl
  rw[e];exact Sz xs[i] B X h1
theorem Yh(A:Option Addr)(xs:List Im)(c B:Nat)(w:World)(hx:Ku w A xs)(hl:xs.length<=10000)(hB:w.cell? ⟨B,0,none⟩=some (.int .i64 1))(hBl:B<w.heap.size) :
  Calls ja0 134 #[.slice A xs.length c,.func (.func 181) #[] #[B]] w λe w'=>(∃b,e=.returned (.slice (some ⟨b,0,none⟩) xs.length xs.length)/\w.heap.size<=b/\At w' b (.cells (bG (λi=>(o7 xs).getD i 0) xs.length xs.length) 3))/\Below w w w' :=
 Yg #[B] (λi=>(o7 xs).getD i 0) A xs c w hx hl λi hi X hb=>by
  have h1:X.cell? ⟨B,0,none⟩=some (.int .i64 1):=(hb.cell (p:=⟨B,0,none⟩) hBl).trans hB;have e:(o7 xs).getD i 0=Co xs[i]:=by unfold o7;rw[List.getD,jb7,ja6 hi];rfl
  rw[e];exact SA xs[i] B X h1
theorem Yi(A:Option Addr)(xs:List Im)(c:Nat)(w:World)(hx:Ku w A xs)(hl:xs.length<=10000):Calls ja0 178 #[.slice A xs.length c] w λe w'=>e=.returned (.int .i64 ((o7 xs).foldl max 0))/\Below w w w':=by
 have hb1:Below w w (w.alloc (.cells #[.int .i64 1] 3)):=aD aG _;have hA1:At (w.alloc (.cells #[.int .i64 1] 3)) w.heap.size (.cells #[.int .i64 1] 3):=At.new _ _;have key:=Yh A xs c w.heap.size _ (hx.after hb1) hl (hA1.cell 0) hA1.lt;obtain⟨l,hL⟩:=aC (o7 xs);have hll:l.length=xs.length:=by rw[<-hL];simp[o7]
 rw[hL]at key ⊢;obtain⟨m,hm⟩:=aC xs.length;rw[hm]at hl key hll ⊢;have U7:=ah hll;clear hx hL hm hll;go_enter Tryz.func178,Tryz.ntmps178
 go_wp2_with (first|(go_at_call 139;(with_reducible refine(oZ 1 _).mono ?_);rintro e w1 ⟨rfl,rfl⟩)|(go_at_call 134;(with_reducible refine key.mono ?_);rintro e w2 ⟨⟨b,rfl,hbl,hA⟩,hb2⟩))
 have hB:Below w w w2:=hb1.trans (hb2.mono hb1.size);clear key hb1 hb2 hA1
 go_loop [3,10] (λav iv=>∃k:Nat,k<=m/\iv=.int .i64 k/\av=.int .i64 (U5 l k)) (λ_ iv=>m-(intOf iv).toNat)
 case atStart=>exact⟨0,by omega,rfl,rfl⟩
 case round =>
  obtain⟨k,hk,rfl,rfl⟩:=hrel;by_cases hlt:k<m
  . have hltz:(k:Int)<(m:Int):=by omega
    have hkl:k<l.length:=by rw[U7.out];exact hlt
    have hc:=hA.cell k;rw[dO _ hlt,if_pos hlt,List.getD,ja6 hkl]at hc;simp only[Option.getD_some]at hc;have HT:=ah (U6 hkl);have lb:=hA.lt;generalize U5 l k=a at *;generalize l[k]=x at *;go_wp2
    go_round
    case rel=>exact⟨k+1,by omega,by go_num,by rw[HT.out]⟩
    case measure=>simp[intOf];omega
  . obtain rfl:k=m:=by omega
    go_wp2
    go_ret
    exact⟨bQ (by unfold U5;rw[List.take_of_length_le (by rw[U7.out];exact aO _)]),hB⟩
def qm(r:Int)(ex:Nat->Int):Nat->Int
 | 0=>r
 | k+1=>Fw.wr (qm r ex k-ex k)
def WI(cs:Array Value)(it:Nat->Fe.It)(k:Nat):Prop:=∀i,i<k->∀j,j<5->cs[i*5+j]? = (x8 (it i))[j]?
theorem WI.items{W:World}{b n:Nat}{cs:Array Value}{it:Nat->Fe.It}(h:WI cs it n)(hA:At W b (.cells cs 214)):Items W (some ⟨b,0,none⟩) it n:=λh0 =>
 ⟨b,0,rfl,hA.lt,λk hk=>by
  have q:=λj hj=>(hA.cell (k*5+j)).trans (h k hk j hj);refine⟨?_,?_,?_,?_,?_⟩
  . have:=q 0 ak;simpa[x8]using this
  . have:=q 1 ak;simpa[x8]using this
  . have:=q 2 ak;simpa[x8]using this
  . have:=q 3 ak;simpa[x8]using this
  . have:=q 4 ak;simpa[x8]using this⟩
theorem Yj(A:Option Addr)(xs:List Im)(c:Nat)(r0 r1 gap:Int)(it:Nat->Fe.It)(ex:Nat->Int)(st:Nat->Re.St)(w:World)(hx:Ku w A xs)(hl:xs.length<=64)(hit:∀i (h:i<xs.length),it i=xs[i].it)(hex:∀i (h:i<xs.length),ex i=Ya xs[i] (st i))(hbx:∀i (h:i<xs.length),∃fl ap ib,aR w xs[i].bx (st i) fl ap ib) :
  Calls ja0 177 #[.slice A xs.length c,(),.agg #[r0,r1],gap] w λe w' =>
   (∃b,e=.returned (.slice (some ⟨b,0,none⟩) xs.length xs.length)/\w.heap.size<=b/\Ints w' (some ⟨b,0,none⟩) (mZ it xs.length (qm (Fw.wr (r0-Fw.wr (gap*Fw.wr ((xs.length:Int)-1)))) ex xs.length)))/\Below w w w':=by
 obtain⟨m,hm⟩:=aC xs.length;rw[hm]at hl ⊢;have HM:=ah hm;have HX:=ah hx;have HIT:=ah hit;have HEX:=ah hex;have qM:=ah hbx;clear hx hit hex hbx hm;rw[<-sK ((m:Int)-1)];obtain⟨q1,hq1⟩:=aC (IntKind.i64.wrap ((m:Int)-1));rw[hq1,<-sK (gap*q1)];obtain⟨q2,hq2⟩:=aC (IntKind.i64.wrap (gap*q1));rw[hq2,<-sK (r0-q2)];obtain⟨r,hr⟩:=aC (IntKind.i64.wrap (r0-q2));rw[hr];obtain⟨ws,hws⟩:=aC (w.alloc (.cells #[r0,r1] 81));obtain⟨cs0,hmk,yV⟩:=SE ws m ak;have Yk:=ah hmk;clear hmk;go_enter Tryz.func177,Tryz.ntmps177
 go_upto_region 1 with(fail)
 have hb1:Below w w ws:=hws▸aD aG _;have A0:At ws w (.cells #[r0,r1] 81):=hws▸At.new _ _;clear hws
 go_upto_region 2 with(refine ni bB _ _ 292 rfl Yk.out ?_)
 obtain⟨b,hb⟩:=aC ws.heap.size;rw[hb];have A1:At (ws.alloc (.cells cs0 214)) b (.cells cs0 214):=At.new' _ hb.symm;have A2:=A0.alloc (.cells cs0 214);have hB2:Below w w (ws.alloc (.cells cs0 214)):=aD hb1 _;have hwb:w.heap.size<b:=by have:=A0.lt;omega
 generalize ws.alloc (.cells cs0 214)=W2 at *;obtain⟨l0,c00,Kv⟩:=At.two A2;clear A0 hb1 hb Yk
 go_upto_region 3 with(fail)
 clear hq1 hq2 hr l0 c00 Kv
 go_upto_region 4 with(fail)
 go_loopw [10,27] (λlv iv wr=>∃(k:Nat) (cs:Array Value),k<=m/\iv=.int .i64 k/\lv=.int .i64 (qm r ex k)/\At wr b (.cells cs 214)/\cs.size=m*5/\WI cs it k/\Below w w wr) (λ_ iv _=>m-(intOf iv).toNat)
 case atStart=>exact⟨0,cs0,gF _,rfl,rfl,A1,yV,λi hi=>absurd hi (Nat.not_lt_zero _),hB2⟩
 case round =>
  clear A1 A2 hB2 yV;obtain⟨k,cs,hk,rfl,rfl,A1,hcs,hF,hB⟩:=hrel;by_cases hlt:k<m
  . have hltz:(k:Int)<(m:Int):=by omega
    have hkx:k<xs.length:=by rw[HM.out];exact hlt
    obtain⟨R,q,rfl,lR,hI⟩:=(HX.out.after hB).at_ hkx;obtain⟨fl,ap,ib,hbx⟩:=qM.out k hkx;have hiq:=ah (HIT.out k hkx);have heq:=ah (HEX.out k hkx);have hls:=ah (show qm r ex (k+1)=Fw.wr (qm r ex k-ex k)from rfl);generalize xs[k]=x at *;generalize qm r ex k=lf at *;have Yl:=ah hbx;clear hbx
    go_upto_region 6 with(first|(refine dQ bB _ rfl rfl (by assumption) ?_)|(refine eZ bB _ rfl rfl (by assumption) ?_)|(refine dJ bB rfl ?_)|(refine dI bB _ _ rfl rfl rfl qN ?_))
    obtain⟨nb,hnb⟩:=aC wr.heap.size;generalize hW:jb8 _ _ _=W3;have A2:At W3 nb (.cells (nW x) 216):=hW▸hnb▸At.setRow (At.new _ _) _;have A3:At W3 b (.cells cs 214):=hW▸At.iP (A1.alloc _) (by have:=A1.lt;omega) _;have hB3:Below w w W3:=hW▸aU (aD hB _) hB.size _;have Kw:aR W3 x.bx (st k) fl ap ib:=Yl.out.keep hB3;rw[hnb];have hne:nb≠b:=by have:=A1.lt;omega
    clear hW A1 hI lR hB;have LV:=ah Kw;clear Kw;have l2:=A2.lt
    have hld:∀j,j<5->W3.cell? ⟨nb,0+j,none⟩=(x8 x.it)[j]? := λj hj=>by
     rw[A2.cell,Nat.zero_add];exact Z2v
    have hfit:k*5+5<=cs.size:=by omega
    have HLD:=ah hld;clear hld
    go_upto_region 7 with(first|(refine fQ Ye BG bB _ rfl rfl (iU x.it) HLD.out ?_)|(refine iq BG bB _ _ rfl rfl rfl A3 (iU x.it) (by first|exact hfit|(rw[Nat.zero_add];exact hfit)) (DX x.it) ?_))
    obtain⟨e0,he0⟩:=aC (ex k);obtain⟨lf2,aaK⟩:=aC (IntKind.i64.wrap (lf-e0));have hlk:Hid (qm r ex (k+1)=lf2):=ah (by rw[hls.out,he0,<-sK,aaK]);generalize hW:jb8 _ _ _=W4;have A4:At W4 b (.cells (splice cs (k*5) (x8 x.it)) 214):=hW▸At.setRow A3 _;have A5:At W4 nb (.cells (nW x) 216):=hW▸At.iP A2 hne _;have hB4:Below w w W4:=hW▸aU hB3 (wz hwb) _;have key:=Sw x (st k) fl ap ib W4 (Yl.out.keep hB4);exact Zf
  . exact Z1a
theorem Ym(A:Option Addr)(xs:List Im)(c:Nat)(r0 r1 gap:Int)(it:Nat->Fe.It)(ex:Nat->Int)(st:Nat->Re.St)(w:World)(hx:Ku w A xs)(hl:xs.length<=64)(hit:∀i (h:i<xs.length),it i=xs[i].it)(hex:∀i (h:i<xs.length),ex i=ext1 xs[i] (st i))(hbx:∀i (h:i<xs.length),∃fl ap ib,aR w xs[i].bx (st i) fl ap ib) :
  Calls ja0 177 #[.slice A xs.length c,.int .i64 1,.agg #[r0,r1],gap] w λe w' =>
   (∃b,e=.returned (.slice (some ⟨b,0,none⟩) xs.length xs.length)/\w.heap.size<=b/\Ints w' (some ⟨b,0,none⟩) (mZ it xs.length (qm (Fw.wr (r1-Fw.wr (gap*Fw.wr ((xs.length:Int)-1)))) ex xs.length)))/\Below w w w':=by
 obtain⟨m,hm⟩:=aC xs.length;rw[hm]at hl ⊢;have HM:=ah hm;have HX:=ah hx;have HIT:=ah hit;have HEX:=ah hex;have qM:=ah hbx;clear hx hit hex hbx hm;rw[<-sK ((m:Int)-1)];obtain⟨q1,hq1⟩:=aC (IntKind.i64.wrap ((m:Int)-1));rw[hq1,<-sK (gap*q1)];obtain⟨q2,hq2⟩:=aC (IntKind.i64.wrap (gap*q1));rw[hq2,<-sK (r1-q2)];obtain⟨r,hr⟩:=aC (IntKind.i64.wrap (r1-q2));rw[hr];obtain⟨ws,hws⟩:=aC (w.alloc (.cells #[r0,r1] 81));obtain⟨cs0,hmk,yV⟩:=SE ws m ak;have Yk:=ah hmk;clear hmk;go_enter Tryz.func177,Tryz.ntmps177
 go_upto_region 1 with(fail)
 have hb1:Below w w ws:=hws▸aD aG _;have A0:At ws w (.cells #[r0,r1] 81):=hws▸At.new _ _;clear hws
 go_upto_region 2 with(refine ni bB _ _ 292 rfl Yk.out ?_)
 obtain⟨b,hb⟩:=aC ws.heap.size;rw[hb];have A1:At (ws.alloc (.cells cs0 214)) b (.cells cs0 214):=At.new' _ hb.symm;have A2:=A0.alloc (.cells cs0 214);have hB2:Below w w (ws.alloc (.cells cs0 214)):=aD hb1 _;have hwb:w.heap.size<b:=by have:=A0.lt;omega
 generalize ws.alloc (.cells cs0 214)=W2 at *;obtain⟨l0,c00,Kv⟩:=At.two A2;clear A0 hb1 hb Yk
 go_upto_region 3 with(fail)
 clear hq1 hq2 hr l0 c00 Kv
 go_upto_region 4 with(fail)
 go_loopw [10,27] (λlv iv wr=>∃(k:Nat) (cs:Array Value),k<=m/\iv=.int .i64 k/\lv=.int .i64 (qm r ex k)/\At wr b (.cells cs 214)/\cs.size=m*5/\WI cs it k/\Below w w wr) (λ_ iv _=>m-(intOf iv).toNat)
 case atStart=>exact⟨0,cs0,gF _,rfl,rfl,A1,yV,λi hi=>absurd hi (Nat.not_lt_zero _),hB2⟩
 case round =>
  clear A1 A2 hB2 yV;obtain⟨k,cs,hk,rfl,rfl,A1,hcs,hF,hB⟩:=hrel;by_cases hlt:k<m
  . have hltz:(k:Int)<(m:Int):=by omega
    have hkx:k<xs.length:=by rw[HM.out];exact hlt
    obtain⟨R,q,rfl,lR,hI⟩:=(HX.out.after hB).at_ hkx;obtain⟨fl,ap,ib,hbx⟩:=qM.out k hkx;have hiq:=ah (HIT.out k hkx);have heq:=ah (HEX.out k hkx);have hls:=ah (show qm r ex (k+1)=Fw.wr (qm r ex k-ex k)from rfl);generalize xs[k]=x at *;generalize qm r ex k=lf at *;have Yl:=ah hbx;clear hbx
    go_upto_region 6 with(first|(refine dQ bB _ rfl rfl (by assumption) ?_)|(refine eZ bB _ rfl rfl (by assumption) ?_)|(refine dJ bB rfl ?_)|(refine dI bB _ _ rfl rfl rfl qN ?_))
    obtain⟨nb,hnb⟩:=aC wr.heap.size;generalize hW:jb8 _ _ _=W3;have A2:At W3 nb (.cells (nW x) 216):=hW▸hnb▸At.setRow (At.new _ _) _;have A3:At W3 b (.cells cs 214):=hW▸At.iP (A1.alloc _) (by have:=A1.lt;omega) _;have hB3:Below w w W3:=hW▸aU (aD hB _) hB.size _;have Kw:aR W3 x.bx (st k) fl ap ib:=Yl.out.keep hB3;rw[hnb];have hne:nb≠b:=by have:=A1.lt;omega
    clear hW A1 hI lR hB;have LV:=ah Kw;clear Kw;have l2:=A2.lt
    have hld:∀j,j<5->W3.cell? ⟨nb,0+j,none⟩=(x8 x.it)[j]? := λj hj=>by
     rw[A2.cell,Nat.zero_add];exact Z2v
    have hfit:k*5+5<=cs.size:=by omega
    have HLD:=ah hld;clear hld
    go_upto_region 7 with(first|(refine fQ Ye BG bB _ rfl rfl (iU x.it) HLD.out ?_)|(refine iq BG bB _ _ rfl rfl rfl A3 (iU x.it) (by first|exact hfit|(rw[Nat.zero_add];exact hfit)) (DX x.it) ?_))
    obtain⟨e0,he0⟩:=aC (ex k);obtain⟨lf2,aaK⟩:=aC (IntKind.i64.wrap (lf-e0));have hlk:Hid (qm r ex (k+1)=lf2):=ah (by rw[hls.out,he0,<-sK,aaK]);generalize hW:jb8 _ _ _=W4;have A4:At W4 b (.cells (splice cs (k*5) (x8 x.it)) 214):=hW▸At.setRow A3 _;have A5:At W4 nb (.cells (nW x) 216):=hW▸At.iP A2 hne _;have hB4:Below w w W4:=hW▸aU hB3 (wz hwb) _;have key:=Sy x (st k) fl ap ib W4 (Yl.out.keep hB4);exact Zf
  . exact Z1a
def wZ(Y:rF)(B:Int->Fw.Bx)(i0 k:Int):Im:=⟨⟨0,0,0,0,0⟩,⟨k,0,0,0,0,0,0⟩,Y.bl k,Fw.mg (B k).sty 0 0 i0,Fw.mg (B k).sty 0 1 i0,Fw.mg (B k).sty 1 0 i0,Fw.mg (B k).sty 1 1 i0⟩
def iQ(Y:rF)(B:Int->Fw.Bx)(i0:Int)(l:List Int):List Im:=l.map (wZ Y B i0)
section
variable {Y:rF} {B:Int->Fw.Bx} {D:Int->Prop} {KM:World->Nat->Prop}
theorem U8{cs:Array Value}{l:List Im}(h:gV cs 0 l)(hf:l.length*17+17<=cs.size):gV (splice cs (l.length*17) (nW x)) 0 (l++[x]):=by
 have hs:l.length*17+(nW x).size<=cs.size:=by rw[tN];exact hf
 refine⟨by rw[jA hs];simp;omega,λi hi j hj => ?_⟩;by_cases e:i<l.length
 . rw[List.getElem_append_left e,Nat.zero_add,jd hs (.inl ak)]
   have:=h.2 i e j hj
   rwa [Nat.zero_add]at this
 . have:i=l.length:=by simp at hi;omega
   subst this;rw[Nat.zero_add,om hs (by rw[tN];exact hj)];simp
theorem adr(hK:∀(X X':World) (b:Nat),KM X b->Below X X X'->KM X' b)(z i0 i1:Int)(hz:D z)(hdn:∀k∈(B z).fl,D k)(hl:(B z).fl.length<=10000)(w:World)(hR:RO w Y B D KM) :
  Calls ja0 131 #[Y.lb,.agg #[z,i0,i1]] w λe w' =>
   (∃R cs,e=.returned (.slice (some ⟨R,0,none⟩) (B z).fl.length (B z).fl.length)/\w.heap.size<=R/\At w' R (.cells cs 216)/\gV cs 0 (iQ Y B i0 (B z).fl)/\cs.size=(B z).fl.length*17)/\Below w w w':=by
 have hb1:Below w w (w.alloc (.cells #[z,i0,i1] 86)):=aD aG _;have A0:At (w.alloc (.cells #[z,i0,i1] 86)) w.heap.size (.cells #[z,i0,i1] 86):=At.new _ _;have HR1:=ah (hR.keep hK hb1);have HR:=ah hR;have HDN:=ah hdn;obtain⟨hbx,hks,_⟩:=hR.box z hz;obtain⟨A,cp,hvf,hI,hle,hmx,hAn⟩:=hks.ints;rw[hvf]at hbx;have qM:=ah hbx;have HI:=ah hI;obtain⟨l,hll⟩:=aC ((B z).fl);have U7:=ah hll;rw[hll]at hl hle ⊢;obtain⟨m,hm⟩:=aC l.length;have HM:=ah hm;rw[hm]at hl hle ⊢;clear hR hbx hI hks hvf hdn hll;go_enter Tryz.func131,Tryz.ntmps131
 go_upto_region 1 with(fail)
 generalize w.alloc (.cells #[z,i0,i1] 86)=w1 at *;obtain⟨l0,c00,Kv,U9⟩:=At.three A0;have hl1:=HR1.out.look hz;have xS:=HR1.out.lay;have Di:=xS.lt;have G9:w1.cell? ⟨Y.lb,2,none⟩=some (.map (some Y.bm)):=xS.cell 2;have adX:=qM.out.keep hb1;have l71:=adX.lt;have pQ:w1.cell? ⟨Y.bl z,71,none⟩=some (.slice A (B z).fl.length cp):=adX.ext 16;rw[U7.out,hm]at pQ;clear hm adX xS;have hL:=λX (hb:Below w1 w1 X)=>(HR1.out.keep hK hb).look hz;clear hl1;refine vS ?_
 (repeat (first|refine jV ?_ | refine jW ?_ (hc:=by intro w2 hS;first|with_reducible exact jI hS (jE _))|refine jX ?_))
 refine aj.bY ?_;intro w2 hS;have hb2:Below w w w2:=Below.ay hb1 aF hS;have A1:=A0.keep hS;clear hS hL G9 Di l0 c00 Kv U9 l71 pQ hb1 A0 HR1;obtain⟨cs0,hmk,yV⟩:=abE w2 m ak;have adY:=qM.out.keep hb2;have l71:=adY.lt;have pQ:w2.cell? ⟨Y.bl z,71,none⟩=some (.slice A (B z).fl.length cp):=aR.ext adY 16;rw[U7.out,HM.out]at pQ;have Yk:=ah hmk;clear adY hmk
 go_upto_region 3 with(refine ni bB _ _ 211 rfl Yk.out ?_)
 obtain⟨R,hR0⟩:=aC w2.heap.size;rw[hR0];have A2:At (w2.alloc (.cells cs0 216)) R (.cells cs0 216):=At.new' _ hR0.symm;have A3:=A1.alloc (.cells cs0 216);have hb3:Below w w (w2.alloc (.cells cs0 216)):=aD hb2 _;have hwR:w.heap.size<R:=by have:=A1.lt;omega
 generalize w2.alloc (.cells cs0 216)=w3 at *;clear A1 hb2 hR0 Yk l71 pQ;have HA3:=ah A3;have akj:=hb3.size
 go_upto_region 4 with(fail)
 go_loopw [25] (λiv wr=>∃(k:Nat) (cs:Array Value),k<=m/\iv=.int .i64 k/\At wr R (.cells cs 216)/\Hid (cs.size=m*17/\gV cs 0 (iQ Y B i0 (l.take k)))/\At wr w (.cells #[z,i0,i1] 86)/\Below w w wr) (λiv _=>m-(intOf iv).toNat)
 case atStart=>exact⟨0,cs0,gF _,rfl,A2,ah ⟨yV,by simp[gV,iQ]⟩,A3,hb3⟩
 case round =>
  clear A2 A3 hb3 yV;obtain⟨k,cs,hk,rfl,A2,hC,A3,hB⟩:=hrel;by_cases hlt:k<m
  . have hltz:(k:Int)<(m:Int):=by omega
    have hkk:k<l.length:=by rw[HM.out];exact hlt
    have Fb:=HI.out.after hB;rw[U7.out]at Fb;obtain⟨b1,o1,rfl,Wx,hc1⟩:=Fb.at_ (k:=k) hkk;obtain⟨x,hx⟩:=aC (l.getD k 0);have hx2:l[k]=x:=by rw[<-hx,List.getD,ja6 hkk];rfl
    rw[hx]at hc1;have hxD:D x:=HDN.out x (by rw[U7.out];exact hx2▸List.getElem_mem _);have hRr:=HR.out.keep hK hB;have hlx:=hRr.look hxD;have G9:wr.cell? ⟨Y.lb,2,none⟩=some (.map (some Y.bm)):=hRr.lay.cell 2;have lyb:=hRr.lay.lt;have hbx:=ah (hRr.box x hxD).1;have afU:=iD (Y.bl x) (B x).sty (Y.vf x) (Y.va x) (B x).ib i0 i1 wr hbx.out;have afV:Hid (iQ Y B i0 (l.take (k+1))=iQ Y B i0 (l.take k)++[wZ Y B i0 x]):=ah (by unfold iQ;rw[List.take_succ_eq_append_getElem hkk,List.map_append,hx2];rfl);have hLen:Hid ((iQ Y B i0 (l.take k)).length=k):=ah (by simp[iQ];omega);obtain⟨l0,c00,Kv,U9⟩:=At.three A3;have hNI:Hid (wZ Y B i0 x=⟨⟨0,0,0,0,0⟩,⟨x,0,0,0,0,0,0⟩,Y.bl x,Fw.mg (B x).sty 0 0 i0,Fw.mg (B x).sty 0 1 i0,Fw.mg (B x).sty 1 0 i0,Fw.mg (B x).sty 1 1 i0⟩):=ah rfl;generalize Fw.mg (B x).sty 0 0 i0=g0 at *;generalize Fw.mg (B x).sty 0 1 i0=g1 at *;generalize Fw.mg (B x).sty 1 0 i0=g2 at *;generalize Fw.mg (B x).sty 1 1 i0=g3 at *;generalize Y.bl x=bx at *;clear Fb hRr hx2 hxD hx;have HA2:=ah A2;have aiu:=ah A3;clear A2 A3
    go_upto_region 7 with(fail)
    have hfit:k*17+17<=cs.size:=by have:=hC.out.1;omega
    go_upto_region 8 with(first|(go_at_call 108;(with_reducible refine afU.mono ?_);rintro e w5 ⟨rfl,hb5⟩)|(refine iq Qt bB _ _ rfl rfl rfl (HA2.out.keep hb5) rfl hfit LH ?_))
    generalize hW:jb8 _ _ _=W6;have A4:At W6 R (.cells (splice cs (k*17) (nW (wZ Y B i0 x))) 216):=by
     rw[hNI.out];exact hW▸At.setRow (HA2.out.keep hb5) _
    have A5:At W6 w (.cells #[z,i0,i1] 86):=hW▸At.iP (aiu.out.keep hb5) (dK hwR) _;have AA:Below w w W6:=hW▸aU (Below.ay hB aF hb5) (wz hwR) _
    have hC6:Hid ((splice cs (k*17) (nW (wZ Y B i0 x))).size=m*17/\gV (splice cs (k*17) (nW (wZ Y B i0 x))) 0 (iQ Y B i0 (l.take (k+1)))):=ah ⟨by rw[jA (by rw[tN];exact hfit)];exact hC.out.1,by
     rw[afV.out];have h1:=U8 (x:=wZ Y B i0 x) hC.out.2 (by rw[hLen.out];exact hfit);rw[hLen.out]at h1
     exact h1⟩
    clear hW hb5 afU hB hfit l0 c00 Kv U9 hlx G9 lyb hc1 Wx;go_wp2
    go_roundw
    case rel=>exact⟨k+1,_,by omega,by go_num,A4,hC6,A5,AA⟩
    case measure=>simp[intOf];omega
  . obtain rfl:k=m:=by omega
    have hfull:l.take k=l:=by rw[List.take_of_length_le (by rw[HM.out];exact aO _)]
    rw[hfull]at hC;go_wp2
    go_ret
    exact⟨⟨R,cs,rfl,wz hwR,A2,hC.out.2,hC.out.1⟩,hB⟩
end
end Go.Proofs.YtfohooineeijkaaGreat.Fix
