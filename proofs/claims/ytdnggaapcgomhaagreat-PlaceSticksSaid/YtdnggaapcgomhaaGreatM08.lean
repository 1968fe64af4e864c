/- Steps of the program (8); no conditions. -/
import Derived.Test.YtdnggaapcgomhaaGreatM07
set_option linter.all false
set_option maxRecDepth 100000
set_option maxHeartbeats 16000000
namespace Go.Proofs.YtdnggaapcgomhaaGreat.Fix
open Go.ChangeShapes Go.WideShapes Go.ChangeAt Go.RowKit
open Go.Proofs.Tryz renaming prog → ja0
open World renaming alloc → ja4,setCell → ja5,setRow → jb9
open List renaming getElem?_eq_getElem → ja6,getElem?_toArray → jb1,take_of_length_le → jb6,getElem?_map → jc1,take_succ_eq_append_getElem → jc8
variable {cs vs:Array Value}{W W':World}{T T':TypeId}{R q b n:Nat}{A:Option Addr}{M:Nat->Prop}
structure Im where
 it:Fe.It
 ld:Fw.Ld
 bx:Nat
 m0:Int
 m1:Int
 m2:Int
 m3:Int
def dV(x:Fw.Ld):Array Value:=#[x.id,x.i0,x.i1,x.s0,x.s1,x.a0,x.a1]
def lZ(x:Im):Array Value:=#[x.it.b,x.it.lo,x.it.hi,x.it.g,x.it.s,x.ld.id,x.ld.i0,x.ld.i1,x.ld.s0,x.ld.s1,x.ld.a0,x.ld.a1,x.bx,x.m0,x.m1,x.m2,x.m3]
theorem At.im{W:World}{x:Im}(h:At W b (.cells (lZ x) T)):b<W.heap.size/\W.cell? ⟨b,0,none⟩=some (.int .i64 x.it.b)/\W.cell? ⟨b,1,none⟩=some (.int .i64 x.it.lo)/\W.cell? ⟨b,2,none⟩=some (.int .i64 x.it.hi)/\W.cell? ⟨b,3,none⟩=some (.int .i64 x.it.g)/\W.cell? ⟨b,4,none⟩=some (.int .i64 x.it.s)/\W.cell? ⟨b,5,none⟩=some (.int .i64 x.ld.id)/\W.cell? ⟨b,6,none⟩=some (.int .i64 x.ld.i0)/\W.cell? ⟨b,7,none⟩=some (.int .i64 x.ld.i1)/\W.cell? ⟨b,8,none⟩=some (.int .i64 x.ld.s0)/\W.cell? ⟨b,9,none⟩=some (.int .i64 x.ld.s1)/\W.cell? ⟨b,10,none⟩=some (.int .i64 x.ld.a0)/\W.cell? ⟨b,11,none⟩=some (.int .i64 x.ld.a1)/\W.cell? ⟨b,12,none⟩=some (.pointer x.bx)/\W.cell? ⟨b,13,none⟩=some (.int .i64 x.m0)/\W.cell? ⟨b,14,none⟩=some (.int .i64 x.m1)/\W.cell? ⟨b,15,none⟩=some (.int .i64 x.m2)/\W.cell? ⟨b,16,none⟩=some (.int .i64 x.m3) :=
 ⟨h.lt,h.cell 0,h.cell 1,h.cell 2,h.cell 3,h.cell 4,h.cell 5,h.cell 6,h.cell 7,h.cell 8,h.cell 9,h.cell 10,h.cell 11,h.cell 12,h.cell 13,h.cell 14,h.cell 15,h.cell 16⟩
theorem MI:(Tryz.prog.info? 232).map (·.size)=some 17:=by kernel_rfl
theorem UH{W:World}{x:Im}(h:At W b (.cells (lZ x) 232)):(Instr.loadAt 232 (.pointer b)).run ja0 W=.ok (.agg (lZ x)) W:=by
 simp only[Instr.loadAt,Instr.sureAddr,Sem.run_bind,Sem.run_pure,Result.andThen_ok,run_loadVar_row W b 232 232 (lZ x) (0,0) _ h Tryz.underlying232 rfl (by exact MI)]
theorem vM{o:Oper}{a:Act}{w:World}{x:Im}(p:Operand)(ho:o.op=.load 232 p)(hp:a.eval p=.pointer b)(h:At w b (.cells (lZ x) 232)):(execOp a.eval o).run ja0 w=.ok (.value (.agg (lZ x))) w:=by
 unfold execOp;simp only[ho,hp,Sem.run_bind,UH h,Result.andThen_ok,Sem.run_pure]
def X5(x:Im)(s:Re.St):Int:=Fw.wr (Fw.wr (x.m0+x.m1)+Fw.wD s 0)
def ext1(x:Im)(s:Re.St):Int:=Fw.wr (Fw.wr (x.m2+x.m3)+Fw.wD s 1)
theorem RV(x:Im)(s:Re.St)(fl ap:Value)(ib:Bool)(w:World)(h:aL w x.bx s fl ap ib):Calls ja0 186 #[.agg (lZ x),()] w λe w'=>e=.returned (.int .i64 (X5 x s))/\Below w w w':=by
 obtain⟨it,ld,b,m0,m1,m2,m3⟩:=x;go_enter Tryz.func186,Tryz.ntmps186
 go_upto_region 1 with(fail)
 generalize hW:ja4 _ _=W0;have A0:At W0 w (.cells (lZ ⟨it,ld,b,m0,m1,m2,m3⟩) 232):=hW▸At.new _ _;have A2:aL W0 b s fl ap ib:=hW▸aL.alloc h _;have hB:Below w w W0:=hW▸aB aD _;clear hW h;obtain⟨l0,-, -, -, -, -, -, -, -, -, -, -, -, c0,c1,c2,c3,c4⟩:=At.im A0;obtain⟨l2,bS,bX,bY,bZ,cu,cK,bU,bV⟩:=At.bx0 A2;simp only at c0 c1 c2 c3 c4;exact Zy
theorem RY(x:Im)(s:Re.St)(fl ap:Value)(ib:Bool)(w:World)(h:aL w x.bx s fl ap ib):Calls ja0 186 #[.agg (lZ x),.int .i64 1] w λe w'=>e=.returned (.int .i64 (ext1 x s))/\Below w w w':=by
 obtain⟨it,ld,b,m0,m1,m2,m3⟩:=x;go_enter Tryz.func186,Tryz.ntmps186
 go_upto_region 1 with(fail)
 generalize hW:ja4 _ _=W0;have A0:At W0 w (.cells (lZ ⟨it,ld,b,m0,m1,m2,m3⟩) 232):=hW▸At.new _ _;have A2:aL W0 b s fl ap ib:=hW▸aL.alloc h _;have hB:Below w w W0:=hW▸aB aD _;clear hW h;obtain⟨l0,-, -, -, -, -, -, -, -, -, -, -, -, c0,c1,c2,c3,c4⟩:=At.im A0;obtain⟨l2,bS,bX,bY,bZ,cu,cK,bU,bV⟩:=At.bx1 A2;simp only at c0 c1 c2 c3 c4;exact Zy
def Bd(x:Im):Int:=Fw.wr (x.ld.s0+Fw.wr (x.m0+x.m1))
def Bf(x:Im):Int:=Fw.wr (x.ld.s1+Fw.wr (x.m2+x.m3))
theorem RZ(x:Im)(B:Nat)(w:World)(h:w.cell? ⟨B,0,none⟩=some (.int .i64 0)):Calls ja0 191 #[.agg (lZ x),B] w λe w'=>e=.returned (.int .i64 (Bd x))/\Below w w w':=by
 exact Ze
theorem R4(x:Im)(B:Nat)(w:World)(h:w.cell? ⟨B,0,none⟩=some (.int .i64 1)):Calls ja0 191 #[.agg (lZ x),B] w λe w'=>e=.returned (.int .i64 (Bf x))/\Below w w w':=by
 exact Ze
theorem X6(x:Im)(s:Re.St)(fl ap:Value)(ib:Bool)(B:Nat)(w:World)(hb:aL w x.bx s fl ap ib)(h:w.cell? ⟨B,0,none⟩=some (.int .i64 0)):Calls ja0 184 #[.agg (lZ x),B] w λe w'=>e=.returned (.int .i64 (Fw.wr (Fe.clamp x.it x.it.b+X5 x s)))/\Below w w w':=by
 obtain⟨⟨ib0,ilo,ihi,ig,is⟩,ld,b,m0,m1,m2,m3⟩:=x;have hlt:B<w.heap.size:=World.block_lt_of_cell? _ _ h;go_enter Tryz.func184,Tryz.ntmps184
 go_upto_region 1 with(fail)
 have hB:Below w w (w.alloc (.cells (lZ ⟨⟨ib0,ilo,ihi,ig,is⟩,ld,b,m0,m1,m2,m3⟩) 232)):=aB aD _;generalize hW:ja4 _ _=W0;have A0:At W0 w (.cells (lZ ⟨⟨ib0,ilo,ihi,ig,is⟩,ld,b,m0,m1,m2,m3⟩) 232):=hW▸At.new _ _;have A2:aL W0 b s fl ap ib:=hW▸aL.alloc hb _;replace hB:Below w w W0:=hW▸hB;have lB:B<W0.heap.size:=aT hlt hB.size;have cB:=(Below.cell_ hB hlt 0).trans h;clear hW h hlt hb;obtain⟨l0,e0,e1,e2,e3,e4,d0,d1,d2,d3,d4,d5,d6,c0,c1,c2,c3,c4⟩:=At.im A0;simp only at e0 e1 e2 e3 e4 d0 d1 d2 d3 d4 d5 d6 c0 c1 c2 c3 c4;have HX:aL W0 (Im.mk ⟨ib0,ilo,ihi,ig,is⟩ ld b m0 m1 m2 m3).bx s fl ap ib:=A2;have hx:=λw' (hS:Below W0 W0 w')=>RV ⟨⟨ib0,ilo,ihi,ig,is⟩,ld,b,m0,m1,m2,m3⟩ s fl ap ib w' (aL.keep HX hS);have hc:=λw'=>CQ ib0 ilo ihi ig is ib0 w';clear HX A2;have HI:=ah A0;refine rZ ?_
 (refine aj.iG aR Z3p ?_;(try simp only[bM,bN,bO,tks]))
 (refine aj.iG aR Z3p ?_;(try simp only[bM,bN,bO,tks]))
 (refine aj.iG aR Z3p ?_;(try simp only[bM,bN,bO,tks]))
 (refine aj.iG aR Z3p ?_;(try simp only[bM,bN,bO,tks]))
 (refine aj.iG aR Z3p ?_;(try simp only[bM,bN,bO,tks]))
 (refine aj.DI (o:=⟨_,.call ⟨.value _,_,_⟩,_,_,_,_⟩) aR (by intro w2 hS;go_simp;first|done|with_reducible rfl|exact⟨rfl,rfl⟩) (by intro w2 hS;(with_reducible refine(hc w2).mono ?_);rintro e w' ⟨rfl,hb⟩;exact⟨rfl,Below.after hS hb⟩) ?_;(try simp only[bM,bN,bO,tks]))
 (refine aj.iG aR (λw2 hS=>vM (.tmp 2) rfl rfl (At.keep HI.out hS)) ?_;(try simp only[bM,bN,bO,tks]))
 (refine aj.iG aR Z3p ?_;(try simp only[bM,bN,bO,tks]))
 (refine aj.DI (o:=⟨_,.call ⟨.value _,_,_⟩,_,_,_,_⟩) aR (by intro w2 hS;go_simp;first|done|with_reducible rfl|exact⟨rfl,rfl⟩) (by intro w2 hS;(with_reducible refine(hx w2 hS).mono ?_);rintro e w' ⟨rfl,hb⟩;exact⟨rfl,Below.after hS hb⟩) ?_;(try simp only[bM,bN,bO,tks]))
 (refine aj.iG aR Z3p ?_;(try simp only[bM,bN,bO,tks]))
 (refine aj.iG aR Z3p ?_;(try simp only[bM,bN,bO,tks]))
 refine aj.bD ?_;intro w2 hS;go_wp2
 go_ret
 exact⟨bA (by first|(simp only[uQ,qK];done)|(simp only[uQ,qK];rfl)),Below.ay hB aC hS⟩
theorem ad3(x:Im)(w:World):Calls ja0 190 #[.agg (lZ x)] w λe w'=>e=.returned (.int .i64 (Fe.clamp x.it x.it.b))/\Below w w w':=by
 obtain⟨⟨ib0,ilo,ihi,ig,is⟩,ld,b,m0,m1,m2,m3⟩:=x;go_enter Tryz.func190,Tryz.ntmps190
 go_upto_region 1 with(fail)
 have hB:Below w w (w.alloc (.cells (lZ ⟨⟨ib0,ilo,ihi,ig,is⟩,ld,b,m0,m1,m2,m3⟩) 232)):=aB aD _;generalize hW:ja4 _ _=W0;have A0:At W0 w (.cells (lZ ⟨⟨ib0,ilo,ihi,ig,is⟩,ld,b,m0,m1,m2,m3⟩) 232):=hW▸At.new _ _;replace hB:Below w w W0:=hW▸hB;clear hW;obtain⟨l0,e0,e1,e2,e3,e4,-, -, -, -, -, -, -, -, -, -, -, -⟩:=At.im A0;simp only at e0 e1 e2 e3 e4
 go_wp2_with (first|(go_at_call 185;(with_reducible refine(CQ _ _ _ _ _ _ _).mono ?_);rintro e w' ⟨rfl,hb⟩;(try replace hb:=Below.after (by assumption) hb);obtain⟨hc,hf⟩:=fO hb;have hz:=hb.size;(try simp at hz)))
 go_ret
 exact⟨rfl,hb⟩
def asI(s:Re.St)(y:Nat)(base room:Int):Fe.It:=⟨Fx.len (s.c 41) (s.c 42) room base,Fx.limit 0 (s.c (7+2*y)) (s.c (8+2*y)) 0 0 room,max (Fx.len (s.c (11+2*y)) (s.c (12+2*y)) room 1048576) 0,s.c 39,s.c 40⟩
def wP(x:Fe.It):Array Value:=#[x.b,x.lo,x.hi,x.g,x.s]
theorem At.ada{W:World}{x0 x1 x2 x3 x4:Value}(h:At W b (.cells #[x0,x1,x2,x3,x4] T)):b<W.heap.size/\W.cell? ⟨b,0,none⟩=some x0/\W.cell? ⟨b,1,none⟩=some x1/\W.cell? ⟨b,2,none⟩=some x2/\W.cell? ⟨b,3,none⟩=some x3/\W.cell? ⟨b,4,none⟩=some x4:=⟨h.lt,h.cell 0,h.cell 1,h.cell 2,h.cell 3,h.cell 4⟩
theorem R5(k0 n0 k1 n1 k2 n2:Int)(s:Re.St)(base room:Int)(w:World):Calls ja0 146 #[.agg #[k0,n0,k1,n1,k2,n2],.agg (cells s),base,room] w λe w'=>e=.returned (.agg #[.int .i64 (Fx.len (s.c 41) (s.c 42) room base),Fx.limit 0 k1 n1 0 0 room,.int .i64 (max (Fx.len k2 n2 room 1048576) 0),s.c 39,s.c 40])/\Below w w w':=by
 go_enter Tryz.func146,Tryz.ntmps146
 go_upto_region 1 with(fail)
 generalize hW:ja4 _ _=W0;have A0:At W0 w (.cells #[k0,n0,k1,n1,k2,n2] 157):=hW▸At.alloc (At.alloc (At.new _ _) _) _;have A1:At W0 (w.heap.size+1) (.cells (cells s) 68):=by rw[<-hW];exact At.alloc (At.new' _ Ku) _
 have A2:At W0 (w.heap.size+1+1) (.cells #[(),(),(),(),()] 230):=by rw[<-hW];exact At.new' _ Ku
 have hB:Below w w W0:=hW▸aB (aB (aB aD _) _) _;clear hW;obtain⟨l0,c0,c1,c2,c3,c4,c5⟩:=At.six A0;have l1:=A1.lt;have d0:=A1.st 41 aG rfl;have d1:=A1.st 42 aG rfl;have d2:=A1.st 39 aG rfl;have d3:=A1.st 40 aG rfl;refine xA 20 1 ?_
 (repeat (first|refine jc ?_ | refine jd ?_ (hc:=by intro w2 hS;first|with_reducible exact iq hS (iP _ _ _ _ _)|with_reducible exact iq hS (He _ _ _ _ _ _ _))|refine je ?_))
 refine aj.bL ?_;intro w2 hS;replace A2:=A2.keep hS;replace hB:=Below.ay hB aC hS;obtain⟨l2,y0,y1,y2,y3,y4⟩:=At.ada A2;have z0:=A2.thaw 0;have z1:=A2.thaw 1;have z2:=A2.thaw 2;have z3:=A2.thaw 3;have z4:=A2.thaw 4;refine wz ?_;intro K hK;go_simp;refine hK _ _ (aj.bC ?_);clear hK K;generalize hW:ja5 _ _ _=W1;replace A2:At W1 (w.heap.size+1+1) (.cells #[_,_,_,_,_] 230):=hW▸At.set (At.set (At.set (At.set (At.set A2 0 _) 1 _) 2 _) 3 _) 4 _;replace hB:Below w w W1:=hW▸Below.setCell (Below.setCell (Below.setCell (Below.setCell (Below.setCell hB iJ _) iJ _) iJ _) iJ _) iJ _;clear hW y0 y1 y2 y3 y4 z0 z1 z2 z3 z4 l2;obtain⟨l2,y0,y1,y2,y3,y4⟩:=At.ada A2;go_wp2;refine bodyPost_ret (v:=.agg #[_,_,_,_,_]) (by simp[results,Tryz.results146,go_sem, *];first|done|exact⟨rfl,rfl⟩|exact⟨rfl,rfl,rfl,rfl,rfl⟩|rfl) rfl ⟨MB rfl rfl rfl rfl rfl,hB⟩
theorem At.seven{W:World}{x0 x1 x2 x3 x4 x5 x6:Value}(h:At W b (.cells #[x0,x1,x2,x3,x4,x5,x6] T)):b<W.heap.size/\W.cell? ⟨b,0,none⟩=some x0/\W.cell? ⟨b,1,none⟩=some x1/\W.cell? ⟨b,2,none⟩=some x2/\W.cell? ⟨b,3,none⟩=some x3/\W.cell? ⟨b,4,none⟩=some x4/\W.cell? ⟨b,5,none⟩=some x5/\W.cell? ⟨b,6,none⟩=some x6:=⟨h.lt,h.cell 0,h.cell 1,h.cell 2,h.cell 3,h.cell 4,h.cell 5,h.cell 6⟩
structure p9 where
 lb:Nat
 bm:Nat
 km:Nat
 pm:Nat
 rm:Nat
 ww:Int
 wh:Int
 bl:Int->Nat
 vf:Int->Value
 va:Int->Value
structure RO(W:World)(Y:p9)(B:Int->Fw.Bx)(D:Int->Prop)(KM:World->Nat->Prop):Prop where
 lay:At W Y.lb (.cells #[Y.ww,Y.wh,.map (some Y.bm),.map (some Y.km),.map (some Y.pm),.map (some Y.rm)] 107)
 boxes:∃n g,GM 3 W Y.bm n g/\∀z,D z->g (.int .i64 z)=some (.pointer (some ⟨Y.bl z,0,none⟩))
 box:∀z,D z->aL W (Y.bl z) (B z).sty (Y.vf z) (Y.va z) (B z).ib/\KS W (Y.vf z) (B z).fl/\KS W (Y.va z) (B z).ap
 kinds:KM W Y.km
 wf:∀z,D z->Wf z
 FJ:∃es clock,At W Y.pm (.map es clock)
 pmb:Y.pm≠Y.bm
 pmk:Y.pm≠Y.km
 pmr:Y.pm≠Y.rm
theorem Out.cell(h:Out M W W')(o:Nat)(hb:b<W.heap.size)(hm:¬ M b):W'.cell? ⟨b,o,none⟩=W.cell? ⟨b,o,none⟩:=by
 have e:=h.2 b hb hm;unfold World.cell?;rw[e]
theorem Gc(v:Value)(h:Int)(W:World):(Instr.field 167 (.agg #[v,h]) 1).run ja0 W=.ok (.int .i64 h) W:=by kernel_rfl
theorem wC{q:Nat}(h:Out (λb=>b=q) W W'):∀b o,b<W.heap.size->b≠q->W'.cell? ⟨b,o,none⟩=W.cell? ⟨b,o,none⟩:=λb o hb hn=>Out.cell h o hb hn
theorem LH{q r:Nat}(h:Out (λb=>b=q\/b=r) W W'):∀b o,b<W.heap.size->b≠q->b≠r->W'.cell? ⟨b,o,none⟩=W.cell? ⟨b,o,none⟩:=λb o hb hn hm=>Out.cell h o hb (by rintro(e|e);exact hn e;exact hm e)
section
variable {W W':World} {Y:p9} {B:Int->Fw.Bx} {D:Int->Prop} {KM:World->Nat->Prop}
theorem RO.keep(hK:∀(X X':World) (b:Nat),KM X b->Below X X X'->KM X' b)(h:RO W Y B D KM)(hb:Below W W W'):RO W' Y B D KM where
 lay:=h.lay.keep hb
 boxes:=by obtain⟨n,g,h1,h2⟩:=h.boxes;exact⟨n,g,h1.keep hb,h2⟩
 box:=λz hz=>by obtain⟨h1,h2,h3⟩:=h.box z hz;exact⟨h1.keep hb,h2.after hb,h3.after hb⟩
 kinds:=hK _ _ _ h.kinds hb
 wf:=h.wf
 FJ:=by obtain⟨es,ck,q⟩:=h.FJ;exact⟨es,ck,q.keep hb⟩
 pmb:=h.pmb
 pmk:=h.pmk
 pmr:=h.pmr
theorem RO.look(h:RO W Y B D KM){z:Int}(hz:D z):(Instr.lookup 103 (.map (some Y.bm)) (.int .i64 z) false).run ja0 W=.ok (.pointer (some ⟨Y.bl z,0,none⟩)) W:=by
 obtain⟨n,g,h1,h2⟩:=h.boxes;rw[h1.look iT Tryz.underlying103 (z:=.pointer none) aV (iA (h.wf z hz)),h2 z hz];rfl
end
section
variable {Y:p9} {B:Int->Fw.Bx} {D:Int->Prop} {KM:World->Nat->Prop} {Iv Iv2:(Nat->Prop)->World->Prop}
theorem abL(hK:∀(X X':World) (b:Nat),KM X b->Below X X X'->KM X' b)(hI:∀{P M:Nat->Prop} {X X':World},Iv P X->Out M X X'->(∀b,P b->¬ M b)->Iv P X')(hI2:∀{P M:Nat->Prop} {X X':World},Iv2 P X->Out M X X'->(∀b,P b->¬ M b)->Iv2 P X')(h12:∀{P:Nat->Prop} {X:World},Iv P X->Iv2 P X)(P:Nat->Prop)
  (z r0 r1 t0 t1:Int) (hz:D z) (w:World) (hR:RO w Y B D KM) (hw:Iv P w) (hP:∀b,P b->b<w.heap.size) (cn:Int->Int->Int->List Fw.Ld×Int)
  (hin:∀X i0,RO X Y B D KM->Iv P X->i0=Fw.FU (B z).sty 0 r0 r0 t0->Calls ja0 83 #[Y.lb,.agg #[z,.int .i64 i0,.int .i64 (-1)]] X λe X'=>(∃v,e=.returned (.agg #[v,.int .i64 (cn z i0 (-1)).2]))/\(∃P',Iv2 P' X'/\∀b,P' b->P b\/X.heap.size<=b)/\Out (λb=>b=Y.pm) X X') :
  Calls ja0 45 #[Y.lb,z,.agg #[r0,r1],.agg #[t0,t1]] w λe w'=>e=.returned (.agg (dV (Fw.TH B cn z r0 r1 t0 t1)))/\(∃P',Iv2 P' w'/\∀b,P' b->P b\/w.heap.size<=b)/\Out (λb=>b=Y.pm) w w':=by
 obtain⟨es0,UJ,hpm⟩:=hR.FJ;have hpl:=hpm.lt;have hbx:=(hR.box z hz).1;have hblt:=hbx.lt
 have aiO:Y.bl z≠Y.pm:=λq=>by
  have:=At.uniq hbx (q▸hpm);cases this
 have F4:=hR.lay.lt;have wR:=ah hR;have hbig:=hR.keep hK (aB (aB (aB (Below.refl w.heap.size w) (.cells #[r0,r1] 95)) (.cells #[t0,t1] 95)) (.cells #[(),(),(),(),(),(),()] 101));have hl1:=hbig.look hz;have wK:=hbig.lay;clear hR;obtain⟨ans,eF⟩:∃x,Hid (Fw.TH B cn z r0 r1 t0 t1=x):=⟨_,ah rfl⟩;rw[eF.out];generalize hs:(B z).sty=s at *;generalize Y.vf z=vf at *;generalize Y.va z=va at *;generalize hib:(B z).ib=ib at *;generalize hbz:Y.bl z=bz at *;go_enter Tryz.func45,Tryz.ntmps45
 go_upto_region 1 with(fail)
 have A0:At (((w.alloc (.cells #[r0,r1] 95)).alloc (.cells #[t0,t1] 95)).alloc (.cells #[(),(),(),(),(),(),()] 101)) w.heap.size (.cells #[r0,r1] 95):=At.alloc (At.alloc (At.new _ _) _) _;have A1:At (((w.alloc (.cells #[r0,r1] 95)).alloc (.cells #[t0,t1] 95)).alloc (.cells #[(),(),(),(),(),(),()] 101)) (w.heap.size+1) (.cells #[t0,t1] 95):=At.alloc (At.new' _ Ku) _;have A3:At (((w.alloc (.cells #[r0,r1] 95)).alloc (.cells #[t0,t1] 95)).alloc (.cells #[(),(),(),(),(),(),()] 101)) (w.heap.size+1+1) (.cells #[(),(),(),(),(),(),()] 101):=At.new' _ Ku;have A2:=hbx.alloc (.cells #[r0,r1] 95) |>.alloc (.cells #[t0,t1] 95) |>.alloc (.cells #[(),(),(),(),(),(),()] 101)
 have hB:Below w w (((w.alloc (.cells #[r0,r1] 95)).alloc (.cells #[t0,t1] 95)).alloc (.cells #[(),(),(),(),(),(),()] 101)):=aB (aB (aB aD _) _) _;generalize ((w.alloc (.cells #[r0,r1] 95)).alloc (.cells #[t0,t1] 95)).alloc (.cells #[(),(),(),(),(),(),()] 101)=W0 at *;have Ca:=wK.lt;have l3':=A3.lt;have Gd:W0.cell? ⟨Y.lb,2,none⟩=some (.map (some Y.bm)):=wK.cell 2
 go_upto_region 3 with(fail)
 generalize hW:ja4 _ _=W1;have A4:At W1 W0 (.cells #[z,(),(),(),(),(),()] 101):=hW▸At.new _ _;replace A0:At W1 _ _:=hW▸At.alloc A0 _;replace A1:At W1 _ _:=hW▸At.alloc A1 _;replace A2:At W1 _ _:=hW▸At.alloc A2 _;replace A3:At W1 _ _:=hW▸At.alloc A3 _;replace hB:Below w w W1:=hW▸aB hB _;clear hW hl1 wK Gd Ca hbig;generalize W0.heap.size=bx at *;have c0:=A0.lc;have c1:=A1.lc;obtain⟨l2,bS,bX,bY,bZ,cu,cK,bU,bV⟩:=At.bx0 A2;obtain⟨l3,jJ,jK,jL,jM,jN,jO,jP⟩:=At.seven A3;have z3:=A3.thaw;have c4:=A4.nM;go_wp2;refine wp_loop_rounds 3 ?_;rw[rounds_succ]
 go_upto_region 6 with(fail)
 go_upto_region 7 with(first|(go_at_call 85;(with_reducible refine(af5 _ _ _ _ _ _ _ _ _ _ (by first|exact A2|exact At.keep A2 hS)).mono ?_);rintro e w' ⟨rfl,hb⟩;(clear c0 c1 l2 bS bX bY bZ cu cK bU bV l3 jJ jK jL jM jN jO jP z3 c4);(replace hB:=Below.ay qN aC hb);replace A0:=At.keep uL hb;replace A1:=At.keep sH hb;replace A2:=At.keep uh hb;replace A3:=At.keep zG hb;replace A4:=At.keep Z3x hb;clear hb;have c0:=A0.lc;have c1:=A1.lc;obtain⟨l2,bS,bX,bY,bZ,cu,cK,bU,bV⟩:=At.bx0 A2;obtain⟨l3,jJ,jK,jL,jM,jN,jO,jP⟩:=At.seven A3;have z3:=A3.thaw;have c4:=A4.nM))
 generalize hW:ja5 _ _ _=W2;clear c0 c1 l2 bS bX bY bZ cu cK bU bV l3 jJ jK jL jM jN jO jP z3 c4;replace A4:At W2 bx (.cells #[z,Fw.FU s 0 r0 r0 t0,(),(),(),(),()] 101):=hW▸At.set (A4) 1 _;replace A0:At W2 _ _:=hW▸At.off (A0) ak _ _;replace A1:At W2 _ _:=hW▸At.off (A1) ak _ _;replace A2:At W2 _ _:=hW▸At.off (A2) ak _ _;replace A3:At W2 _ _:=hW▸At.off (A3) ak _ _;replace hB:Below w w W2:=hW▸Below.setCell (hB) iJ _;clear hW;have c0:=A0.lc;have c1:=A1.lc;obtain⟨l2,bS,bX,bY,bZ,cu,cK,bU,bV⟩:=At.bx0 A2;obtain⟨l3,jJ,jK,jL,jM,jN,jO,jP⟩:=At.seven A3;have z3:=A3.thaw;have c4:=A4.nM;obtain⟨l2,bS,bX,bY,bZ,cu,cK,bU,bV⟩:=At.bx1 A2;go_wp2;rw[rounds_succ]
 go_upto_region 6 with(fail)
 go_upto_region 7 with(first|(go_at_call 85;(with_reducible refine(af6 _ _ _ _ _ _ _ _ _ _ (by first|exact A2|exact At.keep A2 hS)).mono ?_);rintro e w' ⟨rfl,hb⟩;(clear c0 c1 l2 bS bX bY bZ cu cK bU bV l3 jJ jK jL jM jN jO jP z3 c4);(replace hB:=Below.ay qN aC hb);replace A0:=At.keep uL hb;replace A1:=At.keep sH hb;replace A2:=At.keep uh hb;replace A3:=At.keep zG hb;replace A4:=At.keep Z3x hb;clear hb;have c0:=A0.lc;have c1:=A1.lc;obtain⟨l2,bS,bX,bY,bZ,cu,cK,bU,bV⟩:=At.bx1 A2;obtain⟨l3,jJ,jK,jL,jM,jN,jO,jP⟩:=At.seven A3;have z3:=A3.thaw;have c4:=A4.nM))
 generalize hW:ja5 _ _ _=W3;clear c0 c1 l2 bS bX bY bZ cu cK bU bV l3 jJ jK jL jM jN jO jP z3 c4;replace A4:At W3 bx (.cells #[z,Fw.FU s 0 r0 r0 t0,Fw.FU s 1 r0 r1 t1,(),(),(),()] 101):=hW▸At.set (A4) 2 _;replace A0:At W3 _ _:=hW▸At.off (A0) ak _ _;replace A1:At W3 _ _:=hW▸At.off (A1) ak _ _;replace A2:At W3 _ _:=hW▸At.off (A2) ak _ _;replace A3:At W3 _ _:=hW▸At.off (A3) ak _ _;replace hB:Below w w W3:=hW▸Below.setCell (hB) iJ _;clear hW;have c0:=A0.lc;have c1:=A1.lc;obtain⟨l2,bS,bX,bY,bZ,cu,cK,bU,bV⟩:=At.bx1 A2;obtain⟨l3,jJ,jK,jL,jM,jN,jO,jP⟩:=At.seven A3;have z3:=A3.thaw;have c4:=A4.nM;obtain⟨i0,HI0⟩:∃x,Hid (Fw.FU s 0 r0 r0 t0=x):=⟨_,ah rfl⟩;obtain⟨i1,HI1⟩:∃x,Hid (Fw.FU s 1 r0 r1 t1=x):=⟨_,ah rfl⟩;rw[HI0.out,HI1.out]at A4;clear c4;have c4:=A4.nM;go_wp2;rw[rounds_succ]
 go_upto_region 8 with(fail)
 go_upto_region 9 with(fail)
 generalize hW:ja5 _ _ _=W4;clear c0 c1 l2 bS bX bY bZ cu cK bU bV l3 jJ jK jL jM jN jO jP z3 c4;replace A4:At W4 bx (.cells #[z,i0,i1,i0,i1,(),()] 101):=hW▸At.set (At.set (A4) 3 _) 4 _;replace A0:At W4 _ _:=hW▸At.off (At.off (A0) ak _ _) ak _ _;replace A1:At W4 _ _:=hW▸At.off (At.off (A1) ak _ _) ak _ _;replace A2:At W4 _ _:=hW▸At.off (At.off (A2) ak _ _) ak _ _;replace A3:At W4 _ _:=hW▸At.off (At.off (A3) ak _ _) ak _ _;replace hB:Below w w W4:=hW▸Below.setCell (Below.setCell (hB) iJ _) iJ _;clear hW;have c0:=A0.lc;have c1:=A1.lc;obtain⟨l2,bS,bX,bY,bZ,cu,cK,bU,bV⟩:=At.bx1 A2;obtain⟨l3,jJ,jK,jL,jM,jN,jO,jP⟩:=At.seven A3;have z3:=A3.thaw;have c4:=A4.nM;have lp0:w.heap.size≠Y.pm:=by omega
 have lp1:w.heap.size+1≠Y.pm:=by omega
 have lp3:w.heap.size+1+1≠Y.pm:=by omega
 have lp4:bx≠Y.pm:=by omega
 by_cases hu:i1 = -1
 . have HU:=ah hu
   subst hu
   go_upto_region 10 with(fail)
   have hR4:=wR.out.keep hK (Below.drew hB);have UK:=hI (M:=λ_=>False) hw (Out.of_below (Below.drew hB)) λ_ _ q=>q;have hcall:=hin _ i0 hR4 UK HI0.out.symm;have hO4:Out (λb=>b=Y.pm) W4 W4.drew:=(Out.refl _ _).drew;have Kt:bz≠Y.pm:=aiO;have lbx:bz≠bx:=by omega
   have lx0:w.heap.size≠bx:=by omega
   have lk4:bx<W4.heap.size:=c4.1;have lk3:w.heap.size+1+1<W4.heap.size:=l3;have mkS:∀X,Out (λb=>b=Y.pm) W4 X->Out (λb=>b=Y.pm\/b=bx) W4 X/\X.cell? ⟨bx,0,none⟩=some (.int .i64 z)/\X.cell? ⟨bx,1,none⟩=some (.int .i64 i0)/\X.cell? ⟨bx,2,none⟩=some (.int .i64 (-1)):=λX h=>⟨h.mono λb _ q => .inl q,(wC h _ _ c4.1 lp4).trans (c4.2.1 0),(wC h _ _ c4.1 lp4).trans (c4.2.1 1),(wC h _ _ c4.1 lp4).trans (c4.2.1 2)⟩;have MKS:=ah mkS;clear mkS;clear c4;refine iC (S:=λX=>Out (λb=>b=Y.pm\/b=bx) W4 X/\X.cell? ⟨bx,0,none⟩=some (.int .i64 z)/\X.cell? ⟨bx,1,none⟩=some (.int .i64 i0)/\X.cell? ⟨bx,2,none⟩=some (.int .i64 (-1))) 16 ?_ ?_
   . exact MKS.out _ hO4
   intro hS5;refine fJ 0 ?_;refine fJ 1 ?_;refine fJ 2 ?_;refine fJ 3 ?_;refine fJ 4 ?_;refine fJ 5 ?_;refine fJ 6 ?_;refine fJ 7 ?_;refine fJ 10 ?_;refine fJ 11 ?_;refine fJ 13 ?_;refine tk1 8 ?_;refine aj.Step.call eD hcall ?_;rintro e w5 ⟨⟨v,rfl⟩,⟨P5,hI5,CU⟩,BI⟩;refine⟨_,rfl,λ_=>MKS.out _ (hO4.trans BI),?_⟩;replace hO4:=hO4.trans BI;replace hS5:=MKS.out _ hO4;clear hcall BI;have hfc:=Gc v (cn z i0 (-1)).2
   (try simp only[bM,bN,bO,tks])
   refine fJ 9 ?_;refine tk1 12 ?_;refine aj.Step.call (by go_simp;first|done|with_reducible rfl|exact⟨⟨rfl,rfl,rfl,rfl,rfl,rfl⟩,rfl,rfl⟩|exact⟨⟨⟨rfl,rfl,rfl,rfl,rfl,rfl⟩,rfl,rfl⟩,rfl⟩) (rA _ _ _ _ _ _ _ _ _) ?_;rintro e w6 ⟨rfl,hb6⟩;refine⟨_,rfl,λ_=>MKS.out _ (hO4.trans (Out.of_below hb6)),?_⟩;replace hO4:=hO4.trans (Out.of_below hb6);replace hS5:=MKS.out _ hO4;replace hI5:=hI2 (M:=λ_=>False) hI5 (Out.of_below hb6) λ_ _ q=>q;clear hb6
   (try simp only[bM,bN,bO,tks])
   refine fJ 14 ?_;refine tk1 15 ?_;have A5:=A4.out lp4 hO4;have d4:w6.cell? ⟨bx,4,none⟩=some (.int .i64 (-1)):=A5.cell 4;have e4:=A5.thaw 4;refine aj.Step.skip eD ?_;refine⟨λ_=>⟨Out.set (hO4.mono λb _ q => .inl q) (.inr rfl) 4 _,(A5.set 4 _).cell 0,(A5.set 4 _).cell 1,(A5.set 4 _).cell 2⟩,?_⟩
   (try simp only[Act.put])
   refine gZ ?_;have hQ:Out (λb=>b=bx\/b=w.heap.size+1+1) w6 w6:=Out.refl _ _;replace A0:=A0.out lp0 hO4;replace A1:=A1.out lp1 hO4;replace A2:=At.out A2 Kt hO4;replace A3:=A3.out lp3 hO4;replace A4:=A5;clear A5 d4 e4 hS5;obtain⟨hh,MJ⟩:=aA (Fw.lim s 1 (cn z i0 (-1)).2 r1);have hlm:Fx.limit (cn z i0 (-1)).2 (s.c 9) (s.c 10) (s.c 13) (s.c 14) r1=hh:=MJ;rw[hlm];clear hlm;have HHH:=ah MJ;clear MJ;have akD:W4.heap.size<=w6.heap.size:=hO4.size;clear c0 c1 l2 bS bX bY bZ cu cK bU bV l3 jJ jK jL jM jN jO jP z3;generalize hW:ja5 _ _ _=W5;replace A4:At W5 bx (.cells #[z,i0,.int .i64 (-1),i0,hh,(),()] 101):=hW▸At.set (A4) 4 _;replace A0:At W5 _ _:=hW▸At.off (A0) ak _ _;replace A1:At W5 _ _:=hW▸At.off (A1) ak _ _;replace A2:At W5 _ _:=hW▸At.off (A2) ak _ _;replace A3:At W5 _ _:=hW▸At.off (A3) ak _ _;replace hQ:Out _ _ W5:=hW▸Out.set (hQ) (.inl rfl) 4 _;clear hW;have c0:=A0.lc;have c1:=A1.lc;obtain⟨l2,bS,bX,bY,bZ,cu,cK,bU,bV⟩:=At.bx0 A2;obtain⟨l3,jJ,jK,jL,jM,jN,jO,jP⟩:=At.seven A3;have z3:=A3.thaw;have c4:=A4.nM;go_wp2;refine wp_loop_rounds 3 ?_;rw[rounds_succ]
   go_upto_region 14 with(fail)
   refine xA 14 1 ?_
   (repeat (first|refine jc ?_ | refine jd ?_ (hc:=by intro w2 hS;first|with_reducible exact iq hS (eY _ _ _))|refine je ?_))
   refine aj.bL ?_;intro w2 hS;clear c0 c1 l2 bS bX bY bZ cu cK bU bV l3 jJ jK jL jM jN jO jP z3 c4;replace hQ:=hQ.trans (Out.of_below hS);replace A0:=At.keep A0 hS;replace A1:=At.keep A1 hS;replace A2:=At.keep A2 hS;replace A3:=At.keep A3 hS;replace A4:=At.keep A4 hS;clear hS;have c0:=A0.lc;have c1:=A1.lc;obtain⟨l2,bS,bX,bY,bZ,cu,cK,bU,bV⟩:=At.bx0 A2;obtain⟨l3,jJ,jK,jL,jM,jN,jO,jP⟩:=At.seven A3;have z3:=A3.thaw;have c4:=A4.nM;refine wz ?_;intro K hK;go_simp;refine hK _ _ (aj.bC ?_);clear hK K;generalize hW:ja5 _ _ _=W6;clear c0 c1 l2 bS bX bY bZ cu cK bU bV l3 jJ jK jL jM jN jO jP z3 c4;replace A4:At W6 bx (.cells #[z,i0,.int .i64 (-1),.int .i64 (IntKind.i64.wrap (i0+Fw.wr (Fw.ed s 3+Fw.ed s 1))),hh,(),()] 101):=hW▸At.set (A4) 3 _;replace A0:At W6 _ _:=hW▸At.off (A0) ak _ _;replace A1:At W6 _ _:=hW▸At.off (A1) ak _ _;replace A2:At W6 _ _:=hW▸At.off (A2) ak _ _;replace A3:At W6 _ _:=hW▸At.off (A3) ak _ _;replace hQ:Out _ _ W6:=hW▸Out.set (hQ) (.inl rfl) 3 _;clear hW;have c0:=A0.lc;have c1:=A1.lc;obtain⟨l2,bS,bX,bY,bZ,cu,cK,bU,bV⟩:=At.bx0 A2;obtain⟨l3,jJ,jK,jL,jM,jN,jO,jP⟩:=At.seven A3;have z3:=A3.thaw;have c4:=A4.nM;obtain⟨l2,bS,bX,bY,bZ,cu,cK,bU,bV⟩:=At.bx1 A2;go_wp2;rw[rounds_succ]
   go_upto_region 14 with(fail)
   refine xA 14 1 ?_
   (repeat (first|refine jc ?_ | refine jd ?_ (hc:=by intro w2 hS;first|with_reducible exact iq hS (eY _ _ _))|refine je ?_))
   refine aj.bL ?_;intro w2 hS;clear c0 c1 l2 bS bX bY bZ cu cK bU bV l3 jJ jK jL jM jN jO jP z3 c4;replace hQ:=hQ.trans (Out.of_below hS);replace A0:=At.keep A0 hS;replace A1:=At.keep A1 hS;replace A2:=At.keep A2 hS;replace A3:=At.keep A3 hS;replace A4:=At.keep A4 hS;clear hS;have c0:=A0.lc;have c1:=A1.lc;obtain⟨l2,bS,bX,bY,bZ,cu,cK,bU,bV⟩:=At.bx1 A2;obtain⟨l3,jJ,jK,jL,jM,jN,jO,jP⟩:=At.seven A3;have z3:=A3.thaw;have c4:=A4.nM;refine wz ?_;intro K hK;go_simp;refine hK _ _ (aj.bC ?_);clear hK K;generalize hW:ja5 _ _ _=W7;clear c0 c1 l2 bS bX bY bZ cu cK bU bV l3 jJ jK jL jM jN jO jP z3 c4;replace A4:At W7 bx (.cells #[z,i0,.int .i64 (-1),.int .i64 (IntKind.i64.wrap (i0+Fw.wr (Fw.ed s 3+Fw.ed s 1))),.int .i64 (IntKind.i64.wrap (hh+Fw.wr (Fw.ed s 0+Fw.ed s 2))),(),()] 101):=hW▸At.set (A4) 4 _;replace A0:At W7 _ _:=hW▸At.off (A0) ak _ _;replace A1:At W7 _ _:=hW▸At.off (A1) ak _ _;replace A2:At W7 _ _:=hW▸At.off (A2) ak _ _;replace A3:At W7 _ _:=hW▸At.off (A3) ak _ _;replace hQ:Out _ _ W7:=hW▸Out.set (hQ) (.inl rfl) 4 _;clear hW;have c0:=A0.lc;have c1:=A1.lc;obtain⟨l2,bS,bX,bY,bZ,cu,cK,bU,bV⟩:=At.bx1 A2;obtain⟨l3,jJ,jK,jL,jM,jN,jO,jP⟩:=At.seven A3;have z3:=A3.thaw;have c4:=A4.nM;go_wp2;rw[rounds_succ];go_wp2;have eO:ans=⟨z,i0,-1,Fw.wr (i0+Fw.wD s 0),Fw.wr (hh+Fw.wD s 1),0,0⟩:=by
    rw[<-eF.out];unfold Fw.TH;simp only[hs,HI0.out,HI1.out,HHH.out,if_true]
   subst eO;simp only[uQ];generalize hW:ja5 _ _ _=W8;clear c0 c1 l2 bS bX bY bZ cu cK bU bV c4 l3 jJ jK jL jM jN jO jP z3;replace A3:At W8 (w.heap.size+1+1) (.cells #[z,i0,.int .i64 (-1),.int .i64 (Fw.wr (i0+Fw.wD s 0)),.int .i64 (Fw.wr (hh+Fw.wD s 1)),(),()] 101):=hW▸At.set (At.set (At.set (At.set (At.set (At.set (At.set (A3) 0 _) 1 _) 2 _) 3 _) 4 _) 5 _) 6 _;replace A0:At W8 _ _:=hW▸At.off (At.off (At.off (At.off (At.off (At.off (At.off (A0) ak _ _) ak _ _) ak _ _) ak _ _) ak _ _) ak _ _) ak _ _;replace A1:At W8 _ _:=hW▸At.off (At.off (At.off (At.off (At.off (At.off (At.off (A1) ak _ _) ak _ _) ak _ _) ak _ _) ak _ _) ak _ _) ak _ _;replace A2:At W8 _ _:=hW▸At.off (At.off (At.off (At.off (At.off (At.off (At.off (A2) ak _ _) ak _ _) ak _ _) ak _ _) ak _ _) ak _ _) ak _ _;replace A4:At W8 _ _:=hW▸At.off (At.off (At.off (At.off (At.off (At.off (At.off (A4) ak _ _) ak _ _) ak _ _) ak _ _) ak _ _) ak _ _) ak _ _;replace hQ:Out _ _ W8:=hW▸Out.set (Out.set (Out.set (Out.set (Out.set (Out.set (Out.set (hQ) (.inr rfl) 0 _) (.inr rfl) 1 _) (.inr rfl) 2 _) (.inr rfl) 3 _) (.inr rfl) 4 _) (.inr rfl) 5 _) (.inr rfl) 6 _;clear hW;have c0:=A0.lc;have c1:=A1.lc;obtain⟨l2,bS,bX,bY,bZ,cu,cK,bU,bV⟩:=At.bx1 A2;have c4:=A4.nM;obtain⟨l3,jJ,jK,jL,jM,jN,jO,jP⟩:=At.seven A3;have z3:=A3.thaw;refine bodyPost_ret (v:=.agg #[_,_,_,_,_,_,_]) (by simp[results,Tryz.results45,go_sem,jJ,jK,jL,jM,jN,jO,jP];first|done|exact⟨rfl,rfl,rfl,rfl,rfl,rfl,rfl⟩|rfl) rfl ⟨rfl,⟨P5,hI2 hI5 hQ (λb q => ?_),λb q => ?_⟩,?_⟩
   . rintro(rfl|rfl)
     . rcases CU _ q with q|q
       . exact absurd (hP _ q) ak
       . simp only[World.size_drew]at q;omega
     . rcases CU _ q with q|q
       . exact absurd (hP _ q) ak
       . simp only[World.size_drew]at q;omega
   . rcases CU _ q with q|q
     . exact .inl q
     . exact .inr (by simp only[World.size_drew]at q;exact aJ hB.size q)
   . exact Out.trans' ((Out.of_below hB).trans hO4) hQ λb hb q=>by rcases q with rfl|rfl<;>omega
 . have hne:(i1 == -1)=false:=by simpa using hu
   have HNE:=ah hu;clear hu;obtain⟨hh,MJ⟩:=aA i1
   go_upto_region 11 with(fail)
   replace A4:At W4 bx (.cells #[z,i0,i1,i0,hh,(),()] 101):=MJ▸A4;have c4:=A4.lc;obtain⟨l2,bS,bX,bY,bZ,cu,cK,bU,bV⟩:=At.bx0 A2;have g0:=hB.size;go_wp2;refine wp_loop_rounds 3 ?_;rw[rounds_succ]
   go_upto_region 14 with(fail)
   refine xA 14 1 ?_
   (repeat (first|refine jc ?_ | refine jd ?_ (hc:=by intro w2 hS;first|with_reducible exact iq hS (eY _ _ _))|refine je ?_))
   refine aj.bL ?_;intro w2 hS
   (clear c0 c1 l2 bS bX bY bZ cu cK bU bV l3 jJ jK jL jM jN jO jP z3 c4);(replace hB:=Below.ay qN aC hS);replace A0:=At.keep uL hS;replace A1:=At.keep sH hS;replace A2:=At.keep uh hS;replace A3:=At.keep zG hS;replace A4:=At.keep Z3x hS;clear hS;have c0:=A0.lc;have c1:=A1.lc;obtain⟨l2,bS,bX,bY,bZ,cu,cK,bU,bV⟩:=At.bx0 A2;obtain⟨l3,jJ,jK,jL,jM,jN,jO,jP⟩:=At.seven A3;have z3:=A3.thaw;have c4:=A4.nM
   refine wz ?_;intro K hK;go_simp;refine hK _ _ (aj.bC ?_);clear hK K;generalize hW:ja5 _ _ _=W6;clear c0 c1 l2 bS bX bY bZ cu cK bU bV l3 jJ jK jL jM jN jO jP z3 c4;replace A4:At W6 bx (.cells #[z,i0,i1,.int .i64 (IntKind.i64.wrap (i0+Fw.wr (Fw.ed s 3+Fw.ed s 1))),hh,(),()] 101):=hW▸At.set (A4) 3 _;replace A0:At W6 _ _:=hW▸At.off (A0) ak _ _;replace A1:At W6 _ _:=hW▸At.off (A1) ak _ _;replace A2:At W6 _ _:=hW▸At.off (A2) ak _ _;replace A3:At W6 _ _:=hW▸At.off (A3) ak _ _;replace hB:Below w w W6:=hW▸Below.setCell (hB) iJ _;clear hW;have c0:=A0.lc;have c1:=A1.lc;obtain⟨l2,bS,bX,bY,bZ,cu,cK,bU,bV⟩:=At.bx0 A2;obtain⟨l3,jJ,jK,jL,jM,jN,jO,jP⟩:=At.seven A3;have z3:=A3.thaw;have c4:=A4.nM;obtain⟨l2,bS,bX,bY,bZ,cu,cK,bU,bV⟩:=At.bx1 A2;go_wp2;rw[rounds_succ]
   go_upto_region 14 with(fail)
   refine xA 14 1 ?_
   (repeat (first|refine jc ?_ | refine jd ?_ (hc:=by intro w2 hS;first|with_reducible exact iq hS (eY _ _ _))|refine je ?_))
   refine aj.bL ?_;intro w2 hS
   (clear c0 c1 l2 bS bX bY bZ cu cK bU bV l3 jJ jK jL jM jN jO jP z3 c4);(replace hB:=Below.ay qN aC hS);replace A0:=At.keep uL hS;replace A1:=At.keep sH hS;replace A2:=At.keep uh hS;replace A3:=At.keep zG hS;replace A4:=At.keep Z3x hS;clear hS;have c0:=A0.lc;have c1:=A1.lc;obtain⟨l2,bS,bX,bY,bZ,cu,cK,bU,bV⟩:=At.bx1 A2;obtain⟨l3,jJ,jK,jL,jM,jN,jO,jP⟩:=At.seven A3;have z3:=A3.thaw;have c4:=A4.nM
   refine wz ?_;intro K hK;go_simp;refine hK _ _ (aj.bC ?_);clear hK K;generalize hW:ja5 _ _ _=W7;clear c0 c1 l2 bS bX bY bZ cu cK bU bV l3 jJ jK jL jM jN jO jP z3 c4;replace A4:At W7 bx (.cells #[z,i0,i1,.int .i64 (IntKind.i64.wrap (i0+Fw.wr (Fw.ed s 3+Fw.ed s 1))),.int .i64 (IntKind.i64.wrap (hh+Fw.wr (Fw.ed s 0+Fw.ed s 2))),(),()] 101):=hW▸At.set (A4) 4 _;replace A0:At W7 _ _:=hW▸At.off (A0) ak _ _;replace A1:At W7 _ _:=hW▸At.off (A1) ak _ _;replace A2:At W7 _ _:=hW▸At.off (A2) ak _ _;replace A3:At W7 _ _:=hW▸At.off (A3) ak _ _;replace hB:Below w w W7:=hW▸Below.setCell (hB) iJ _;clear hW;have c0:=A0.lc;have c1:=A1.lc;obtain⟨l2,bS,bX,bY,bZ,cu,cK,bU,bV⟩:=At.bx1 A2;obtain⟨l3,jJ,jK,jL,jM,jN,jO,jP⟩:=At.seven A3;have z3:=A3.thaw;have c4:=A4.nM;go_wp2;rw[rounds_succ];go_wp2;have eO:ans=⟨z,i0,hh,Fw.wr (i0+Fw.wD s 0),Fw.wr (hh+Fw.wD s 1),0,0⟩:=by
    rw[<-eF.out];unfold Fw.TH;simp only[hs,HI0.out,HI1.out,MJ,if_neg (show¬ hh = -1 from MJ▸HNE.out)]
   subst eO;simp only[uQ];generalize hW:ja5 _ _ _=W8;clear c0 c1 l2 bS bX bY bZ cu cK bU bV c4 l3 jJ jK jL jM jN jO jP z3;replace A3:At W8 (w.heap.size+1+1) (.cells #[z,i0,hh,.int .i64 (Fw.wr (i0+Fw.wD s 0)),.int .i64 (Fw.wr (hh+Fw.wD s 1)),(),()] 101):=hW▸At.set (At.set (At.set (At.set (At.set (At.set (At.set (A3) 0 _) 1 _) 2 _) 3 _) 4 _) 5 _) 6 _;replace A0:At W8 _ _:=hW▸At.off (At.off (At.off (At.off (At.off (At.off (At.off (A0) ak _ _) ak _ _) ak _ _) ak _ _) ak _ _) ak _ _) ak _ _;replace A1:At W8 _ _:=hW▸At.off (At.off (At.off (At.off (At.off (At.off (At.off (A1) ak _ _) ak _ _) ak _ _) ak _ _) ak _ _) ak _ _) ak _ _;replace A2:At W8 _ _:=hW▸At.off (At.off (At.off (At.off (At.off (At.off (At.off (A2) ak _ _) ak _ _) ak _ _) ak _ _) ak _ _) ak _ _) ak _ _;replace A4:At W8 _ _:=hW▸At.off (At.off (At.off (At.off (At.off (At.off (At.off (A4) ak _ _) ak _ _) ak _ _) ak _ _) ak _ _) ak _ _) ak _ _;replace hB:Below w w W8:=hW▸Below.setCell (Below.setCell (Below.setCell (Below.setCell (Below.setCell (Below.setCell (Below.setCell (hB) iJ _) iJ _) iJ _) iJ _) iJ _) iJ _) iJ _;clear hW;have c0:=A0.lc;have c1:=A1.lc;obtain⟨l2,bS,bX,bY,bZ,cu,cK,bU,bV⟩:=At.bx1 A2;have c4:=A4.nM;obtain⟨l3,jJ,jK,jL,jM,jN,jO,jP⟩:=At.seven A3;have z3:=A3.thaw;refine bodyPost_ret (v:=.agg #[.int .i64 _,.int .i64 _,.int .i64 _,.int .i64 _,.int .i64 _,.int .i64 _,.int .i64 _]) (by simp[results,Tryz.results45,go_sem,jJ,jK,jL,jM,jN,jO,jP];first|done|exact⟨rfl,rfl,rfl,rfl,rfl,rfl,rfl⟩|rfl) rfl ⟨rfl,⟨P,h12 (hI (M:=λ_=>False) hw (Out.of_below hB) λ_ _ q=>q),λb q => .inl q⟩,Out.of_below hB⟩
end
theorem abM(hi:∀W,(isAgg T).run ja0 W=.ok true W)(hz:∀W,(sizeOf T).run ja0 W=.ok n W){W:World}{vs:Array Value}(hs:vs.size=n)(h:∀j,j<n->W.cell? ⟨R,q+j,none⟩=vs[j]?) :
  (Instr.loadAt T (.pointer (some ⟨R,q,none⟩))).run ja0 W=.ok (.agg vs) W:=by
 have hl:=run_loadCells_list (P:=ja0) W ⟨R,q,none⟩ vs.toList (λj v hj=>by
  have hj':j<n:=by have:=(List.getElem?_eq_some_iff.1 hj).1;simpa[hs]using this
  rw[addr_add,h j hj'];rw[Array.getElem?_toList]at hj
  exact hj)
 rw[Array.length_toList,hs]at hl;simp only[Instr.loadAt,Instr.sureAddr,loadVar,Sem.run_bind,Sem.run_pure,hi W,hz W,hl,Result.andThen_ok,if_true]
def splice(cs:Array Value)(q:Nat)(vs:Array Value):Array Value:=(cs.toList.take q++vs.toList++cs.toList.drop (q+vs.size)).toArray
theorem dZ(h:vs.size=cs.size):splice cs 0 vs=vs:=by
 unfold splice;rw[List.take_zero,List.nil_append,Nat.zero_add,h,List.drop_of_length_le aW,List.append_nil]
theorem iM{q:Nat}(h:q+vs.size<=cs.size):(splice cs q vs).size=cs.size:=by
 simp[splice];omega
theorem mH{q j:Nat}(h:q+vs.size<=cs.size)(hj:j<vs.size):(splice cs q vs)[q+j]? = vs[j]? := by
 unfold splice;rw[jb1,List.append_assoc,List.getElem?_append_right iJ,List.getElem?_append_left iJ];have e:q+j-(cs.toList.take q).length=j:=by simp;omega
 rw[e,Array.getElem?_toList]
theorem gX{q k:Nat}(h:q+vs.size<=cs.size)(hk:k<q\/q+vs.size<=k):(splice cs q vs)[k]? = cs[k]? := by
 unfold splice;rw[jb1];rcases hk with hk|hk
 . rw[List.append_assoc,List.getElem?_append_left iJ,List.getElem?_take,if_pos hk,Array.getElem?_toList]
 . rw[List.getElem?_append_right iJ,List.getElem?_drop,Array.getElem?_toList]
   congr 1;simp;omega
theorem X7(hz:∀W,(sizeOf T).run ja0 W=.ok n W){W:World}(hA:At W R (.cells cs T'))(hs:vs.size=n)(hf:q+n<=cs.size)(h1:∀v∈vs.toList,v.oneCell'=true) :
  (Instr.storeAt T (.pointer (some ⟨R,q,none⟩)) (.agg vs)).run ja0 W=.ok () (W.setRow R (splice cs q vs)):=by
 have hl:=run_storeCells_at (P:=ja0) R q T' vs.toList 0 cs W hA iJ h1;simp only[Nat.add_zero,Array.length_toList]at hl;have hv:(storeVar T ⟨R,q,none⟩ (.agg vs)).run ja0 W=.ok () (W.setRow R (splice cs q vs)):=by
  simp[storeVar,hz W,Value.cells,hs];simpa[splice,hs]using hl
 simp only[Instr.storeAt,Instr.sureAddr,Sem.run_bind,Sem.run_pure,Result.andThen_ok,hv]
section
variable {ops:Array Oper} {rest:List Oper} {o:Oper} {a:Act} {w w':World} {Q:Exit->Act->World->Prop}
theorem fM(hi:∀W,(isAgg T).run ja0 W=.ok true W)(hz:∀W,(sizeOf T).run ja0 W=.ok n W)(p:Operand)(ho:o.op=.load T p)(hp:a.eval p=.pointer (some ⟨R,q,none⟩)){vs:Array Value}(hs:vs.size=n)(h:∀j,j<n->w.cell? ⟨R,q+j,none⟩=vs[j]?):(execOp a.eval o).run ja0 w=.ok (.value (.agg vs)) w:=by
 unfold execOp;simp only[ho,hp,Sem.run_bind,abM hi hz hs h,Result.andThen_ok,Sem.run_pure]
theorem aY(hz:∀W,(sizeOf T).run ja0 W=.ok n W)(p x:Operand)(ho:o.op=.store T p x)(hp:a.eval p=.pointer (some ⟨R,q,none⟩))(hx:a.eval x=.agg vs)(hA:At w R (.cells cs T'))(hs:vs.size=n)(hf:q+n<=cs.size)(h1:∀v∈vs.toList,v.oneCell'=true):(execOp a.eval o).run ja0 w=.ok .skip (w.setRow R (splice cs q vs)):=by
 unfold execOp;simp only[ho,hp,hx,Sem.run_bind,X7 hz hA hs hf h1,Result.andThen_ok,Sem.run_pure]
theorem eB(hi:∀W,(isAgg T).run ja0 W=.ok true W)(hz:∀W,(sizeOf T).run ja0 W=.ok n W)(hw:Region.wanted o (yielded ops a.tmps)=true)(p:Operand)(ho:o.op=.load T p)(hp:a.eval p=.pointer (some ⟨R,q,none⟩)){vs:Array Value}(hs:vs.size=n)(h:∀j,j<n->w.cell? ⟨R,q+j,none⟩=vs[j]?)
 (hk:wpList ja0 ops Q rest (a.put o.dst (.agg vs)) w):wpList ja0 ops Q (o::rest) a w:=dL hw (fM hi hz p ho hp hs h) hk
theorem fE(hz:∀W,(sizeOf T).run ja0 W=.ok n W)(hw:Region.wanted o (yielded ops a.tmps)=true)(p x:Operand)(ho:o.op=.store T p x)(hp:a.eval p=.pointer (some ⟨R,q,none⟩))(hx:a.eval x=.agg vs)(hA:At w R (.cells cs T'))(hs:vs.size=n)(hf:q+n<=cs.size)(h1:∀v∈vs.toList,v.oneCell'=true)
 (hk:wpList ja0 ops Q rest (a.put o.dst undef) (w.setRow R (splice cs q vs))):wpList ja0 ops Q (o::rest) a w:=ni hw (aY hz p x ho hp hx hA hs hf h1) hk
end
theorem X8(W:World):(isAgg 232).run ja0 W=.ok true W:=by kernel_rfl
theorem P8(W:World):(sizeOf 232).run ja0 W=.ok 17 W:=by kernel_rfl
theorem zZ(W:World):(isAgg 101).run ja0 W=.ok true W:=by kernel_rfl
theorem mP(W:World):(sizeOf 101).run ja0 W=.ok 7 W:=by kernel_rfl
theorem X9(W:World):(isAgg 230).run ja0 W=.ok true W:=by kernel_rfl
theorem z8(W:World):(sizeOf 230).run ja0 W=.ok 5 W:=by kernel_rfl
theorem ad4(W:World):(sizeOf 95).run ja0 W=.ok 2 W:=by kernel_rfl
theorem rH(x:Im):(lZ x).size=17:=rfl
theorem dB(x:Fw.Ld):(dV x).size=7:=rfl
theorem gN(x:Fe.It):(wP x).size=5:=rfl
theorem ou(x:Fw.Ld):∀v∈(dV x).toList,v.oneCell'=true:=by simp[dV,Value.oneCell']
theorem CW(x:Fe.It):∀v∈(wP x).toList,v.oneCell'=true:=by simp[wP,Value.oneCell']
def fq(cs:Array Value)(q:Nat)(xs:List Im):Prop:=q+xs.length*17<=cs.size/\∀i (h:i<xs.length) j,j<17->cs[q+i*17+j]? = (lZ xs[i])[j]?
def jw(q m:Nat)(cs cs':Array Value):Prop:=cs'.size=cs.size/\∀k,k<q\/q+m*17<=k->cs'[k]? = cs[k]?
theorem jw.refl(q m:Nat)(cs:Array Value):jw q m cs cs:=⟨rfl,λ_ _=>rfl⟩
theorem jw.trans{q m:Nat}{cs cs' cs'':Array Value}(h:jw q m cs cs')(k:jw q m cs' cs''):jw q m cs cs'':=⟨k.1.trans h.1,λi hi=>(k.2 i hi).trans (h.2 i hi)⟩
theorem fq.put{q i o:Nat}{xs:List Im}(h:fq cs q xs)(hi:i<xs.length)(y:Im)(ho:o+vs.size<=17)(h1:∀j,j<vs.size->(lZ y)[o+j]? = vs[j]?)(h2:∀j,j<17->(j<o\/o+vs.size<=j)->(lZ y)[j]? = (lZ xs[i])[j]?) :
  fq (splice cs (q+i*17+o) vs) q (xs.set i y)/\jw q xs.length cs (splice cs (q+i*17+o) vs):=by
 have hb:i*17+17<=xs.length*17:=by omega
 have hf:q+i*17+o+vs.size<=cs.size:=by have:=h.1;omega
 refine⟨⟨by rw[iM hf,List.length_set];exact h.1,λk hk j hj => ?_⟩,iM hf,λk hk=>gX hf ak⟩;have hk2:k<xs.length:=by simpa using hk
 by_cases e:k=i
 . subst e
   rw[List.getElem_set_self];by_cases hin:o<=j/\j<o+vs.size
   . obtain⟨d,rfl⟩:∃d,j=o+d:=⟨j-o,by omega⟩
     rw[show q+k*17+(o+d)=q+k*17+o+d by omega,mH hf ak,h1 d ak]
   . rw[gX hf ak,h2 j hj ak]
     exact h.2 k hk2 j hj
 . rw[List.getElem_set_ne (λq=>e q.symm),gX hf ak]
   exact h.2 k hk2 j hj
theorem fq.R6{cs:Array Value}{q i:Nat}{xs:List Im}(h:fq cs q xs)(hi:i<xs.length)(l:Fw.Ld):fq (splice cs (q+i*17+5) (dV l)) q (xs.set i { xs[i]with ld:=l })/\jw q xs.length cs (splice cs (q+i*17+5) (dV l)):=by
 refine h.put (o:=5) (vs:=dV l) hi _ (by simp[dB]) (λj hj => ?_) (λj hj hk => ?_)
 . rw[dB]at hj
   exact Z20
 . rw[dB]at hk
   rcases(by omega:j=0\/j=1\/j=2\/j=3\/j=4\/j=12\/j=13\/j=14\/j=15\/j=16)with rfl|rfl|rfl|rfl|rfl|rfl|rfl|rfl|rfl|rfl<;>rfl
theorem fq.adb{cs:Array Value}{q i:Nat}{xs:List Im}(h:fq cs q xs)(hi:i<xs.length)(t:Fe.It):fq (splice cs (q+i*17+0) (wP t)) q (xs.set i { xs[i]with it:=t })/\jw q xs.length cs (splice cs (q+i*17+0) (wP t)):=by
 refine h.put (o:=0) (vs:=wP t) hi _ (by simp[gN]) (λj hj => ?_) (λj hj hk => ?_)
 . rw[gN]at hj
   exact Z2m
 . rw[gN]at hk
   rcases(by omega:j=5\/j=6\/j=7\/j=8\/j=9\/j=10\/j=11\/j=12\/j=13\/j=14\/j=15\/j=16)with rfl|rfl|rfl|rfl|rfl|rfl|rfl|rfl|rfl|rfl|rfl|rfl<;>rfl
theorem fq.putAt{cs:Array Value}{q i:Nat}{xs:List Im}(h:fq cs q xs)(hi:i<xs.length)(a b:Int):fq (splice cs (q+i*17+10) #[a,b]) q (xs.set i { xs[i]with ld:={ xs[i].ld with a0:=a,a1:=b } })/\jw q xs.length cs (splice cs (q+i*17+10) #[a,b]):=by
 refine h.put (o:=10) (vs:=#[a,b]) hi _ aW (λj hj => ?_) (λj hj hk => ?_)
 . have hj:j<2:=hj
   rcases(by omega:j=0\/j=1)with rfl|rfl<;>rfl
 . have hk:j<10\/12<=j:=hk
   rcases(by omega:j=0\/j=1\/j=2\/j=3\/j=4\/j=5\/j=6\/j=7\/j=8\/j=9\/j=12\/j=13\/j=14\/j=15\/j=16)with rfl|rfl|rfl|rfl|rfl|rfl|rfl|rfl|rfl|rfl|rfl|rfl|rfl|rfl|rfl<;>rfl
def qE(W:World)(R q:Nat)(x:Im):Prop:=∀j,j<17->W.cell? ⟨R,q+j,none⟩=(lZ x)[j]?
theorem qE.keep{B R q:Nat}{x:Im}(h:qE W R q x)(hb:Below B W W')(hl:R<B):qE W' R q x:=λj hj=>(hb.cell (p:=⟨R,q+j,none⟩) hl).trans (h j hj)
theorem qE.out{x:Im}(h:qE W R q x)(k:Out M W W')(hl:R<W.heap.size)(hm:¬ M R):qE W' R q x:=λj hj=>(Out.cell k (q+j) hl hm).trans (h j hj)
theorem fq.at_{W:World}{R q i:Nat}{cs:Array Value}{xs:List Im}(h:fq cs q xs)(hA:At W R (.cells cs 232))(hi:i<xs.length):qE W R (q+i*17) xs[i]:=λj hj=>by rw[hA.cell];exact h.2 i hi j hj
def JH(W:World)(A:Option Addr)(xs:List Im):Prop:=xs≠[]->∃R q,A=some ⟨R,q,none⟩/\R<W.heap.size/\∀i (h:i<xs.length),qE W R (q+i*17) xs[i]
theorem JH.after{xs:List Im}(h:JH W A xs)(hb:Below W W W'):JH W' A xs:=λhn=>by
 obtain⟨R,q,e,hl,hc⟩:=h hn;exact⟨R,q,e,aT hl hb.size,λi hi=>(hc i hi).keep hb hl⟩
theorem JH.out{xs:List Im}(h:JH W A xs)(k:Out M W W')(hm:∀R q,A=some ⟨R,q,none⟩->¬ M R):JH W' A xs:=λhn=>by
 obtain⟨R,q,e,hl,hc⟩:=h hn;exact⟨R,q,e,aT hl k.size,λi hi=>(hc i hi).out k hl (hm R q e)⟩
theorem JH.at_{W:World}{xs:List Im}(h:JH W A xs){i:Nat}(hi:i<xs.length):∃R q,A=some ⟨R,q,none⟩/\R<W.heap.size/\qE W R (q+i*17) xs[i]:=by
 obtain⟨R,q,e,hl,hc⟩:=h (λe=>by rw[e]at hi;simp at hi);exact⟨R,q,e,hl,hc i hi⟩
theorem fq.ims{W:World}{cs:Array Value}{xs:List Im}(h:fq cs q xs)(hA:At W R (.cells cs 232)):JH W (some ⟨R,q,none⟩) xs:=λ_=>⟨R,q,rfl,hA.lt,λi hi=>h.at_ hA hi⟩
theorem kH{ops:Array Oper}{rest:List Oper}{o:Oper}{a:Act}{w w':World}{Q:Exit->Act->World->Prop}(hw:Region.wanted o (yielded ops a.tmps)=true)(l c:Operand)(t:TypeId)(ho:o.op=.makeSlice t l c){v:Value}(hrun:(Instr.makeSlice t (a.eval l) (a.eval c)).run ja0 w=.ok v w')
  (h:wpList ja0 ops Q rest (a.put o.dst v) w'):wpList ja0 ops Q (o::rest) a w :=
 dL hw (by unfold execOp;simp only[ho,Sem.run_bind,hrun,Result.andThen_ok,Sem.run_pure]) h
theorem ad5:(Tryz.prog.info? 230).map (λi=>(i.zero,i.size,i.bytes))=some (some (.agg #[(),(),(),(),()]),5,40):=by kernel_rfl
theorem ad6:(Tryz.prog.info? 232).map (λi=>(i.zero,i.size,i.bytes))=some (some (.agg #[(),(),(),(),(),(),(),(),(),(),(),(),.pointer none,(),(),(),()]),17,136):=by kernel_rfl
theorem P9:(Tryz.prog.info? 101).map (λi=>(i.zero,i.size,i.bytes))=some (some (.agg #[(),(),(),(),(),(),()]),7,56):=by kernel_rfl
theorem R8(w:World)(n:Nat)(hn:n<=100000):∃cs:Array Value,(Instr.makeSlice 305 (.int .i64 (n:Int)) (.int .i64 (n:Int))).run ja0 w=.ok (.slice w n n) (w.alloc (.cells cs 230))/\cs.size=n*5:=by
 obtain⟨i0,hi0,hz0,hz1,hz2⟩:=info_parts ad5;have hrun:=run_make (P:=ja0) w 305 230 i0 _ Tryz.underlying305 hi0 hz0 .i64 .i64 n n ak (Int.le_refl _) Te ak;exact Z36
theorem abN(w:World)(n:Nat)(hn:n<=100000):∃cs:Array Value,(Instr.makeSlice 227 (.int .i64 (n:Int)) (.int .i64 (n:Int))).run ja0 w=.ok (.slice w n n) (w.alloc (.cells cs 232))/\cs.size=n*17:=by
 obtain⟨i0,hi0,hz0,hz1,hz2⟩:=info_parts ad6;have hrun:=run_make (P:=ja0) w 227 232 i0 _ Tryz.underlying227 hi0 hz0 .i64 .i64 n n ak (Int.le_refl _) Te ak;exact Z36
theorem abO(w:World)(n:Nat)(hn:n<=100000):∃cs:Array Value,(Instr.makeSlice 165 (.int .i64 (n:Int)) (.int .i64 (n:Int))).run ja0 w=.ok (.slice w n n) (w.alloc (.cells cs 101))/\cs.size=n*7:=by
 obtain⟨i0,hi0,hz0,hz1,hz2⟩:=info_parts P9;have hrun:=run_make (P:=ja0) w 165 101 i0 _ Tryz.underlying165 hi0 hz0 .i64 .i64 n n ak (Int.le_refl _) Te ak;exact Z36
def imz:Array Value:=#[(),(),(),(),(),(),(),(),(),(),(),(),.pointer none,(),(),(),()]
theorem Ya(W:World):(Instr.alloc 232 true (.tuple #[])).run ja0 W=.ok (.pointer W) (W.alloc (.cells imz 232)):=by kernel_rfl
section
variable {ops:Array Oper} {rest:List Oper} {o:Oper} {a:Act} {w w':World} {Q:Exit->Act->World->Prop}
theorem bW(hw:Region.wanted o (yielded ops a.tmps)=true)(ho:o.op=.alloc 232)(h:wpList ja0 ops Q rest (a.put o.dst (.pointer w)) (w.alloc (.cells imz 232))):wpList ja0 ops Q (o::rest) a w :=
 dL hw (by unfold execOp;simp only[ho,Sem.run_bind,Ya,Result.andThen_ok,Sem.run_pure]) h
theorem UL{W:World}{x:Im}(h:At W b (.cells imz 232)):(Instr.storeAt 232 (.pointer b) (.agg (lZ x))).run ja0 W=.ok () (W.setRow b (lZ x)):=by
 have hsz:(Tryz.prog.info? 232).map (·.size)=some (lZ x).size:=by rw[rH];exact MI
 simp only[Instr.storeAt,Instr.sureAddr,Sem.run_bind,Sem.run_pure,Result.andThen_ok,run_storeVar_row W b 232 232 imz (lZ x) h hsz rfl (by simp[lZ,Value.oneCell'])]
theorem bP(hw:Region.wanted o (yielded ops a.tmps)=true)(p y:Operand)(ho:o.op=.store 232 p y)(hp:a.eval p=.pointer b){x:Im}(hy:a.eval y=.agg (lZ x))(hs:At w b (.cells imz 232))
  (h:wpList ja0 ops Q rest (a.put o.dst undef) (w.setRow b (lZ x))):wpList ja0 ops Q (o::rest) a w :=
 ni hw (by unfold execOp;simp only[ho,hp,hy,Sem.run_bind,UL hs,Result.andThen_ok,Sem.run_pure]) h
theorem dn(hw:Region.wanted o (yielded ops a.tmps)=true)(p:Operand)(ho:o.op=.load 232 p)(hp:a.eval p=.pointer (some ⟨R,q,none⟩)){x:Im}(hs:qE w R q x)(h:wpList ja0 ops Q rest (a.put o.dst (.agg (lZ x))) w):wpList ja0 ops Q (o::rest) a w :=
 eB X8 P8 hw p ho hp (rH x) hs h
theorem dK(hw:Region.wanted o (yielded ops a.tmps)=true)(p:Operand)(ho:o.op=.load 232 p)(hp:a.eval p=.pointer b){x:Im}(hs:At w b (.cells (lZ x) 232))(h:wpList ja0 ops Q rest (a.put o.dst (.agg (lZ x))) w):wpList ja0 ops Q (o::rest) a w :=
 dL hw (vM p ho hp hs) h
end
theorem aM{N:Nat}{w a:World}(h:Below N w a)(hb:N<=b)(cs:Array Value):Below N w (a.setRow b cs) :=
 ⟨h.os,h.tape,h.output,by simpa[jb9]using h.size,λc hc=>by
  have:=h.block c hc;unfold jb9;simp only[Array.getElem?_modify];rw[if_neg ak]
  exact this⟩
theorem nD(y:Int)(w:World):Calls ja0 153 #[y] w λe w'=>e=.returned (.func (.func 191) #[] #[w])/\w'=w.alloc (.cells #[y] 3):=by
 have Jp:=@ru;go_enter Tryz.func153,Tryz.ntmps153
 go_wp2;exact Zv
theorem MK(y:Int)(w:World):Calls ja0 149 #[y] w λe w'=>e=.returned (.func (.func 184) #[] #[w])/\w'=w.alloc (.cells #[y] 3):=by
 have Jp:=@ru;go_enter Tryz.func149,Tryz.ntmps149
 go_wp2;exact Zv
theorem Yb(caps:Array Value)(v:Nat->Int)(A:Option Addr)(xs:List Im)(c:Nat)(w:World)(hx:JH w A xs)(hl:xs.length<=10000)
  (hcall:∀i (h:i<xs.length) X,Below w w X->Calls ja0 191 (#[.agg (lZ xs[i])]++caps) X λe X'=>e=.returned (.int .i64 (v i))/\Below X X X') :
  Calls ja0 148 #[.slice A xs.length c,.func (.func 191) #[] caps] w λe w'=>(∃b,e=.returned (.slice (some ⟨b,0,none⟩) xs.length xs.length)/\w.heap.size<=b/\At w' b (.cells (aX v xs.length xs.length) 3))/\Below w w w':=by
 obtain⟨i0,hi0,hz0,hz1,hz2⟩:=info_parts intZero;obtain⟨m,hm⟩:=aA xs.length;rw[hm]at hl ⊢;have HM:=ah hm;have HX:=ah hx;have HC:=ah hcall;clear hx hcall hm;go_enter Tryz.func148,Tryz.ntmps148
 go_wp2_with (at_make;refine wpList_make_row _ rfl _ _ 37 rfl 3 i0 (.int .i64 0) Tryz.underlying37 hi0 hz0 hz1 rfl .i64 .i64 m rfl rfl Te ak ?_)
 obtain⟨b,hsz⟩:=aA w.heap.size;have hB1:Below w w (w.alloc (.cells (aX v m 0) 3)):=aB aD _;have A1:At (w.alloc (.cells (aX v m 0) 3)) b (.cells (aX v m 0) 3):=At.new' _ hsz.symm;rw[hsz,jk v];generalize w.alloc (.cells (aX v m 0) 3)=W2 at *
 go_loopw [6,13] (λ_ vi wr=>∃k:Nat,k<=m/\vi=.int .i64 k/\At wr b (.cells (aX v m k) 3)/\Below w w wr) (λ_ vi _=>m-(intOf vi).toNat)
 case atStart=>exact⟨0,by omega,rfl,A1,hB1⟩
 case round =>
  clear A1 hB1;obtain⟨k,hk,rfl,A1,hB⟩:=hrel;by_cases hlt:k<m
  . have hltz:(k:Int)<(m:Int):=by omega
    have hkx:k<xs.length:=by rw[HM.out];exact hlt
    obtain⟨R,q,rfl,lR,hI⟩:=(HX.out.after hB).at_ hkx;have key:=HC.out k hkx;generalize xs[k]=x at *
    go_upto_region 5 with(first|(refine dn aR _ rfl rfl (by assumption) ?_)|(refine dK aR _ rfl rfl (by assumption) ?_)|(refine bW aR rfl ?_)|(refine bP aR _ _ rfl rfl rfl oC ?_))
    obtain⟨nb,hnb⟩:=aA wr.heap.size;generalize hW:jb9 _ _ _=W3;have A2:At W3 nb (.cells (lZ x) 232):=hW▸hnb▸At.setRow (At.new _ _) _;have A3:At W3 b (.cells (aX v m k) 3):=hW▸At.gF (A1.alloc _) (by have:=A1.lt;omega) _;have hB3:Below w w W3:=hW▸aM (aB hB _) hB.size _;rw[hnb];clear hW A1 hI lR hB;have hk3:=key W3 hB3;have HA3:=ah A3
    go_upto_region 6 with(first|(go_at_call 191;(with_reducible refine hk3.mono ?_);rintro e w4 ⟨rfl,hb4⟩;have A4:=HA3.out.keep hb4;have KN:=A4.lt;have zb4:=A4.thaw k;have cb4:=A4.cell k;rw[dh _ hlt]at cb4)|(refine dn aR _ rfl rfl (by assumption) ?_)|(refine dK aR _ rfl rfl (by assumption) ?_)|(refine bW aR rfl ?_)|(refine bP aR _ _ rfl rfl rfl oC ?_))
    exact Zp
  . exact Z2u
theorem ad7(caps:Array Value)(v:Nat->Int)(A:Option Addr)(xs:List Im)(c:Nat)(w:World)(hx:JH w A xs)(hl:xs.length<=10000)
  (hcall:∀i (h:i<xs.length) X,Below w w X->Calls ja0 184 (#[.agg (lZ xs[i])]++caps) X λe X'=>e=.returned (.int .i64 (v i))/\Below X X X') :
  Calls ja0 148 #[.slice A xs.length c,.func (.func 184) #[] caps] w λe w'=>(∃b,e=.returned (.slice (some ⟨b,0,none⟩) xs.length xs.length)/\w.heap.size<=b/\At w' b (.cells (aX v xs.length xs.length) 3))/\Below w w w':=by
 obtain⟨i0,hi0,hz0,hz1,hz2⟩:=info_parts intZero;obtain⟨m,hm⟩:=aA xs.length;rw[hm]at hl ⊢;have HM:=ah hm;have HX:=ah hx;have HC:=ah hcall;clear hx hcall hm;go_enter Tryz.func148,Tryz.ntmps148
 go_wp2_with (at_make;refine wpList_make_row _ rfl _ _ 37 rfl 3 i0 (.int .i64 0) Tryz.underlying37 hi0 hz0 hz1 rfl .i64 .i64 m rfl rfl Te ak ?_)
 obtain⟨b,hsz⟩:=aA w.heap.size;have hB1:Below w w (w.alloc (.cells (aX v m 0) 3)):=aB aD _;have A1:At (w.alloc (.cells (aX v m 0) 3)) b (.cells (aX v m 0) 3):=At.new' _ hsz.symm;rw[hsz,jk v];generalize w.alloc (.cells (aX v m 0) 3)=W2 at *
 go_loopw [6,13] (λ_ vi wr=>∃k:Nat,k<=m/\vi=.int .i64 k/\At wr b (.cells (aX v m k) 3)/\Below w w wr) (λ_ vi _=>m-(intOf vi).toNat)
 case atStart=>exact⟨0,by omega,rfl,A1,hB1⟩
 case round =>
  clear A1 hB1;obtain⟨k,hk,rfl,A1,hB⟩:=hrel;by_cases hlt:k<m
  . have hltz:(k:Int)<(m:Int):=by omega
    have hkx:k<xs.length:=by rw[HM.out];exact hlt
    obtain⟨R,q,rfl,lR,hI⟩:=(HX.out.after hB).at_ hkx;have key:=HC.out k hkx;generalize xs[k]=x at *
    go_upto_region 5 with(first|(refine dn aR _ rfl rfl (by assumption) ?_)|(refine dK aR _ rfl rfl (by assumption) ?_)|(refine bW aR rfl ?_)|(refine bP aR _ _ rfl rfl rfl oC ?_))
    obtain⟨nb,hnb⟩:=aA wr.heap.size;generalize hW:jb9 _ _ _=W3;have A2:At W3 nb (.cells (lZ x) 232):=hW▸hnb▸At.setRow (At.new _ _) _;have A3:At W3 b (.cells (aX v m k) 3):=hW▸At.gF (A1.alloc _) (by have:=A1.lt;omega) _;have hB3:Below w w W3:=hW▸aM (aB hB _) hB.size _;rw[hnb];clear hW A1 hI lR hB;have hk3:=key W3 hB3;have HA3:=ah A3
    go_upto_region 6 with(first|(go_at_call 184;(with_reducible refine hk3.mono ?_);rintro e w4 ⟨rfl,hb4⟩;have A4:=HA3.out.keep hb4;have KN:=A4.lt;have zb4:=A4.thaw k;have cb4:=A4.cell k;rw[dh _ hlt]at cb4)|(refine dn aR _ rfl rfl (by assumption) ?_)|(refine dK aR _ rfl rfl (by assumption) ?_)|(refine bW aR rfl ?_)|(refine bP aR _ _ rfl rfl rfl oC ?_))
    exact Zp
  . exact Z2u
theorem ad8(caps:Array Value)(v:Nat->Int)(A:Option Addr)(xs:List Im)(c:Nat)(w:World)(hx:JH w A xs)(hl:xs.length<=10000)
  (hcall:∀i (h:i<xs.length) X,Below w w X->Calls ja0 190 (#[.agg (lZ xs[i])]++caps) X λe X'=>e=.returned (.int .i64 (v i))/\Below X X X') :
  Calls ja0 148 #[.slice A xs.length c,.func (.func 190) #[] caps] w λe w'=>(∃b,e=.returned (.slice (some ⟨b,0,none⟩) xs.length xs.length)/\w.heap.size<=b/\At w' b (.cells (aX v xs.length xs.length) 3))/\Below w w w':=by
 obtain⟨i0,hi0,hz0,hz1,hz2⟩:=info_parts intZero;obtain⟨m,hm⟩:=aA xs.length;rw[hm]at hl ⊢;have HM:=ah hm;have HX:=ah hx;have HC:=ah hcall;clear hx hcall hm;go_enter Tryz.func148,Tryz.ntmps148
 go_wp2_with (at_make;refine wpList_make_row _ rfl _ _ 37 rfl 3 i0 (.int .i64 0) Tryz.underlying37 hi0 hz0 hz1 rfl .i64 .i64 m rfl rfl Te ak ?_)
 obtain⟨b,hsz⟩:=aA w.heap.size;have hB1:Below w w (w.alloc (.cells (aX v m 0) 3)):=aB aD _;have A1:At (w.alloc (.cells (aX v m 0) 3)) b (.cells (aX v m 0) 3):=At.new' _ hsz.symm;rw[hsz,jk v];generalize w.alloc (.cells (aX v m 0) 3)=W2 at *
 go_loopw [6,13] (λ_ vi wr=>∃k:Nat,k<=m/\vi=.int .i64 k/\At wr b (.cells (aX v m k) 3)/\Below w w wr) (λ_ vi _=>m-(intOf vi).toNat)
 case atStart=>exact⟨0,by omega,rfl,A1,hB1⟩
 case round =>
  clear A1 hB1;obtain⟨k,hk,rfl,A1,hB⟩:=hrel;by_cases hlt:k<m
  . have hltz:(k:Int)<(m:Int):=by omega
    have hkx:k<xs.length:=by rw[HM.out];exact hlt
    obtain⟨R,q,rfl,lR,hI⟩:=(HX.out.after hB).at_ hkx;have key:=HC.out k hkx;generalize xs[k]=x at *
    go_upto_region 5 with(first|(refine dn aR _ rfl rfl (by assumption) ?_)|(refine dK aR _ rfl rfl (by assumption) ?_)|(refine bW aR rfl ?_)|(refine bP aR _ _ rfl rfl rfl oC ?_))
    obtain⟨nb,hnb⟩:=aA wr.heap.size;generalize hW:jb9 _ _ _=W3;have A2:At W3 nb (.cells (lZ x) 232):=hW▸hnb▸At.setRow (At.new _ _) _;have A3:At W3 b (.cells (aX v m k) 3):=hW▸At.gF (A1.alloc _) (by have:=A1.lt;omega) _;have hB3:Below w w W3:=hW▸aM (aB hB _) hB.size _;rw[hnb];clear hW A1 hI lR hB;have hk3:=key W3 hB3;have HA3:=ah A3
    go_upto_region 6 with(first|(go_at_call 190;(with_reducible refine hk3.mono ?_);rintro e w4 ⟨rfl,hb4⟩;have A4:=HA3.out.keep hb4;have KN:=A4.lt;have zb4:=A4.thaw k;have cb4:=A4.cell k;rw[dh _ hlt]at cb4)|(refine dn aR _ rfl rfl (by assumption) ?_)|(refine dK aR _ rfl rfl (by assumption) ?_)|(refine bW aR rfl ?_)|(refine bP aR _ _ rfl rfl rfl oC ?_))
    exact Zp
  . exact Z2u
def nG(xs:List Im):List Int:=xs.map Bf
def uz(xs:List Im):List Int:=xs.map Bd
def UM(l:List Int)(k:Nat):Int:=(l.take k).foldl max 0
theorem UN{l:List Int}{k:Nat}(h:k<l.length):UM l (k+1)=max (UM l k) l[k]:=by
 unfold UM;rw[jc8 h,List.foldl_append];rfl
theorem ad9(A:Option Addr)(xs:List Im)(c B:Nat)(w:World)(hx:JH w A xs)(hl:xs.length<=10000)(hB:w.cell? ⟨B,0,none⟩=some (.int .i64 0))(hBl:B<w.heap.size) :
  Calls ja0 148 #[.slice A xs.length c,.func (.func 191) #[] #[B]] w λe w'=>(∃b,e=.returned (.slice (some ⟨b,0,none⟩) xs.length xs.length)/\w.heap.size<=b/\At w' b (.cells (aX (λi=>(uz xs).getD i 0) xs.length xs.length) 3))/\Below w w w' :=
 Yb #[B] (λi=>(uz xs).getD i 0) A xs c w hx hl λi hi X hb=>by
  have h1:X.cell? ⟨B,0,none⟩=some (.int .i64 0):=(hb.cell (p:=⟨B,0,none⟩) hBl).trans hB;have e:(uz xs).getD i 0=Bd xs[i]:=by unfold uz;rw[List.getD,jc1,ja6 hi];rfl
  rw[e];exact RZ xs[i] B X h1
theorem Yc(A:Option Addr)(xs:List Im)(c B:Nat)(w:World)(hx:JH w A xs)(hl:xs.length<=10000)(hB:w.cell? ⟨B,0,none⟩=some (.int .i64 1))(hBl:B<w.heap.size) :
  Calls ja0 148 #[.slice A xs.length c,.func (.func 191) #[] #[B]] w λe w'=>(∃b,e=.returned (.slice (some ⟨b,0,none⟩) xs.length xs.length)/\w.heap.size<=b/\At w' b (.cells (aX (λi=>(nG xs).getD i 0) xs.length xs.length) 3))/\Below w w w' :=
 Yb #[B] (λi=>(nG xs).getD i 0) A xs c w hx hl λi hi X hb=>by
  have h1:X.cell? ⟨B,0,none⟩=some (.int .i64 1):=(hb.cell (p:=⟨B,0,none⟩) hBl).trans hB;have e:(nG xs).getD i 0=Bf xs[i]:=by unfold nG;rw[List.getD,jc1,ja6 hi];rfl
  rw[e];exact R4 xs[i] B X h1
theorem Yd(A:Option Addr)(xs:List Im)(c:Nat)(w:World)(hx:JH w A xs)(hl:xs.length<=10000):Calls ja0 188 #[.slice A xs.length c] w λe w'=>e=.returned (.int .i64 ((nG xs).foldl max 0))/\Below w w w':=by
 have hb1:Below w w (w.alloc (.cells #[.int .i64 1] 3)):=aB aD _;have hA1:At (w.alloc (.cells #[.int .i64 1] 3)) w.heap.size (.cells #[.int .i64 1] 3):=At.new _ _;have key:=Yc A xs c w.heap.size _ (hx.after hb1) hl (hA1.cell 0) hA1.lt;obtain⟨l,hL⟩:=aA (nG xs);have hll:l.length=xs.length:=by rw[<-hL];simp[nG]
 rw[hL]at key ⊢;obtain⟨m,hm⟩:=aA xs.length;rw[hm]at hl key hll ⊢;have UO:=ah hll;clear hx hL hm hll;go_enter Tryz.func188,Tryz.ntmps188
 go_wp2_with (first|(go_at_call 153;(with_reducible refine(nD 1 _).mono ?_);rintro e w1 ⟨rfl,rfl⟩)|(go_at_call 148;(with_reducible refine key.mono ?_);rintro e w2 ⟨⟨b,rfl,hbl,hA⟩,hb2⟩))
 have hB:Below w w w2:=hb1.trans (hb2.mono hb1.size);clear key hb1 hb2 hA1
 go_loop [3,10] (λav iv=>∃k:Nat,k<=m/\iv=.int .i64 k/\av=.int .i64 (UM l k)) (λ_ iv=>m-(intOf iv).toNat)
 case atStart=>exact⟨0,by omega,rfl,rfl⟩
 case round =>
  obtain⟨k,hk,rfl,rfl⟩:=hrel;by_cases hlt:k<m
  . have hltz:(k:Int)<(m:Int):=by omega
    have hkl:k<l.length:=by rw[UO.out];exact hlt
    have hc:=hA.cell k;rw[dh _ hlt,if_pos hlt,List.getD,ja6 hkl]at hc;simp only[Option.getD_some]at hc;have HT:=ah (UN hkl);have lb:=hA.lt;generalize UM l k=a at *;generalize l[k]=x at *;go_wp2
    go_round
    case rel=>exact⟨k+1,by omega,by go_num,by rw[HT.out]⟩
    case measure=>simp[intOf];omega
  . obtain rfl:k=m:=by omega
    go_wp2
    go_ret
    exact⟨bA (by unfold UM;rw[jb6 (by rw[UO.out];exact aH _)]),hB⟩
def oK(r:Int)(ex:Nat->Int):Nat->Int
 | 0=>r
 | k+1=>Fw.wr (oK r ex k-ex k)
def WA(cs:Array Value)(it:Nat->Fe.It)(k:Nat):Prop:=∀i,i<k->∀j,j<5->cs[i*5+j]? = (wP (it i))[j]?
theorem WA.items{W:World}{b n:Nat}{cs:Array Value}{it:Nat->Fe.It}(h:WA cs it n)(hA:At W b (.cells cs 230)):Items W (some ⟨b,0,none⟩) it n:=λh0 =>
 ⟨b,0,rfl,hA.lt,λk hk=>by
  have q:=λj hj=>(hA.cell (k*5+j)).trans (h k hk j hj);refine⟨?_,?_,?_,?_,?_⟩
  . have:=q 0 ak;simpa[wP]using this
  . have:=q 1 ak;simpa[wP]using this
  . have:=q 2 ak;simpa[wP]using this
  . have:=q 3 ak;simpa[wP]using this
  . have:=q 4 ak;simpa[wP]using this⟩
theorem Ye(A:Option Addr)(xs:List Im)(c:Nat)(r0 r1 gap:Int)(it:Nat->Fe.It)(ex:Nat->Int)(st:Nat->Re.St)(w:World)(hx:JH w A xs)(hl:xs.length<=64)(hit:∀i (h:i<xs.length),it i=xs[i].it)(hex:∀i (h:i<xs.length),ex i=X5 xs[i] (st i))(hbx:∀i (h:i<xs.length),∃fl ap ib,aL w xs[i].bx (st i) fl ap ib) :
  Calls ja0 187 #[.slice A xs.length c,(),.agg #[r0,r1],gap] w λe w' =>
   (∃b,e=.returned (.slice (some ⟨b,0,none⟩) xs.length xs.length)/\w.heap.size<=b/\Ints w' (some ⟨b,0,none⟩) (kF it xs.length (oK (Fw.wr (r0-Fw.wr (gap*Fw.wr ((xs.length:Int)-1)))) ex xs.length)))/\Below w w w':=by
 obtain⟨m,hm⟩:=aA xs.length;rw[hm]at hl ⊢;have HM:=ah hm;have HX:=ah hx;have HIT:=ah hit;have HEX:=ah hex;have pG:=ah hbx;clear hx hit hex hbx hm;rw[<-qK ((m:Int)-1)];obtain⟨q1,hq1⟩:=aA (IntKind.i64.wrap ((m:Int)-1));rw[hq1,<-qK (gap*q1)];obtain⟨q2,hq2⟩:=aA (IntKind.i64.wrap (gap*q1));rw[hq2,<-qK (r0-q2)];obtain⟨r,hr⟩:=aA (IntKind.i64.wrap (r0-q2));rw[hr];obtain⟨ws,hws⟩:=aA (w.alloc (.cells #[r0,r1] 95));obtain⟨cs0,hmk,xP⟩:=R8 ws m ak;have Yf:=ah hmk;clear hmk;go_enter Tryz.func187,Tryz.ntmps187
 go_upto_region 1 with(fail)
 have hb1:Below w w ws:=hws▸aB aD _;have A0:At ws w (.cells #[r0,r1] 95):=hws▸At.new _ _;clear hws
 go_upto_region 2 with(refine kH aR _ _ 305 rfl Yf.out ?_)
 obtain⟨b,hb⟩:=aA ws.heap.size;rw[hb];have A1:At (ws.alloc (.cells cs0 230)) b (.cells cs0 230):=At.new' _ hb.symm;have A2:=A0.alloc (.cells cs0 230);have hB2:Below w w (ws.alloc (.cells cs0 230)):=aB hb1 _;have hwb:w.heap.size<b:=by have:=A0.lt;omega
 generalize ws.alloc (.cells cs0 230)=W2 at *;obtain⟨l0,c00,JI⟩:=At.two A2;clear A0 hb1 hb Yf
 go_upto_region 3 with(fail)
 clear hq1 hq2 hr l0 c00 JI
 go_upto_region 4 with(fail)
 go_loopw [10,27] (λlv iv wr=>∃(k:Nat) (cs:Array Value),k<=m/\iv=.int .i64 k/\lv=.int .i64 (oK r ex k)/\At wr b (.cells cs 230)/\cs.size=m*5/\WA cs it k/\Below w w wr) (λ_ iv _=>m-(intOf iv).toNat)
 case atStart=>exact⟨0,cs0,eX _,rfl,rfl,A1,xP,λi hi=>absurd hi (Nat.not_lt_zero _),hB2⟩
 case round =>
  clear A1 A2 hB2 xP;obtain⟨k,cs,hk,rfl,rfl,A1,hcs,hF,hB⟩:=hrel;by_cases hlt:k<m
  . have hltz:(k:Int)<(m:Int):=by omega
    have hkx:k<xs.length:=by rw[HM.out];exact hlt
    obtain⟨R,q,rfl,lR,hI⟩:=(HX.out.after hB).at_ hkx;obtain⟨fl,ap,ib,hbx⟩:=pG.out k hkx;have hiq:=ah (HIT.out k hkx);have heq:=ah (HEX.out k hkx);have hls:=ah (show oK r ex (k+1)=Fw.wr (oK r ex k-ex k)from rfl);generalize xs[k]=x at *;generalize oK r ex k=lf at *;have Yg:=ah hbx;clear hbx
    go_upto_region 6 with(first|(refine dn aR _ rfl rfl (by assumption) ?_)|(refine dK aR _ rfl rfl (by assumption) ?_)|(refine bW aR rfl ?_)|(refine bP aR _ _ rfl rfl rfl oC ?_))
    obtain⟨nb,hnb⟩:=aA wr.heap.size;generalize hW:jb9 _ _ _=W3;have A2:At W3 nb (.cells (lZ x) 232):=hW▸hnb▸At.setRow (At.new _ _) _;have A3:At W3 b (.cells cs 230):=hW▸At.gF (A1.alloc _) (by have:=A1.lt;omega) _;have hB3:Below w w W3:=hW▸aM (aB hB _) hB.size _;have JJ:aL W3 x.bx (st k) fl ap ib:=Yg.out.keep hB3;rw[hnb];have hne:nb≠b:=by have:=A1.lt;omega
    clear hW A1 hI lR hB;have KJ:=ah JJ;clear JJ;have l2:=A2.lt
    have hld:∀j,j<5->W3.cell? ⟨nb,0+j,none⟩=(wP x.it)[j]? := λj hj=>by
     rw[A2.cell,Nat.zero_add];exact Z2m
    have hfit:k*5+5<=cs.size:=by omega
    have HLD:=ah hld;clear hld
    go_upto_region 7 with(first|(refine eB X9 z8 aR _ rfl rfl (gN x.it) HLD.out ?_)|(refine fE z8 aR _ _ rfl rfl rfl A3 (gN x.it) (by first|exact hfit|(rw[Nat.zero_add];exact hfit)) (CW x.it) ?_))
    obtain⟨e0,he0⟩:=aA (ex k);obtain⟨lf2,aaP⟩:=aA (IntKind.i64.wrap (lf-e0));have hlk:Hid (oK r ex (k+1)=lf2):=ah (by rw[hls.out,he0,<-qK,aaP]);generalize hW:jb9 _ _ _=W4;have A4:At W4 b (.cells (splice cs (k*5) (wP x.it)) 230):=hW▸At.setRow A3 _;have A5:At W4 nb (.cells (lZ x) 232):=hW▸At.gF A2 hne _;have hB4:Below w w W4:=hW▸aM hB3 (uO hwb) _;have key:=RV x (st k) fl ap ib W4 (Yg.out.keep hB4);exact Zc
  . exact Z18
theorem Yh(A:Option Addr)(xs:List Im)(c:Nat)(r0 r1 gap:Int)(it:Nat->Fe.It)(ex:Nat->Int)(st:Nat->Re.St)(w:World)(hx:JH w A xs)(hl:xs.length<=64)(hit:∀i (h:i<xs.length),it i=xs[i].it)(hex:∀i (h:i<xs.length),ex i=ext1 xs[i] (st i))(hbx:∀i (h:i<xs.length),∃fl ap ib,aL w xs[i].bx (st i) fl ap ib) :
  Calls ja0 187 #[.slice A xs.length c,.int .i64 1,.agg #[r0,r1],gap] w λe w' =>
   (∃b,e=.returned (.slice (some ⟨b,0,none⟩) xs.length xs.length)/\w.heap.size<=b/\Ints w' (some ⟨b,0,none⟩) (kF it xs.length (oK (Fw.wr (r1-Fw.wr (gap*Fw.wr ((xs.length:Int)-1)))) ex xs.length)))/\Below w w w':=by
 obtain⟨m,hm⟩:=aA xs.length;rw[hm]at hl ⊢;have HM:=ah hm;have HX:=ah hx;have HIT:=ah hit;have HEX:=ah hex;have pG:=ah hbx;clear hx hit hex hbx hm;rw[<-qK ((m:Int)-1)];obtain⟨q1,hq1⟩:=aA (IntKind.i64.wrap ((m:Int)-1));rw[hq1,<-qK (gap*q1)];obtain⟨q2,hq2⟩:=aA (IntKind.i64.wrap (gap*q1));rw[hq2,<-qK (r1-q2)];obtain⟨r,hr⟩:=aA (IntKind.i64.wrap (r1-q2));rw[hr];obtain⟨ws,hws⟩:=aA (w.alloc (.cells #[r0,r1] 95));obtain⟨cs0,hmk,xP⟩:=R8 ws m ak;have Yf:=ah hmk;clear hmk;go_enter Tryz.func187,Tryz.ntmps187
 go_upto_region 1 with(fail)
 have hb1:Below w w ws:=hws▸aB aD _;have A0:At ws w (.cells #[r0,r1] 95):=hws▸At.new _ _;clear hws
 go_upto_region 2 with(refine kH aR _ _ 305 rfl Yf.out ?_)
 obtain⟨b,hb⟩:=aA ws.heap.size;rw[hb];have A1:At (ws.alloc (.cells cs0 230)) b (.cells cs0 230):=At.new' _ hb.symm;have A2:=A0.alloc (.cells cs0 230);have hB2:Below w w (ws.alloc (.cells cs0 230)):=aB hb1 _;have hwb:w.heap.size<b:=by have:=A0.lt;omega
 generalize ws.alloc (.cells cs0 230)=W2 at *;obtain⟨l0,c00,JI⟩:=At.two A2;clear A0 hb1 hb Yf
 go_upto_region 3 with(fail)
 clear hq1 hq2 hr l0 c00 JI
 go_upto_region 4 with(fail)
 go_loopw [10,27] (λlv iv wr=>∃(k:Nat) (cs:Array Value),k<=m/\iv=.int .i64 k/\lv=.int .i64 (oK r ex k)/\At wr b (.cells cs 230)/\cs.size=m*5/\WA cs it k/\Below w w wr) (λ_ iv _=>m-(intOf iv).toNat)
 case atStart=>exact⟨0,cs0,eX _,rfl,rfl,A1,xP,λi hi=>absurd hi (Nat.not_lt_zero _),hB2⟩
 case round =>
  clear A1 A2 hB2 xP;obtain⟨k,cs,hk,rfl,rfl,A1,hcs,hF,hB⟩:=hrel;by_cases hlt:k<m
  . have hltz:(k:Int)<(m:Int):=by omega
    have hkx:k<xs.length:=by rw[HM.out];exact hlt
    obtain⟨R,q,rfl,lR,hI⟩:=(HX.out.after hB).at_ hkx;obtain⟨fl,ap,ib,hbx⟩:=pG.out k hkx;have hiq:=ah (HIT.out k hkx);have heq:=ah (HEX.out k hkx);have hls:=ah (show oK r ex (k+1)=Fw.wr (oK r ex k-ex k)from rfl);generalize xs[k]=x at *;generalize oK r ex k=lf at *;have Yg:=ah hbx;clear hbx
    go_upto_region 6 with(first|(refine dn aR _ rfl rfl (by assumption) ?_)|(refine dK aR _ rfl rfl (by assumption) ?_)|(refine bW aR rfl ?_)|(refine bP aR _ _ rfl rfl rfl oC ?_))
    obtain⟨nb,hnb⟩:=aA wr.heap.size;generalize hW:jb9 _ _ _=W3;have A2:At W3 nb (.cells (lZ x) 232):=hW▸hnb▸At.setRow (At.new _ _) _;have A3:At W3 b (.cells cs 230):=hW▸At.gF (A1.alloc _) (by have:=A1.lt;omega) _;have hB3:Below w w W3:=hW▸aM (aB hB _) hB.size _;have JJ:aL W3 x.bx (st k) fl ap ib:=Yg.out.keep hB3;rw[hnb];have hne:nb≠b:=by have:=A1.lt;omega
    clear hW A1 hI lR hB;have KJ:=ah JJ;clear JJ;have l2:=A2.lt
    have hld:∀j,j<5->W3.cell? ⟨nb,0+j,none⟩=(wP x.it)[j]? := λj hj=>by
     rw[A2.cell,Nat.zero_add];exact Z2m
    have hfit:k*5+5<=cs.size:=by omega
    have HLD:=ah hld;clear hld
    go_upto_region 7 with(first|(refine eB X9 z8 aR _ rfl rfl (gN x.it) HLD.out ?_)|(refine fE z8 aR _ _ rfl rfl rfl A3 (gN x.it) (by first|exact hfit|(rw[Nat.zero_add];exact hfit)) (CW x.it) ?_))
    obtain⟨e0,he0⟩:=aA (ex k);obtain⟨lf2,aaP⟩:=aA (IntKind.i64.wrap (lf-e0));have hlk:Hid (oK r ex (k+1)=lf2):=ah (by rw[hls.out,he0,<-qK,aaP]);generalize hW:jb9 _ _ _=W4;have A4:At W4 b (.cells (splice cs (k*5) (wP x.it)) 230):=hW▸At.setRow A3 _;have A5:At W4 nb (.cells (lZ x) 232):=hW▸At.gF A2 hne _;have hB4:Below w w W4:=hW▸aM hB3 (uO hwb) _;have key:=RY x (st k) fl ap ib W4 (Yg.out.keep hB4);exact Zc
  . exact Z18
def vN(Y:p9)(B:Int->Fw.Bx)(i0 k:Int):Im:=⟨⟨0,0,0,0,0⟩,⟨k,0,0,0,0,0,0⟩,Y.bl k,Fw.mg (B k).sty 0 0 i0,Fw.mg (B k).sty 0 1 i0,Fw.mg (B k).sty 1 0 i0,Fw.mg (B k).sty 1 1 i0⟩
def gH(Y:p9)(B:Int->Fw.Bx)(i0:Int)(l:List Int):List Im:=l.map (vN Y B i0)
section
variable {Y:p9} {B:Int->Fw.Bx} {D:Int->Prop} {KM:World->Nat->Prop}
theorem UQ{cs:Array Value}{l:List Im}{x:Im}(h:fq cs 0 l)(hf:l.length*17+17<=cs.size):fq (splice cs (l.length*17) (lZ x)) 0 (l++[x]):=by
 have hs:l.length*17+(lZ x).size<=cs.size:=by rw[rH];exact hf
 refine⟨by rw[iM hs];simp;omega,λi hi j hj => ?_⟩;by_cases e:i<l.length
 . rw[List.getElem_append_left e,Nat.zero_add,gX hs (.inl ak)]
   have:=h.2 i e j hj
   rwa [Nat.zero_add]at this
 . have:i=l.length:=by simp at hi;omega
   subst this;rw[Nat.zero_add,mH hs (by rw[rH];exact hj)];simp
theorem adD(hK:∀(X X':World) (b:Nat),KM X b->Below X X X'->KM X' b)(z i0 i1:Int)(hz:D z)(hdn:∀k∈(B z).fl,D k)(hl:(B z).fl.length<=10000)(w:World)(hR:RO w Y B D KM) :
  Calls ja0 145 #[Y.lb,.agg #[z,i0,i1]] w λe w' =>
   (∃R cs,e=.returned (.slice (some ⟨R,0,none⟩) (B z).fl.length (B z).fl.length)/\w.heap.size<=R/\At w' R (.cells cs 232)/\fq cs 0 (gH Y B i0 (B z).fl)/\cs.size=(B z).fl.length*17)/\Below w w w':=by
 have hb1:Below w w (w.alloc (.cells #[z,i0,i1] 99)):=aB aD _;have A0:At (w.alloc (.cells #[z,i0,i1] 99)) w.heap.size (.cells #[z,i0,i1] 99):=At.new _ _;have HR1:=ah (hR.keep hK hb1);have HR:=ah hR;have HDN:=ah hdn;obtain⟨hbx,hks,_⟩:=hR.box z hz;obtain⟨A,cp,hvf,hI,hle,hmx,hAn⟩:=hks.ints;rw[hvf]at hbx;have pG:=ah hbx;have HI:=ah hI;obtain⟨l,hll⟩:=aA ((B z).fl);have UO:=ah hll;rw[hll]at hl hle ⊢;obtain⟨m,hm⟩:=aA l.length;have HM:=ah hm;rw[hm]at hl hle ⊢;clear hR hbx hI hks hvf hdn hll;go_enter Tryz.func145,Tryz.ntmps145
 go_upto_region 1 with(fail)
 generalize w.alloc (.cells #[z,i0,i1] 99)=w1 at *;obtain⟨l0,c00,JI,UR⟩:=At.three A0;have hl1:=HR1.out.look hz;have wK:=HR1.out.lay;have Ca:=wK.lt;have Gd:w1.cell? ⟨Y.lb,2,none⟩=some (.map (some Y.bm)):=wK.cell 2;have ad':=pG.out.keep hb1;have l71:=ad'.lt;have nU:w1.cell? ⟨Y.bl z,71,none⟩=some (.slice A (B z).fl.length cp):=ad'.ext 16;rw[UO.out,hm]at nU;clear hm ad' wK;have hL:=λX (hb:Below w1 w1 X)=>(HR1.out.keep hK hb).look hz;clear hl1;refine rZ ?_
 (repeat (first|refine jc ?_ | refine jd ?_ (hc:=by intro w2 hS;first|with_reducible exact iq hS (iO _))|refine je ?_))
 refine aj.bD ?_;intro w2 hS;have hb2:Below w w w2:=Below.ay hb1 aC hS;have A1:=A0.keep hS;clear hS hL Gd Ca l0 c00 JI UR l71 nU hb1 A0 HR1;obtain⟨cs0,hmk,xP⟩:=abN w2 m ak;have aea:=pG.out.keep hb2;have l71:=aea.lt;have nU:w2.cell? ⟨Y.bl z,71,none⟩=some (.slice A (B z).fl.length cp):=aL.ext aea 16;rw[UO.out,HM.out]at nU;have Yf:=ah hmk;clear aea hmk
 go_upto_region 3 with(refine kH aR _ _ 227 rfl Yf.out ?_)
 obtain⟨R,hR0⟩:=aA w2.heap.size;rw[hR0];have A2:At (w2.alloc (.cells cs0 232)) R (.cells cs0 232):=At.new' _ hR0.symm;have A3:=A1.alloc (.cells cs0 232);have hb3:Below w w (w2.alloc (.cells cs0 232)):=aB hb2 _;have hwR:w.heap.size<R:=by have:=A1.lt;omega
 generalize w2.alloc (.cells cs0 232)=w3 at *;clear A1 hb2 hR0 Yf l71 nU;have HA3:=ah A3;have akE:=hb3.size
 go_upto_region 4 with(fail)
 go_loopw [25] (λiv wr=>∃(k:Nat) (cs:Array Value),k<=m/\iv=.int .i64 k/\At wr R (.cells cs 232)/\Hid (cs.size=m*17/\fq cs 0 (gH Y B i0 (l.take k)))/\At wr w (.cells #[z,i0,i1] 99)/\Below w w wr) (λiv _=>m-(intOf iv).toNat)
 case atStart=>exact⟨0,cs0,eX _,rfl,A2,ah ⟨xP,by simp[fq,gH]⟩,A3,hb3⟩
 case round =>
  clear A2 A3 hb3 xP;obtain⟨k,cs,hk,rfl,A2,hC,A3,hB⟩:=hrel;by_cases hlt:k<m
  . have hltz:(k:Int)<(m:Int):=by omega
    have hkk:k<l.length:=by rw[HM.out];exact hlt
    have Eo:=HI.out.after hB;rw[UO.out]at Eo;obtain⟨b1,o1,rfl,Wn,hc1⟩:=Eo.at_ (k:=k) hkk;obtain⟨x,hx⟩:=aA (l.getD k 0);have hx2:l[k]=x:=by rw[<-hx,List.getD,ja6 hkk];rfl
    rw[hx]at hc1;have hxD:D x:=HDN.out x (by rw[UO.out];exact hx2▸List.getElem_mem _);have hRr:=HR.out.keep hK hB;have hlx:=hRr.look hxD;have Gd:wr.cell? ⟨Y.lb,2,none⟩=some (.map (some Y.bm)):=hRr.lay.cell 2;have lyb:=hRr.lay.lt;have hbx:=ah (hRr.box x hxD).1;have af9:=fI (Y.bl x) (B x).sty (Y.vf x) (Y.va x) (B x).ib i0 i1 wr hbx.out;have af':Hid (gH Y B i0 (l.take (k+1))=gH Y B i0 (l.take k)++[vN Y B i0 x]):=ah (by unfold gH;rw[jc8 hkk,List.map_append,hx2];rfl);have hLen:Hid ((gH Y B i0 (l.take k)).length=k):=ah (by simp[gH];omega);obtain⟨l0,c00,JI,UR⟩:=At.three A3;have hNI:Hid (vN Y B i0 x=⟨⟨0,0,0,0,0⟩,⟨x,0,0,0,0,0,0⟩,Y.bl x,Fw.mg (B x).sty 0 0 i0,Fw.mg (B x).sty 0 1 i0,Fw.mg (B x).sty 1 0 i0,Fw.mg (B x).sty 1 1 i0⟩):=ah rfl;generalize Fw.mg (B x).sty 0 0 i0=g0 at *;generalize Fw.mg (B x).sty 0 1 i0=g1 at *;generalize Fw.mg (B x).sty 1 0 i0=g2 at *;generalize Fw.mg (B x).sty 1 1 i0=g3 at *;generalize Y.bl x=bx at *;clear Eo hRr hx2 hxD hx;have HA2:=ah A2;have aiP:=ah A3;clear A2 A3
    go_upto_region 7 with(fail)
    have hfit:k*17+17<=cs.size:=by have:=hC.out.1;omega
    go_upto_region 8 with(first|(go_at_call 122;(with_reducible refine af9.mono ?_);rintro e w5 ⟨rfl,hb5⟩)|(refine fE P8 aR _ _ rfl rfl rfl (HA2.out.keep hb5) rfl hfit Kv ?_))
    generalize hW:jb9 _ _ _=W6;have A4:At W6 R (.cells (splice cs (k*17) (lZ (vN Y B i0 x))) 232):=by
     rw[hNI.out];exact hW▸At.setRow (HA2.out.keep hb5) _
    have A5:At W6 w (.cells #[z,i0,i1] 99):=hW▸At.gF (aiP.out.keep hb5) (dX hwR) _;have zm:Below w w W6:=hW▸aM (Below.ay hB aC hb5) (uO hwR) _
    have hC6:Hid ((splice cs (k*17) (lZ (vN Y B i0 x))).size=m*17/\fq (splice cs (k*17) (lZ (vN Y B i0 x))) 0 (gH Y B i0 (l.take (k+1)))):=ah ⟨by rw[iM (by rw[rH];exact hfit)];exact hC.out.1,by
     rw[af'.out];have h1:=UQ (x:=vN Y B i0 x) hC.out.2 (by rw[hLen.out];exact hfit);rw[hLen.out]at h1
     exact h1⟩
    clear hW hb5 af9 hB hfit l0 c00 JI UR hlx Gd lyb hc1 Wn;go_wp2
    go_roundw
    case rel=>exact⟨k+1,_,by omega,by go_num,A4,hC6,A5,zm⟩
    case measure=>simp[intOf];omega
  . obtain rfl:k=m:=by omega
    have hfull:l.take k=l:=by rw[jb6 (by rw[HM.out];exact aH _)]
    rw[hfull]at hC;go_wp2
    go_ret
    exact⟨⟨R,cs,rfl,uO hwR,A2,hC.out.2,hC.out.1⟩,hB⟩
end
theorem aP{cs:Array Value}{i:Nat}{v:Value}(h:cs[i]? = some v):cs.setIfInBounds i v=cs:=by
 apply Array.ext_getElem?;intro j;rw[Array.getElem?_setIfInBounds];by_cases e:i=j
 . subst e
   have hlt:=(Array.getElem?_eq_some_iff.1 h).1;rw[if_pos rfl,if_pos hlt,h]
 . rw[if_neg e]
section
variable {Y:p9} {B:Int->Fw.Bx} {D:Int->Prop} {KM:World->Nat->Prop}
theorem UU(hK:∀(X X':World) (b:Nat),KM X b->Below X X X'->KM X' b)(z r0 r1 a0 a1:Int)(hz:D z)(R o:Nat)(cs:Array Value)(w:World)(hR:RO w Y B D KM)(hA:At w R (.cells cs 101))(ho:cs[o]? = some (.int .i64 z))(h5:cs[o+5]? = some (.int .i64 a0))(h6:cs[o+6]? = some (.int .i64 a1)) :
  Calls ja0 115 #[Y.lb,.pointer (some ⟨R,o,none⟩),.agg #[r0,r1]] w λe w'=>e=.returned (.tuple #[])/\At w' R (.cells ((cs.setIfInBounds (o+5) (.int .i64 (if (B z).sty.c 1=1 then Fw.zw (B z).sty 0 r0 a0 else a0))).setIfInBounds (o+6) (.int .i64 (if (B z).sty.c 1=1 then Fw.zw (B z).sty 1 r1 a1 else a1))) 101)/\Out (λb=>b=R) w w':=by
 obtain⟨x0,HX0⟩:∃x,Hid ((if (B z).sty.c 1=1 then Fw.zw (B z).sty 0 r0 a0 else a0)=x):=⟨_,ah rfl⟩;obtain⟨x1,Ta⟩:∃x,Hid ((if (B z).sty.c 1=1 then Fw.zw (B z).sty 1 r1 a1 else a1)=x):=⟨_,ah rfl⟩;rw[HX0.out,Ta.out];obtain⟨es0,UJ,hpm⟩:=hR.FJ;have hbx:=(hR.box z hz).1;have hW1:Below w w (w.alloc (.cells #[r0,r1] 95)):=aB aD _;have hL:=λX (hb:Below (w.alloc (.cells #[r0,r1] 95)).heap.size (w.alloc (.cells #[r0,r1] 95)) X)=>(hR.keep hK (Below.after hW1 hb)).look hz;have A0:At (w.alloc (.cells #[r0,r1] 95)) w.heap.size (.cells #[r0,r1] 95):=At.new _ _;have A2:=hbx.alloc (.cells #[r0,r1] 95);have AR:=hA.alloc (.cells #[r0,r1] 95);have AL:=hR.lay.alloc (.cells #[r0,r1] 95);have hlR:=hA.lt;have hRb:R≠Y.bl z:=λq=>by have:=At.uniq hA (q▸hbx);cases this
 generalize hs:(B z).sty=s at *;generalize Y.vf z=vf at *;generalize Y.va z=va at *;generalize (B z).ib=ib at *;generalize Y.bl z=bz at *;go_enter Tryz.func115,Tryz.ntmps115
 go_upto_region 1 with(fail)
 generalize w.alloc (.cells #[r0,r1] 95)=W0 at *;have c0:=A0.lc;have Ca:=AL.lt;have Gd:W0.cell? ⟨Y.lb,2,none⟩=some (.map (some Y.bm)):=AL.cell 2;have lR:=AR.lt;have cR:W0.cell? ⟨R,o,none⟩=some (.int .i64 z):=(AR.cell o).trans ho;have l2:=A2.lt;have p1:W0.cell? ⟨bz,1,none⟩=some (.int .i64 (s.c 1)):=aL.int A2 1 aG rfl;refine rZ ?_
 (repeat (first|refine jc ?_ | refine jd ?_ (hc:=by intro w2 hS;first|with_reducible exact iq hS (iO _))|refine je ?_))
 refine aj.bD ?_;intro w2 hS;have hQ:Out (λb=>b=R) W0 w2:=Out.of_below hS;replace A0:=At.keep A0 hS;replace A2:=At.keep A2 hS;replace AR:=At.keep AR hS;replace p1:=((fO hS).1 _ _ l2).trans p1;clear hS hL Ca Gd AL cR lR;replace l2:=A2.lt;have lR:=AR.lt;have cR:=(AR.cell (o+5)).trans h5;have zR:=AR.thaw (o+5);clear c0;have c0:=A0.lc;have wR:R<w.heap.size:=hlR;by_cases hp:s.c 1=1
 . have HP:=ah hp
   have hp':(s.c 1 != 1)=false:=by simpa using hp
   clear hp
   go_upto_region 3 with(fail)
   clear p1 hp';go_wp2;refine wp_loop_rounds 3 ?_;cases abP:Fw.FH s 0 0 r0
   . have Qa:=ah abP
     clear abP;cases abQ:Fw.FH s 0 1 r0
     . have Yi:=ah abQ
       clear abQ;rw[rounds_succ]
       go_upto_region 6 with(fail)
       go_upto_region 7 with((go_at_call 158;(with_reducible refine(vJ bz s vf va ib r0 r1 _ A2).mono ?_);rintro e w3 ⟨rfl,hb⟩;replace hQ:=hQ.trans (Out.of_below hb);replace A0:=At.keep A0 hb;replace A2:=At.keep A2 hb;replace AR:=At.keep AR hb;clear hb))
       clear c0 lR cR zR;have c0:=A0.lc;have lR:=AR.lt;have cR:=(AR.cell (o+5)).trans h5;have zR:=AR.thaw (o+5);rw[Qa.out]
       go_upto_region 10 with((go_at_call 158;(with_reducible refine(yL bz s vf va ib r0 r1 _ A2).mono ?_);rintro e w3 ⟨rfl,hb⟩;replace hQ:=hQ.trans (Out.of_below hb);replace A0:=At.keep A0 hb;replace A2:=At.keep A2 hb;replace AR:=At.keep AR hb;clear hb))
       clear c0 lR cR zR;have c0:=A0.lc;have lR:=AR.lt;have cR:=(AR.cell (o+5)).trans h5;have zR:=AR.thaw (o+5);rw[Yi.out];rw[<-aP h5,show a0=Fw.zw s 0 r0 a0 from by unfold Fw.zw;rw[if_neg (by rw[Qa.out];simp),if_neg (by rw[Yi.out];simp)]]at AR;exact Z1
     . have Yi:=ah abQ
       clear abQ;rw[rounds_succ]
       go_upto_region 6 with(fail)
       go_upto_region 7 with((go_at_call 158;(with_reducible refine(vJ bz s vf va ib r0 r1 _ A2).mono ?_);rintro e w3 ⟨rfl,hb⟩;replace hQ:=hQ.trans (Out.of_below hb);replace A0:=At.keep A0 hb;replace A2:=At.keep A2 hb;replace AR:=At.keep AR hb;clear hb))
       clear c0 lR cR zR;have c0:=A0.lc;have lR:=AR.lt;have cR:=(AR.cell (o+5)).trans h5;have zR:=AR.thaw (o+5);rw[Qa.out]
       go_upto_region 10 with((go_at_call 158;(with_reducible refine(yL bz s vf va ib r0 r1 _ A2).mono ?_);rintro e w3 ⟨rfl,hb⟩;replace hQ:=hQ.trans (Out.of_below hb);replace A0:=At.keep A0 hb;replace A2:=At.keep A2 hb;replace AR:=At.keep AR hb;clear hb))
       clear c0 lR cR zR;have c0:=A0.lc;have lR:=AR.lt;have cR:=(AR.cell (o+5)).trans h5;have zR:=AR.thaw (o+5);rw[Yi.out]
       go_upto_region 11 with(fail)
       refine xA 11 1 ?_
       (repeat (first|refine jc ?_ | refine jd ?_ (hc:=by intro w2 hS;first|with_reducible exact iq hS (iO _))|refine je ?_))
       refine aj.bL ?_;intro w2 hS;replace hQ:=hQ.trans (Out.of_below hS);replace A0:=At.keep A0 hS;replace A2:=At.keep A2 hS;replace AR:=At.keep AR hS;clear hS;clear c0 lR cR zR;have c0:=A0.lc;have lR:=AR.lt;have cR:=(AR.cell (o+5)).trans h5;have zR:=AR.thaw (o+5);refine wz ?_;intro K hK;go_simp;refine hK _ _ (aj.bC ?_);clear hK K;generalize hW:ja5 _ _ _=W9;replace A0:At W9 _ _:=hW▸At.off A0 ak _ _;replace A2:At W9 _ _:=hW▸At.off A2 ak _ _;replace hQ:Out _ _ W9:=hW▸Out.set hQ rfl _ _;replace AR:At W9 R _:=hW▸At.set AR (o+5) _;clear hW;rw[qK,show Fw.wr (a0-Fw.ins s 0 1 r0)=Fw.zw s 0 r0 a0 from by unfold Fw.zw;rw[if_neg (by rw[Qa.out];simp),if_pos Yi.out]]at AR;exact Z1
   . have Qa:=ah abP
     clear abP;rw[rounds_succ]
     go_upto_region 6 with(fail)
     go_upto_region 7 with((go_at_call 158;(with_reducible refine(vJ bz s vf va ib r0 r1 _ A2).mono ?_);rintro e w3 ⟨rfl,hb⟩;replace hQ:=hQ.trans (Out.of_below hb);replace A0:=At.keep A0 hb;replace A2:=At.keep A2 hb;replace AR:=At.keep AR hb;clear hb))
     clear c0 lR cR zR;have c0:=A0.lc;have lR:=AR.lt;have cR:=(AR.cell (o+5)).trans h5;have zR:=AR.thaw (o+5);rw[Qa.out]
     go_upto_region 8 with(fail)
     refine xA 11 1 ?_
     (repeat (first|refine jc ?_ | refine jd ?_ (hc:=by intro w2 hS;first|with_reducible exact iq hS (iO _))|refine je ?_))
     refine aj.bL ?_;intro w2 hS;replace hQ:=hQ.trans (Out.of_below hS);replace A0:=At.keep A0 hS;replace A2:=At.keep A2 hS;replace AR:=At.keep AR hS;clear hS;clear c0 lR cR zR;have c0:=A0.lc;have lR:=AR.lt;have cR:=(AR.cell (o+5)).trans h5;have zR:=AR.thaw (o+5);refine wz ?_;intro K hK;go_simp;refine hK _ _ (aj.bC ?_);clear hK K;generalize hW:ja5 _ _ _=W9;replace A0:At W9 _ _:=hW▸At.off A0 ak _ _;replace A2:At W9 _ _:=hW▸At.off A2 ak _ _;replace hQ:Out _ _ W9:=hW▸Out.set hQ rfl _ _;replace AR:At W9 R _:=hW▸At.set AR (o+5) _;clear hW;rw[qK,show Fw.wr (a0+Fw.ins s 0 0 r0)=Fw.zw s 0 r0 a0 from by unfold Fw.zw;rw[if_pos Qa.out]]at AR;exact Z1
 . have hp':(s.c 1 != 1)=true:=by simpa using hp
   go_wp2;refine bodyPost_ret (v:=.tuple #[]) (by simp[results,Tryz.results115,go_sem]) rfl ⟨rfl,?_,Out.trans' (Out.of_below hW1) hQ λb _ q=>q⟩;rw[show x0=a0 from by rw[<-HX0.out];exact if_neg hp,show x1=a1 from by rw[<-Ta.out];exact if_neg hp,aP h5,aP h6];exact AR
end
def R9(W:World)(P:Nat->Prop)(A:Option Addr)(l:List Fw.Ld):Prop:=l=[]\/∃b cs,A=some ⟨b,0,none⟩/\P b/\At W b (.cells cs 101)/\∀i (h:i<l.length) j,j<7->cs[i*7+j]? = (dV l[i])[j]?
def CV(W:World)(P:Nat->Prop)(v:Value)(c:List Fw.Ld×Int):Prop:=∃A cap,v=.agg #[.slice A c.1.length cap,.int .i64 c.2]/\R9 W P A c.1
def Kp(Y:p9)(B:Int->Fw.Bx)(F:Int->Nat)(n:Nat)(P:Nat->Prop)(W:World):Prop :=
 P Y.pm/\∃g,GM 99 W Y.pm n g/\∀z a b v,Wf z->Wf a->Wf b->g (klit z a b)=some v->CV W P v (Fw.cont B (F z) z a b)
theorem R9.out{P P' M:Nat->Prop}{l:List Fw.Ld}(h:R9 W P A l)(k:Out M W W')(hm:∀b,P b->¬ M b)(hp:∀b,P b->P' b):R9 W' P' A l:=by
 rcases h with h|⟨b,cs,e,hb,hA,hc⟩
 . exact .inl h
 . exact .inr ⟨b,cs,e,hp b hb,hA.out (hm b hb) k,hc⟩
theorem CV.out{P P' M:Nat->Prop}{v:Value}{c:List Fw.Ld×Int}(h:CV W P v c)(k:Out M W W')(hm:∀b,P b->¬ M b)(hp:∀b,P b->P' b):CV W' P' v c:=by
 obtain⟨A,cap,e,h⟩:=h;exact⟨A,cap,e,h.out k hm hp⟩
theorem Kp.out{Y:p9}{B:Int->Fw.Bx}{F:Int->Nat}{P M:Nat->Prop}(h:Kp Y B F n P W)(k:Out M W W')(hm:∀b,P b->¬ M b):Kp Y B F n P W':=by
 obtain⟨hp,g,h1,h2⟩:=h;exact⟨hp,g,h1.out (hm _ hp) k,λz a b v hz ha hb hg=>(h2 z a b v hz ha hb hg).out k hm λ_ q=>q⟩
theorem yQ(W:World):(zeroValue 167).run ja0 W=.ok (.agg #[.slice none 0 0,()]) W:=by kernel_rfl
section
variable {Y:p9} {B:Int->Fw.Bx} {D:Int->Prop} {KM:World->Nat->Prop}
theorem JK(hK:∀(X X':World) (b:Nat),KM X b->Below X X X'->KM X' b)(z i0 i1:Int)(hz:D z)(w:World)(hR:RO w Y B D KM)(hne:(B z).fl=[]) :
  Calls ja0 83 #[Y.lb,.agg #[z,i0,i1]] w λe w'=>e=.returned (.agg #[.slice none 0 0,.int .i64 ((B z).sty.c 54)])/\Below w w w':=by
 obtain⟨hbx,hks,_⟩:=hR.box z hz;obtain⟨es0,UJ,hpm⟩:=hR.FJ;have hbig:Below w w ((w.alloc (.cells #[z,i0,i1] 99)).alloc (.cells #[.slice none 0 0,()] 167)):=aB (aB aD _) _;have hL:=λX (hb:Below ((w.alloc (.cells #[z,i0,i1] 99)).alloc (.cells #[.slice none 0 0,()] 167)).heap.size ((w.alloc (.cells #[z,i0,i1] 99)).alloc (.cells #[.slice none 0 0,()] 167)) X)=>(hR.keep hK (Below.after hbig hb)).look hz;have HR:=ah hR;have A0:At ((w.alloc (.cells #[z,i0,i1] 99)).alloc (.cells #[.slice none 0 0,()] 167)) w.heap.size (.cells #[z,i0,i1] 99):=At.alloc (At.new _ _) _;have A1:At ((w.alloc (.cells #[z,i0,i1] 99)).alloc (.cells #[.slice none 0 0,()] 167)) (w.heap.size+1) (.cells #[.slice none 0 0,()] 167):=At.new' _ Ku;have A2:=hbx.keep hbig;have AL:=hR.lay.keep hbig;have hB:=hbig;obtain⟨s,hs⟩:=aA ((B z).sty);obtain⟨fl,hfl⟩:=aA ((B z).fl);rw[hs]at A2;rw[hfl]at hks;obtain⟨A,cp,hvf,hI,hle,hmx,hAn⟩:=hks.ints;rw[hvf]at A2;generalize Y.va z=va at A2;generalize hib:(B z).ib=ib at A2;generalize hbz:Y.bl z=bz at *;have HS:=ah hs;have GJ:=ah hfl;have pG:=ah hbx;clear hbx hR hks hs hfl hvf hib;go_enter Tryz.func83,Tryz.ntmps83
 go_upto_region 1 with(fail)
 generalize (w.alloc (.cells #[z,i0,i1] 99)).alloc (.cells #[.slice none 0 0,()] 167)=W0 at *;have c0:=A0.lc;have Ca:=AL.lt;have Gd:W0.cell? ⟨Y.lb,2,none⟩=some (.map (some Y.bm)):=AL.cell 2;refine rZ ?_
 (repeat (first|refine jc ?_ | refine jd ?_ (hc:=by intro w2 hS;first|with_reducible exact iq hS (iO _))|refine je ?_))
 refine aj.bD ?_;intro w2 hS;replace A0:=At.keep A0 hS;replace A1:=At.keep A1 hS;replace A2:=At.keep A2 hS;replace AL:=At.keep AL hS;replace hB:=Below.ay hB aC hS;clear hS hL Gd Ca c0 hbig;have nU:w2.cell? ⟨bz,71,none⟩=some (.slice A fl.length cp):=aL.ext A2 16;have l2:=A2.lt;have c54:w2.cell? ⟨bz,54,none⟩=some (.int .i64 (s.c 54)):=aL.int A2 54 aG rfl;have l1:=A1.lt;have ML:w2.cell? ⟨w.heap.size+1,0,none⟩=some (.slice none 0 0):=A1.cell 0;have MN:w2.cell? ⟨w.heap.size+1,1,none⟩=some (.int .i64 0):=A1.cell 1;have z1:=A1.thaw;have hlz:((fl.length:Int)==0)=true:=by rw[<-GJ.out,hne];rfl
 have UW:∀X,(Instr.build 167 #[(1,.int .i64 (s.c 54))]).run ja0 X=.ok (.agg #[.slice none 0 0,s.c 54]) X:=λ_=>by kernel_rfl
 go_wp2;refine bodyPost_ret (v:=.agg #[.slice none 0 0,s.c 54]) Z4b rfl ⟨by rw[HS.out],?_⟩;exact Z0
theorem JL(hK:∀(X X':World) (b:Nat),KM X b->Below X X X'->KM X' b)(z i0 i1:Int)(hz:D z)(w:World)(hR:RO w Y B D KM)(n:Nat)(h0:Wf i0)(h1:Wf i1)(hne:(B z).fl≠[])
  (g:Lit->Option Value) (hg:GM 99 w Y.pm n g) (Av:Option Addr) (lv cv:Nat) (hv:Int) (hgv:g (klit z i0 i1)=some (.agg #[.slice Av lv cv,hv])) :
  Calls ja0 83 #[Y.lb,.agg #[z,i0,i1]] w λe w'=>e=.returned (.agg #[.slice Av lv cv,hv])/\Below w w w':=by
 obtain⟨hbx,hks,_⟩:=hR.box z hz;obtain⟨es0,UJ,hpm⟩:=hR.FJ;have hbig:Below w w ((w.alloc (.cells #[z,i0,i1] 99)).alloc (.cells #[.slice none 0 0,()] 167)):=aB (aB aD _) _;have hL:=λX (hb:Below ((w.alloc (.cells #[z,i0,i1] 99)).alloc (.cells #[.slice none 0 0,()] 167)).heap.size ((w.alloc (.cells #[z,i0,i1] 99)).alloc (.cells #[.slice none 0 0,()] 167)) X)=>(hR.keep hK (Below.after hbig hb)).look hz;have HR:=ah hR;have A0:At ((w.alloc (.cells #[z,i0,i1] 99)).alloc (.cells #[.slice none 0 0,()] 167)) w.heap.size (.cells #[z,i0,i1] 99):=At.alloc (At.new _ _) _;have A1:At ((w.alloc (.cells #[z,i0,i1] 99)).alloc (.cells #[.slice none 0 0,()] 167)) (w.heap.size+1) (.cells #[.slice none 0 0,()] 167):=At.new' _ Ku;have A2:=hbx.keep hbig;have AL:=hR.lay.keep hbig;have hB:=hbig;obtain⟨s,hs⟩:=aA ((B z).sty);obtain⟨fl,hfl⟩:=aA ((B z).fl);rw[hs]at A2;rw[hfl]at hks;obtain⟨A,cp,hvf,hI,hle,hmx,hAn⟩:=hks.ints;rw[hvf]at A2;generalize Y.va z=va at A2;generalize hib:(B z).ib=ib at A2;generalize hbz:Y.bl z=bz at *;have HS:=ah hs;have GJ:=ah hfl;have pG:=ah hbx;clear hbx hR hks hs hfl hvf hib;go_enter Tryz.func83,Tryz.ntmps83
 go_upto_region 1 with(fail)
 generalize (w.alloc (.cells #[z,i0,i1] 99)).alloc (.cells #[.slice none 0 0,()] 167)=W0 at *;have c0:=A0.lc;have Ca:=AL.lt;have Gd:W0.cell? ⟨Y.lb,2,none⟩=some (.map (some Y.bm)):=AL.cell 2;refine rZ ?_
 (repeat (first|refine jc ?_ | refine jd ?_ (hc:=by intro w2 hS;first|with_reducible exact iq hS (iO _))|refine je ?_))
 refine aj.bD ?_;intro w2 hS;replace A0:=At.keep A0 hS;replace A1:=At.keep A1 hS;replace A2:=At.keep A2 hS;replace AL:=At.keep AL hS;replace hB:=Below.ay hB aC hS;clear hS hL Gd Ca c0 hbig;have nU:w2.cell? ⟨bz,71,none⟩=some (.slice A fl.length cp):=aL.ext A2 16;have l2:=A2.lt;have c54:w2.cell? ⟨bz,54,none⟩=some (.int .i64 (s.c 54)):=aL.int A2 54 aG rfl;have l1:=A1.lt;have ML:w2.cell? ⟨w.heap.size+1,0,none⟩=some (.slice none 0 0):=A1.cell 0;have MN:w2.cell? ⟨w.heap.size+1,1,none⟩=some (.int .i64 0):=A1.cell 1;have aga:=A1.thaw 0;have agb:=A1.thaw 1;have hlz:((fl.length:Int)==0)=false:=by rw[<-GJ.out];simp;exact hne
 go_upto_region 4 with(fail)
 have c0:=A0.lc;have Ca:=AL.lt;have ly4:w2.cell? ⟨Y.lb,4,none⟩=some (.map (some Y.pm)):=AL.cell 4;have hzf:=HR.out.wf z hz;have hKL:=λX (hb:Below w2 w2 X)=>(hg.keep (Below.ay hB aC hb)).look_ok CJ Tryz.underlying105 (yQ X) (Ms hzf h0 h1);simp only[hgv,Option.getD_some,Option.isSome_some,PL]at hKL;have hS0:Below w2 w2 w2.drew:=Below.drew aD;refine iC (S:=λX=>Below w2 w2 X) 12 ?_ ?_
 . exact hS0
 intro hS1;clear hS0;refine aF 0 ?_;refine aF 1 ?_;refine aF 2 ?_;refine aF 3 ?_;refine aF 4 ?_;refine aF 5 ?_;refine aF 6 ?_;refine aF 7 ?_;refine aF 8 ?_;refine tk1 9 ?_;refine aj.Step.value eD ?_;have AN:At (w2.alloc (.cells #[.slice none 0 0,()] 167)).drew w2.heap.size (.cells #[.slice none 0 0,()] 167):=At.drew (At.new _ _);have hS2:Below w2 w2 (w2.alloc (.cells #[.slice none 0 0,()] 167)).drew:=Below.drew (aB aD _);have zo:=At.keep A1 hS2;have l1w:=l1;refine⟨λ_=>hS2,?_⟩
 (try simp only[bM,bN,bO,tks])
 generalize (w2.alloc (.cells #[.slice none 0 0,()] 167)).drew=w3 at *;obtain⟨ln,cn0,cn1⟩:=At.two AN;have zn0:=AN.thaw 0;have zn1:=AN.thaw 1;clear ML MN aga agb l1;refine tk1 10 ?_;refine aj.Step.skip eD ?_;have qz:Below w2 w2 ((w3.setCell ⟨w2,0,none⟩ (.slice Av lv cv)).setCell ⟨w2,1,none⟩ (.int .i64 hv)):=Below.setCell (Below.setCell hS2 aW _) aW _;have AN2:=At.set (At.set AN 0 (.slice Av lv cv)) 1 (.int .i64 hv);replace zo:=At.off (At.off zo (n:=w2.heap.size) ak 0 (.slice Av lv cv)) (n:=w2.heap.size) ak 1 (.int .i64 hv);refine⟨λ_=>qz,?_⟩
 (try simp only[Act.put])
 generalize (w3.setCell ⟨w2,0,none⟩ (.slice Av lv cv)).setCell ⟨w2,1,none⟩ (.int .i64 hv)=w4 at *;clear hS2 AN ln cn0 cn1 zn0 zn1 hS1;refine aF 11 ?_;refine gZ ?_;replace hB:=Below.ay hB aC qz;clear qz;obtain⟨ln,cn0,cn1⟩:=At.two (x:=.slice Av lv cv) (y:=.int .i64 hv) AN2;obtain⟨l1,ML,MN⟩:=At.two zo;have aga:=At.thaw zo 0;have agb:=At.thaw zo 1;clear nU l2 c54 c0 Ca ly4;go_wp2;refine bodyPost_ret (v:=.agg #[.slice Av lv cv,hv]) Z4b rfl ⟨rfl,?_⟩;exact Z0
end
end Go.Proofs.YtdnggaapcgomhaaGreat.Fix
