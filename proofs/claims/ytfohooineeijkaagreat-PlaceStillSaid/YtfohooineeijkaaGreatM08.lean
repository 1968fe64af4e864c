/- Steps of the program (8); no conditions. -/
import Derived.Test.YtfohooineeijkaaGreatM07
set_option linter.all false
set_option maxRecDepth 100000
set_option maxHeartbeats 16000000
namespace Go.Proofs.YtfohooineeijkaaGreat.Fix
open Go.ChangeShapes Go.WideShapes Go.ChangeAt Go.RowKit
open Go.Proofs.Tryz renaming prog → ja0
open World renaming alloc → ja4,setCell → ja5,setRow → jb5
open List renaming getElem?_eq_getElem → ja6,getElem?_toArray → jb2,take_of_length_le → jb6,length_map → jb7,getElem?_map → jc0,take_succ_eq_append_getElem → jc8,length_take → jc9
variable {cs vs:Array Value}{W W':World}{xs:List Im}{R q b n k:Nat}{T T':TypeId}{A:Option Addr}{x:Im}{M:Nat->Prop}
theorem Xq(x:Im)(s:Re.St)(fl ap:Value)(ib:Bool)(B:Nat)(w:World)(hb:aL w x.bx s fl ap ib)(h:w.cell? ⟨B,0,none⟩=some (.int .i64 0)):Calls ja0 174 #[.agg (lZ x),B] w λe w'=>e=.returned (.int .i64 (Fw.wr (Fe.clamp x.it x.it.b+Xp x s)))/\Below w w w':=by
 obtain⟨⟨ib0,ilo,ihi,ig,is⟩,ld,b,m0,m1,m2,m3⟩:=x;have hlt:B<w.heap.size:=World.block_lt_of_cell? _ _ h;go_enter Tryz.func174,Tryz.ntmps174
 go_upto_region 1 with(fail)
 have hB:Below w w (w.alloc (.cells (lZ ⟨⟨ib0,ilo,ihi,ig,is⟩,ld,b,m0,m1,m2,m3⟩) 216)):=aB aD _;generalize hW:ja4 _ _=W0;have A0:At W0 w (.cells (lZ ⟨⟨ib0,ilo,ihi,ig,is⟩,ld,b,m0,m1,m2,m3⟩) 216):=hW▸At.new _ _;have A2:aL W0 b s fl ap ib:=hW▸aL.alloc hb _;replace hB:Below w w W0:=hW▸hB;have lB:B<W0.heap.size:=aU hlt hB.size;have cB:=(Below.cell_ hB hlt 0).trans h;clear hW h hlt hb;obtain⟨l0,e0,e1,e2,e3,e4,d0,d1,d2,d3,d4,d5,d6,c0,c1,c2,c3,c4⟩:=At.im A0;simp only at e0 e1 e2 e3 e4 d0 d1 d2 d3 d4 d5 d6 c0 c1 c2 c3 c4;have HX:aL W0 (Im.mk ⟨ib0,ilo,ihi,ig,is⟩ ld b m0 m1 m2 m3).bx s fl ap ib:=A2;have hx:=λw' (hS:Below W0 W0 w')=>Rh ⟨⟨ib0,ilo,ihi,ig,is⟩,ld,b,m0,m1,m2,m3⟩ s fl ap ib w' (aL.keep HX hS);have hc:=λw'=>CB ib0 ilo ihi ig is ib0 w';clear HX A2;have HI:=ah A0;refine uJ ?_
 (refine aj.iC aQ Z3n ?_;(try simp only[bN,bO,bP,tks]))
 (refine aj.iC aQ Z3n ?_;(try simp only[bN,bO,bP,tks]))
 (refine aj.iC aQ Z3n ?_;(try simp only[bN,bO,bP,tks]))
 (refine aj.iC aQ Z3n ?_;(try simp only[bN,bO,bP,tks]))
 (refine aj.iC aQ Z3n ?_;(try simp only[bN,bO,bP,tks]))
 (refine aj.Dv (o:=⟨_,.call ⟨.value _,_,_⟩,_,_,_,_⟩) aQ (by intro w2 hS;go_simp;first|done|with_reducible rfl|exact⟨rfl,rfl⟩) (by intro w2 hS;(with_reducible refine(hc w2).mono ?_);rintro e w' ⟨rfl,hb⟩;exact⟨rfl,Below.after hS hb⟩) ?_;(try simp only[bN,bO,bP,tks]))
 (refine aj.iC aQ (λw2 hS=>vE (.tmp 2) rfl rfl (At.keep HI.out hS)) ?_;(try simp only[bN,bO,bP,tks]))
 (refine aj.iC aQ Z3n ?_;(try simp only[bN,bO,bP,tks]))
 (refine aj.Dv (o:=⟨_,.call ⟨.value _,_,_⟩,_,_,_,_⟩) aQ (by intro w2 hS;go_simp;first|done|with_reducible rfl|exact⟨rfl,rfl⟩) (by intro w2 hS;(with_reducible refine(hx w2 hS).mono ?_);rintro e w' ⟨rfl,hb⟩;exact⟨rfl,Below.after hS hb⟩) ?_;(try simp only[bN,bO,bP,tks]))
 (refine aj.iC aQ Z3n ?_;(try simp only[bN,bO,bP,tks]))
 (refine aj.iC aQ Z3n ?_;(try simp only[bN,bO,bP,tks]))
 refine aj.bI ?_;intro w2 hS;go_wp2
 go_ret
 exact⟨bA (by first|(simp only[uK,qI];done)|(simp only[uK,qI];rfl)),Below.ay hB aC hS⟩
theorem ads(x:Im)(w:World):Calls ja0 180 #[.agg (lZ x)] w λe w'=>e=.returned (.int .i64 (Fe.clamp x.it x.it.b))/\Below w w w':=by
 obtain⟨⟨ib0,ilo,ihi,ig,is⟩,ld,b,m0,m1,m2,m3⟩:=x;go_enter Tryz.func180,Tryz.ntmps180
 go_upto_region 1 with(fail)
 have hB:Below w w (w.alloc (.cells (lZ ⟨⟨ib0,ilo,ihi,ig,is⟩,ld,b,m0,m1,m2,m3⟩) 216)):=aB aD _;generalize hW:ja4 _ _=W0;have A0:At W0 w (.cells (lZ ⟨⟨ib0,ilo,ihi,ig,is⟩,ld,b,m0,m1,m2,m3⟩) 216):=hW▸At.new _ _;replace hB:Below w w W0:=hW▸hB;clear hW;obtain⟨l0,e0,e1,e2,e3,e4,-, -, -, -, -, -, -, -, -, -, -, -⟩:=At.im A0;simp only at e0 e1 e2 e3 e4
 go_wp2_with (first|(go_at_call 175;(with_reducible refine(CB _ _ _ _ _ _ _).mono ?_);rintro e w' ⟨rfl,hb⟩;(try replace hb:=Below.after (by assumption) hb);obtain⟨hc,hf⟩:=gJ hb;have hz:=hb.size;(try simp at hz)))
 go_ret
 exact⟨rfl,hb⟩
def asI(s:Re.St)(y:Nat)(base room:Int):Fe.It:=⟨Fx.len (s.c 41) (s.c 42) room base,Fx.limit 0 (s.c (7+2*y)) (s.c (8+2*y)) 0 0 room,max (Fx.len (s.c (11+2*y)) (s.c (12+2*y)) room 1048576) 0,s.c 39,s.c 40⟩
def wI(x:Fe.It):Array Value:=#[x.b,x.lo,x.hi,x.g,x.s]
theorem At.acB{W:World}{x0 x1 x2 x3 x4:Value}(h:At W b (.cells #[x0,x1,x2,x3,x4] T)):b<W.heap.size/\W.cell? ⟨b,0,none⟩=some x0/\W.cell? ⟨b,1,none⟩=some x1/\W.cell? ⟨b,2,none⟩=some x2/\W.cell? ⟨b,3,none⟩=some x3/\W.cell? ⟨b,4,none⟩=some x4:=⟨h.lt,h.cell 0,h.cell 1,h.cell 2,h.cell 3,h.cell 4⟩
theorem Rl(k0 n0 k1 n1 k2 n2:Int)(s:Re.St)(base room:Int)(w:World):Calls ja0 132 #[.agg #[k0,n0,k1,n1,k2,n2],.agg (cells s),base,room] w λe w'=>e=.returned (.agg #[.int .i64 (Fx.len (s.c 41) (s.c 42) room base),Fx.limit 0 k1 n1 0 0 room,.int .i64 (max (Fx.len k2 n2 room 1048576) 0),s.c 39,s.c 40])/\Below w w w':=by
 go_enter Tryz.func132,Tryz.ntmps132
 go_upto_region 1 with(fail)
 generalize hW:ja4 _ _=W0;have A0:At W0 w (.cells #[k0,n0,k1,n1,k2,n2] 137):=hW▸At.alloc (At.alloc (At.new _ _) _) _;have A1:At W0 (w.heap.size+1) (.cells (cells s) 59):=by rw[<-hW];exact At.alloc (At.new' _ Ka) _
 have A2:At W0 (w.heap.size+1+1) (.cells #[(),(),(),(),()] 214):=by rw[<-hW];exact At.new' _ Ka
 have hB:Below w w W0:=hW▸aB (aB (aB aD _) _) _;clear hW;obtain⟨l0,c0,c1,c2,c3,c4,c5⟩:=At.six A0;have l1:=A1.lt;have d0:=A1.st 41 aF rfl;have d1:=A1.st 42 aF rfl;have d2:=A1.st 39 aF rfl;have d3:=A1.st 40 aF rfl;refine wZ 20 1 ?_
 (repeat (first|refine jw ?_ | refine jy ?_ (hc:=by intro w2 hS;first|with_reducible exact iR hS (iL _ _ _ _ _)|with_reducible exact iR hS (GR _ _ _ _ _ _ _))|refine jA ?_))
 refine aj.bL ?_;intro w2 hS;replace A2:=A2.keep hS;replace hB:=Below.ay hB aC hS;obtain⟨l2,y0,y1,y2,y3,y4⟩:=At.acB A2;have z0:=A2.thaw 0;have z1:=A2.thaw 1;have z2:=A2.thaw 2;have z3:=A2.thaw 3;have z4:=A2.thaw 4;refine vU ?_;intro K hK;go_simp;refine hK _ _ (aj.bC ?_);clear hK K;generalize hW:ja5 _ _ _=W1;replace A2:At W1 (w.heap.size+1+1) (.cells #[_,_,_,_,_] 214):=hW▸At.set (At.set (At.set (At.set (At.set A2 0 _) 1 _) 2 _) 3 _) 4 _;replace hB:Below w w W1:=hW▸Below.setCell (Below.setCell (Below.setCell (Below.setCell (Below.setCell hB iH _) iH _) iH _) iH _) iH _;clear hW y0 y1 y2 y3 y4 z0 z1 z2 z3 z4 l2;obtain⟨l2,y0,y1,y2,y3,y4⟩:=At.acB A2;go_wp2;refine bodyPost_ret (v:=.agg #[_,_,_,_,_]) (by simp[results,Tryz.results132,go_sem, *];first|done|exact⟨rfl,rfl⟩|exact⟨rfl,rfl,rfl,rfl,rfl⟩|rfl) rfl ⟨L8 rfl rfl rfl rfl rfl,hB⟩
theorem At.seven{W:World}{x0 x1 x2 x3 x4 x5 x6:Value}(h:At W b (.cells #[x0,x1,x2,x3,x4,x5,x6] T)):b<W.heap.size/\W.cell? ⟨b,0,none⟩=some x0/\W.cell? ⟨b,1,none⟩=some x1/\W.cell? ⟨b,2,none⟩=some x2/\W.cell? ⟨b,3,none⟩=some x3/\W.cell? ⟨b,4,none⟩=some x4/\W.cell? ⟨b,5,none⟩=some x5/\W.cell? ⟨b,6,none⟩=some x6:=⟨h.lt,h.cell 0,h.cell 1,h.cell 2,h.cell 3,h.cell 4,h.cell 5,h.cell 6⟩
structure pU where
 lb:Nat
 bm:Nat
 km:Nat
 pm:Nat
 rm:Nat
 ww:Int
 wh:Int
 bl:Int->Nat
 vf:Int->Value
 va:Int->Value
structure RO(W:World)(Y:pU)(B:Int->Fw.Bx)(D:Int->Prop)(KM:World->Nat->Prop):Prop where
 lay:At W Y.lb (.cells #[Y.ww,Y.wh,.map (some Y.bm),.map (some Y.km),.map (some Y.pm),.map (some Y.rm)] 94)
 boxes:∃n g,GM 3 W Y.bm n g/\∀z,D z->g (.int .i64 z)=some (.pointer (some ⟨Y.bl z,0,none⟩))
 box:∀z,D z->aL W (Y.bl z) (B z).sty (Y.vf z) (Y.va z) (B z).ib/\KS W (Y.vf z) (B z).fl/\KS W (Y.va z) (B z).ap
 kinds:KM W Y.km
 wf:∀z,D z->Wf z
 Fz:∃es clock,At W Y.pm (.map es clock)
 pmb:Y.pm≠Y.bm
 pmk:Y.pm≠Y.km
 pmr:Y.pm≠Y.rm
theorem Out.cell(h:Out M W W')(o:Nat)(hb:b<W.heap.size)(hm:¬ M b):W'.cell? ⟨b,o,none⟩=W.cell? ⟨b,o,none⟩:=by
 have e:=h.2 b hb hm;unfold World.cell?;rw[e]
theorem F3(v:Value)(h:Int)(W:World):(Instr.field 147 (.agg #[v,h]) 1).run ja0 W=.ok (.int .i64 h) W:=by kernel_rfl
theorem vV{q:Nat}(h:Out (λb=>b=q) W W'):∀b o,b<W.heap.size->b≠q->W'.cell? ⟨b,o,none⟩=W.cell? ⟨b,o,none⟩:=λb o hb hn=>Out.cell h o hb hn
theorem K6{q r:Nat}(h:Out (λb=>b=q\/b=r) W W'):∀b o,b<W.heap.size->b≠q->b≠r->W'.cell? ⟨b,o,none⟩=W.cell? ⟨b,o,none⟩:=λb o hb hn hm=>Out.cell h o hb (by rintro(e|e);exact hn e;exact hm e)
section
variable {W W':World} {Y:pU} {B:Int->Fw.Bx} {D:Int->Prop} {KM:World->Nat->Prop}
theorem RO.keep(hK:∀(X X':World) (b:Nat),KM X b->Below X X X'->KM X' b)(h:RO W Y B D KM)(hb:Below W W W'):RO W' Y B D KM where
 lay:=h.lay.keep hb
 boxes:=by obtain⟨n,g,h1,h2⟩:=h.boxes;exact⟨n,g,h1.keep hb,h2⟩
 box:=λz hz=>by obtain⟨h1,h2,h3⟩:=h.box z hz;exact⟨h1.keep hb,h2.after hb,h3.after hb⟩
 kinds:=hK _ _ _ h.kinds hb
 wf:=h.wf
 Fz:=by obtain⟨es,ck,q⟩:=h.Fz;exact⟨es,ck,q.keep hb⟩
 pmb:=h.pmb
 pmk:=h.pmk
 pmr:=h.pmr
theorem RO.look(h:RO W Y B D KM){z:Int}(hz:D z):(Instr.lookup 90 (.map (some Y.bm)) (.int .i64 z) false).run ja0 W=.ok (.pointer (some ⟨Y.bl z,0,none⟩)) W:=by
 obtain⟨n,g,h1,h2⟩:=h.boxes;rw[h1.look iU Tryz.underlying90 (z:=.pointer none) aX (iO (h.wf z hz)),h2 z hz];rfl
end
section
variable {Y:pU} {B:Int->Fw.Bx} {D:Int->Prop} {KM:World->Nat->Prop} {Iv Iv2:(Nat->Prop)->World->Prop}
theorem aa6(hK:∀(X X':World) (b:Nat),KM X b->Below X X X'->KM X' b)(hI:∀{P M:Nat->Prop} {X X':World},Iv P X->Out M X X'->(∀b,P b->¬ M b)->Iv P X')(hI2:∀{P M:Nat->Prop} {X X':World},Iv2 P X->Out M X X'->(∀b,P b->¬ M b)->Iv2 P X')(h12:∀{P:Nat->Prop} {X:World},Iv P X->Iv2 P X)(P:Nat->Prop)
  (z r0 r1 t0 t1:Int) (hz:D z) (w:World) (hR:RO w Y B D KM) (hw:Iv P w) (hP:∀b,P b->b<w.heap.size) (cn:Int->Int->Int->List Fw.Ld×Int)
  (hin:∀X i0,RO X Y B D KM->Iv P X->i0=Fw.FK (B z).sty 0 r0 r0 t0->Calls ja0 67 #[Y.lb,.agg #[z,.int .i64 i0,.int .i64 (-1)]] X λe X'=>(∃v,e=.returned (.agg #[v,.int .i64 (cn z i0 (-1)).2]))/\(∃P',Iv2 P' X'/\∀b,P' b->P b\/X.heap.size<=b)/\Out (λb=>b=Y.pm) X X') :
  Calls ja0 32 #[Y.lb,z,.agg #[r0,r1],.agg #[t0,t1]] w λe w'=>e=.returned (.agg (dU (Fw.SG B cn z r0 r1 t0 t1)))/\(∃P',Iv2 P' w'/\∀b,P' b->P b\/w.heap.size<=b)/\Out (λb=>b=Y.pm) w w':=by
 obtain⟨es0,Uc,hpm⟩:=hR.Fz;have hpl:=hpm.lt;have hbx:=(hR.box z hz).1;have hblt:=hbx.lt
 have aif:Y.bl z≠Y.pm:=λq=>by
  have:=At.uniq hbx (q▸hpm);cases this
 have FT:=hR.lay.lt;have wK:=ah hR;have hbig:=hR.keep hK (aB (aB (aB (Below.refl w.heap.size w) (.cells #[r0,r1] 81)) (.cells #[t0,t1] 81)) (.cells #[(),(),(),(),(),(),()] 88));have hl1:=hbig.look hz;have wD:=hbig.lay;clear hR;obtain⟨ans,eu⟩:∃x,Hid (Fw.SG B cn z r0 r1 t0 t1=x):=⟨_,ah rfl⟩;rw[eu.out];generalize hs:(B z).sty=s at *;generalize Y.vf z=vf at *;generalize Y.va z=va at *;generalize hib:(B z).ib=ib at *;generalize hbz:Y.bl z=bz at *;go_enter Tryz.func32,Tryz.ntmps32
 go_upto_region 1 with(fail)
 have A0:At (((w.alloc (.cells #[r0,r1] 81)).alloc (.cells #[t0,t1] 81)).alloc (.cells #[(),(),(),(),(),(),()] 88)) w.heap.size (.cells #[r0,r1] 81):=At.alloc (At.alloc (At.new _ _) _) _;have A1:At (((w.alloc (.cells #[r0,r1] 81)).alloc (.cells #[t0,t1] 81)).alloc (.cells #[(),(),(),(),(),(),()] 88)) (w.heap.size+1) (.cells #[t0,t1] 81):=At.alloc (At.new' _ Ka) _;have A3:At (((w.alloc (.cells #[r0,r1] 81)).alloc (.cells #[t0,t1] 81)).alloc (.cells #[(),(),(),(),(),(),()] 88)) (w.heap.size+1+1) (.cells #[(),(),(),(),(),(),()] 88):=At.new' _ Ka;have A2:=hbx.alloc (.cells #[r0,r1] 81) |>.alloc (.cells #[t0,t1] 81) |>.alloc (.cells #[(),(),(),(),(),(),()] 88)
 have hB:Below w w (((w.alloc (.cells #[r0,r1] 81)).alloc (.cells #[t0,t1] 81)).alloc (.cells #[(),(),(),(),(),(),()] 88)):=aB (aB (aB aD _) _) _;generalize ((w.alloc (.cells #[r0,r1] 81)).alloc (.cells #[t0,t1] 81)).alloc (.cells #[(),(),(),(),(),(),()] 88)=W0 at *;have BR:=wD.lt;have l3':=A3.lt;have F4:W0.cell? ⟨Y.lb,2,none⟩=some (.map (some Y.bm)):=wD.cell 2
 go_upto_region 3 with(fail)
 generalize hW:ja4 _ _=W1;have A4:At W1 W0 (.cells #[z,(),(),(),(),(),()] 88):=hW▸At.new _ _;replace A0:At W1 _ _:=hW▸At.alloc A0 _;replace A1:At W1 _ _:=hW▸At.alloc A1 _;replace A2:At W1 _ _:=hW▸At.alloc A2 _;replace A3:At W1 _ _:=hW▸At.alloc A3 _;replace hB:Below w w W1:=hW▸aB hB _;clear hW hl1 wD F4 BR hbig;generalize W0.heap.size=bx at *;have c0:=A0.lc;have c1:=A1.lc;obtain⟨l2,bQ,bX,bY,bZ,cu,cK,bS,bU⟩:=At.bx0 A2;obtain⟨l3,jI,jJ,jK,jL,jM,jN,jO⟩:=At.seven A3;have z3:=A3.thaw;have c4:=A4.nI;go_wp2;refine wp_loop_rounds 3 ?_;rw[rounds_succ]
 go_upto_region 6 with(fail)
 go_upto_region 7 with(first|(go_at_call 69;(with_reducible refine(afv _ _ _ _ _ _ _ _ _ _ (by first|exact A2|exact At.keep A2 hS)).mono ?_);rintro e w' ⟨rfl,hb⟩;(clear c0 c1 l2 bQ bX bY bZ cu cK bS bU l3 jI jJ jK jL jM jN jO z3 c4);(replace hB:=Below.ay qJ aC hb);replace A0:=At.keep uE hb;replace A1:=At.keep rX hb;replace A2:=At.keep tQ hb;replace A3:=At.keep zA hb;replace A4:=At.keep Z3v hb;clear hb;have c0:=A0.lc;have c1:=A1.lc;obtain⟨l2,bQ,bX,bY,bZ,cu,cK,bS,bU⟩:=At.bx0 A2;obtain⟨l3,jI,jJ,jK,jL,jM,jN,jO⟩:=At.seven A3;have z3:=A3.thaw;have c4:=A4.nI))
 generalize hW:ja5 _ _ _=W2;clear c0 c1 l2 bQ bX bY bZ cu cK bS bU l3 jI jJ jK jL jM jN jO z3 c4;replace A4:At W2 bx (.cells #[z,Fw.FK s 0 r0 r0 t0,(),(),(),(),()] 88):=hW▸At.set (A4) 1 _;replace A0:At W2 _ _:=hW▸At.off (A0) ak _ _;replace A1:At W2 _ _:=hW▸At.off (A1) ak _ _;replace A2:At W2 _ _:=hW▸At.off (A2) ak _ _;replace A3:At W2 _ _:=hW▸At.off (A3) ak _ _;replace hB:Below w w W2:=hW▸Below.setCell (hB) iH _;clear hW;have c0:=A0.lc;have c1:=A1.lc;obtain⟨l2,bQ,bX,bY,bZ,cu,cK,bS,bU⟩:=At.bx0 A2;obtain⟨l3,jI,jJ,jK,jL,jM,jN,jO⟩:=At.seven A3;have z3:=A3.thaw;have c4:=A4.nI;obtain⟨l2,bQ,bX,bY,bZ,cu,cK,bS,bU⟩:=At.bx1 A2;go_wp2;rw[rounds_succ]
 go_upto_region 6 with(fail)
 go_upto_region 7 with(first|(go_at_call 69;(with_reducible refine(afw _ _ _ _ _ _ _ _ _ _ (by first|exact A2|exact At.keep A2 hS)).mono ?_);rintro e w' ⟨rfl,hb⟩;(clear c0 c1 l2 bQ bX bY bZ cu cK bS bU l3 jI jJ jK jL jM jN jO z3 c4);(replace hB:=Below.ay qJ aC hb);replace A0:=At.keep uE hb;replace A1:=At.keep rX hb;replace A2:=At.keep tQ hb;replace A3:=At.keep zA hb;replace A4:=At.keep Z3v hb;clear hb;have c0:=A0.lc;have c1:=A1.lc;obtain⟨l2,bQ,bX,bY,bZ,cu,cK,bS,bU⟩:=At.bx1 A2;obtain⟨l3,jI,jJ,jK,jL,jM,jN,jO⟩:=At.seven A3;have z3:=A3.thaw;have c4:=A4.nI))
 generalize hW:ja5 _ _ _=W3;clear c0 c1 l2 bQ bX bY bZ cu cK bS bU l3 jI jJ jK jL jM jN jO z3 c4;replace A4:At W3 bx (.cells #[z,Fw.FK s 0 r0 r0 t0,Fw.FK s 1 r0 r1 t1,(),(),(),()] 88):=hW▸At.set (A4) 2 _;replace A0:At W3 _ _:=hW▸At.off (A0) ak _ _;replace A1:At W3 _ _:=hW▸At.off (A1) ak _ _;replace A2:At W3 _ _:=hW▸At.off (A2) ak _ _;replace A3:At W3 _ _:=hW▸At.off (A3) ak _ _;replace hB:Below w w W3:=hW▸Below.setCell (hB) iH _;clear hW;have c0:=A0.lc;have c1:=A1.lc;obtain⟨l2,bQ,bX,bY,bZ,cu,cK,bS,bU⟩:=At.bx1 A2;obtain⟨l3,jI,jJ,jK,jL,jM,jN,jO⟩:=At.seven A3;have z3:=A3.thaw;have c4:=A4.nI;obtain⟨i0,HI0⟩:∃x,Hid (Fw.FK s 0 r0 r0 t0=x):=⟨_,ah rfl⟩;obtain⟨i1,HI1⟩:∃x,Hid (Fw.FK s 1 r0 r1 t1=x):=⟨_,ah rfl⟩;rw[HI0.out,HI1.out]at A4;clear c4;have c4:=A4.nI;go_wp2;rw[rounds_succ]
 go_upto_region 8 with(fail)
 go_upto_region 9 with(fail)
 generalize hW:ja5 _ _ _=W4;clear c0 c1 l2 bQ bX bY bZ cu cK bS bU l3 jI jJ jK jL jM jN jO z3 c4;replace A4:At W4 bx (.cells #[z,i0,i1,i0,i1,(),()] 88):=hW▸At.set (At.set (A4) 3 _) 4 _;replace A0:At W4 _ _:=hW▸At.off (At.off (A0) ak _ _) ak _ _;replace A1:At W4 _ _:=hW▸At.off (At.off (A1) ak _ _) ak _ _;replace A2:At W4 _ _:=hW▸At.off (At.off (A2) ak _ _) ak _ _;replace A3:At W4 _ _:=hW▸At.off (At.off (A3) ak _ _) ak _ _;replace hB:Below w w W4:=hW▸Below.setCell (Below.setCell (hB) iH _) iH _;clear hW;have c0:=A0.lc;have c1:=A1.lc;obtain⟨l2,bQ,bX,bY,bZ,cu,cK,bS,bU⟩:=At.bx1 A2;obtain⟨l3,jI,jJ,jK,jL,jM,jN,jO⟩:=At.seven A3;have z3:=A3.thaw;have c4:=A4.nI;have lp0:w.heap.size≠Y.pm:=by omega
 have lp1:w.heap.size+1≠Y.pm:=by omega
 have lp3:w.heap.size+1+1≠Y.pm:=by omega
 have lp4:bx≠Y.pm:=by omega
 by_cases hu:i1 = -1
 . have HU:=ah hu
   subst hu
   go_upto_region 10 with(fail)
   have hR4:=wK.out.keep hK (Below.drew hB);have Ud:=hI (M:=λ_=>False) hw (Out.of_below (Below.drew hB)) λ_ _ q=>q;have hcall:=hin _ i0 hR4 Ud HI0.out.symm;have hO4:Out (λb=>b=Y.pm) W4 W4.drew:=(Out.refl _ _).drew;have J9:bz≠Y.pm:=aif;have lbx:bz≠bx:=by omega
   have lx0:w.heap.size≠bx:=by omega
   have lk4:bx<W4.heap.size:=c4.1;have lk3:w.heap.size+1+1<W4.heap.size:=l3;have mkS:∀X,Out (λb=>b=Y.pm) W4 X->Out (λb=>b=Y.pm\/b=bx) W4 X/\X.cell? ⟨bx,0,none⟩=some (.int .i64 z)/\X.cell? ⟨bx,1,none⟩=some (.int .i64 i0)/\X.cell? ⟨bx,2,none⟩=some (.int .i64 (-1)):=λX h=>⟨h.mono λb _ q => .inl q,(vV h _ _ c4.1 lp4).trans (c4.2.1 0),(vV h _ _ c4.1 lp4).trans (c4.2.1 1),(vV h _ _ c4.1 lp4).trans (c4.2.1 2)⟩;have MKS:=ah mkS;clear mkS;clear c4;refine gZ (S:=λX=>Out (λb=>b=Y.pm\/b=bx) W4 X/\X.cell? ⟨bx,0,none⟩=some (.int .i64 z)/\X.cell? ⟨bx,1,none⟩=some (.int .i64 i0)/\X.cell? ⟨bx,2,none⟩=some (.int .i64 (-1))) 16 ?_ ?_
   . exact MKS.out _ hO4
   intro hS5;refine fJ 0 ?_;refine fJ 1 ?_;refine fJ 2 ?_;refine fJ 3 ?_;refine fJ 4 ?_;refine fJ 5 ?_;refine fJ 6 ?_;refine fJ 7 ?_;refine fJ 10 ?_;refine fJ 11 ?_;refine fJ 13 ?_;refine tk1 8 ?_;refine aj.Step.call eB hcall ?_;rintro e w5 ⟨⟨v,rfl⟩,⟨P5,hI5,CF⟩,Fv⟩;refine⟨_,rfl,λ_=>MKS.out _ (hO4.trans Fv),?_⟩;replace hO4:=hO4.trans Fv;replace hS5:=MKS.out _ hO4;clear hcall Fv;have hfc:=F3 v (cn z i0 (-1)).2
   (try simp only[bN,bO,bP,tks])
   refine fJ 9 ?_;refine tk1 12 ?_;refine aj.Step.call (by go_simp;first|done|with_reducible rfl|exact⟨⟨rfl,rfl,rfl,rfl,rfl,rfl⟩,rfl,rfl⟩|exact⟨⟨⟨rfl,rfl,rfl,rfl,rfl,rfl⟩,rfl,rfl⟩,rfl⟩) (qY _ _ _ _ _ _ _ _ _) ?_;rintro e w6 ⟨rfl,hb6⟩;refine⟨_,rfl,λ_=>MKS.out _ (hO4.trans (Out.of_below hb6)),?_⟩;replace hO4:=hO4.trans (Out.of_below hb6);replace hS5:=MKS.out _ hO4;replace hI5:=hI2 (M:=λ_=>False) hI5 (Out.of_below hb6) λ_ _ q=>q;clear hb6
   (try simp only[bN,bO,bP,tks])
   refine fJ 14 ?_;refine tk1 15 ?_;have A5:=A4.out lp4 hO4;have d4:w6.cell? ⟨bx,4,none⟩=some (.int .i64 (-1)):=A5.cell 4;have e4:=A5.thaw 4;refine aj.Step.skip eB ?_;refine⟨λ_=>⟨Out.set (hO4.mono λb _ q => .inl q) (.inr rfl) 4 _,(A5.set 4 _).cell 0,(A5.set 4 _).cell 1,(A5.set 4 _).cell 2⟩,?_⟩
   (try simp only[Act.put])
   refine gX ?_;have hQ:Out (λb=>b=bx\/b=w.heap.size+1+1) w6 w6:=Out.refl _ _;replace A0:=A0.out lp0 hO4;replace A1:=A1.out lp1 hO4;replace A2:=At.out A2 J9 hO4;replace A3:=A3.out lp3 hO4;replace A4:=A5;clear A5 d4 e4 hS5;obtain⟨hh,Mg⟩:=aA (Fw.lim s 1 (cn z i0 (-1)).2 r1);have hlm:Fx.limit (cn z i0 (-1)).2 (s.c 9) (s.c 10) (s.c 13) (s.c 14) r1=hh:=Mg;rw[hlm];clear hlm;have HHH:=ah Mg;clear Mg;have aj7:W4.heap.size<=w6.heap.size:=hO4.size;clear c0 c1 l2 bQ bX bY bZ cu cK bS bU l3 jI jJ jK jL jM jN jO z3;generalize hW:ja5 _ _ _=W5;replace A4:At W5 bx (.cells #[z,i0,.int .i64 (-1),i0,hh,(),()] 88):=hW▸At.set (A4) 4 _;replace A0:At W5 _ _:=hW▸At.off (A0) ak _ _;replace A1:At W5 _ _:=hW▸At.off (A1) ak _ _;replace A2:At W5 _ _:=hW▸At.off (A2) ak _ _;replace A3:At W5 _ _:=hW▸At.off (A3) ak _ _;replace hQ:Out _ _ W5:=hW▸Out.set (hQ) (.inl rfl) 4 _;clear hW;have c0:=A0.lc;have c1:=A1.lc;obtain⟨l2,bQ,bX,bY,bZ,cu,cK,bS,bU⟩:=At.bx0 A2;obtain⟨l3,jI,jJ,jK,jL,jM,jN,jO⟩:=At.seven A3;have z3:=A3.thaw;have c4:=A4.nI;go_wp2;refine wp_loop_rounds 3 ?_;rw[rounds_succ]
   go_upto_region 14 with(fail)
   refine wZ 14 1 ?_
   (repeat (first|refine jw ?_ | refine jy ?_ (hc:=by intro w2 hS;first|with_reducible exact iR hS (eT _ _ _))|refine jA ?_))
   refine aj.bL ?_;intro w2 hS;clear c0 c1 l2 bQ bX bY bZ cu cK bS bU l3 jI jJ jK jL jM jN jO z3 c4;replace hQ:=hQ.trans (Out.of_below hS);replace A0:=At.keep A0 hS;replace A1:=At.keep A1 hS;replace A2:=At.keep A2 hS;replace A3:=At.keep A3 hS;replace A4:=At.keep A4 hS;clear hS;have c0:=A0.lc;have c1:=A1.lc;obtain⟨l2,bQ,bX,bY,bZ,cu,cK,bS,bU⟩:=At.bx0 A2;obtain⟨l3,jI,jJ,jK,jL,jM,jN,jO⟩:=At.seven A3;have z3:=A3.thaw;have c4:=A4.nI;refine vU ?_;intro K hK;go_simp;refine hK _ _ (aj.bC ?_);clear hK K;generalize hW:ja5 _ _ _=W6;clear c0 c1 l2 bQ bX bY bZ cu cK bS bU l3 jI jJ jK jL jM jN jO z3 c4;replace A4:At W6 bx (.cells #[z,i0,.int .i64 (-1),.int .i64 (IntKind.i64.wrap (i0+Fw.wr (Fw.ed s 3+Fw.ed s 1))),hh,(),()] 88):=hW▸At.set (A4) 3 _;replace A0:At W6 _ _:=hW▸At.off (A0) ak _ _;replace A1:At W6 _ _:=hW▸At.off (A1) ak _ _;replace A2:At W6 _ _:=hW▸At.off (A2) ak _ _;replace A3:At W6 _ _:=hW▸At.off (A3) ak _ _;replace hQ:Out _ _ W6:=hW▸Out.set (hQ) (.inl rfl) 3 _;clear hW;have c0:=A0.lc;have c1:=A1.lc;obtain⟨l2,bQ,bX,bY,bZ,cu,cK,bS,bU⟩:=At.bx0 A2;obtain⟨l3,jI,jJ,jK,jL,jM,jN,jO⟩:=At.seven A3;have z3:=A3.thaw;have c4:=A4.nI;obtain⟨l2,bQ,bX,bY,bZ,cu,cK,bS,bU⟩:=At.bx1 A2;go_wp2;rw[rounds_succ]
   go_upto_region 14 with(fail)
   refine wZ 14 1 ?_
   (repeat (first|refine jw ?_ | refine jy ?_ (hc:=by intro w2 hS;first|with_reducible exact iR hS (eT _ _ _))|refine jA ?_))
   refine aj.bL ?_;intro w2 hS;clear c0 c1 l2 bQ bX bY bZ cu cK bS bU l3 jI jJ jK jL jM jN jO z3 c4;replace hQ:=hQ.trans (Out.of_below hS);replace A0:=At.keep A0 hS;replace A1:=At.keep A1 hS;replace A2:=At.keep A2 hS;replace A3:=At.keep A3 hS;replace A4:=At.keep A4 hS;clear hS;have c0:=A0.lc;have c1:=A1.lc;obtain⟨l2,bQ,bX,bY,bZ,cu,cK,bS,bU⟩:=At.bx1 A2;obtain⟨l3,jI,jJ,jK,jL,jM,jN,jO⟩:=At.seven A3;have z3:=A3.thaw;have c4:=A4.nI;refine vU ?_;intro K hK;go_simp;refine hK _ _ (aj.bC ?_);clear hK K;generalize hW:ja5 _ _ _=W7;clear c0 c1 l2 bQ bX bY bZ cu cK bS bU l3 jI jJ jK jL jM jN jO z3 c4;replace A4:At W7 bx (.cells #[z,i0,.int .i64 (-1),.int .i64 (IntKind.i64.wrap (i0+Fw.wr (Fw.ed s 3+Fw.ed s 1))),.int .i64 (IntKind.i64.wrap (hh+Fw.wr (Fw.ed s 0+Fw.ed s 2))),(),()] 88):=hW▸At.set (A4) 4 _;replace A0:At W7 _ _:=hW▸At.off (A0) ak _ _;replace A1:At W7 _ _:=hW▸At.off (A1) ak _ _;replace A2:At W7 _ _:=hW▸At.off (A2) ak _ _;replace A3:At W7 _ _:=hW▸At.off (A3) ak _ _;replace hQ:Out _ _ W7:=hW▸Out.set (hQ) (.inl rfl) 4 _;clear hW;have c0:=A0.lc;have c1:=A1.lc;obtain⟨l2,bQ,bX,bY,bZ,cu,cK,bS,bU⟩:=At.bx1 A2;obtain⟨l3,jI,jJ,jK,jL,jM,jN,jO⟩:=At.seven A3;have z3:=A3.thaw;have c4:=A4.nI;go_wp2;rw[rounds_succ];go_wp2;have eH:ans=⟨z,i0,-1,Fw.wr (i0+Fw.vW s 0),Fw.wr (hh+Fw.vW s 1),0,0⟩:=by
    rw[<-eu.out];unfold Fw.SG;simp only[hs,HI0.out,HI1.out,HHH.out,if_true]
   subst eH;simp only[uK];generalize hW:ja5 _ _ _=W8;clear c0 c1 l2 bQ bX bY bZ cu cK bS bU c4 l3 jI jJ jK jL jM jN jO z3;replace A3:At W8 (w.heap.size+1+1) (.cells #[z,i0,.int .i64 (-1),.int .i64 (Fw.wr (i0+Fw.vW s 0)),.int .i64 (Fw.wr (hh+Fw.vW s 1)),(),()] 88):=hW▸At.set (At.set (At.set (At.set (At.set (At.set (At.set (A3) 0 _) 1 _) 2 _) 3 _) 4 _) 5 _) 6 _;replace A0:At W8 _ _:=hW▸At.off (At.off (At.off (At.off (At.off (At.off (At.off (A0) ak _ _) ak _ _) ak _ _) ak _ _) ak _ _) ak _ _) ak _ _;replace A1:At W8 _ _:=hW▸At.off (At.off (At.off (At.off (At.off (At.off (At.off (A1) ak _ _) ak _ _) ak _ _) ak _ _) ak _ _) ak _ _) ak _ _;replace A2:At W8 _ _:=hW▸At.off (At.off (At.off (At.off (At.off (At.off (At.off (A2) ak _ _) ak _ _) ak _ _) ak _ _) ak _ _) ak _ _) ak _ _;replace A4:At W8 _ _:=hW▸At.off (At.off (At.off (At.off (At.off (At.off (At.off (A4) ak _ _) ak _ _) ak _ _) ak _ _) ak _ _) ak _ _) ak _ _;replace hQ:Out _ _ W8:=hW▸Out.set (Out.set (Out.set (Out.set (Out.set (Out.set (Out.set (hQ) (.inr rfl) 0 _) (.inr rfl) 1 _) (.inr rfl) 2 _) (.inr rfl) 3 _) (.inr rfl) 4 _) (.inr rfl) 5 _) (.inr rfl) 6 _;clear hW;have c0:=A0.lc;have c1:=A1.lc;obtain⟨l2,bQ,bX,bY,bZ,cu,cK,bS,bU⟩:=At.bx1 A2;have c4:=A4.nI;obtain⟨l3,jI,jJ,jK,jL,jM,jN,jO⟩:=At.seven A3;have z3:=A3.thaw;refine bodyPost_ret (v:=.agg #[_,_,_,_,_,_,_]) (by simp[results,Tryz.results32,go_sem,jI,jJ,jK,jL,jM,jN,jO];first|done|exact⟨rfl,rfl,rfl,rfl,rfl,rfl,rfl⟩|rfl) rfl ⟨rfl,⟨P5,hI2 hI5 hQ (λb q => ?_),λb q => ?_⟩,?_⟩
   . rintro(rfl|rfl)
     . rcases CF _ q with q|q
       . exact absurd (hP _ q) ak
       . simp only[World.size_drew]at q;omega
     . rcases CF _ q with q|q
       . exact absurd (hP _ q) ak
       . simp only[World.size_drew]at q;omega
   . rcases CF _ q with q|q
     . exact .inl q
     . exact .inr (by simp only[World.size_drew]at q;exact aH hB.size q)
   . exact Out.trans' ((Out.of_below hB).trans hO4) hQ λb hb q=>by rcases q with rfl|rfl<;>omega
 . have hne:(i1 == -1)=false:=by simpa using hu
   have HNE:=ah hu;clear hu;obtain⟨hh,Mg⟩:=aA i1
   go_upto_region 11 with(fail)
   replace A4:At W4 bx (.cells #[z,i0,i1,i0,hh,(),()] 88):=Mg▸A4;have c4:=A4.lc;obtain⟨l2,bQ,bX,bY,bZ,cu,cK,bS,bU⟩:=At.bx0 A2;have g0:=hB.size;go_wp2;refine wp_loop_rounds 3 ?_;rw[rounds_succ]
   go_upto_region 14 with(fail)
   refine wZ 14 1 ?_
   (repeat (first|refine jw ?_ | refine jy ?_ (hc:=by intro w2 hS;first|with_reducible exact iR hS (eT _ _ _))|refine jA ?_))
   refine aj.bL ?_;intro w2 hS
   (clear c0 c1 l2 bQ bX bY bZ cu cK bS bU l3 jI jJ jK jL jM jN jO z3 c4);(replace hB:=Below.ay qJ aC hS);replace A0:=At.keep uE hS;replace A1:=At.keep rX hS;replace A2:=At.keep tQ hS;replace A3:=At.keep zA hS;replace A4:=At.keep Z3v hS;clear hS;have c0:=A0.lc;have c1:=A1.lc;obtain⟨l2,bQ,bX,bY,bZ,cu,cK,bS,bU⟩:=At.bx0 A2;obtain⟨l3,jI,jJ,jK,jL,jM,jN,jO⟩:=At.seven A3;have z3:=A3.thaw;have c4:=A4.nI
   refine vU ?_;intro K hK;go_simp;refine hK _ _ (aj.bC ?_);clear hK K;generalize hW:ja5 _ _ _=W6;clear c0 c1 l2 bQ bX bY bZ cu cK bS bU l3 jI jJ jK jL jM jN jO z3 c4;replace A4:At W6 bx (.cells #[z,i0,i1,.int .i64 (IntKind.i64.wrap (i0+Fw.wr (Fw.ed s 3+Fw.ed s 1))),hh,(),()] 88):=hW▸At.set (A4) 3 _;replace A0:At W6 _ _:=hW▸At.off (A0) ak _ _;replace A1:At W6 _ _:=hW▸At.off (A1) ak _ _;replace A2:At W6 _ _:=hW▸At.off (A2) ak _ _;replace A3:At W6 _ _:=hW▸At.off (A3) ak _ _;replace hB:Below w w W6:=hW▸Below.setCell (hB) iH _;clear hW;have c0:=A0.lc;have c1:=A1.lc;obtain⟨l2,bQ,bX,bY,bZ,cu,cK,bS,bU⟩:=At.bx0 A2;obtain⟨l3,jI,jJ,jK,jL,jM,jN,jO⟩:=At.seven A3;have z3:=A3.thaw;have c4:=A4.nI;obtain⟨l2,bQ,bX,bY,bZ,cu,cK,bS,bU⟩:=At.bx1 A2;go_wp2;rw[rounds_succ]
   go_upto_region 14 with(fail)
   refine wZ 14 1 ?_
   (repeat (first|refine jw ?_ | refine jy ?_ (hc:=by intro w2 hS;first|with_reducible exact iR hS (eT _ _ _))|refine jA ?_))
   refine aj.bL ?_;intro w2 hS
   (clear c0 c1 l2 bQ bX bY bZ cu cK bS bU l3 jI jJ jK jL jM jN jO z3 c4);(replace hB:=Below.ay qJ aC hS);replace A0:=At.keep uE hS;replace A1:=At.keep rX hS;replace A2:=At.keep tQ hS;replace A3:=At.keep zA hS;replace A4:=At.keep Z3v hS;clear hS;have c0:=A0.lc;have c1:=A1.lc;obtain⟨l2,bQ,bX,bY,bZ,cu,cK,bS,bU⟩:=At.bx1 A2;obtain⟨l3,jI,jJ,jK,jL,jM,jN,jO⟩:=At.seven A3;have z3:=A3.thaw;have c4:=A4.nI
   refine vU ?_;intro K hK;go_simp;refine hK _ _ (aj.bC ?_);clear hK K;generalize hW:ja5 _ _ _=W7;clear c0 c1 l2 bQ bX bY bZ cu cK bS bU l3 jI jJ jK jL jM jN jO z3 c4;replace A4:At W7 bx (.cells #[z,i0,i1,.int .i64 (IntKind.i64.wrap (i0+Fw.wr (Fw.ed s 3+Fw.ed s 1))),.int .i64 (IntKind.i64.wrap (hh+Fw.wr (Fw.ed s 0+Fw.ed s 2))),(),()] 88):=hW▸At.set (A4) 4 _;replace A0:At W7 _ _:=hW▸At.off (A0) ak _ _;replace A1:At W7 _ _:=hW▸At.off (A1) ak _ _;replace A2:At W7 _ _:=hW▸At.off (A2) ak _ _;replace A3:At W7 _ _:=hW▸At.off (A3) ak _ _;replace hB:Below w w W7:=hW▸Below.setCell (hB) iH _;clear hW;have c0:=A0.lc;have c1:=A1.lc;obtain⟨l2,bQ,bX,bY,bZ,cu,cK,bS,bU⟩:=At.bx1 A2;obtain⟨l3,jI,jJ,jK,jL,jM,jN,jO⟩:=At.seven A3;have z3:=A3.thaw;have c4:=A4.nI;go_wp2;rw[rounds_succ];go_wp2;have eH:ans=⟨z,i0,hh,Fw.wr (i0+Fw.vW s 0),Fw.wr (hh+Fw.vW s 1),0,0⟩:=by
    rw[<-eu.out];unfold Fw.SG;simp only[hs,HI0.out,HI1.out,Mg,if_neg (show¬ hh = -1 from Mg▸HNE.out)]
   subst eH;simp only[uK];generalize hW:ja5 _ _ _=W8;clear c0 c1 l2 bQ bX bY bZ cu cK bS bU c4 l3 jI jJ jK jL jM jN jO z3;replace A3:At W8 (w.heap.size+1+1) (.cells #[z,i0,hh,.int .i64 (Fw.wr (i0+Fw.vW s 0)),.int .i64 (Fw.wr (hh+Fw.vW s 1)),(),()] 88):=hW▸At.set (At.set (At.set (At.set (At.set (At.set (At.set (A3) 0 _) 1 _) 2 _) 3 _) 4 _) 5 _) 6 _;replace A0:At W8 _ _:=hW▸At.off (At.off (At.off (At.off (At.off (At.off (At.off (A0) ak _ _) ak _ _) ak _ _) ak _ _) ak _ _) ak _ _) ak _ _;replace A1:At W8 _ _:=hW▸At.off (At.off (At.off (At.off (At.off (At.off (At.off (A1) ak _ _) ak _ _) ak _ _) ak _ _) ak _ _) ak _ _) ak _ _;replace A2:At W8 _ _:=hW▸At.off (At.off (At.off (At.off (At.off (At.off (At.off (A2) ak _ _) ak _ _) ak _ _) ak _ _) ak _ _) ak _ _) ak _ _;replace A4:At W8 _ _:=hW▸At.off (At.off (At.off (At.off (At.off (At.off (At.off (A4) ak _ _) ak _ _) ak _ _) ak _ _) ak _ _) ak _ _) ak _ _;replace hB:Below w w W8:=hW▸Below.setCell (Below.setCell (Below.setCell (Below.setCell (Below.setCell (Below.setCell (Below.setCell (hB) iH _) iH _) iH _) iH _) iH _) iH _) iH _;clear hW;have c0:=A0.lc;have c1:=A1.lc;obtain⟨l2,bQ,bX,bY,bZ,cu,cK,bS,bU⟩:=At.bx1 A2;have c4:=A4.nI;obtain⟨l3,jI,jJ,jK,jL,jM,jN,jO⟩:=At.seven A3;have z3:=A3.thaw;refine bodyPost_ret (v:=.agg #[.int .i64 _,.int .i64 _,.int .i64 _,.int .i64 _,.int .i64 _,.int .i64 _,.int .i64 _]) (by simp[results,Tryz.results32,go_sem,jI,jJ,jK,jL,jM,jN,jO];first|done|exact⟨rfl,rfl,rfl,rfl,rfl,rfl,rfl⟩|rfl) rfl ⟨rfl,⟨P,h12 (hI (M:=λ_=>False) hw (Out.of_below hB) λ_ _ q=>q),λb q => .inl q⟩,Out.of_below hB⟩
end
theorem aa7(hi:∀W,(isAgg T).run ja0 W=.ok true W)(hz:∀W,(sizeOf T).run ja0 W=.ok n W){W:World}{vs:Array Value}(hs:vs.size=n)(h:∀j,j<n->W.cell? ⟨R,q+j,none⟩=vs[j]?) :
  (Instr.loadAt T (.pointer (some ⟨R,q,none⟩))).run ja0 W=.ok (.agg vs) W:=by
 have hl:=run_loadCells_list (P:=ja0) W ⟨R,q,none⟩ vs.toList (λj v hj=>by
  have hj':j<n:=by have:=(List.getElem?_eq_some_iff.1 hj).1;simpa[hs]using this
  rw[addr_add,h j hj'];rw[Array.getElem?_toList]at hj
  exact hj)
 rw[Array.length_toList,hs]at hl;simp only[Instr.loadAt,Instr.sureAddr,loadVar,Sem.run_bind,Sem.run_pure,hi W,hz W,hl,Result.andThen_ok,if_true]
def splice(cs:Array Value)(q:Nat)(vs:Array Value):Array Value:=(cs.toList.take q++vs.toList++cs.toList.drop (q+vs.size)).toArray
theorem dL(h:vs.size=cs.size):splice cs 0 vs=vs:=by
 unfold splice;rw[List.take_zero,List.nil_append,Nat.zero_add,h,List.drop_of_length_le aV,List.append_nil]
theorem iG{q:Nat}(h:q+vs.size<=cs.size):(splice cs q vs).size=cs.size:=by
 simp[splice];omega
theorem mH{q j:Nat}(h:q+vs.size<=cs.size)(hj:j<vs.size):(splice cs q vs)[q+j]? = vs[j]? := by
 unfold splice;rw[jb2,List.append_assoc,List.getElem?_append_right iH,List.getElem?_append_left iH];have e:q+j-(cs.toList.take q).length=j:=by simp;omega
 rw[e,Array.getElem?_toList]
theorem gV{q k:Nat}(h:q+vs.size<=cs.size)(hk:k<q\/q+vs.size<=k):(splice cs q vs)[k]? = cs[k]? := by
 unfold splice;rw[jb2];rcases hk with hk|hk
 . rw[List.append_assoc,List.getElem?_append_left iH,List.getElem?_take,if_pos hk,Array.getElem?_toList]
 . rw[List.getElem?_append_right iH,List.getElem?_drop,Array.getElem?_toList]
   congr 1;simp;omega
theorem Xr(hz:∀W,(sizeOf T).run ja0 W=.ok n W){W:World}(hA:At W R (.cells cs T'))(hs:vs.size=n)(hf:q+n<=cs.size)(h1:∀v∈vs.toList,v.oneCell'=true) :
  (Instr.storeAt T (.pointer (some ⟨R,q,none⟩)) (.agg vs)).run ja0 W=.ok () (W.setRow R (splice cs q vs)):=by
 have hl:=run_storeCells_at (P:=ja0) R q T' vs.toList 0 cs W hA iH h1;simp only[Nat.add_zero,Array.length_toList]at hl;have hv:(storeVar T ⟨R,q,none⟩ (.agg vs)).run ja0 W=.ok () (W.setRow R (splice cs q vs)):=by
  simp[storeVar,hz W,Value.cells,hs];simpa[splice,hs]using hl
 simp only[Instr.storeAt,Instr.sureAddr,Sem.run_bind,Sem.run_pure,Result.andThen_ok,hv]
section
variable {ops:Array Oper} {rest:List Oper} {o:Oper} {a:Act} {w w':World} {Q:Exit->Act->World->Prop}
theorem fK(hi:∀W,(isAgg T).run ja0 W=.ok true W)(hz:∀W,(sizeOf T).run ja0 W=.ok n W)(p:Operand)(ho:o.op=.load T p)(hp:a.eval p=.pointer (some ⟨R,q,none⟩)){vs:Array Value}(hs:vs.size=n)(h:∀j,j<n->w.cell? ⟨R,q+j,none⟩=vs[j]?):(execOp a.eval o).run ja0 w=.ok (.value (.agg vs)) w:=by
 unfold execOp;simp only[ho,hp,Sem.run_bind,aa7 hi hz hs h,Result.andThen_ok,Sem.run_pure]
theorem aS(hz:∀W,(sizeOf T).run ja0 W=.ok n W)(p x:Operand)(ho:o.op=.store T p x)(hp:a.eval p=.pointer (some ⟨R,q,none⟩))(hx:a.eval x=.agg vs)(hA:At w R (.cells cs T'))(hs:vs.size=n)(hf:q+n<=cs.size)(h1:∀v∈vs.toList,v.oneCell'=true):(execOp a.eval o).run ja0 w=.ok .skip (w.setRow R (splice cs q vs)):=by
 unfold execOp;simp only[ho,hp,hx,Sem.run_bind,Xr hz hA hs hf h1,Result.andThen_ok,Sem.run_pure]
theorem dZ(hi:∀W,(isAgg T).run ja0 W=.ok true W)(hz:∀W,(sizeOf T).run ja0 W=.ok n W)(hw:Region.wanted o (yielded ops a.tmps)=true)(p:Operand)(ho:o.op=.load T p)(hp:a.eval p=.pointer (some ⟨R,q,none⟩)){vs:Array Value}(hs:vs.size=n)(h:∀j,j<n->w.cell? ⟨R,q+j,none⟩=vs[j]?)
 (hk:wpList ja0 ops Q rest (a.put o.dst (.agg vs)) w):wpList ja0 ops Q (o::rest) a w:=dJ hw (fK hi hz p ho hp hs h) hk
theorem fD(hz:∀W,(sizeOf T).run ja0 W=.ok n W)(hw:Region.wanted o (yielded ops a.tmps)=true)(p x:Operand)(ho:o.op=.store T p x)(hp:a.eval p=.pointer (some ⟨R,q,none⟩))(hx:a.eval x=.agg vs)(hA:At w R (.cells cs T'))(hs:vs.size=n)(hf:q+n<=cs.size)(h1:∀v∈vs.toList,v.oneCell'=true)
 (hk:wpList ja0 ops Q rest (a.put o.dst undef) (w.setRow R (splice cs q vs))):wpList ja0 ops Q (o::rest) a w:=mY hw (aS hz p x ho hp hx hA hs hf h1) hk
end
theorem Xt(W:World):(isAgg 216).run ja0 W=.ok true W:=by kernel_rfl
theorem Pj(W:World):(sizeOf 216).run ja0 W=.ok 17 W:=by kernel_rfl
theorem zS(W:World):(isAgg 88).run ja0 W=.ok true W:=by kernel_rfl
theorem mM(W:World):(sizeOf 88).run ja0 W=.ok 7 W:=by kernel_rfl
theorem Xu(W:World):(isAgg 214).run ja0 W=.ok true W:=by kernel_rfl
theorem zU(W:World):(sizeOf 214).run ja0 W=.ok 5 W:=by kernel_rfl
theorem adt(W:World):(sizeOf 81).run ja0 W=.ok 2 W:=by kernel_rfl
theorem rA(x:Im):(lZ x).size=17:=rfl
theorem dB(x:Fw.Ld):(dU x).size=7:=rfl
theorem gH(x:Fe.It):(wI x).size=5:=rfl
theorem nX(x:Fw.Ld):∀v∈(dU x).toList,v.oneCell'=true:=by simp[dU,Value.oneCell']
theorem CG(x:Fe.It):∀v∈(wI x).toList,v.oneCell'=true:=by simp[wI,Value.oneCell']
def eX(cs:Array Value)(q:Nat)(xs:List Im):Prop:=q+xs.length*17<=cs.size/\∀i (h:i<xs.length) j,j<17->cs[q+i*17+j]? = (lZ xs[i])[j]?
def jm(q m:Nat)(cs cs':Array Value):Prop:=cs'.size=cs.size/\∀k,k<q\/q+m*17<=k->cs'[k]? = cs[k]?
theorem jm.refl(q m:Nat)(cs:Array Value):jm q m cs cs:=⟨rfl,λ_ _=>rfl⟩
theorem jm.trans{q m:Nat}{cs cs' cs'':Array Value}(h:jm q m cs cs')(k:jm q m cs' cs''):jm q m cs cs'':=⟨k.1.trans h.1,λi hi=>(k.2 i hi).trans (h.2 i hi)⟩
theorem eX.put{q i o:Nat}(h:eX cs q xs)(hi:i<xs.length)(y:Im)(ho:o+vs.size<=17)(h1:∀j,j<vs.size->(lZ y)[o+j]? = vs[j]?)(h2:∀j,j<17->(j<o\/o+vs.size<=j)->(lZ y)[j]? = (lZ xs[i])[j]?) :
  eX (splice cs (q+i*17+o) vs) q (xs.set i y)/\jm q xs.length cs (splice cs (q+i*17+o) vs):=by
 have hb:i*17+17<=xs.length*17:=by omega
 have hf:q+i*17+o+vs.size<=cs.size:=by have:=h.1;omega
 refine⟨⟨by rw[iG hf,List.length_set];exact h.1,λk hk j hj => ?_⟩,iG hf,λk hk=>gV hf ak⟩;have hk2:k<xs.length:=by simpa using hk
 by_cases e:k=i
 . subst e
   rw[List.getElem_set_self];by_cases hin:o<=j/\j<o+vs.size
   . obtain⟨d,rfl⟩:∃d,j=o+d:=⟨j-o,by omega⟩
     rw[show q+k*17+(o+d)=q+k*17+o+d by omega,mH hf ak,h1 d ak]
   . rw[gV hf ak,h2 j hj ak]
     exact h.2 k hk2 j hj
 . rw[List.getElem_set_ne (λq=>e q.symm),gV hf ak]
   exact h.2 k hk2 j hj
theorem eX.Rn{cs:Array Value}{q i:Nat}(h:eX cs q xs)(hi:i<xs.length)(l:Fw.Ld):eX (splice cs (q+i*17+5) (dU l)) q (xs.set i { xs[i]with ld:=l })/\jm q xs.length cs (splice cs (q+i*17+5) (dU l)):=by
 refine h.put (o:=5) (vs:=dU l) hi _ (by simp[dB]) (λj hj => ?_) (λj hj hk => ?_)
 . rw[dB]at hj
   exact Z1z
 . rw[dB]at hk
   rcases(by omega:j=0\/j=1\/j=2\/j=3\/j=4\/j=12\/j=13\/j=14\/j=15\/j=16)with rfl|rfl|rfl|rfl|rfl|rfl|rfl|rfl|rfl|rfl<;>rfl
theorem eX.acC{cs:Array Value}{q i:Nat}(h:eX cs q xs)(hi:i<xs.length)(t:Fe.It):eX (splice cs (q+i*17+0) (wI t)) q (xs.set i { xs[i]with it:=t })/\jm q xs.length cs (splice cs (q+i*17+0) (wI t)):=by
 refine h.put (o:=0) (vs:=wI t) hi _ (by simp[gH]) (λj hj => ?_) (λj hj hk => ?_)
 . rw[gH]at hj
   exact Z2l
 . rw[gH]at hk
   rcases(by omega:j=5\/j=6\/j=7\/j=8\/j=9\/j=10\/j=11\/j=12\/j=13\/j=14\/j=15\/j=16)with rfl|rfl|rfl|rfl|rfl|rfl|rfl|rfl|rfl|rfl|rfl|rfl<;>rfl
theorem eX.putAt{cs:Array Value}{q i:Nat}(h:eX cs q xs)(hi:i<xs.length)(a b:Int):eX (splice cs (q+i*17+10) #[a,b]) q (xs.set i { xs[i]with ld:={ xs[i].ld with a0:=a,a1:=b } })/\jm q xs.length cs (splice cs (q+i*17+10) #[a,b]):=by
 refine h.put (o:=10) (vs:=#[a,b]) hi _ aV (λj hj => ?_) (λj hj hk => ?_)
 . have hj:j<2:=hj
   rcases(by omega:j=0\/j=1)with rfl|rfl<;>rfl
 . have hk:j<10\/12<=j:=hk
   rcases(by omega:j=0\/j=1\/j=2\/j=3\/j=4\/j=5\/j=6\/j=7\/j=8\/j=9\/j=12\/j=13\/j=14\/j=15\/j=16)with rfl|rfl|rfl|rfl|rfl|rfl|rfl|rfl|rfl|rfl|rfl|rfl|rfl|rfl|rfl<;>rfl
def qA(W:World)(R q:Nat)(x:Im):Prop:=∀j,j<17->W.cell? ⟨R,q+j,none⟩=(lZ x)[j]?
theorem qA.keep{B R q:Nat}(h:qA W R q x)(hb:Below B W W')(hl:R<B):qA W' R q x:=λj hj=>(hb.cell (p:=⟨R,q+j,none⟩) hl).trans (h j hj)
theorem qA.out(h:qA W R q x)(k:Out M W W')(hl:R<W.heap.size)(hm:¬ M R):qA W' R q x:=λj hj=>(Out.cell k (q+j) hl hm).trans (h j hj)
theorem eX.at_{W:World}{R q i:Nat}{cs:Array Value}(h:eX cs q xs)(hA:At W R (.cells cs 216))(hi:i<xs.length):qA W R (q+i*17) xs[i]:=λj hj=>by rw[hA.cell];exact h.2 i hi j hj
def Jq(W:World)(A:Option Addr)(xs:List Im):Prop:=xs≠[]->∃R q,A=some ⟨R,q,none⟩/\R<W.heap.size/\∀i (h:i<xs.length),qA W R (q+i*17) xs[i]
theorem Jq.after(h:Jq W A xs)(hb:Below W W W'):Jq W' A xs:=λhn=>by
 obtain⟨R,q,e,hl,hc⟩:=h hn;exact⟨R,q,e,aU hl hb.size,λi hi=>(hc i hi).keep hb hl⟩
theorem Jq.out(h:Jq W A xs)(k:Out M W W')(hm:∀R q,A=some ⟨R,q,none⟩->¬ M R):Jq W' A xs:=λhn=>by
 obtain⟨R,q,e,hl,hc⟩:=h hn;exact⟨R,q,e,aU hl k.size,λi hi=>(hc i hi).out k hl (hm R q e)⟩
theorem Jq.at_{W:World}(h:Jq W A xs){i:Nat}(hi:i<xs.length):∃R q,A=some ⟨R,q,none⟩/\R<W.heap.size/\qA W R (q+i*17) xs[i]:=by
 obtain⟨R,q,e,hl,hc⟩:=h (λe=>by rw[e]at hi;simp at hi);exact⟨R,q,e,hl,hc i hi⟩
theorem eX.ims{W:World}{cs:Array Value}(h:eX cs q xs)(hA:At W R (.cells cs 216)):Jq W (some ⟨R,q,none⟩) xs:=λ_=>⟨R,q,rfl,hA.lt,λi hi=>h.at_ hA hi⟩
theorem kF{ops:Array Oper}{rest:List Oper}{o:Oper}{a:Act}{w w':World}{Q:Exit->Act->World->Prop}(hw:Region.wanted o (yielded ops a.tmps)=true)(l c:Operand)(t:TypeId)(ho:o.op=.makeSlice t l c){v:Value}(hrun:(Instr.makeSlice t (a.eval l) (a.eval c)).run ja0 w=.ok v w')
  (h:wpList ja0 ops Q rest (a.put o.dst v) w'):wpList ja0 ops Q (o::rest) a w :=
 dJ hw (by unfold execOp;simp only[ho,Sem.run_bind,hrun,Result.andThen_ok,Sem.run_pure]) h
theorem adu:(Tryz.prog.info? 214).map (λi=>(i.zero,i.size,i.bytes))=some (some (.agg #[(),(),(),(),()]),5,40):=by kernel_rfl
theorem adv:(Tryz.prog.info? 216).map (λi=>(i.zero,i.size,i.bytes))=some (some (.agg #[(),(),(),(),(),(),(),(),(),(),(),(),.pointer none,(),(),(),()]),17,136):=by kernel_rfl
theorem Pk:(Tryz.prog.info? 88).map (λi=>(i.zero,i.size,i.bytes))=some (some (.agg #[(),(),(),(),(),(),()]),7,56):=by kernel_rfl
theorem Ro(w:World)(n:Nat)(hn:n<=100000):∃cs:Array Value,(Instr.makeSlice 292 (.int .i64 (n:Int)) (.int .i64 (n:Int))).run ja0 w=.ok (.slice w n n) (w.alloc (.cells cs 214))/\cs.size=n*5:=by
 obtain⟨i0,hi0,hz0,hz1,hz2⟩:=info_parts adu;have hrun:=run_make (P:=ja0) w 292 214 i0 _ Tryz.underlying292 hi0 hz0 .i64 .i64 n n ak (Int.le_refl _) Sn ak;exact Z34
theorem aa8(w:World)(n:Nat)(hn:n<=100000):∃cs:Array Value,(Instr.makeSlice 211 (.int .i64 (n:Int)) (.int .i64 (n:Int))).run ja0 w=.ok (.slice w n n) (w.alloc (.cells cs 216))/\cs.size=n*17:=by
 obtain⟨i0,hi0,hz0,hz1,hz2⟩:=info_parts adv;have hrun:=run_make (P:=ja0) w 211 216 i0 _ Tryz.underlying211 hi0 hz0 .i64 .i64 n n ak (Int.le_refl _) Sn ak;exact Z34
theorem aa9(w:World)(n:Nat)(hn:n<=100000):∃cs:Array Value,(Instr.makeSlice 145 (.int .i64 (n:Int)) (.int .i64 (n:Int))).run ja0 w=.ok (.slice w n n) (w.alloc (.cells cs 88))/\cs.size=n*7:=by
 obtain⟨i0,hi0,hz0,hz1,hz2⟩:=info_parts Pk;have hrun:=run_make (P:=ja0) w 145 88 i0 _ Tryz.underlying145 hi0 hz0 .i64 .i64 n n ak (Int.le_refl _) Sn ak;exact Z34
def imz:Array Value:=#[(),(),(),(),(),(),(),(),(),(),(),(),.pointer none,(),(),(),()]
theorem Xv(W:World):(Instr.alloc 216 true (.tuple #[])).run ja0 W=.ok (.pointer W) (W.alloc (.cells imz 216)):=by kernel_rfl
section
variable {ops:Array Oper} {rest:List Oper} {o:Oper} {a:Act} {w w':World} {Q:Exit->Act->World->Prop}
theorem bW(hw:Region.wanted o (yielded ops a.tmps)=true)(ho:o.op=.alloc 216)(h:wpList ja0 ops Q rest (a.put o.dst (.pointer w)) (w.alloc (.cells imz 216))):wpList ja0 ops Q (o::rest) a w :=
 dJ hw (by unfold execOp;simp only[ho,Sem.run_bind,Xv,Result.andThen_ok,Sem.run_pure]) h
theorem Ue{W:World}(h:At W b (.cells imz 216)):(Instr.storeAt 216 (.pointer b) (.agg (lZ x))).run ja0 W=.ok () (W.setRow b (lZ x)):=by
 have hsz:(Tryz.prog.info? 216).map (·.size)=some (lZ x).size:=by rw[rA];exact Mf
 simp only[Instr.storeAt,Instr.sureAddr,Sem.run_bind,Sem.run_pure,Result.andThen_ok,run_storeVar_row W b 216 216 imz (lZ x) h hsz rfl (by simp[lZ,Value.oneCell'])]
theorem bM(hw:Region.wanted o (yielded ops a.tmps)=true)(p y:Operand)(ho:o.op=.store 216 p y)(hp:a.eval p=.pointer b)(hy:a.eval y=.agg (lZ x))(hs:At w b (.cells imz 216))
  (h:wpList ja0 ops Q rest (a.put o.dst undef) (w.setRow b (lZ x))):wpList ja0 ops Q (o::rest) a w :=
 mY hw (by unfold execOp;simp only[ho,hp,hy,Sem.run_bind,Ue hs,Result.andThen_ok,Sem.run_pure]) h
theorem dn(hw:Region.wanted o (yielded ops a.tmps)=true)(p:Operand)(ho:o.op=.load 216 p)(hp:a.eval p=.pointer (some ⟨R,q,none⟩))(hs:qA w R q x)(h:wpList ja0 ops Q rest (a.put o.dst (.agg (lZ x))) w):wpList ja0 ops Q (o::rest) a w :=
 dZ Xt Pj hw p ho hp (rA x) hs h
theorem dI(hw:Region.wanted o (yielded ops a.tmps)=true)(p:Operand)(ho:o.op=.load 216 p)(hp:a.eval p=.pointer b)(hs:At w b (.cells (lZ x) 216))(h:wpList ja0 ops Q rest (a.put o.dst (.agg (lZ x))) w):wpList ja0 ops Q (o::rest) a w :=
 dJ hw (vE p ho hp hs) h
end
theorem aM{N:Nat}{w a:World}(h:Below N w a)(hb:N<=b)(cs:Array Value):Below N w (a.setRow b cs) :=
 ⟨h.os,h.tape,h.output,by simpa[jb5]using h.size,λc hc=>by
  have:=h.block c hc;unfold jb5;simp only[Array.getElem?_modify];rw[if_neg ak]
  exact this⟩
theorem nA(y:Int)(w:World):Calls ja0 139 #[y] w λe w'=>e=.returned (.func (.func 181) #[] #[w])/\w'=w.alloc (.cells #[y] 3):=by
 have Ja:=@qW;go_enter Tryz.func139,Tryz.ntmps139
 go_wp2;exact Zu
theorem Mh(y:Int)(w:World):Calls ja0 135 #[y] w λe w'=>e=.returned (.func (.func 174) #[] #[w])/\w'=w.alloc (.cells #[y] 3):=by
 have Ja:=@qW;go_enter Tryz.func135,Tryz.ntmps135
 go_wp2;exact Zu
theorem Xw(caps:Array Value)(v:Nat->Int)(A:Option Addr)(xs:List Im)(c:Nat)(w:World)(hx:Jq w A xs)(hl:xs.length<=10000)
  (hcall:∀i (h:i<xs.length) X,Below w w X->Calls ja0 181 (#[.agg (lZ xs[i])]++caps) X λe X'=>e=.returned (.int .i64 (v i))/\Below X X X') :
  Calls ja0 134 #[.slice A xs.length c,.func (.func 181) #[] caps] w λe w'=>(∃b,e=.returned (.slice (some ⟨b,0,none⟩) xs.length xs.length)/\w.heap.size<=b/\At w' b (.cells (aW v xs.length xs.length) 3))/\Below w w w':=by
 obtain⟨i0,hi0,hz0,hz1,hz2⟩:=info_parts intZero;obtain⟨m,hm⟩:=aA xs.length;rw[hm]at hl ⊢;have HM:=ah hm;have HX:=ah hx;have HC:=ah hcall;clear hx hcall hm;go_enter Tryz.func134,Tryz.ntmps134
 go_wp2_with (at_make;refine wpList_make_row _ rfl _ _ 37 rfl 3 i0 (.int .i64 0) Tryz.underlying37 hi0 hz0 hz1 rfl .i64 .i64 m rfl rfl Sn ak ?_)
 obtain⟨b,hsz⟩:=aA w.heap.size;have hB1:Below w w (w.alloc (.cells (aW v m 0) 3)):=aB aD _;have A1:At (w.alloc (.cells (aW v m 0) 3)) b (.cells (aW v m 0) 3):=At.new' _ hsz.symm;rw[hsz,je v];generalize w.alloc (.cells (aW v m 0) 3)=W2 at *
 go_loopw [6,13] (λ_ vi wr=>∃k:Nat,k<=m/\vi=.int .i64 k/\At wr b (.cells (aW v m k) 3)/\Below w w wr) (λ_ vi _=>m-(intOf vi).toNat)
 case atStart=>exact⟨0,by omega,rfl,A1,hB1⟩
 case round =>
  clear A1 hB1;obtain⟨k,hk,rfl,A1,hB⟩:=hrel;by_cases hlt:k<m
  . have hltz:(k:Int)<(m:Int):=by omega
    have hkx:k<xs.length:=by rw[HM.out];exact hlt
    obtain⟨R,q,rfl,lR,hI⟩:=(HX.out.after hB).at_ hkx;have key:=HC.out k hkx;generalize xs[k]=x at *
    go_upto_region 5 with(first|(refine dn aQ _ rfl rfl (by assumption) ?_)|(refine dI aQ _ rfl rfl (by assumption) ?_)|(refine bW aQ rfl ?_)|(refine bM aQ _ _ rfl rfl rfl o7 ?_))
    obtain⟨nb,hnb⟩:=aA wr.heap.size;generalize hW:jb5 _ _ _=W3;have A2:At W3 nb (.cells (lZ x) 216):=hW▸hnb▸At.setRow (At.new _ _) _;have A3:At W3 b (.cells (aW v m k) 3):=hW▸At.fT (A1.alloc _) (by have:=A1.lt;omega) _;have hB3:Below w w W3:=hW▸aM (aB hB _) hB.size _;rw[hnb];clear hW A1 hI lR hB;have hk3:=key W3 hB3;have HA3:=ah A3
    go_upto_region 6 with(first|(go_at_call 181;(with_reducible refine hk3.mono ?_);rintro e w4 ⟨rfl,hb4⟩;have A4:=HA3.out.keep hb4;have QC:=A4.lt;have zb4:=A4.thaw k;have cb4:=A4.cell k;rw[dh _ hlt]at cb4)|(refine dn aQ _ rfl rfl (by assumption) ?_)|(refine dI aQ _ rfl rfl (by assumption) ?_)|(refine bW aQ rfl ?_)|(refine bM aQ _ _ rfl rfl rfl o7 ?_))
    exact Zo
  . exact Z2t
theorem adw(caps:Array Value)(v:Nat->Int)(A:Option Addr)(xs:List Im)(c:Nat)(w:World)(hx:Jq w A xs)(hl:xs.length<=10000)
  (hcall:∀i (h:i<xs.length) X,Below w w X->Calls ja0 174 (#[.agg (lZ xs[i])]++caps) X λe X'=>e=.returned (.int .i64 (v i))/\Below X X X') :
  Calls ja0 134 #[.slice A xs.length c,.func (.func 174) #[] caps] w λe w'=>(∃b,e=.returned (.slice (some ⟨b,0,none⟩) xs.length xs.length)/\w.heap.size<=b/\At w' b (.cells (aW v xs.length xs.length) 3))/\Below w w w':=by
 obtain⟨i0,hi0,hz0,hz1,hz2⟩:=info_parts intZero;obtain⟨m,hm⟩:=aA xs.length;rw[hm]at hl ⊢;have HM:=ah hm;have HX:=ah hx;have HC:=ah hcall;clear hx hcall hm;go_enter Tryz.func134,Tryz.ntmps134
 go_wp2_with (at_make;refine wpList_make_row _ rfl _ _ 37 rfl 3 i0 (.int .i64 0) Tryz.underlying37 hi0 hz0 hz1 rfl .i64 .i64 m rfl rfl Sn ak ?_)
 obtain⟨b,hsz⟩:=aA w.heap.size;have hB1:Below w w (w.alloc (.cells (aW v m 0) 3)):=aB aD _;have A1:At (w.alloc (.cells (aW v m 0) 3)) b (.cells (aW v m 0) 3):=At.new' _ hsz.symm;rw[hsz,je v];generalize w.alloc (.cells (aW v m 0) 3)=W2 at *
 go_loopw [6,13] (λ_ vi wr=>∃k:Nat,k<=m/\vi=.int .i64 k/\At wr b (.cells (aW v m k) 3)/\Below w w wr) (λ_ vi _=>m-(intOf vi).toNat)
 case atStart=>exact⟨0,by omega,rfl,A1,hB1⟩
 case round =>
  clear A1 hB1;obtain⟨k,hk,rfl,A1,hB⟩:=hrel;by_cases hlt:k<m
  . have hltz:(k:Int)<(m:Int):=by omega
    have hkx:k<xs.length:=by rw[HM.out];exact hlt
    obtain⟨R,q,rfl,lR,hI⟩:=(HX.out.after hB).at_ hkx;have key:=HC.out k hkx;generalize xs[k]=x at *
    go_upto_region 5 with(first|(refine dn aQ _ rfl rfl (by assumption) ?_)|(refine dI aQ _ rfl rfl (by assumption) ?_)|(refine bW aQ rfl ?_)|(refine bM aQ _ _ rfl rfl rfl o7 ?_))
    obtain⟨nb,hnb⟩:=aA wr.heap.size;generalize hW:jb5 _ _ _=W3;have A2:At W3 nb (.cells (lZ x) 216):=hW▸hnb▸At.setRow (At.new _ _) _;have A3:At W3 b (.cells (aW v m k) 3):=hW▸At.fT (A1.alloc _) (by have:=A1.lt;omega) _;have hB3:Below w w W3:=hW▸aM (aB hB _) hB.size _;rw[hnb];clear hW A1 hI lR hB;have hk3:=key W3 hB3;have HA3:=ah A3
    go_upto_region 6 with(first|(go_at_call 174;(with_reducible refine hk3.mono ?_);rintro e w4 ⟨rfl,hb4⟩;have A4:=HA3.out.keep hb4;have QC:=A4.lt;have zb4:=A4.thaw k;have cb4:=A4.cell k;rw[dh _ hlt]at cb4)|(refine dn aQ _ rfl rfl (by assumption) ?_)|(refine dI aQ _ rfl rfl (by assumption) ?_)|(refine bW aQ rfl ?_)|(refine bM aQ _ _ rfl rfl rfl o7 ?_))
    exact Zo
  . exact Z2t
theorem adx(caps:Array Value)(v:Nat->Int)(A:Option Addr)(xs:List Im)(c:Nat)(w:World)(hx:Jq w A xs)(hl:xs.length<=10000)
  (hcall:∀i (h:i<xs.length) X,Below w w X->Calls ja0 180 (#[.agg (lZ xs[i])]++caps) X λe X'=>e=.returned (.int .i64 (v i))/\Below X X X') :
  Calls ja0 134 #[.slice A xs.length c,.func (.func 180) #[] caps] w λe w'=>(∃b,e=.returned (.slice (some ⟨b,0,none⟩) xs.length xs.length)/\w.heap.size<=b/\At w' b (.cells (aW v xs.length xs.length) 3))/\Below w w w':=by
 obtain⟨i0,hi0,hz0,hz1,hz2⟩:=info_parts intZero;obtain⟨m,hm⟩:=aA xs.length;rw[hm]at hl ⊢;have HM:=ah hm;have HX:=ah hx;have HC:=ah hcall;clear hx hcall hm;go_enter Tryz.func134,Tryz.ntmps134
 go_wp2_with (at_make;refine wpList_make_row _ rfl _ _ 37 rfl 3 i0 (.int .i64 0) Tryz.underlying37 hi0 hz0 hz1 rfl .i64 .i64 m rfl rfl Sn ak ?_)
 obtain⟨b,hsz⟩:=aA w.heap.size;have hB1:Below w w (w.alloc (.cells (aW v m 0) 3)):=aB aD _;have A1:At (w.alloc (.cells (aW v m 0) 3)) b (.cells (aW v m 0) 3):=At.new' _ hsz.symm;rw[hsz,je v];generalize w.alloc (.cells (aW v m 0) 3)=W2 at *
 go_loopw [6,13] (λ_ vi wr=>∃k:Nat,k<=m/\vi=.int .i64 k/\At wr b (.cells (aW v m k) 3)/\Below w w wr) (λ_ vi _=>m-(intOf vi).toNat)
 case atStart=>exact⟨0,by omega,rfl,A1,hB1⟩
 case round =>
  clear A1 hB1;obtain⟨k,hk,rfl,A1,hB⟩:=hrel;by_cases hlt:k<m
  . have hltz:(k:Int)<(m:Int):=by omega
    have hkx:k<xs.length:=by rw[HM.out];exact hlt
    obtain⟨R,q,rfl,lR,hI⟩:=(HX.out.after hB).at_ hkx;have key:=HC.out k hkx;generalize xs[k]=x at *
    go_upto_region 5 with(first|(refine dn aQ _ rfl rfl (by assumption) ?_)|(refine dI aQ _ rfl rfl (by assumption) ?_)|(refine bW aQ rfl ?_)|(refine bM aQ _ _ rfl rfl rfl o7 ?_))
    obtain⟨nb,hnb⟩:=aA wr.heap.size;generalize hW:jb5 _ _ _=W3;have A2:At W3 nb (.cells (lZ x) 216):=hW▸hnb▸At.setRow (At.new _ _) _;have A3:At W3 b (.cells (aW v m k) 3):=hW▸At.fT (A1.alloc _) (by have:=A1.lt;omega) _;have hB3:Below w w W3:=hW▸aM (aB hB _) hB.size _;rw[hnb];clear hW A1 hI lR hB;have hk3:=key W3 hB3;have HA3:=ah A3
    go_upto_region 6 with(first|(go_at_call 180;(with_reducible refine hk3.mono ?_);rintro e w4 ⟨rfl,hb4⟩;have A4:=HA3.out.keep hb4;have QC:=A4.lt;have zb4:=A4.thaw k;have cb4:=A4.cell k;rw[dh _ hlt]at cb4)|(refine dn aQ _ rfl rfl (by assumption) ?_)|(refine dI aQ _ rfl rfl (by assumption) ?_)|(refine bW aQ rfl ?_)|(refine bM aQ _ _ rfl rfl rfl o7 ?_))
    exact Zo
  . exact Z2t
def nC(xs:List Im):List Int:=xs.map Bb
def ug(xs:List Im):List Int:=xs.map Ba
def Uf(l:List Int)(k:Nat):Int:=(l.take k).foldl max 0
theorem Ug{l:List Int}(h:k<l.length):Uf l (k+1)=max (Uf l k) l[k]:=by
 unfold Uf;rw[jc8 h,List.foldl_append];rfl
theorem ady(A:Option Addr)(xs:List Im)(c B:Nat)(w:World)(hx:Jq w A xs)(hl:xs.length<=10000)(hB:w.cell? ⟨B,0,none⟩=some (.int .i64 0))(hBl:B<w.heap.size) :
  Calls ja0 134 #[.slice A xs.length c,.func (.func 181) #[] #[B]] w λe w'=>(∃b,e=.returned (.slice (some ⟨b,0,none⟩) xs.length xs.length)/\w.heap.size<=b/\At w' b (.cells (aW (λi=>(ug xs).getD i 0) xs.length xs.length) 3))/\Below w w w' :=
 Xw #[B] (λi=>(ug xs).getD i 0) A xs c w hx hl λi hi X hb=>by
  have h1:X.cell? ⟨B,0,none⟩=some (.int .i64 0):=(hb.cell (p:=⟨B,0,none⟩) hBl).trans hB;have e:(ug xs).getD i 0=Ba xs[i]:=by unfold ug;rw[List.getD,jc0,ja6 hi];rfl
  rw[e];exact Rj xs[i] B X h1
theorem Xx(A:Option Addr)(xs:List Im)(c B:Nat)(w:World)(hx:Jq w A xs)(hl:xs.length<=10000)(hB:w.cell? ⟨B,0,none⟩=some (.int .i64 1))(hBl:B<w.heap.size) :
  Calls ja0 134 #[.slice A xs.length c,.func (.func 181) #[] #[B]] w λe w'=>(∃b,e=.returned (.slice (some ⟨b,0,none⟩) xs.length xs.length)/\w.heap.size<=b/\At w' b (.cells (aW (λi=>(nC xs).getD i 0) xs.length xs.length) 3))/\Below w w w' :=
 Xw #[B] (λi=>(nC xs).getD i 0) A xs c w hx hl λi hi X hb=>by
  have h1:X.cell? ⟨B,0,none⟩=some (.int .i64 1):=(hb.cell (p:=⟨B,0,none⟩) hBl).trans hB;have e:(nC xs).getD i 0=Bb xs[i]:=by unfold nC;rw[List.getD,jc0,ja6 hi];rfl
  rw[e];exact Rk xs[i] B X h1
theorem Xy(A:Option Addr)(xs:List Im)(c:Nat)(w:World)(hx:Jq w A xs)(hl:xs.length<=10000):Calls ja0 178 #[.slice A xs.length c] w λe w'=>e=.returned (.int .i64 ((nC xs).foldl max 0))/\Below w w w':=by
 have hb1:Below w w (w.alloc (.cells #[.int .i64 1] 3)):=aB aD _;have hA1:At (w.alloc (.cells #[.int .i64 1] 3)) w.heap.size (.cells #[.int .i64 1] 3):=At.new _ _;have key:=Xx A xs c w.heap.size _ (hx.after hb1) hl (hA1.cell 0) hA1.lt;obtain⟨l,hL⟩:=aA (nC xs);have hll:l.length=xs.length:=by rw[<-hL];simp[nC]
 rw[hL]at key ⊢;obtain⟨m,hm⟩:=aA xs.length;rw[hm]at hl key hll ⊢;have Pm:=ah hll;clear hx hL hm hll;go_enter Tryz.func178,Tryz.ntmps178
 go_wp2_with (first|(go_at_call 139;(with_reducible refine(nA 1 _).mono ?_);rintro e w1 ⟨rfl,rfl⟩)|(go_at_call 134;(with_reducible refine key.mono ?_);rintro e w2 ⟨⟨b,rfl,hbl,hA⟩,hb2⟩))
 have hB:Below w w w2:=hb1.trans (hb2.mono hb1.size);clear key hb1 hb2 hA1
 go_loop [3,10] (λav iv=>∃k:Nat,k<=m/\iv=.int .i64 k/\av=.int .i64 (Uf l k)) (λ_ iv=>m-(intOf iv).toNat)
 case atStart=>exact⟨0,by omega,rfl,rfl⟩
 case round =>
  obtain⟨k,hk,rfl,rfl⟩:=hrel;by_cases hlt:k<m
  . have hltz:(k:Int)<(m:Int):=by omega
    have hkl:k<l.length:=by rw[Pm.out];exact hlt
    have hc:=hA.cell k;rw[dh _ hlt,if_pos hlt,List.getD,ja6 hkl]at hc;simp only[Option.getD_some]at hc;have HT:=ah (Ug hkl);have lb:=hA.lt;generalize Uf l k=a at *;generalize l[k]=x at *;go_wp2
    go_round
    case rel=>exact⟨k+1,by omega,by go_num,by rw[HT.out]⟩
    case measure=>simp[intOf];omega
  . obtain rfl:k=m:=by omega
    go_wp2
    go_ret
    exact⟨bA (by unfold Uf;rw[jb6 (by rw[Pm.out];exact aJ _)]),hB⟩
def oz(r:Int)(ex:Nat->Int):Nat->Int
 | 0=>r
 | k+1=>Fw.wr (oz r ex k-ex k)
def VH(cs:Array Value)(it:Nat->Fe.It)(k:Nat):Prop:=∀i,i<k->∀j,j<5->cs[i*5+j]? = (wI (it i))[j]?
theorem VH.items{W:World}{b n:Nat}{cs:Array Value}{it:Nat->Fe.It}(h:VH cs it n)(hA:At W b (.cells cs 214)):Items W (some ⟨b,0,none⟩) it n:=λh0 =>
 ⟨b,0,rfl,hA.lt,λk hk=>by
  have q:=λj hj=>(hA.cell (k*5+j)).trans (h k hk j hj);refine⟨?_,?_,?_,?_,?_⟩
  . have:=q 0 ak;simpa[wI]using this
  . have:=q 1 ak;simpa[wI]using this
  . have:=q 2 ak;simpa[wI]using this
  . have:=q 3 ak;simpa[wI]using this
  . have:=q 4 ak;simpa[wI]using this⟩
theorem Xz(A:Option Addr)(xs:List Im)(c:Nat)(r0 r1 gap:Int)(it:Nat->Fe.It)(ex:Nat->Int)(st:Nat->Re.St)(w:World)(hx:Jq w A xs)(hl:xs.length<=64)(hit:∀i (h:i<xs.length),it i=xs[i].it)(hex:∀i (h:i<xs.length),ex i=Xp xs[i] (st i))(hbx:∀i (h:i<xs.length),∃fl ap ib,aL w xs[i].bx (st i) fl ap ib) :
  Calls ja0 177 #[.slice A xs.length c,(),.agg #[r0,r1],gap] w λe w' =>
   (∃b,e=.returned (.slice (some ⟨b,0,none⟩) xs.length xs.length)/\w.heap.size<=b/\Ints w' (some ⟨b,0,none⟩) (kD it xs.length (oz (Fw.wr (r0-Fw.wr (gap*Fw.wr ((xs.length:Int)-1)))) ex xs.length)))/\Below w w w':=by
 obtain⟨m,hm⟩:=aA xs.length;rw[hm]at hl ⊢;have HM:=ah hm;have HX:=ah hx;have HIT:=ah hit;have HEX:=ah hex;have oZ:=ah hbx;clear hx hit hex hbx hm;rw[<-qI ((m:Int)-1)];obtain⟨q1,hq1⟩:=aA (IntKind.i64.wrap ((m:Int)-1));rw[hq1,<-qI (gap*q1)];obtain⟨q2,hq2⟩:=aA (IntKind.i64.wrap (gap*q1));rw[hq2,<-qI (r0-q2)];obtain⟨r,hr⟩:=aA (IntKind.i64.wrap (r0-q2));rw[hr];obtain⟨ws,hws⟩:=aA (w.alloc (.cells #[r0,r1] 81));obtain⟨cs0,hmk,xI⟩:=Ro ws m ak;have XA:=ah hmk;clear hmk;go_enter Tryz.func177,Tryz.ntmps177
 go_upto_region 1 with(fail)
 have hb1:Below w w ws:=hws▸aB aD _;have A0:At ws w (.cells #[r0,r1] 81):=hws▸At.new _ _;clear hws
 go_upto_region 2 with(refine kF aQ _ _ 292 rfl XA.out ?_)
 obtain⟨b,hb⟩:=aA ws.heap.size;rw[hb];have A1:At (ws.alloc (.cells cs0 214)) b (.cells cs0 214):=At.new' _ hb.symm;have A2:=A0.alloc (.cells cs0 214);have hB2:Below w w (ws.alloc (.cells cs0 214)):=aB hb1 _;have hwb:w.heap.size<b:=by have:=A0.lt;omega
 generalize ws.alloc (.cells cs0 214)=W2 at *;obtain⟨l0,c00,Jr⟩:=At.two A2;clear A0 hb1 hb XA
 go_upto_region 3 with(fail)
 clear hq1 hq2 hr l0 c00 Jr
 go_upto_region 4 with(fail)
 go_loopw [10,27] (λlv iv wr=>∃(k:Nat) (cs:Array Value),k<=m/\iv=.int .i64 k/\lv=.int .i64 (oz r ex k)/\At wr b (.cells cs 214)/\cs.size=m*5/\VH cs it k/\Below w w wr) (λ_ iv _=>m-(intOf iv).toNat)
 case atStart=>exact⟨0,cs0,eP _,rfl,rfl,A1,xI,λi hi=>absurd hi (Nat.not_lt_zero _),hB2⟩
 case round =>
  clear A1 A2 hB2 xI;obtain⟨k,cs,hk,rfl,rfl,A1,hcs,hF,hB⟩:=hrel;by_cases hlt:k<m
  . have hltz:(k:Int)<(m:Int):=by omega
    have hkx:k<xs.length:=by rw[HM.out];exact hlt
    obtain⟨R,q,rfl,lR,hI⟩:=(HX.out.after hB).at_ hkx;obtain⟨fl,ap,ib,hbx⟩:=oZ.out k hkx;have hiq:=ah (HIT.out k hkx);have heq:=ah (HEX.out k hkx);have hls:=ah (show oz r ex (k+1)=Fw.wr (oz r ex k-ex k)from rfl);generalize xs[k]=x at *;generalize oz r ex k=lf at *;have XB:=ah hbx;clear hbx
    go_upto_region 6 with(first|(refine dn aQ _ rfl rfl (by assumption) ?_)|(refine dI aQ _ rfl rfl (by assumption) ?_)|(refine bW aQ rfl ?_)|(refine bM aQ _ _ rfl rfl rfl o7 ?_))
    obtain⟨nb,hnb⟩:=aA wr.heap.size;generalize hW:jb5 _ _ _=W3;have A2:At W3 nb (.cells (lZ x) 216):=hW▸hnb▸At.setRow (At.new _ _) _;have A3:At W3 b (.cells cs 214):=hW▸At.fT (A1.alloc _) (by have:=A1.lt;omega) _;have hB3:Below w w W3:=hW▸aM (aB hB _) hB.size _;have Js:aL W3 x.bx (st k) fl ap ib:=XB.out.keep hB3;rw[hnb];have hne:nb≠b:=by have:=A1.lt;omega
    clear hW A1 hI lR hB;have Kl:=ah Js;clear Js;have l2:=A2.lt
    have hld:∀j,j<5->W3.cell? ⟨nb,0+j,none⟩=(wI x.it)[j]? := λj hj=>by
     rw[A2.cell,Nat.zero_add];exact Z2l
    have hfit:k*5+5<=cs.size:=by omega
    have HLD:=ah hld;clear hld
    go_upto_region 7 with(first|(refine dZ Xu zU aQ _ rfl rfl (gH x.it) HLD.out ?_)|(refine fD zU aQ _ _ rfl rfl rfl A3 (gH x.it) (by first|exact hfit|(rw[Nat.zero_add];exact hfit)) (CG x.it) ?_))
    obtain⟨e0,he0⟩:=aA (ex k);obtain⟨lf2,aae⟩:=aA (IntKind.i64.wrap (lf-e0));have hlk:Hid (oz r ex (k+1)=lf2):=ah (by rw[hls.out,he0,<-qI,aae]);generalize hW:jb5 _ _ _=W4;have A4:At W4 b (.cells (splice cs (k*5) (wI x.it)) 214):=hW▸At.setRow A3 _;have A5:At W4 nb (.cells (lZ x) 216):=hW▸At.fT A2 hne _;have hB4:Below w w W4:=hW▸aM hB3 (uH hwb) _;have key:=Rh x (st k) fl ap ib W4 (XB.out.keep hB4);exact Zb
  . exact Z17
theorem XC(A:Option Addr)(xs:List Im)(c:Nat)(r0 r1 gap:Int)(it:Nat->Fe.It)(ex:Nat->Int)(st:Nat->Re.St)(w:World)(hx:Jq w A xs)(hl:xs.length<=64)(hit:∀i (h:i<xs.length),it i=xs[i].it)(hex:∀i (h:i<xs.length),ex i=ext1 xs[i] (st i))(hbx:∀i (h:i<xs.length),∃fl ap ib,aL w xs[i].bx (st i) fl ap ib) :
  Calls ja0 177 #[.slice A xs.length c,.int .i64 1,.agg #[r0,r1],gap] w λe w' =>
   (∃b,e=.returned (.slice (some ⟨b,0,none⟩) xs.length xs.length)/\w.heap.size<=b/\Ints w' (some ⟨b,0,none⟩) (kD it xs.length (oz (Fw.wr (r1-Fw.wr (gap*Fw.wr ((xs.length:Int)-1)))) ex xs.length)))/\Below w w w':=by
 obtain⟨m,hm⟩:=aA xs.length;rw[hm]at hl ⊢;have HM:=ah hm;have HX:=ah hx;have HIT:=ah hit;have HEX:=ah hex;have oZ:=ah hbx;clear hx hit hex hbx hm;rw[<-qI ((m:Int)-1)];obtain⟨q1,hq1⟩:=aA (IntKind.i64.wrap ((m:Int)-1));rw[hq1,<-qI (gap*q1)];obtain⟨q2,hq2⟩:=aA (IntKind.i64.wrap (gap*q1));rw[hq2,<-qI (r1-q2)];obtain⟨r,hr⟩:=aA (IntKind.i64.wrap (r1-q2));rw[hr];obtain⟨ws,hws⟩:=aA (w.alloc (.cells #[r0,r1] 81));obtain⟨cs0,hmk,xI⟩:=Ro ws m ak;have XA:=ah hmk;clear hmk;go_enter Tryz.func177,Tryz.ntmps177
 go_upto_region 1 with(fail)
 have hb1:Below w w ws:=hws▸aB aD _;have A0:At ws w (.cells #[r0,r1] 81):=hws▸At.new _ _;clear hws
 go_upto_region 2 with(refine kF aQ _ _ 292 rfl XA.out ?_)
 obtain⟨b,hb⟩:=aA ws.heap.size;rw[hb];have A1:At (ws.alloc (.cells cs0 214)) b (.cells cs0 214):=At.new' _ hb.symm;have A2:=A0.alloc (.cells cs0 214);have hB2:Below w w (ws.alloc (.cells cs0 214)):=aB hb1 _;have hwb:w.heap.size<b:=by have:=A0.lt;omega
 generalize ws.alloc (.cells cs0 214)=W2 at *;obtain⟨l0,c00,Jr⟩:=At.two A2;clear A0 hb1 hb XA
 go_upto_region 3 with(fail)
 clear hq1 hq2 hr l0 c00 Jr
 go_upto_region 4 with(fail)
 go_loopw [10,27] (λlv iv wr=>∃(k:Nat) (cs:Array Value),k<=m/\iv=.int .i64 k/\lv=.int .i64 (oz r ex k)/\At wr b (.cells cs 214)/\cs.size=m*5/\VH cs it k/\Below w w wr) (λ_ iv _=>m-(intOf iv).toNat)
 case atStart=>exact⟨0,cs0,eP _,rfl,rfl,A1,xI,λi hi=>absurd hi (Nat.not_lt_zero _),hB2⟩
 case round =>
  clear A1 A2 hB2 xI;obtain⟨k,cs,hk,rfl,rfl,A1,hcs,hF,hB⟩:=hrel;by_cases hlt:k<m
  . have hltz:(k:Int)<(m:Int):=by omega
    have hkx:k<xs.length:=by rw[HM.out];exact hlt
    obtain⟨R,q,rfl,lR,hI⟩:=(HX.out.after hB).at_ hkx;obtain⟨fl,ap,ib,hbx⟩:=oZ.out k hkx;have hiq:=ah (HIT.out k hkx);have heq:=ah (HEX.out k hkx);have hls:=ah (show oz r ex (k+1)=Fw.wr (oz r ex k-ex k)from rfl);generalize xs[k]=x at *;generalize oz r ex k=lf at *;have XB:=ah hbx;clear hbx
    go_upto_region 6 with(first|(refine dn aQ _ rfl rfl (by assumption) ?_)|(refine dI aQ _ rfl rfl (by assumption) ?_)|(refine bW aQ rfl ?_)|(refine bM aQ _ _ rfl rfl rfl o7 ?_))
    obtain⟨nb,hnb⟩:=aA wr.heap.size;generalize hW:jb5 _ _ _=W3;have A2:At W3 nb (.cells (lZ x) 216):=hW▸hnb▸At.setRow (At.new _ _) _;have A3:At W3 b (.cells cs 214):=hW▸At.fT (A1.alloc _) (by have:=A1.lt;omega) _;have hB3:Below w w W3:=hW▸aM (aB hB _) hB.size _;have Js:aL W3 x.bx (st k) fl ap ib:=XB.out.keep hB3;rw[hnb];have hne:nb≠b:=by have:=A1.lt;omega
    clear hW A1 hI lR hB;have Kl:=ah Js;clear Js;have l2:=A2.lt
    have hld:∀j,j<5->W3.cell? ⟨nb,0+j,none⟩=(wI x.it)[j]? := λj hj=>by
     rw[A2.cell,Nat.zero_add];exact Z2l
    have hfit:k*5+5<=cs.size:=by omega
    have HLD:=ah hld;clear hld
    go_upto_region 7 with(first|(refine dZ Xu zU aQ _ rfl rfl (gH x.it) HLD.out ?_)|(refine fD zU aQ _ _ rfl rfl rfl A3 (gH x.it) (by first|exact hfit|(rw[Nat.zero_add];exact hfit)) (CG x.it) ?_))
    obtain⟨e0,he0⟩:=aA (ex k);obtain⟨lf2,aae⟩:=aA (IntKind.i64.wrap (lf-e0));have hlk:Hid (oz r ex (k+1)=lf2):=ah (by rw[hls.out,he0,<-qI,aae]);generalize hW:jb5 _ _ _=W4;have A4:At W4 b (.cells (splice cs (k*5) (wI x.it)) 214):=hW▸At.setRow A3 _;have A5:At W4 nb (.cells (lZ x) 216):=hW▸At.fT A2 hne _;have hB4:Below w w W4:=hW▸aM hB3 (uH hwb) _;have key:=Ri x (st k) fl ap ib W4 (XB.out.keep hB4);exact Zb
  . exact Z17
def vF(Y:pU)(B:Int->Fw.Bx)(i0 k:Int):Im:=⟨⟨0,0,0,0,0⟩,⟨k,0,0,0,0,0,0⟩,Y.bl k,Fw.mg (B k).sty 0 0 i0,Fw.mg (B k).sty 0 1 i0,Fw.mg (B k).sty 1 0 i0,Fw.mg (B k).sty 1 1 i0⟩
def gD(Y:pU)(B:Int->Fw.Bx)(i0:Int)(l:List Int):List Im:=l.map (vF Y B i0)
section
variable {Y:pU} {B:Int->Fw.Bx} {D:Int->Prop} {KM:World->Nat->Prop}
theorem Uh{cs:Array Value}{l:List Im}(h:eX cs 0 l)(hf:l.length*17+17<=cs.size):eX (splice cs (l.length*17) (lZ x)) 0 (l++[x]):=by
 have hs:l.length*17+(lZ x).size<=cs.size:=by rw[rA];exact hf
 refine⟨by rw[iG hs];simp;omega,λi hi j hj => ?_⟩;by_cases e:i<l.length
 . rw[List.getElem_append_left e,Nat.zero_add,gV hs (.inl ak)]
   have:=h.2 i e j hj
   rwa [Nat.zero_add]at this
 . have:i=l.length:=by simp at hi;omega
   subst this;rw[Nat.zero_add,mH hs (by rw[rA];exact hj)];simp
theorem ac1(hK:∀(X X':World) (b:Nat),KM X b->Below X X X'->KM X' b)(z i0 i1:Int)(hz:D z)(hdn:∀k∈(B z).fl,D k)(hl:(B z).fl.length<=10000)(w:World)(hR:RO w Y B D KM) :
  Calls ja0 131 #[Y.lb,.agg #[z,i0,i1]] w λe w' =>
   (∃R cs,e=.returned (.slice (some ⟨R,0,none⟩) (B z).fl.length (B z).fl.length)/\w.heap.size<=R/\At w' R (.cells cs 216)/\eX cs 0 (gD Y B i0 (B z).fl)/\cs.size=(B z).fl.length*17)/\Below w w w':=by
 have hb1:Below w w (w.alloc (.cells #[z,i0,i1] 86)):=aB aD _;have A0:At (w.alloc (.cells #[z,i0,i1] 86)) w.heap.size (.cells #[z,i0,i1] 86):=At.new _ _;have HR1:=ah (hR.keep hK hb1);have HR:=ah hR;have HDN:=ah hdn;obtain⟨hbx,hks,_⟩:=hR.box z hz;obtain⟨A,cp,hvf,hI,hle,hmx,hAn⟩:=hks.ints;rw[hvf]at hbx;have oZ:=ah hbx;have HI:=ah hI;obtain⟨l,hll⟩:=aA ((B z).fl);have Pm:=ah hll;rw[hll]at hl hle ⊢;obtain⟨m,hm⟩:=aA l.length;have HM:=ah hm;rw[hm]at hl hle ⊢;clear hR hbx hI hks hvf hdn hll;go_enter Tryz.func131,Tryz.ntmps131
 go_upto_region 1 with(fail)
 generalize w.alloc (.cells #[z,i0,i1] 86)=w1 at *;obtain⟨l0,c00,Jr,Ui⟩:=At.three A0;have hl1:=HR1.out.look hz;have wD:=HR1.out.lay;have BR:=wD.lt;have F4:w1.cell? ⟨Y.lb,2,none⟩=some (.map (some Y.bm)):=wD.cell 2;have adz:=oZ.out.keep hb1;have l71:=adz.lt;have nN:w1.cell? ⟨Y.bl z,71,none⟩=some (.slice A (B z).fl.length cp):=adz.ext 16;rw[Pm.out,hm]at nN;clear hm adz wD;have hL:=λX (hb:Below w1 w1 X)=>(HR1.out.keep hK hb).look hz;clear hl1;refine uJ ?_
 (repeat (first|refine jw ?_ | refine jy ?_ (hc:=by intro w2 hS;first|with_reducible exact iR hS (iK _))|refine jA ?_))
 refine aj.bI ?_;intro w2 hS;have hb2:Below w w w2:=Below.ay hb1 aC hS;have A1:=A0.keep hS;clear hS hL F4 BR l0 c00 Jr Ui l71 nN hb1 A0 HR1;obtain⟨cs0,hmk,xI⟩:=aa8 w2 m ak;have adA:=oZ.out.keep hb2;have l71:=adA.lt;have nN:w2.cell? ⟨Y.bl z,71,none⟩=some (.slice A (B z).fl.length cp):=aL.ext adA 16;rw[Pm.out,HM.out]at nN;have XA:=ah hmk;clear adA hmk
 go_upto_region 3 with(refine kF aQ _ _ 211 rfl XA.out ?_)
 obtain⟨R,hR0⟩:=aA w2.heap.size;rw[hR0];have A2:At (w2.alloc (.cells cs0 216)) R (.cells cs0 216):=At.new' _ hR0.symm;have A3:=A1.alloc (.cells cs0 216);have hb3:Below w w (w2.alloc (.cells cs0 216)):=aB hb2 _;have hwR:w.heap.size<R:=by have:=A1.lt;omega
 generalize w2.alloc (.cells cs0 216)=w3 at *;clear A1 hb2 hR0 XA l71 nN;have HA3:=ah A3;have aj8:=hb3.size
 go_upto_region 4 with(fail)
 go_loopw [25] (λiv wr=>∃(k:Nat) (cs:Array Value),k<=m/\iv=.int .i64 k/\At wr R (.cells cs 216)/\Hid (cs.size=m*17/\eX cs 0 (gD Y B i0 (l.take k)))/\At wr w (.cells #[z,i0,i1] 86)/\Below w w wr) (λiv _=>m-(intOf iv).toNat)
 case atStart=>exact⟨0,cs0,eP _,rfl,A2,ah ⟨xI,by simp[eX,gD]⟩,A3,hb3⟩
 case round =>
  clear A2 A3 hb3 xI;obtain⟨k,cs,hk,rfl,A2,hC,A3,hB⟩:=hrel;by_cases hlt:k<m
  . have hltz:(k:Int)<(m:Int):=by omega
    have hkk:k<l.length:=by rw[HM.out];exact hlt
    have Ee:=HI.out.after hB;rw[Pm.out]at Ee;obtain⟨b1,o1,rfl,Vw,hc1⟩:=Ee.at_ (k:=k) hkk;obtain⟨x,hx⟩:=aA (l.getD k 0);have hx2:l[k]=x:=by rw[<-hx,List.getD,ja6 hkk];rfl
    rw[hx]at hc1;have hxD:D x:=HDN.out x (by rw[Pm.out];exact hx2▸List.getElem_mem _);have hRr:=HR.out.keep hK hB;have hlx:=hRr.look hxD;have F4:wr.cell? ⟨Y.lb,2,none⟩=some (.map (some Y.bm)):=hRr.lay.cell 2;have lyb:=hRr.lay.lt;have hbx:=ah (hRr.box x hxD).1;have afz:=fI (Y.bl x) (B x).sty (Y.vf x) (Y.va x) (B x).ib i0 i1 wr hbx.out;have afA:Hid (gD Y B i0 (l.take (k+1))=gD Y B i0 (l.take k)++[vF Y B i0 x]):=ah (by unfold gD;rw[jc8 hkk,List.map_append,hx2];rfl);have hLen:Hid ((gD Y B i0 (l.take k)).length=k):=ah (by simp[gD];omega);obtain⟨l0,c00,Jr,Ui⟩:=At.three A3;have hNI:Hid (vF Y B i0 x=⟨⟨0,0,0,0,0⟩,⟨x,0,0,0,0,0,0⟩,Y.bl x,Fw.mg (B x).sty 0 0 i0,Fw.mg (B x).sty 0 1 i0,Fw.mg (B x).sty 1 0 i0,Fw.mg (B x).sty 1 1 i0⟩):=ah rfl;generalize Fw.mg (B x).sty 0 0 i0=g0 at *;generalize Fw.mg (B x).sty 0 1 i0=g1 at *;generalize Fw.mg (B x).sty 1 0 i0=g2 at *;generalize Fw.mg (B x).sty 1 1 i0=g3 at *;generalize Y.bl x=bx at *;clear Ee hRr hx2 hxD hx;have HA2:=ah A2;have aii:=ah A3;clear A2 A3
    go_upto_region 7 with(fail)
    have hfit:k*17+17<=cs.size:=by have:=hC.out.1;omega
    go_upto_region 8 with(first|(go_at_call 108;(with_reducible refine afz.mono ?_);rintro e w5 ⟨rfl,hb5⟩)|(refine fD Pj aQ _ _ rfl rfl rfl (HA2.out.keep hb5) rfl hfit Kc ?_))
    generalize hW:jb5 _ _ _=W6;have A4:At W6 R (.cells (splice cs (k*17) (lZ (vF Y B i0 x))) 216):=by
     rw[hNI.out];exact hW▸At.setRow (HA2.out.keep hb5) _
    have A5:At W6 w (.cells #[z,i0,i1] 86):=hW▸At.fT (aii.out.keep hb5) (dW hwR) _;have zi:Below w w W6:=hW▸aM (Below.ay hB aC hb5) (uH hwR) _
    have hC6:Hid ((splice cs (k*17) (lZ (vF Y B i0 x))).size=m*17/\eX (splice cs (k*17) (lZ (vF Y B i0 x))) 0 (gD Y B i0 (l.take (k+1)))):=ah ⟨by rw[iG (by rw[rA];exact hfit)];exact hC.out.1,by
     rw[afA.out];have h1:=Uh (x:=vF Y B i0 x) hC.out.2 (by rw[hLen.out];exact hfit);rw[hLen.out]at h1
     exact h1⟩
    clear hW hb5 afz hB hfit l0 c00 Jr Ui hlx F4 lyb hc1 Vw;go_wp2
    go_roundw
    case rel=>exact⟨k+1,_,by omega,by go_num,A4,hC6,A5,zi⟩
    case measure=>simp[intOf];omega
  . obtain rfl:k=m:=by omega
    have hfull:l.take k=l:=by rw[jb6 (by rw[HM.out];exact aJ _)]
    rw[hfull]at hC;go_wp2
    go_ret
    exact⟨⟨R,cs,rfl,uH hwR,A2,hC.out.2,hC.out.1⟩,hB⟩
end
theorem aP{cs:Array Value}{i:Nat}{v:Value}(h:cs[i]? = some v):cs.setIfInBounds i v=cs:=by
 apply Array.ext_getElem?;intro j;rw[Array.getElem?_setIfInBounds];by_cases e:i=j
 . subst e
   have hlt:=(Array.getElem?_eq_some_iff.1 h).1;rw[if_pos rfl,if_pos hlt,h]
 . rw[if_neg e]
section
variable {Y:pU} {B:Int->Fw.Bx} {D:Int->Prop} {KM:World->Nat->Prop}
theorem Uj(hK:∀(X X':World) (b:Nat),KM X b->Below X X X'->KM X' b)(z r0 r1 a0 a1:Int)(hz:D z)(R o:Nat)(cs:Array Value)(w:World)(hR:RO w Y B D KM)(hA:At w R (.cells cs 88))(ho:cs[o]? = some (.int .i64 z))(h5:cs[o+5]? = some (.int .i64 a0))(h6:cs[o+6]? = some (.int .i64 a1)) :
  Calls ja0 101 #[Y.lb,.pointer (some ⟨R,o,none⟩),.agg #[r0,r1]] w λe w'=>e=.returned (.tuple #[])/\At w' R (.cells ((cs.setIfInBounds (o+5) (.int .i64 (if (B z).sty.c 1=1 then Fw.zm (B z).sty 0 r0 a0 else a0))).setIfInBounds (o+6) (.int .i64 (if (B z).sty.c 1=1 then Fw.zm (B z).sty 1 r1 a1 else a1))) 88)/\Out (λb=>b=R) w w':=by
 obtain⟨x0,HX0⟩:∃x,Hid ((if (B z).sty.c 1=1 then Fw.zm (B z).sty 0 r0 a0 else a0)=x):=⟨_,ah rfl⟩;obtain⟨x1,Sj⟩:∃x,Hid ((if (B z).sty.c 1=1 then Fw.zm (B z).sty 1 r1 a1 else a1)=x):=⟨_,ah rfl⟩;rw[HX0.out,Sj.out];obtain⟨es0,Uc,hpm⟩:=hR.Fz;have hbx:=(hR.box z hz).1;have hW1:Below w w (w.alloc (.cells #[r0,r1] 81)):=aB aD _;have hL:=λX (hb:Below (w.alloc (.cells #[r0,r1] 81)).heap.size (w.alloc (.cells #[r0,r1] 81)) X)=>(hR.keep hK (Below.after hW1 hb)).look hz;have A0:At (w.alloc (.cells #[r0,r1] 81)) w.heap.size (.cells #[r0,r1] 81):=At.new _ _;have A2:=hbx.alloc (.cells #[r0,r1] 81);have AR:=hA.alloc (.cells #[r0,r1] 81);have AL:=hR.lay.alloc (.cells #[r0,r1] 81);have hlR:=hA.lt;have hRb:R≠Y.bl z:=λq=>by have:=At.uniq hA (q▸hbx);cases this
 generalize hs:(B z).sty=s at *;generalize Y.vf z=vf at *;generalize Y.va z=va at *;generalize (B z).ib=ib at *;generalize Y.bl z=bz at *;go_enter Tryz.func101,Tryz.ntmps101
 go_upto_region 1 with(fail)
 generalize w.alloc (.cells #[r0,r1] 81)=W0 at *;have c0:=A0.lc;have BR:=AL.lt;have F4:W0.cell? ⟨Y.lb,2,none⟩=some (.map (some Y.bm)):=AL.cell 2;have lR:=AR.lt;have cR:W0.cell? ⟨R,o,none⟩=some (.int .i64 z):=(AR.cell o).trans ho;have l2:=A2.lt;have p1:W0.cell? ⟨bz,1,none⟩=some (.int .i64 (s.c 1)):=aL.int A2 1 aF rfl;refine uJ ?_
 (repeat (first|refine jw ?_ | refine jy ?_ (hc:=by intro w2 hS;first|with_reducible exact iR hS (iK _))|refine jA ?_))
 refine aj.bI ?_;intro w2 hS;have hQ:Out (λb=>b=R) W0 w2:=Out.of_below hS;replace A0:=At.keep A0 hS;replace A2:=At.keep A2 hS;replace AR:=At.keep AR hS;replace p1:=((gJ hS).1 _ _ l2).trans p1;clear hS hL BR F4 AL cR lR;replace l2:=A2.lt;have lR:=AR.lt;have cR:=(AR.cell (o+5)).trans h5;have zR:=AR.thaw (o+5);clear c0;have c0:=A0.lc;have wK:R<w.heap.size:=hlR;by_cases hp:s.c 1=1
 . have HP:=ah hp
   have hp':(s.c 1 != 1)=false:=by simpa using hp
   clear hp
   go_upto_region 3 with(fail)
   clear p1 hp';go_wp2;refine wp_loop_rounds 3 ?_;cases aa':Fw.Fu s 0 0 r0
   . have Pn:=ah aa'
     clear aa';cases abb:Fw.Fu s 0 1 r0
     . have XD:=ah abb
       clear abb;rw[rounds_succ]
       go_upto_region 6 with(fail)
       go_upto_region 7 with((go_at_call 145;(with_reducible refine(vv bz s vf va ib r0 r1 _ A2).mono ?_);rintro e w3 ⟨rfl,hb⟩;replace hQ:=hQ.trans (Out.of_below hb);replace A0:=At.keep A0 hb;replace A2:=At.keep A2 hb;replace AR:=At.keep AR hb;clear hb))
       clear c0 lR cR zR;have c0:=A0.lc;have lR:=AR.lt;have cR:=(AR.cell (o+5)).trans h5;have zR:=AR.thaw (o+5);rw[Pn.out]
       go_upto_region 10 with((go_at_call 145;(with_reducible refine(yG bz s vf va ib r0 r1 _ A2).mono ?_);rintro e w3 ⟨rfl,hb⟩;replace hQ:=hQ.trans (Out.of_below hb);replace A0:=At.keep A0 hb;replace A2:=At.keep A2 hb;replace AR:=At.keep AR hb;clear hb))
       clear c0 lR cR zR;have c0:=A0.lc;have lR:=AR.lt;have cR:=(AR.cell (o+5)).trans h5;have zR:=AR.thaw (o+5);rw[XD.out];rw[<-aP h5,show a0=Fw.zm s 0 r0 a0 from by unfold Fw.zm;rw[if_neg (by rw[Pn.out];simp),if_neg (by rw[XD.out];simp)]]at AR;exact Z1
     . have XD:=ah abb
       clear abb;rw[rounds_succ]
       go_upto_region 6 with(fail)
       go_upto_region 7 with((go_at_call 145;(with_reducible refine(vv bz s vf va ib r0 r1 _ A2).mono ?_);rintro e w3 ⟨rfl,hb⟩;replace hQ:=hQ.trans (Out.of_below hb);replace A0:=At.keep A0 hb;replace A2:=At.keep A2 hb;replace AR:=At.keep AR hb;clear hb))
       clear c0 lR cR zR;have c0:=A0.lc;have lR:=AR.lt;have cR:=(AR.cell (o+5)).trans h5;have zR:=AR.thaw (o+5);rw[Pn.out]
       go_upto_region 10 with((go_at_call 145;(with_reducible refine(yG bz s vf va ib r0 r1 _ A2).mono ?_);rintro e w3 ⟨rfl,hb⟩;replace hQ:=hQ.trans (Out.of_below hb);replace A0:=At.keep A0 hb;replace A2:=At.keep A2 hb;replace AR:=At.keep AR hb;clear hb))
       clear c0 lR cR zR;have c0:=A0.lc;have lR:=AR.lt;have cR:=(AR.cell (o+5)).trans h5;have zR:=AR.thaw (o+5);rw[XD.out]
       go_upto_region 11 with(fail)
       refine wZ 11 1 ?_
       (repeat (first|refine jw ?_ | refine jy ?_ (hc:=by intro w2 hS;first|with_reducible exact iR hS (iK _))|refine jA ?_))
       refine aj.bL ?_;intro w2 hS;replace hQ:=hQ.trans (Out.of_below hS);replace A0:=At.keep A0 hS;replace A2:=At.keep A2 hS;replace AR:=At.keep AR hS;clear hS;clear c0 lR cR zR;have c0:=A0.lc;have lR:=AR.lt;have cR:=(AR.cell (o+5)).trans h5;have zR:=AR.thaw (o+5);refine vU ?_;intro K hK;go_simp;refine hK _ _ (aj.bC ?_);clear hK K;generalize hW:ja5 _ _ _=W9;replace A0:At W9 _ _:=hW▸At.off A0 ak _ _;replace A2:At W9 _ _:=hW▸At.off A2 ak _ _;replace hQ:Out _ _ W9:=hW▸Out.set hQ rfl _ _;replace AR:At W9 R _:=hW▸At.set AR (o+5) _;clear hW;rw[qI,show Fw.wr (a0-Fw.ins s 0 1 r0)=Fw.zm s 0 r0 a0 from by unfold Fw.zm;rw[if_neg (by rw[Pn.out];simp),if_pos XD.out]]at AR;exact Z1
   . have Pn:=ah aa'
     clear aa';rw[rounds_succ]
     go_upto_region 6 with(fail)
     go_upto_region 7 with((go_at_call 145;(with_reducible refine(vv bz s vf va ib r0 r1 _ A2).mono ?_);rintro e w3 ⟨rfl,hb⟩;replace hQ:=hQ.trans (Out.of_below hb);replace A0:=At.keep A0 hb;replace A2:=At.keep A2 hb;replace AR:=At.keep AR hb;clear hb))
     clear c0 lR cR zR;have c0:=A0.lc;have lR:=AR.lt;have cR:=(AR.cell (o+5)).trans h5;have zR:=AR.thaw (o+5);rw[Pn.out]
     go_upto_region 8 with(fail)
     refine wZ 11 1 ?_
     (repeat (first|refine jw ?_ | refine jy ?_ (hc:=by intro w2 hS;first|with_reducible exact iR hS (iK _))|refine jA ?_))
     refine aj.bL ?_;intro w2 hS;replace hQ:=hQ.trans (Out.of_below hS);replace A0:=At.keep A0 hS;replace A2:=At.keep A2 hS;replace AR:=At.keep AR hS;clear hS;clear c0 lR cR zR;have c0:=A0.lc;have lR:=AR.lt;have cR:=(AR.cell (o+5)).trans h5;have zR:=AR.thaw (o+5);refine vU ?_;intro K hK;go_simp;refine hK _ _ (aj.bC ?_);clear hK K;generalize hW:ja5 _ _ _=W9;replace A0:At W9 _ _:=hW▸At.off A0 ak _ _;replace A2:At W9 _ _:=hW▸At.off A2 ak _ _;replace hQ:Out _ _ W9:=hW▸Out.set hQ rfl _ _;replace AR:At W9 R _:=hW▸At.set AR (o+5) _;clear hW;rw[qI,show Fw.wr (a0+Fw.ins s 0 0 r0)=Fw.zm s 0 r0 a0 from by unfold Fw.zm;rw[if_pos Pn.out]]at AR;exact Z1
 . have hp':(s.c 1 != 1)=true:=by simpa using hp
   go_wp2;refine bodyPost_ret (v:=.tuple #[]) (by simp[results,Tryz.results101,go_sem]) rfl ⟨rfl,?_,Out.trans' (Out.of_below hW1) hQ λb _ q=>q⟩;rw[show x0=a0 from by rw[<-HX0.out];exact if_neg hp,show x1=a1 from by rw[<-Sj.out];exact if_neg hp,aP h5,aP h6];exact AR
end
def Rp(W:World)(P:Nat->Prop)(A:Option Addr)(l:List Fw.Ld):Prop:=l=[]\/∃b cs,A=some ⟨b,0,none⟩/\P b/\At W b (.cells cs 88)/\∀i (h:i<l.length) j,j<7->cs[i*7+j]? = (dU l[i])[j]?
def CV(W:World)(P:Nat->Prop)(v:Value)(c:List Fw.Ld×Int):Prop:=∃A cap,v=.agg #[.slice A c.1.length cap,.int .i64 c.2]/\Rp W P A c.1
def Kp(Y:pU)(B:Int->Fw.Bx)(F:Int->Nat)(n:Nat)(P:Nat->Prop)(W:World):Prop :=
 P Y.pm/\∃g,GM 86 W Y.pm n g/\∀z a b v,Wf z->Wf a->Wf b->g (klit z a b)=some v->CV W P v (Fw.cont B (F z) z a b)
theorem Rp.out{P P' M:Nat->Prop}{l:List Fw.Ld}(h:Rp W P A l)(k:Out M W W')(hm:∀b,P b->¬ M b)(hp:∀b,P b->P' b):Rp W' P' A l:=by
 rcases h with h|⟨b,cs,e,hb,hA,hc⟩
 . exact .inl h
 . exact .inr ⟨b,cs,e,hp b hb,hA.out (hm b hb) k,hc⟩
theorem CV.out{P P' M:Nat->Prop}{v:Value}{c:List Fw.Ld×Int}(h:CV W P v c)(k:Out M W W')(hm:∀b,P b->¬ M b)(hp:∀b,P b->P' b):CV W' P' v c:=by
 obtain⟨A,cap,e,h⟩:=h;exact⟨A,cap,e,h.out k hm hp⟩
theorem Kp.out{Y:pU}{B:Int->Fw.Bx}{F:Int->Nat}{P M:Nat->Prop}(h:Kp Y B F n P W)(k:Out M W W')(hm:∀b,P b->¬ M b):Kp Y B F n P W':=by
 obtain⟨hp,g,h1,h2⟩:=h;exact⟨hp,g,h1.out (hm _ hp) k,λz a b v hz ha hb hg=>(h2 z a b v hz ha hb hg).out k hm λ_ q=>q⟩
theorem yM(W:World):(zeroValue 147).run ja0 W=.ok (.agg #[.slice none 0 0,()]) W:=by kernel_rfl
section
variable {Y:pU} {B:Int->Fw.Bx} {D:Int->Prop} {KM:World->Nat->Prop}
theorem Jt(hK:∀(X X':World) (b:Nat),KM X b->Below X X X'->KM X' b)(z i0 i1:Int)(hz:D z)(w:World)(hR:RO w Y B D KM)(hne:(B z).fl=[]) :
  Calls ja0 67 #[Y.lb,.agg #[z,i0,i1]] w λe w'=>e=.returned (.agg #[.slice none 0 0,.int .i64 ((B z).sty.c 54)])/\Below w w w':=by
 obtain⟨hbx,hks,_⟩:=hR.box z hz;obtain⟨es0,Uc,hpm⟩:=hR.Fz;have hbig:Below w w ((w.alloc (.cells #[z,i0,i1] 86)).alloc (.cells #[.slice none 0 0,()] 147)):=aB (aB aD _) _;have hL:=λX (hb:Below ((w.alloc (.cells #[z,i0,i1] 86)).alloc (.cells #[.slice none 0 0,()] 147)).heap.size ((w.alloc (.cells #[z,i0,i1] 86)).alloc (.cells #[.slice none 0 0,()] 147)) X)=>(hR.keep hK (Below.after hbig hb)).look hz;have HR:=ah hR;have A0:At ((w.alloc (.cells #[z,i0,i1] 86)).alloc (.cells #[.slice none 0 0,()] 147)) w.heap.size (.cells #[z,i0,i1] 86):=At.alloc (At.new _ _) _;have A1:At ((w.alloc (.cells #[z,i0,i1] 86)).alloc (.cells #[.slice none 0 0,()] 147)) (w.heap.size+1) (.cells #[.slice none 0 0,()] 147):=At.new' _ Ka;have A2:=hbx.keep hbig;have AL:=hR.lay.keep hbig;have hB:=hbig;obtain⟨s,hs⟩:=aA ((B z).sty);obtain⟨fl,hfl⟩:=aA ((B z).fl);rw[hs]at A2;rw[hfl]at hks;obtain⟨A,cp,hvf,hI,hle,hmx,hAn⟩:=hks.ints;rw[hvf]at A2;generalize Y.va z=va at A2;generalize hib:(B z).ib=ib at A2;generalize hbz:Y.bl z=bz at *;have HS:=ah hs;have Gu:=ah hfl;have oZ:=ah hbx;clear hbx hR hks hs hfl hvf hib;go_enter Tryz.func67,Tryz.ntmps67
 go_upto_region 1 with(fail)
 generalize (w.alloc (.cells #[z,i0,i1] 86)).alloc (.cells #[.slice none 0 0,()] 147)=W0 at *;have c0:=A0.lc;have BR:=AL.lt;have F4:W0.cell? ⟨Y.lb,2,none⟩=some (.map (some Y.bm)):=AL.cell 2;refine uJ ?_
 (repeat (first|refine jw ?_ | refine jy ?_ (hc:=by intro w2 hS;first|with_reducible exact iR hS (iK _))|refine jA ?_))
 refine aj.bI ?_;intro w2 hS;replace A0:=At.keep A0 hS;replace A1:=At.keep A1 hS;replace A2:=At.keep A2 hS;replace AL:=At.keep AL hS;replace hB:=Below.ay hB aC hS;clear hS hL F4 BR c0 hbig;have nN:w2.cell? ⟨bz,71,none⟩=some (.slice A fl.length cp):=aL.ext A2 16;have l2:=A2.lt;have c54:w2.cell? ⟨bz,54,none⟩=some (.int .i64 (s.c 54)):=aL.int A2 54 aF rfl;have l1:=A1.lt;have Mi:w2.cell? ⟨w.heap.size+1,0,none⟩=some (.slice none 0 0):=A1.cell 0;have Mj:w2.cell? ⟨w.heap.size+1,1,none⟩=some (.int .i64 0):=A1.cell 1;have z1:=A1.thaw;have hlz:((fl.length:Int)==0)=true:=by rw[<-Gu.out,hne];rfl
 have Uk:∀X,(Instr.build 147 #[(1,.int .i64 (s.c 54))]).run ja0 X=.ok (.agg #[.slice none 0 0,s.c 54]) X:=λ_=>by kernel_rfl
 go_wp2;refine bodyPost_ret (v:=.agg #[.slice none 0 0,s.c 54]) Z49 rfl ⟨by rw[HS.out],?_⟩;exact Z0
theorem Jv(hK:∀(X X':World) (b:Nat),KM X b->Below X X X'->KM X' b)(z i0 i1:Int)(hz:D z)(w:World)(hR:RO w Y B D KM)(n:Nat)(h0:Wf i0)(h1:Wf i1)(hne:(B z).fl≠[])
  (g:Lit->Option Value) (hg:GM 86 w Y.pm n g) (Av:Option Addr) (lv cv:Nat) (hv:Int) (hgv:g (klit z i0 i1)=some (.agg #[.slice Av lv cv,hv])) :
  Calls ja0 67 #[Y.lb,.agg #[z,i0,i1]] w λe w'=>e=.returned (.agg #[.slice Av lv cv,hv])/\Below w w w':=by
 obtain⟨hbx,hks,_⟩:=hR.box z hz;obtain⟨es0,Uc,hpm⟩:=hR.Fz;have hbig:Below w w ((w.alloc (.cells #[z,i0,i1] 86)).alloc (.cells #[.slice none 0 0,()] 147)):=aB (aB aD _) _;have hL:=λX (hb:Below ((w.alloc (.cells #[z,i0,i1] 86)).alloc (.cells #[.slice none 0 0,()] 147)).heap.size ((w.alloc (.cells #[z,i0,i1] 86)).alloc (.cells #[.slice none 0 0,()] 147)) X)=>(hR.keep hK (Below.after hbig hb)).look hz;have HR:=ah hR;have A0:At ((w.alloc (.cells #[z,i0,i1] 86)).alloc (.cells #[.slice none 0 0,()] 147)) w.heap.size (.cells #[z,i0,i1] 86):=At.alloc (At.new _ _) _;have A1:At ((w.alloc (.cells #[z,i0,i1] 86)).alloc (.cells #[.slice none 0 0,()] 147)) (w.heap.size+1) (.cells #[.slice none 0 0,()] 147):=At.new' _ Ka;have A2:=hbx.keep hbig;have AL:=hR.lay.keep hbig;have hB:=hbig;obtain⟨s,hs⟩:=aA ((B z).sty);obtain⟨fl,hfl⟩:=aA ((B z).fl);rw[hs]at A2;rw[hfl]at hks;obtain⟨A,cp,hvf,hI,hle,hmx,hAn⟩:=hks.ints;rw[hvf]at A2;generalize Y.va z=va at A2;generalize hib:(B z).ib=ib at A2;generalize hbz:Y.bl z=bz at *;have HS:=ah hs;have Gu:=ah hfl;have oZ:=ah hbx;clear hbx hR hks hs hfl hvf hib;go_enter Tryz.func67,Tryz.ntmps67
 go_upto_region 1 with(fail)
 generalize (w.alloc (.cells #[z,i0,i1] 86)).alloc (.cells #[.slice none 0 0,()] 147)=W0 at *;have c0:=A0.lc;have BR:=AL.lt;have F4:W0.cell? ⟨Y.lb,2,none⟩=some (.map (some Y.bm)):=AL.cell 2;refine uJ ?_
 (repeat (first|refine jw ?_ | refine jy ?_ (hc:=by intro w2 hS;first|with_reducible exact iR hS (iK _))|refine jA ?_))
 refine aj.bI ?_;intro w2 hS;replace A0:=At.keep A0 hS;replace A1:=At.keep A1 hS;replace A2:=At.keep A2 hS;replace AL:=At.keep AL hS;replace hB:=Below.ay hB aC hS;clear hS hL F4 BR c0 hbig;have nN:w2.cell? ⟨bz,71,none⟩=some (.slice A fl.length cp):=aL.ext A2 16;have l2:=A2.lt;have c54:w2.cell? ⟨bz,54,none⟩=some (.int .i64 (s.c 54)):=aL.int A2 54 aF rfl;have l1:=A1.lt;have Mi:w2.cell? ⟨w.heap.size+1,0,none⟩=some (.slice none 0 0):=A1.cell 0;have Mj:w2.cell? ⟨w.heap.size+1,1,none⟩=some (.int .i64 0):=A1.cell 1;have afB:=A1.thaw 0;have afC:=A1.thaw 1;have hlz:((fl.length:Int)==0)=false:=by rw[<-Gu.out];simp;exact hne
 go_upto_region 4 with(fail)
 have c0:=A0.lc;have BR:=AL.lt;have ly4:w2.cell? ⟨Y.lb,4,none⟩=some (.map (some Y.pm)):=AL.cell 4;have hzf:=HR.out.wf z hz;have hKL:=λX (hb:Below w2 w2 X)=>(hg.keep (Below.ay hB aC hb)).look_ok Cw Tryz.underlying92 (yM X) (LW hzf h0 h1);simp only[hgv,Option.getD_some,Option.isSome_some,OW]at hKL;have hS0:Below w2 w2 w2.drew:=Below.drew aD;refine gZ (S:=λX=>Below w2 w2 X) 12 ?_ ?_
 . exact hS0
 intro hS1;clear hS0;refine aG 0 ?_;refine aG 1 ?_;refine aG 2 ?_;refine aG 3 ?_;refine aG 4 ?_;refine aG 5 ?_;refine aG 6 ?_;refine aG 7 ?_;refine aG 8 ?_;refine tk1 9 ?_;refine aj.Step.value eB ?_;have AN:At (w2.alloc (.cells #[.slice none 0 0,()] 147)).drew w2.heap.size (.cells #[.slice none 0 0,()] 147):=At.drew (At.new _ _);have hS2:Below w2 w2 (w2.alloc (.cells #[.slice none 0 0,()] 147)).drew:=Below.drew (aB aD _);have BS:=At.keep A1 hS2;have l1w:=l1;refine⟨λ_=>hS2,?_⟩
 (try simp only[bN,bO,bP,tks])
 generalize (w2.alloc (.cells #[.slice none 0 0,()] 147)).drew=w3 at *;obtain⟨ln,cn0,cn1⟩:=At.two AN;have zn0:=AN.thaw 0;have zn1:=AN.thaw 1;clear Mi Mj afB afC l1;refine tk1 10 ?_;refine aj.Step.skip eB ?_;have qp:Below w2 w2 ((w3.setCell ⟨w2,0,none⟩ (.slice Av lv cv)).setCell ⟨w2,1,none⟩ (.int .i64 hv)):=Below.setCell (Below.setCell hS2 aV _) aV _;have AN2:=At.set (At.set AN 0 (.slice Av lv cv)) 1 (.int .i64 hv);replace BS:=At.off (At.off BS (n:=w2.heap.size) ak 0 (.slice Av lv cv)) (n:=w2.heap.size) ak 1 (.int .i64 hv);refine⟨λ_=>qp,?_⟩
 (try simp only[Act.put])
 generalize (w3.setCell ⟨w2,0,none⟩ (.slice Av lv cv)).setCell ⟨w2,1,none⟩ (.int .i64 hv)=w4 at *;clear hS2 AN ln cn0 cn1 zn0 zn1 hS1;refine aG 11 ?_;refine gX ?_;replace hB:=Below.ay hB aC qp;clear qp;obtain⟨ln,cn0,cn1⟩:=At.two (x:=.slice Av lv cv) (y:=.int .i64 hv) AN2;obtain⟨l1,Mi,Mj⟩:=At.two BS;have afB:=At.thaw BS 0;have afC:=At.thaw BS 1;clear nN l2 c54 c0 BR ly4;go_wp2;refine bodyPost_ret (v:=.agg #[.slice Av lv cv,hv]) Z49 rfl ⟨rfl,?_⟩;exact Z0
end
theorem GM.put{k t e:TypeId}{W:World}{b n:Nat}{g:Lit->Option Value}(h:GM k W b n g)(K:Maps.Keyed ja0 k)(ht:Tryz.prog.underlying t=some (.map k e))(hn:n<maxLen){key v:Value}{kl:Lit}(hkey:keyOf ja0 k key=some kl) :
  ∃W' n',n'<=n+1/\(Instr.mapUpdate t (.map (some b)) key v).run ja0 W=.ok () W'/\GM k W' b n' (yH g kl v)/\Out (λx=>x=b) W W':=by
 obtain⟨D,h1,h2,h3⟩:=h;obtain⟨W',hr,ho,ht⟩:=h1.store K ht hn hkey (val:=v) rfl;have hle:=ho.size_le;refine⟨W',Maps.size (D.put kl (.held v)),hle,hr,⟨_,Xa ho,rfl,λy hy => ?_⟩,Out.turned ht⟩;exact Z1o
section
variable {Y:pU} {B:Int->Fw.Bx} {D:Int->Prop} {KM:World->Nat->Prop}
theorem RO.fresh(rT:∀(X X':World) (b:Nat),KM X b->Out (λq=>q≠b) X X'->KM X' b)(h:RO W Y B D KM)(hkm:Y.km<W.heap.size)(k:Out (λb=>b=Y.pm\/W.heap.size<=b) W W')(hp:∃es ck,At W' Y.pm (.map es ck)):RO W' Y B D KM:=by
 obtain⟨es0,Uc,hpm⟩:=h.Fz
 have cell:∀{b:Nat} {cs:Array Value} {T:TypeId},At W b (.cells cs T)->¬ (b=Y.pm\/W.heap.size<=b):=λ{b cs T} ha q=>by
  rcases q with rfl|q
  . have:=At.uniq ha hpm;cases this
  . exact absurd ha.lt ak
 have ks:∀{v:Value} {l:List Int},KS W v l->KS W' v l:=λ{v l} hk=>hk.out (λg hg q=>by
  obtain⟨cur,ha⟩:=hk.rowAt hg
  exact cell ha q) k
 refine⟨h.lay.out (cell h.lay) k,?_,λz hz => ?_,?_,h.wf,hp,h.pmb,h.pmk,h.pmr⟩
 . obtain⟨n,g,h1,h2⟩:=h.boxes
   exact⟨n,g,h1.out (λq=>by rcases q with q|q;exact h.pmb q.symm;exact absurd h1.lt ak) k,h2⟩
 . obtain⟨h1,h2,h3⟩:=h.box z hz
   exact⟨At.out h1 (cell h1) k,ks h2,ks h3⟩
 . refine rT _ _ _ h.kinds ⟨k.1,λb hb hn => ?_⟩
   have hb':b=Y.km:=Classical.byContradiction hn;subst hb';exact k.2 _ hb (λq=>by rcases q with q|q;exact h.pmk q.symm;omega)
end
def nD(cs:Array Value)(l:List Fw.Ld):Prop:=l.length*7<=cs.size/\∀i (h:i<l.length) j,j<7->cs[i*7+j]? = (dU l[i])[j]?
theorem nD.step{cs:Array Value}{l:List Fw.Ld}(h:nD cs l)(hk:k<l.length)(x0 x1:Int) :
  nD ((cs.setIfInBounds (k*7+5) (.int .i64 x0)).setIfInBounds (k*7+6) (.int .i64 x1)) (l.set k { l[k]with a0:=x0,a1:=x1 }):=by
 refine⟨by simpa using h.1,λi hi j hj => ?_⟩;have hi':i<l.length:=by simpa using hi
 have hs:=h.1;simp only[Array.getElem?_setIfInBounds,Array.size_setIfInBounds,List.getElem_set];by_cases e:k=i
 . subst e
   rw[if_pos rfl];have h0:=h.2 k hi' j hj;by_cases e6:k*7+6=k*7+j
   . obtain rfl:j=6:=by omega
     rw[if_pos rfl,if_pos ak];rfl
   . rw[if_neg e6]
     by_cases e5:k*7+5=k*7+j
     . obtain rfl:j=5:=by omega
       rw[if_pos rfl,if_pos ak];rfl
     . rw[if_neg e5,h0]
       rcases(show j=0\/j=1\/j=2\/j=3\/j=4 by omega)with rfl|rfl|rfl|rfl|rfl<;>rfl
 . rw[if_neg e,if_neg ak,if_neg ak]
   exact h.2 i hi' j hj
def Po(f:Fw.Ld->Fw.Ld)(l:List Fw.Ld)(k:Nat):List Fw.Ld:=(l.take k).map f++l.drop k
theorem XE(f:Fw.Ld->Fw.Ld)(l:List Fw.Ld):Po f l 0=l:=by simp[Po]
theorem abd(f:Fw.Ld->Fw.Ld)(l:List Fw.Ld):Po f l l.length=l.map f:=by simp[Po]
theorem Ef(f:Fw.Ld->Fw.Ld)(l:List Fw.Ld)(k:Nat):(Po f l k).length=l.length:=by simp[Po];omega
theorem abe(f:Fw.Ld->Fw.Ld)(l:List Fw.Ld)(hk:k<l.length):(Po f l k)[k]'(by rw[Ef];exact hk)=l[k]:=by
 simp only[Po];rw[List.getElem_append_right iH];simp only[jb7,jc9,List.getElem_drop];congr 1;omega
theorem XF(f:Fw.Ld->Fw.Ld)(l:List Fw.Ld)(hk:k<l.length):(Po f l k).set k (f l[k])=Po f l (k+1):=by
 apply List.ext_getElem
 . simp[Po];omega
 . intro i h1 h2
   simp only[Po,List.getElem_set,List.getElem_append,jb7,jc9,List.getElem_map,List.getElem_take,List.getElem_drop];by_cases e:k=i
   . subst e;rw[if_pos rfl,dif_pos ak]
   . rw[if_neg e]
     by_cases hl:i<k
     . rw[dif_pos ak,dif_pos ak]
     . rw[dif_neg ak,dif_neg ak]
       congr 1;omega
end Go.Proofs.YtfohooineeijkaaGreat.Fix
