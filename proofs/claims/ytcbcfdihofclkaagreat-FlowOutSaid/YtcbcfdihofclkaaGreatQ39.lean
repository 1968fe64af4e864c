/- Proved here: what functions of the program do, in plain numbers (part 39); no conditions but those in sight. -/
import Derived.Test.YtcbcfdihofclkaaGreatQK
import Derived.Test.YtcbcfdihofclkaaGreatQ38
set_option linter.unusedVariables false
set_option linter.unusedSimpArgs false
set_option linter.unusedSectionVars false
set_option maxRecDepth 100000
namespace Go.Proofs.YtcbcfdihofclkaaGreat.Fix
open Go.ChangeShapes Go.WideShapes Go.ChangeAt Go.RowKit Go.Deep Go.Joins Go.Shelf
theorem WU:(Tryz.prog.info? 180).map (λi=>(i.zero,i.size,i.bytes))=some (some (.agg jA),58,472):=by kernel_rfl
section
variable {W W':World} {r g c m:Nat} {K K':Int->Value} {T T':Tr.T}
theorem Doc.grow(h:Doc W r g c m K T)(hm:m+1<=4096):∃g' c' w1,(Builtin.append_ #[181,181] 181 #[.slice (some ⟨g,0,none⟩) m c,.slice (some ⟨W.heap.size,0,none⟩) 1 1]).run Tryz.prog (W.alloc (.cells jA 180))=.ok (.slice (some ⟨g',0,none⟩) (m+1) c') w1 /\
  At w1 r (.cells #[.slice (some ⟨g,0,none⟩) m c] 183)/\Doc (w1.setCell ⟨r,0,none⟩ (.slice (some ⟨g',0,none⟩) (m+1) c')) r g' c' (m+1) K T/\DG r g K T W (w1.setCell ⟨r,0,none⟩ (.slice (some ⟨g',0,none⟩) (m+1) c')) g' K T:=by
 obtain⟨i0,hi0,hz0,hz1,hz2⟩:=info_parts WU;obtain⟨cur,h1,h2,h3⟩:=h.cur;have hcap:=h.cap;have hlim:=h.lim;have hown:W.ownsRow 0 180 58 (.slice (some ⟨g,0,none⟩) m c) m (cur.toList.take (m*58)):=by
  refine⟨by rw[List.length_take,Array.length_toList];omega,.inr ⟨g,c,cur,rfl,bJ _,h1,hcap,hlim,h2,rfl⟩⟩
 have hA:=At.new W (.cells jA 180)
 obtain⟨v',w1,hr,ho,hg,_,hblk⟩:=run_append_own_at (P:=Tryz.prog) (w:=W.alloc (.cells jA 180)) 0 181 181 180 i0 _ 58 472 Tryz.underlying181 hi0 hz0 hz1 hz2 oq aG _ m _ (hown.alloc _) ⟨W.heap.size,0,none⟩ 1 1 jA.toList (by rw[Array.length_toList,oq])
  (by intro j u hj
      rw[addr_add,Nat.zero_add,hA.cell,<-hj,Array.getElem?_toList])
  (λx hx=>Array.all_eq_true_iff_forall_mem.1 GD x (by simpa using hx)) OZ ak eY
 rcases ho.2 with⟨_,h0⟩|⟨g',c',cur',rfl,_,hg',hc1,hc2,hc3,hc4⟩
 . omega
 have hs1:(W.alloc (.cells jA 180)).heap.size=W.heap.size+1:=by simp
 have iA:Out (λb=>b=g) (W.alloc (.cells jA 180)) w1:=Out.grown hg (λb e=>by injection e with e;exact e.symm);have hO0:Out (λb=>b=g) W (W.alloc (.cells jA 180)):=Out.of_below (Below.alloc' (Below.refl _ _) _);have hO:Out (λb=>b=g) W w1:=hO0.trans iA;have hrA:=h.at_.out (λe=>h.rg e) hO;have hgn:g'=g\/W.heap.size<=g':=by
  rcases hblk with e|e
  . injection e with e;exact .inl e
  . injection e with e;have e':g'=(W.alloc (.cells jA 180)).heap.size:=e;exact .inr ak
 have hgr:g'≠r:=by
  rcases hgn with e|e
  . rw[e];exact λq=>h.rg q.symm
  . have:=h.lt (.inl rfl);omega
 have hget:∀k,k<(m+1)*58->cur'[k]? = (cur.toList.take (m*58)++jA.toList)[k]? := λk hk=>by
  rw[<-hc4,List.getElem?_take,if_pos hk,Array.getElem?_toList]
 have htl:(cur.toList.take (m*58)).length=m*58:=by rw[List.length_take,Array.length_toList];omega
 have hold:∀k,k<m*58->cur'[k]? = cur[k]? := λk hk=>by
  rw[hget k ak,List.getElem?_append_left ak,List.getElem?_take,if_pos hk,Array.getElem?_toList]
 have hO2:Out (λb=>b=r) w1 (w1.setCell ⟨r,0,none⟩ (.slice (some ⟨g',0,none⟩) (m+1) c')):=(Out.refl _ _).set (M:=λb=>b=r) rfl _ _;have hO3:Out (jq r g K T) W (w1.setCell ⟨r,0,none⟩ (.slice (some ⟨g',0,none⟩) (m+1) c')):=(hO.mono λb _ q => .inr (.inl q)).trans (hO2.mono λb _ q => .inl q);refine⟨g',c',w1,hr,hrA,⟨hrA.set 0 _,⟨cur',(show At w1 g' _ from hg').off hgr 0 _,hc3,λi hi => ?_⟩,hc1,hc2,λz nd hz => ?_,λz nd hz => ?_,hm⟩,hO3,λb hb => ?_⟩
 . by_cases e:i=m
   . subst e
     have hn:T (i:Int)=none:=by
      cases e:T (i:Int)with
      | none=>rfl
      | some nd=>have:=h.range _ _ e;omega
     rw[hn];refine⟨?_,λnd' e=>(by cases e),λnd' e=>(by cases e),λnd' e=>(by cases e)⟩;rw[hget _ ak,List.getElem?_append_right ak,htl,Nat.sub_self];rfl
   . have P:=h3 i ak
     exact⟨by rw[hold _ ak];exact P.live,λnd hn=>by rw[hold _ ak];exact P.up nd hn,λnd hn=>by rw[hold _ ak];exact P.kids nd hn,λnd hn q hq=>by rw[hold _ ak];exact P.sty nd hn q hq⟩
 . have hk:=(h.row z nd hz).out (λb hb (q:b=g)=>h.gb (h.row z nd hz) (by rw[hb,q])) hO
   refine hk.out (λb hb (q:b=r) => ?_) hO2;obtain⟨ag9,hc⟩:=hk.rowAt (hb.trans (congrArg some q));have:=hrA.uniq hc;injection this with _ e2;exact absurd e2 aG
 . have:=h.range z nd hz;omega
 . rcases hb with e|e|hb
   . exact .inl (.inl e)
   . rcases hgn with q|q
     . exact .inl (.inr (.inl (e.trans q)))
     . exact .inr ak
   . exact .inl (.inr (.inr hb))
end
theorem WV(w:World):Calls Tryz.prog 55 #[] w λe w'=>(∃r,e=.returned (.pointer (some ⟨r,0,none⟩))/\∃g c K,Doc w' r g c 1 K T0/\∀b,jq r g K T0 b->w.heap.size<=b)/\Below w.heap.size w w':=by
 have hA1:At (w.alloc (.cells (fU (-1) (.slice none 0 0) Re.zero) 180)) w.heap.size (.cells (fU (-1) (.slice none 0 0) Re.zero) 180):=At.new _ _;have hB1:Below w.heap.size w (w.alloc (.cells (fU (-1) (.slice none 0 0) Re.zero) 180)):=Below.alloc' (Below.refl _ _) _;have hs1:(w.alloc (.cells (fU (-1) (.slice none 0 0) Re.zero) 180)).heap.size=w.heap.size+1:=by simp
 have hB2:=Below.alloc' hB1 (.cells #[.slice (some ⟨w.heap.size,0,none⟩) 1 1] 183)
 have some_:∀z nd,T0 z=some nd->z=0/\nd=⟨-1,[],Re.zero⟩:=λz nd hz=>by
  unfold T0 at hz;split at hz
  . injection hz with hz;exact⟨by assumption,hz.symm⟩
  . cases hz
 have hsz:=AF (-1) (.slice none 0 0) Re.zero
 have hD:Hid (Doc ((w.alloc (.cells (fU (-1) (.slice none 0 0) Re.zero) 180)).alloc (.cells #[.slice (some ⟨w.heap.size,0,none⟩) 1 1] 183)) (w.heap.size+1) w.heap.size 1 1 (λ_ => .slice none 0 0) T0):=Lib.hid (by
  refine⟨At.new' _ eY,⟨_,hA1.alloc _,by rw[hsz],λi hi => ?_⟩,ah _,by simp[maxLen],λz nd hz => ?_,λz nd hz => ?_,by omega⟩
  . obtain rfl:i=0:=by omega
    have e0:T0 ((0:Nat):Int)=some ⟨-1,[],Re.zero⟩:=rfl;rw[e0];refine⟨?_,λnd e => ?_,λnd e => ?_,λnd e j hj => ?_⟩
    . rw[ou _ _ _ ak];rfl
    . cases e;rw[ou _ _ _ ak];rfl
    . cases e;rw[ou _ _ _ ak];rfl
    . cases e;rw[show 0*58+3+j=3+j by omega,Em _ _ _ hj]
  . rw[(some_ z nd hz).2];exact KS.nil _
  . rw[(some_ z nd hz).1];omega)
 have hBB:=Lib.hid hB2;clear hA1 hB1 hB2;go_enter Tryz.func55,Tryz.ntmps55
 go_wp2_with (first|(refine wpList_build aU 180 _ rfl #[(0,.bool true),(1,.int .i64 (-1))] XO (Ck _ _) ?_)|(refine wpList_buildSlice aU 181 1 _ rfl #[(0,.agg (fU (-1) (.slice none 0 0) Re.zero))] XO (LZ _) ?_)|(refine wpList_build aU 183 _ rfl #[(0,.slice (some ⟨w.heap.size,0,none⟩) 1 1)] XO (LY _ _ _ _) ?_))
 go_ret
 refine⟨⟨w.heap.size+1,rfl,_,_,_,hD.out,λb hb => ?_⟩,hBB.out⟩;rcases hb with rfl|rfl|⟨z,nd,hz,e⟩
 . omega
 . exact ah _
 . cases e
set_option maxHeartbeats 4000000 in
theorem WW{w:World}{r g c m:Nat}{K:Int->Value}{T:Tr.T}(h:Doc w r g c m K T)(z:Int)(s:Re.St):Calls Tryz.prog 115 #[.pointer (some ⟨r,0,none⟩),.int .i64 z,.agg (cells s)] w λe w'=>e=.returned (.int .i64 (oI T z s))/\Doc w' r g c m K (dG T z s)/\DG r g K T w w' g K (dG T z s):=by
 have hB:Below w.heap.size w (w.alloc (.cells (cells s) 51)):=Below.alloc' (Below.refl _ _) _;have h1:=h.after hB;have hA:At (w.alloc (.cells (cells s) 51)) w.heap.size (.cells (cells s) 51):=At.new _ _;have hnb:¬ jq r g K T w.heap.size:=λq=>absurd (h.lt q) ak;generalize hW:w.alloc (.cells (cells s) 51)=w1 at *;have key:=jc h1 z;cases hT:T z with
 | none =>
   have hE:oI T z s=2:=by unfold oI;rw[hT];rfl
   have hS:dG T z s=T:=by unfold dG;rw[hE];rfl
   rw[kN hT]at key;rw[hE,hS];have HR:=Lib.hid h1;have HB:=Lib.hid hB;clear h h1 hB hE hS;go_enter Tryz.func115,Tryz.ntmps115
   go_wp2_with (go_at_call 100;(with_reducible refine key.mono ?_);rintro e w' ⟨rfl,rfl⟩)
   go_ret
   exact⟨rfl,HR.out,DG.of_below HB.out⟩
 | some nd =>
   rw[kK hT]at key;have key2:=EL s w1;cases hv:Re.valid s with
   | false =>
     have hE:oI T z s=1:=by unfold oI;rw[hT,hv];rfl
     have hS:dG T z s=T:=by unfold dG;rw[hE];rfl
     rw[hv]at key2;rw[hE,hS];have HR:=Lib.hid h1;have HB:=Lib.hid hB;clear h h1 hB hE hS;go_enter Tryz.func115,Tryz.ntmps115
     go_wp2_with (first|(refine aS aU _ rfl rfl hA ?_)|(go_at_call 100;(with_reducible refine key.mono ?_);rintro e w' ⟨rfl,rfl⟩)|(go_at_call 169;(with_reducible refine key2.mono ?_);rintro e w2 ⟨rfl,hb2⟩))
     go_ret
     exact⟨rfl,HR.out.after hb2,DG.of_below (HB.out.trans (hb2.mono HB.out.size))⟩
   | true =>
     have hE:oI T z s=0:=by unfold oI;rw[hT,hv];rfl
     have hS:dG T z s=Tr.set T z { nd with sty:=s }:=by unfold dG Tr.wD;rw[hE,hT];rfl
     rw[hv]at key2;rw[hE,hS];obtain⟨i,rfl,him⟩:=h.nat hT;have HR:=Lib.hid h1;have HB:=Lib.hid hB;clear h h1 hB hE hS;go_enter Tryz.func115,Tryz.ntmps115
     go_upto_region 6 with(first|(refine aS aU _ rfl rfl hA ?_)|(go_at_call 100;(with_reducible refine key.mono ?_);rintro e w' ⟨rfl,rfl⟩)|(go_at_call 169;(with_reducible refine key2.mono ?_);rintro e w2 ⟨rfl,hb2⟩))
     have hR2:=(HR.out.after hb2).after (Below.refl _ w2).drew;have hA2:At w2.drew w.heap.size (.cells (cells s) 51):=(hA.keep hb2).drew;have hO2:Below w.heap.size w w2.drew:=(HB.out.trans (hb2.mono HB.out.size)).drew;obtain⟨W3,hst,hOO,hD3,hG3⟩:=hR2.Nn hT s;have hA3:=hA2.out (λ(q:w.heap.size=g)=>hnb (.inr (.inl q))) hOO;generalize hW2:w2.drew=W2 at *;have hS0:W2.cell? ⟨r,0,none⟩=some (.slice (some ⟨g,0,none⟩) m c)/\At W2 w.heap.size (.cells (cells s) 51):=⟨hR2.cT,hA2⟩;have uG:=Lib.hid (show _/\At W3 w.heap.size (.cells (cells s) 51)from⟨hD3.cT,hA3⟩);have HST:=Lib.hid hst;have HD3:=Lib.hid hD3;have Ij:=Lib.hid ((DG.of_below hO2).trans hG3);clear hR2 hA2 hO2 hD3 hG3 hst hA3 HR HB hA hb2 hOO;refine aj.qP (S:=(λW'=>W'.cell? ⟨r,0,none⟩=some (.slice (some ⟨g,0,none⟩) m c)/\At W' w.heap.size (.cells (cells s) 51))) 9 fV ?_ ?_
     . rw[hW2];exact hS0
     intro hS1;rw[hW2];clear hS1 hW2;refine aT 0 ?_;refine aT 1 ?_;refine aT 2 ?_;refine aT 3 ?_;refine aT 4 ?_;refine rD 5 rfl (ko aU (.tmp 5) rfl rfl (λW h=>h.2)) ?_;refine aT 6 ?_;refine aT 7 ?_;refine tk1 8 ?_;refine aj.Step.skip (sM (.tmp 23) (.tmp 21) rfl rfl rfl HST.out) ?_;refine⟨λ_=>uG.out,?_⟩
     (try simp only[bF,bG,bH,tks])
     refine jY ?_;go_wp2
     go_ret
     exact⟨rfl,HD3.out,Ij.out⟩
theorem L6{T:Tr.T}{z u:Int}{i:Nat}{p:Tr.Nd}(hu:T u=some p)(hz:T z=none):Tr.nZ T z u i=Tr.set (Tr.set T z ⟨u,[],Re.zero⟩) u { p with kids:=Tr.wi p.kids i z }:=by
 have hne:u≠z:=λe=>by rw[e,hz]at hu;cases hu
 funext y;rw[Tr.uR hu hz];by_cases e:y=z
 . rw[if_pos e,e,Tr.aD _ _ (Ne.symm hne),Tr.aJ]
 . rw[if_neg e]
   by_cases e2:y=u
   . rw[if_pos e2,e2,Tr.aJ]
   . rw[if_neg e2,Tr.aD _ _ e2,Tr.aD _ _ e]
set_option maxHeartbeats 8000000 in
theorem aaB{w:World}{r g c m:Nat}{K:Int->Value}{T:Tr.T}(h:Doc w r g c m K T)(H:Tr.WF T)(hn:(Tr.ord T).length<4096){u a:Int}(hE0:Tr.iW T u a≠0):Calls Tryz.prog 116 #[.pointer (some ⟨r,0,none⟩),.int .i64 u,.int .i64 a] w λe w'=>e=.returned (.tuple #[.int .i64 (Tr.og T u a),.int .i64 (Tr.iW T u a)])/\Doc w' r g c m K (Tr.bU T u a)/\DG r g K T w w' g K (Tr.bU T u a):=by
 have hI:Tr.og T u a = -1:=by unfold Tr.og;rw[if_neg hE0]
 have hR:Tr.bU T u a=T:=by unfold Tr.bU;rw[if_neg hE0]
 rw[hI,hR];have HD:=Lib.hid h;have key:=jc h u;cases hT:T u with
 | none =>
   have hE:Tr.iW T u a=2:=by unfold Tr.iW;rw[hT]
   rw[hE];rw[kN hT]at key;clear h hI hR hE hE0;exact Z27
 | some p =>
   rw[kK hT]at key;obtain⟨iu,rfl,him⟩:=h.nat hT;have c0:=h.cT;have c1:=h.lF hT;obtain⟨A,cc,hv,_⟩:=(h.row _ p hT).ints;rw[hv]at c1;have hkl:=H.qE hT;by_cases hr:a<0\/(p.kids.length:Int)<a
   . have hE:Tr.iW T iu a=1:=by unfold Tr.iW;rw[hT];dsimp only;rw[if_pos hr]
     rw[hE];clear h hI hR hE hE0 hv;generalize p.kids.length=n at *;rcases hr with hr|hr
     . exact Z27
     . have hr0:¬ a<0:=by omega
       exact Z27
   . have hr0:¬ a<0:=λe=>hr (.inl e)
     have hr1:¬ (p.kids.length:Int)<a:=λe=>hr (.inr e);have nL:=Eo h H;obtain⟨d,hd1,hd2,hd3⟩:=H.iD hT;have KD:=Lib.hid λW (hb:Below w.heap.size w W)=>qJ (h.after hb) (λ_ q=>H.o9 q) hd2 ak;have UE:(63:Int)<=(d:Int):=by
      unfold Tr.iW at hE0;rw[hT]at hE0;dsimp only at hE0;rw[if_neg hr,hd3]at hE0;by_cases e:(63:Int)<=(d:Int)
      . exact e
      . rw[if_neg e]at hE0;exact absurd rfl hE0
     have hE:Tr.iW T iu a=5:=by unfold Tr.iW;rw[hT];dsimp only;rw[if_neg hr,hd3,if_pos UE]
     rw[hE];have hnn:¬ (4096:Int)<=((Tr.ord T).length:Int):=by omega
     clear h hI hR hE hE0 hv hd2 hd3 hr;generalize p.kids.length=n at *;generalize (Tr.ord T).length=q at *;go_enter Tryz.func116,Tryz.ntmps116
     go_wp2_with (first|(go_at_call 100;(with_reducible refine key.mono ?_);rintro e w' ⟨rfl,rfl⟩)|(go_at_call 170;(with_reducible refine nL.mono ?_);rintro e w1 ⟨rfl,hb1⟩)|(go_at_call 58;(with_reducible refine(KD.out _ hb1).mono ?_);rintro e w' ⟨rfl,rfl⟩))
     go_ret2
     exact⟨rfl,HD.out.after hb1,DG.of_below hb1⟩
set_option maxHeartbeats 8000000 in
theorem Si{w:World}{r g c m:Nat}{K:Int->Value}{T:Tr.T}(h:Doc w r g c m K T)(H:Tr.WF T)(hn:(Tr.ord T).length<4096)(hmm:m+1<=4096){u a:Int}{p:Tr.Nd}(hu:T u=some p){i:Nat}(ha:a=i)(hi:i<=p.kids.length){d:Nat}(hd:Tr.Dp T u d)(abA:d<63){k:Nat}(hk:Tr.Free T (k:Int))(hkm:k<m):Calls Tryz.prog 116 #[.pointer (some ⟨r,0,none⟩),.int .i64 u,.int .i64 a] w λe w'=>e=.returned (.tuple #[.int .i64 (k:Int),.int .i64 0])/\∃g' c' m' K',Doc w' r g' c' m' K' (Tr.nZ T (k:Int) u i)/\m'<=m+1/\DG r g K T w w' g' K' (Tr.nZ T (k:Int) u i):=by
 subst ha;have key:=jc h u;rw[kK hu]at key;obtain⟨iu,rfl,him⟩:=h.nat hu;have c0:=h.cT;have c1:=h.lF hu;obtain⟨A,cc,hv,_⟩:=(h.row _ p hu).ints;rw[hv]at c1;have hkl:=H.qE hu;have nL:=Eo h H;have KD:=Lib.hid λW (hb:Below w.heap.size w W)=>qJ (h.after hb) (λ_ q=>H.o9 q) hd ak;have hnn:¬ (4096:Int)<=((Tr.ord T).length:Int):=by omega
 have hdd:¬ (63:Int)<=(d:Int):=by omega
 have hr0:¬ (i:Int)<0:=by omega
 have hr1:¬ (p.kids.length:Int)<(i:Int):=by omega
 have hT:=Lib.hid (L6 (i:=i) hu hk.2.1);rw[hT.out];have HD:=Lib.hid h;have HV:=Lib.hid hv;have HU:=Lib.hid hu;have HK:=Lib.hid hk;have hil:=Lib.hid hi;have ads:Hid (p.kids.length<=10000):=Lib.hid ak;clear h hv hd hT hu hk hi hkl;generalize hnk:p.kids.length=nk at *;have HNK:=Lib.hid hnk;clear hnk;generalize (Tr.ord T).length=q at *;go_enter Tryz.func116,Tryz.ntmps116
 go_upto_region 9 with(first|(go_at_call 100;(with_reducible refine key.mono ?_);rintro e w' ⟨rfl,rfl⟩)|(go_at_call 170;(with_reducible refine nL.mono ?_);rintro e w1 ⟨rfl,hb1⟩)|(go_at_call 58;(with_reducible refine(KD.out _ hb1).mono ?_);rintro e w' ⟨rfl,rfl⟩))
 have HB1:=Lib.hid hb1;clear key nL KD c1;have H1:=Lib.hid (HD.out.after hb1);clear hb1 HD c0;go_wp2
 go_loopw [8] (λiv wr=>∃k':Nat,k'<=k/\iv=.int .i64 (k':Int)/\wr=w') (λiv _=>k-(intOf iv).toNat)
 case atStart=>exact⟨0,by omega,rfl,rfl⟩
 case round =>
  obtain⟨k',hk',rfl,rfl⟩:=hrel;have Bb:=jc H1.out (k':Int);by_cases hlt:k'<k
  . exact Z24
  . obtain rfl:k'=k:=by omega
    rw[kN HK.out.2.1]at Bb;have h1:=H1.out;obtain⟨gd,rfl⟩:∃x,x=g:=⟨_,rfl⟩;obtain⟨cd,rfl⟩:∃x,x=c:=⟨_,rfl⟩;obtain⟨md,rfl⟩:∃x,x=m:=⟨_,rfl⟩;have hD:=h1;have hG:=DG.refl r gd K T wr;have hkd:k'<md:=hkm;have ag':iu<md:=him;have hml:md<=md+1:=ak;have hkz:¬ (k':Int)=(md:Int):=ak;have ah8:((k':Int)==(md:Int))=false:=(by simpa using hkz);have c0:=h1.cT;have HD:=Lib.hid hD;have HG:=Lib.hid hG;clear hD hG h1 H1
    go_upto_region 14 with(first|(go_at_call 100;(with_reducible refine Bb.mono ?_);rintro e w' ⟨rfl,rfl⟩)|(refine wpList_build aU 180 _ rfl #[] eY (vQ _) ?_)|(refine wpList_buildSlice aU 181 1 _ rfl #[(0,.agg jA)] XO (AJ _) ?_)|(at_builtin;refine wpList_append_run aU _ _ 181 rfl rfl rfl afJ.out ?_))
    obtain⟨Wd,rfl⟩:∃x,x=wr:=⟨_,rfl⟩;exact Zd
set_option maxHeartbeats 8000000 in
theorem Sj{w:World}{r g c m:Nat}{K:Int->Value}{T:Tr.T}(h:Doc w r g c m K T)(H:Tr.WF T)(hn:(Tr.ord T).length<4096)(hmm:m+1<=4096){u a:Int}{p:Tr.Nd}(hu:T u=some p){i:Nat}(ha:a=i)(hi:i<=p.kids.length){d:Nat}(hd:Tr.Dp T u d)(abA:d<63){k:Nat}(hk:Tr.Free T (k:Int))(hkm:k=m):Calls Tryz.prog 116 #[.pointer (some ⟨r,0,none⟩),.int .i64 u,.int .i64 a] w λe w'=>e=.returned (.tuple #[.int .i64 (k:Int),.int .i64 0])/\∃g' c' m' K',Doc w' r g' c' m' K' (Tr.nZ T (k:Int) u i)/\m'<=m+1/\DG r g K T w w' g' K' (Tr.nZ T (k:Int) u i):=by
 subst ha;have key:=jc h u;rw[kK hu]at key;obtain⟨iu,rfl,him⟩:=h.nat hu;have c0:=h.cT;have c1:=h.lF hu;obtain⟨A,cc,hv,_⟩:=(h.row _ p hu).ints;rw[hv]at c1;have hkl:=H.qE hu;have nL:=Eo h H;have KD:=Lib.hid λW (hb:Below w.heap.size w W)=>qJ (h.after hb) (λ_ q=>H.o9 q) hd ak;have hnn:¬ (4096:Int)<=((Tr.ord T).length:Int):=by omega
 have hdd:¬ (63:Int)<=(d:Int):=by omega
 have hr0:¬ (i:Int)<0:=by omega
 have hr1:¬ (p.kids.length:Int)<(i:Int):=by omega
 have hT:=Lib.hid (L6 (i:=i) hu hk.2.1);rw[hT.out];have HD:=Lib.hid h;have HV:=Lib.hid hv;have HU:=Lib.hid hu;have HK:=Lib.hid hk;have hil:=Lib.hid hi;have ads:Hid (p.kids.length<=10000):=Lib.hid ak;clear h hv hd hT hu hk hi hkl;generalize hnk:p.kids.length=nk at *;have HNK:=Lib.hid hnk;clear hnk;generalize (Tr.ord T).length=q at *;go_enter Tryz.func116,Tryz.ntmps116
 go_upto_region 9 with(first|(go_at_call 100;(with_reducible refine key.mono ?_);rintro e w' ⟨rfl,rfl⟩)|(go_at_call 170;(with_reducible refine nL.mono ?_);rintro e w1 ⟨rfl,hb1⟩)|(go_at_call 58;(with_reducible refine(KD.out _ hb1).mono ?_);rintro e w' ⟨rfl,rfl⟩))
 have HB1:=Lib.hid hb1;clear key nL KD c1;have H1:=Lib.hid (HD.out.after hb1);clear hb1 HD c0;go_wp2
 go_loopw [8] (λiv wr=>∃k':Nat,k'<=k/\iv=.int .i64 (k':Int)/\wr=w') (λiv _=>k-(intOf iv).toNat)
 case atStart=>exact⟨0,by omega,rfl,rfl⟩
 case round =>
  obtain⟨k',hk',rfl,rfl⟩:=hrel;have Bb:=jc H1.out (k':Int);by_cases hlt:k'<k
  . exact Z24
  . obtain rfl:k'=k:=by omega
    rw[kN HK.out.2.1]at Bb;have h1:=H1.out;obtain⟨gd,cd,w2,afK,hrA,hD,hG⟩:=h1.grow hmm;have afJ:=Lib.hid afK;have c0:=h1.cT;have cB:w2.cell? ⟨r,0,none⟩=some (.slice (some ⟨g,0,none⟩) m c):=(by rw[hrA.cell];rfl);have cC:=hrA.thaw 0;have hkd:k'<m+1:=ak;have ag':iu<m+1:=ak;have hml:m+1<=m+1:=ah _;clear afK hrA;subst hkm;have HD:=Lib.hid hD;have HG:=Lib.hid hG;clear hD hG h1 H1
    go_upto_region 14 with(first|(go_at_call 100;(with_reducible refine Bb.mono ?_);rintro e w' ⟨rfl,rfl⟩)|(refine wpList_build aU 180 _ rfl #[] eY (vQ _) ?_)|(refine wpList_buildSlice aU 181 1 _ rfl #[(0,.agg jA)] XO (AJ _) ?_)|(at_builtin;refine wpList_append_run aU _ _ 181 rfl rfl rfl afJ.out ?_))
    generalize w2.setCell ⟨r,0,none⟩ (.slice (some ⟨gd,0,none⟩) (k'+1) cd)=Wd at *;generalize hmd:k'+1=md at *;replace hml:=Nat.le_of_eq hmd.symm;clear hmd;exact Zd
theorem GH{T:Tr.T}{x:Int}{nd p:Tr.Nd}(hx:T x=some nd)(hp:T nd.up=some p):Tr.leave T x=Tr.set T nd.up { p with kids:=Tr.wo p.kids x }:=by
 unfold Tr.leave;rw[hx];dsimp only;rw[hp]
theorem Sk{ops:Array Oper}{S:World->Prop}{o:Oper}{a:Act}{v:Value}(hrun:∀w,(Instr.build 180 #[]).run Tryz.prog w=.ok v w)(hw:Region.wanted o (yielded ops a.tmps)=true)(ho:o.op=.build 180 #[]):aj.Reads Tryz.prog ops S o v a :=
 .inl ⟨hw,λw _=>by unfold execOp;simp only[ho,List.map_toArray,List.map_nil,Sem.run_bind,hrun w,Result.andThen_ok,Sem.run_pure]⟩
set_option maxHeartbeats 8000000 in
theorem L8{w:World}{r g c m:Nat}{K:Int->Value}{T:Tr.T}(h:Doc w r g c m K T)(H:Tr.WF T)(x:Int):Calls Tryz.prog 112 #[.pointer (some ⟨r,0,none⟩),.int .i64 x] w λe w'=>e=.returned (.tuple #[.int .i64 (Tr.wE T x),.int .i64 (Tr.qN T x)])/\∃K',Doc w' r g c m K' (Tr.nK T x)/\DG r g K T w w' g K' (Tr.nK T x):=by
 have HD:=Lib.hid h;have key:=jc h x;cases hT:T x with
 | none =>
   have hE:Tr.qN T x=2:=by unfold Tr.qN;rw[hT]
   have hI:Tr.wE T x=0:=by unfold Tr.wE;rw[hE];rfl
   have hR:Tr.nK T x=T:=by unfold Tr.nK;rw[hE];rfl
   rw[hE,hI,hR];rw[kN hT]at key;clear h hE hI hR;exact Z3k
 | some nd =>
   rw[kK hT]at key;by_cases h0:x=0
   . have hE:Tr.qN T x=1:=by unfold Tr.qN;rw[hT];exact if_pos h0
     have hI:Tr.wE T x=0:=by unfold Tr.wE;rw[hE];rfl
     have hR:Tr.nK T x=T:=by unfold Tr.nK;rw[hE];rfl
     rw[hE,hI,hR];clear h hE hI hR;subst h0;exact Z3k
   . have hE:Tr.qN T x=0:=by unfold Tr.qN;rw[hT];exact if_neg h0
     have hI:Tr.wE T x=((Tr.sub T 64 x).length:Int):=by unfold Tr.wE;rw[hE];rfl
     obtain⟨p,hp,hxp⟩:=H.up x nd hT h0;have hR:Tr.nK T x=Tr.del (Tr.set T nd.up { p with kids:=Tr.wo p.kids x }) (Tr.sub T 64 x):=by unfold Tr.nK;rw[hE,if_pos rfl,<-GH hT hp];rfl
     rw[hE,hI,hR];have hsl:(Tr.sub T 64 x).length<=4096:=by
      have:=H.BN hT h0;have:=H.jo;omega
     have qY:=qK 64 x h (H.iU hT) ak
     have hin:∀y∈Tr.sub T 64 x,0<=y/\y<m:=λy hy=>by
      obtain⟨yd,Pp⟩:=((H.gP (H.iU hT)).1 hy).live;exact h.range _ _ Pp
     have hpk:p.kids.length<=10000:=by have:=H.qE hp;have:=H.jo;omega
     obtain⟨nu,nk,ns⟩:=nd;dsimp only at hp hR;obtain⟨iu,rfl,him⟩:=h.nat hp;obtain⟨ix,rfl,hix⟩:=h.nat hT;have h0b:((ix:Int)==0)=false:=by simpa using h0
     have HT:=Lib.hid hT;have HP:=Lib.hid hp;have wu:=Lib.hid hin;have HPK:=Lib.hid hpk;clear hE hI hR hxp hT hp hin hpk;generalize hl:Tr.sub T 64 (ix:Int)=l at *;clear hl;generalize hn:l.length=n at *;have HN:=Lib.hid hn;clear hn;go_enter Tryz.func112,Tryz.ntmps112
     go_upto_region 6 with(first|(go_at_call 100;(with_reducible refine key.mono ?_);rintro e w' ⟨rfl,rfl⟩)|(go_at_call 57;(with_reducible refine qY.mono ?_);rintro e w1 ⟨⟨v1,rfl,ho1⟩,hb1⟩;obtain⟨A1,c1,rfl⟩:=fH ho1))
     have D1:=HD.out.after hb1;have c4:=D1.cT;have c5:=D1.cUp HT.out;have c6:=D1.lF HP.out;have jJ:=D1.row _ _ HP.out;obtain⟨A,cc,hv,_⟩:=jJ.ints;rw[hv]at c6 jJ;have Ba:=Lib.hid jJ;have HV:=Lib.hid hv;have HD1:=Lib.hid D1;have HO1:=Lib.hid ho1;have HB1:=Lib.hid hb1;clear h key qY jJ hv D1 ho1 hb1;generalize hnk:p.kids.length=nk at *;have HNK:=Lib.hid hnk;clear hnk
     go_upto_region 7 with(fail)
     clear c5;refine kQ (S:=(λW'=>W'.cell? ⟨r,0,none⟩=some (.slice (some ⟨g,0,none⟩) m c)/\W'.cell? ⟨g,iu*58+2,none⟩=some (.slice A nk cc)/\Below w1.heap.size w1 W')) 15 ?_ ?_
     . exact⟨c4,c6,Below.drew (Below.refl _ _)⟩
     intro hS0;clear c4 c6;refine aT 0 ?_;refine aT 1 ?_;refine aT 2 ?_;refine aT 3 ?_;refine aT 4 ?_;refine aT 5 ?_;refine aT 6 ?_;refine aT 7 ?_;refine aT 8 ?_;refine aT 9 ?_;refine aT 10 ?_;refine aT 11 ?_;refine aT 12 ?_;refine aT 13 ?_;refine tk1 14 ?_;refine aj.Step.call dQ (tT (Ba.out.after hS0.2.2) (by rw[HNK.out];exact HPK.out) (ix:Int)) ?_;rintro e w6 ⟨⟨v6,rfl,yU⟩,hb6⟩;have hS1:=hS0.2.2.trans (hb6.mono hS0.2.2.size);have Jq:=fE yU (bJ _);have hown6:=λb hb=>aC hS0.2.2.size (World.ownsRow.lt yU b hb).1;obtain⟨A6,c6,rfl⟩:=fH yU;have hD6:=HD1.out.after hS1;have c7:=hD6.cT;have c8:=hD6.lF HP.out;rw[HV.out]at c8;obtain⟨cur,hcur,_⟩:=hD6.cur;have hth:=hcur.thaw (iu*58+2);have hD7:=Lib.hid (hD6.sN HP.out Jq)
     have MB:DG r g K T w1 (w6.setCell ⟨g,iu*58+2,none⟩ (.slice A6 (Tr.wo p.kids ix).length c6)) g (λz=>if z=(iu:Int)then .slice A6 (Tr.wo p.kids ix).length c6 else K z) (Tr.set T iu { p with kids:=Tr.wo p.kids ix }) :=
      ⟨(Out.of_below hS1).trans ((Out.refl _ _).set (M:=jq r g K T) (.inr (.inl rfl)) _ _),λb hb=>(qC HP.out hb).elim .inl λq => .inr (hown6 b q)⟩
     have HG7:=Lib.hid ((DG.of_below HB1.out).trans MB);have Ez:=bD HO1.out (λb hb (q:jq r g K T b)=>absurd (HD.out.lt q) (by have:=(World.ownsRow.lt HO1.out b hb).1;omega)) MB.1;have HO7:=Lib.hid Ez;refine⟨_,rfl,λ_=>⟨c7,c8,hS1⟩,?_⟩;clear MB hS0 hS1 Jq hown6 yU hb6 hcur hD6 Ba HB1 HO1 Ez HV HD1;generalize hnl:(Tr.wo p.kids (ix:Int)).length=nl at *
     (try simp only[bF,bG,bH,tks])
     refine tk1 15 ?_;refine uF ?_ (hS:=by first|(intro hlt;exact absurd hlt aG)|(intro _;exact hlt));refine tk1 16 ?_;refine uF ?_ (hS:=by first|(intro hlt;exact absurd hlt aG)|(intro _;exact hlt));refine tk1 17 ?_;refine aj.Step.skip Z4o ?_;refine⟨by first|(intro hlt;exact absurd hlt aG)|(intro _;exact hlt),?_⟩;(try simp only[Act.put]);refine jY ?_;clear hnl c7 c8 hth;generalize hT7:Tr.set T (iu:Int) { p with kids:=Tr.wo p.kids ix }=T7 at *;generalize hK7:(λz:Int=>if z=(iu:Int)then Value.slice A6 nl c6 else K z)=K7 at *;generalize w6.setCell ⟨g,iu*58+2,none⟩ (.slice A6 nl c6)=w7 at *;have HT7:=Lib.hid hT7;clear hT7 hK7
     have hOG:Hid (∀b,(Value.slice A1 n c1).ownBlock=some b->b≠g):=Lib.hid λb hb e=>by
      have:=(World.ownsRow.lt HO7.out b hb).1;have:=HD.out.lt (b:=g) (.inr (.inl rfl));omega
     go_wp2
     go_loopw [8] (λiv wr=>∃k:Nat,k<=n/\iv=.int .i64 (k:Int)/\Doc wr r g c m K7 (Tr.del T7 (l.take k))/\DG r g K T w wr g K7 (Tr.del T7 (l.take k))/\wr.ownsRow w.heap.size 3 1 (.slice A1 n c1) n (l.map (Value.int .i64))) (λiv _=>n-(intOf iv).toNat)
     case atStart=>exact⟨0,by omega,rfl,by rw[List.take_zero,BS];exact hD7.out,by rw[List.take_zero,BS];exact HG7.out,HO7.out⟩
     case round =>
      obtain⟨k,hk,rfl,hd,hg,ho⟩:=hrel;by_cases hlt:k<n
      . have hltz:(k:Int)<(n:Int):=by omega
        obtain⟨hI,_⟩:=KS.vX (l:=l) (by have:=fE (base':=0) ho (bJ _);unfold KS;rw[HN.out];exact this);obtain⟨b6,o6,rfl,lb6,En⟩:=hI.at_ (k:=k) SC;have hat:l[k]? = some (l.getD k 0):=by rw[List.getD,List.getElem?_eq_getElem SC];rfl
        have hmem:=List.mem_of_getElem? hat;obtain⟨y0,y1⟩:=wu.out _ hmem;have hstep:=Lib.hid (Px T7 l hat);generalize l.getD k 0=y at *;obtain⟨iy,rfl⟩:∃i:Nat,y=i:=⟨y.toNat,by omega⟩;have hiy:iy<m:=by omega
        obtain⟨w8,hst,hO8,hD8,hG8⟩:=hd.after (Below.refl _ wr).drew |>.WT hiy
        have c7:=hd.cT;have HST:=Lib.hid hst;have VE:=Lib.hid vQ;generalize jA=dz at *;have HD8:=Lib.hid hD8;have HG8:=Lib.hid ((hg.trans (DG.of_below (Below.refl _ wr).drew)).trans hG8);have HO8:=Lib.hid (bD (bD (M:=λ_=>False) ho (λ_ _ q=>q) (Out.of_below (Below.refl _ wr).drew)) (λb hb (q:b=g)=>hOG.out b hb q) hO8);clear hst hO8 hD8 hG8 hd hg ho hI hmem hat
        go_upto_region 11 with(fail)
        refine kQ (S:=(λW'=>W'.cell? ⟨r,0,none⟩=some (.slice (some ⟨g,0,none⟩) m c)/\W'.cell? ⟨b6,o6+k,none⟩=some (.int .i64 (iy:Int)))) 9 ?_ ?_
        . exact⟨c7,En⟩
        intro hS0;clear c7 En;refine aT 0 ?_;refine aT 1 ?_;refine aT 2 ?_;refine aT 3 ?_;refine aT 4 ?_;refine aT 5 ?_;refine aT 6 ?_;refine aT 7 ?_;refine rD 8 rfl (Sk VE.out aU rfl) ?_;refine tk1 9 ?_;refine uF ?_ (hS:=by first|(intro hlt;exact absurd hlt aG)|(intro _;exact hlt));refine tk1 10 ?_;refine aj.Step.skip (sM (.tmp 58) (.tmp 57) rfl rfl rfl HST.out) ?_;refine⟨λhlt=>absurd hlt aG,?_⟩
        (try simp only[bF,bG,bH,tks])
        refine jY ?_;go_wp2
        go_roundw
        case rel=>exact⟨k+1,by omega,by go_num,by rw[<-hstep.out];exact HD8.out,by rw[<-hstep.out];exact HG8.out,HO8.out⟩
        case measure=>simp[intOf];omega
      . obtain rfl:k=n:=by omega
        rw[List.take_of_length_le (by rw[HN.out];exact ah _)]at hd hg;have HD8:=Lib.hid hd;have HG8:=Lib.hid hg;clear hd hg ho;go_wp2
        go_ret2
        rw[HT7.out];exact⟨rfl,_,HD8.out,HG8.out⟩
end Go.Proofs.YtcbcfdihofclkaaGreat.Fix
