/- Steps of the program (17); no conditions. -/
import Derived.Test.YtfohooineeijkaaGreatM16
set_option linter.all false
set_option maxRecDepth 100000
set_option maxHeartbeats 16000000
namespace Go.Proofs.YtfohooineeijkaaGreat.Fix
open Go.ChangeShapes Go.WideShapes Go.ChangeAt Go.RowKit
open Go.Proofs.Tryz renaming prog → ja0
section
open Go.Deep Go.Joins Go.Shelf
open List renaming getElem?_eq_getElem → ja6,mem_cons_self → jb0,take_of_length_le → jb6,length_take → jc9
variable {K:Int->Value}{r g c m i:Nat}{w:World}
theorem ZL:(Tryz.prog.info? 126).map (λi=>(i.zero,i.size,i.bytes))=some (some (.agg iX),58,472):=by kernel_rfl
section
variable {W W':World} {r g c m:Nat} {K K':Int->Value} {T T':Tr.T}
theorem Doc.grow(h:Doc W r g c m K T)(hm:m+1<=4096):∃g' c' w1,(Builtin.append_ #[127,127] 127 #[.slice g m c,.slice W 1 1]).run ja0 (W.alloc (.cells iX 126))=.ok (.slice (some ⟨g',0,none⟩) (m+1) c') w1 /\
  At w1 r (.cells #[.slice g m c] 129)/\Doc (w1.setCell ⟨r,0,none⟩ (.slice g' (m+1) c')) r g' c' (m+1) K T/\DG r g K T W (w1.setCell ⟨r,0,none⟩ (.slice g' (m+1) c')) g' K T:=by
 obtain⟨i0,hi0,hz0,hz1,hz2⟩:=info_parts ZL;obtain⟨cur,h1,h2,h3⟩:=h.cur;have hcap:=h.cap;have hlim:=h.lim;have hown:W.ownsRow 0 126 58 (.slice g m c) m (cur.toList.take (m*58)):=by
  refine⟨by rw[jc9,Array.length_toList];omega,.inr ⟨g,c,cur,rfl,eP _,h1,hcap,hlim,h2,rfl⟩⟩
 have hA:=At.new W (.cells iX 126)
 obtain⟨v',w1,hr,ho,hg,_,hblk⟩:=run_append_own_at (P:=ja0) (w:=W.alloc (.cells iX 126)) 0 127 127 126 i0 _ 58 472 Tryz.underlying127 hi0 hz0 hz1 hz2 mU aF _ m _ (hown.alloc _) ⟨W,0,none⟩ 1 1 iX.toList (by rw[Array.length_toList,mU])
  (by intro j u hj
      rw[addr_add,Nat.zero_add,hA.cell,<-hj,Array.getElem?_toList])
  (λx hx=>Array.all_eq_true_iff_forall_mem.1 Ik x (by simpa using hx)) QG ak aV
 rcases ho.2 with⟨_,h0⟩|⟨g',c',cur',rfl,_,hg',hc1,hc2,hc3,hc4⟩
 . omega
 have hs1:(W.alloc (.cells iX 126)).heap.size=W.heap.size+1:=by simp
 have gF:Out (λb=>b=g) (W.alloc (.cells iX 126)) w1:=Out.grown hg (λb e=>by injection e with e;exact e.symm);have hO0:Out (λb=>b=g) W (W.alloc (.cells iX 126)):=Out.of_below (aB aD _);have hO:Out (λb=>b=g) W w1:=hO0.trans gF;have hrA:=h.at_.out (λe=>h.rg e) hO;have hgn:g'=g\/W.heap.size<=g':=by
  rcases hblk with e|e
  . injection e with e;exact .inl e
  . injection e with e;have e':g'=(W.alloc (.cells iX 126)).heap.size:=e;exact .inr ak
 have hgr:g'≠r:=by
  rcases hgn with e|e
  . rw[e];exact λq=>h.rg q.symm
  . have:=h.lt (.inl rfl);omega
 have hget:∀k,k<(m+1)*58->cur'[k]? = (cur.toList.take (m*58)++iX.toList)[k]? := λk hk=>by
  rw[<-hc4,List.getElem?_take,if_pos hk,Array.getElem?_toList]
 have htl:(cur.toList.take (m*58)).length=m*58:=by rw[jc9,Array.length_toList];omega
 have hold:∀k,k<m*58->cur'[k]? = cur[k]? := λk hk=>by
  rw[hget k ak,List.getElem?_append_left ak,List.getElem?_take,if_pos hk,Array.getElem?_toList]
 have hO2:Out (λb=>b=r) w1 (w1.setCell ⟨r,0,none⟩ (.slice g' (m+1) c')):=(Out.refl _ _).set (M:=λb=>b=r) rfl _ _;have hO3:Out (iT r g K T) W (w1.setCell ⟨r,0,none⟩ (.slice g' (m+1) c')):=(hO.mono λb _ q => .inr (.inl q)).trans (hO2.mono λb _ q => .inl q);refine⟨g',c',w1,hr,hrA,⟨hrA.set 0 _,⟨cur',(show At w1 g' _ from hg').off hgr 0 _,hc3,λi hi => ?_⟩,hc1,hc2,λz nd hz => ?_,λz nd hz => ?_,hm⟩,hO3,λb hb => ?_⟩
 . by_cases e:i=m
   . subst e
     have hn:T (i:Int)=none:=by
      cases e:T (i:Int)with
      | none=>rfl
      | some nd=>have:=h.range _ _ e;omega
     rw[hn];refine⟨?_,λnd' e=>(by cases e),λnd' e=>(by cases e),λnd' e=>(by cases e)⟩;rw[hget _ ak,List.getElem?_append_right ak,htl,Nat.sub_self];rfl
   . have P:=h3 i ak
     exact⟨by rw[hold _ ak];exact P.live,λnd hn=>by rw[hold _ ak];exact P.up nd hn,λnd hn=>by rw[hold _ ak];exact P.kids nd hn,λnd hn q hq=>by rw[hold _ ak];exact P.sty nd hn q hq⟩
 . have hk:=(h.row z nd hz).out (λb hb (q:b=g)=>h.gb (h.row z nd hz) (by rw[hb,q])) hO
   refine hk.out (λb hb (q:b=r) => ?_) hO2;obtain⟨ajo,hc⟩:=hk.rowAt (hb.trans (congrArg some q));have:=hrA.uniq hc;injection this with _ e2;exact absurd e2 aF
 . have:=h.range z nd hz;omega
 . rcases hb with e|e|hb
   . exact .inl (.inl e)
   . rcases hgn with q|q
     . exact .inl (.inr (.inl (e.trans q)))
     . exact .inr ak
   . exact .inl (.inr (.inr hb))
end
theorem ZM(w:World):Calls ja0 23 #[] w λe w'=>(∃r,e=.returned (.pointer (some ⟨r,0,none⟩))/\∃g c K,Doc w' r g c 1 K T0/\∀b,iT r g K T0 b->w.heap.size<=b)/\Below w w w':=by
 have hA1:At (w.alloc (.cells (fH (-1) (.slice none 0 0) Re.zero) 126)) w.heap.size (.cells (fH (-1) (.slice none 0 0) Re.zero) 126):=At.new _ _;have hB1:Below w w (w.alloc (.cells (fH (-1) (.slice none 0 0) Re.zero) 126)):=aB aD _;have hs1:(w.alloc (.cells (fH (-1) (.slice none 0 0) Re.zero) 126)).heap.size=w.heap.size+1:=by simp
 have hB2:=aB hB1 (.cells #[.slice w 1 1] 129)
 have some_:∀z nd,T0 z=some nd->z=0/\nd=⟨-1,[],Re.zero⟩:=λz nd hz=>by
  unfold T0 at hz;split at hz
  . injection hz with hz;exact⟨by assumption,hz.symm⟩
  . cases hz
 have hsz:=Bv (-1) (.slice none 0 0) Re.zero
 have hD:Hid (Doc ((w.alloc (.cells (fH (-1) (.slice none 0 0) Re.zero) 126)).alloc (.cells #[.slice w 1 1] 129)) (w.heap.size+1) w.heap.size 1 1 (λ_ => .slice none 0 0) T0):=ah (by
  refine⟨At.new' _ aV,⟨_,hA1.alloc _,by rw[hsz],λi hi => ?_⟩,aJ _,by simp[maxLen],λz nd hz => ?_,λz nd hz => ?_,by omega⟩
  . obtain rfl:i=0:=by omega
    have e0:T0 ((0:Nat):Int)=some ⟨-1,[],Re.zero⟩:=rfl;rw[e0];refine⟨?_,λnd e => ?_,λnd e => ?_,λnd e j hj => ?_⟩
    . rw[mV _ _ _ ak];rfl
    . cases e;rw[mV _ _ _ ak];rfl
    . cases e;rw[mV _ _ _ ak];rfl
    . cases e;rw[show 0*58+3+j=3+j by omega,Fh _ _ _ hj]
  . rw[(some_ z nd hz).2];exact KS.nil _
  . rw[(some_ z nd hz).1];omega)
 have hBB:=ah hB2;clear hA1 hB1 hB2;go_enter Tryz.func23,Tryz.ntmps23
 go_wp2_with (first|(refine wpList_build aQ 126 _ rfl #[(0,.bool true),(1,.int .i64 (-1))] ZV (CU _ _) ?_)|(refine wpList_buildSlice aQ 127 1 _ rfl #[(0,.agg (fH (-1) (.slice none 0 0) Re.zero))] ZV (Nu _) ?_)|(refine wpList_build aQ 129 _ rfl #[(0,.slice w 1 1)] ZV (Nt _ _ _ _) ?_))
 go_ret
 refine⟨⟨w.heap.size+1,rfl,_,_,_,hD.out,λb hb => ?_⟩,hBB.out⟩;rcases hb with rfl|rfl|⟨z,nd,hz,e⟩
 . omega
 . exact aJ _
 . cases e
theorem ZN{T:Tr.T}(h:Doc w r g c m K T)(z:Int)(s:Re.St):Calls ja0 61 #[r,z,.agg (cells s)] w λe w'=>e=.returned (.int .i64 (qX T z s))/\Doc w' r g c m K (jH T z s)/\DG r g K T w w' g K (jH T z s):=by
 have hB:Below w w (w.alloc (.cells (cells s) 59)):=aB aD _;have h1:=h.after hB;have hA:At (w.alloc (.cells (cells s) 59)) w.heap.size (.cells (cells s) 59):=At.new _ _;have hnb:¬ iT r g K T w.heap.size:=λq=>absurd (h.lt q) ak;generalize hW:w.alloc (.cells (cells s) 59)=w1 at *;have key:=iE h1 z;cases hT:T z with
 | none =>
   have hE:qX T z s=2:=by unfold qX;rw[hT];rfl
   have hS:jH T z s=T:=by unfold jH;rw[hE];rfl
   rw[jR hT]at key;rw[hE,hS];have HR:=ah h1;have HB:=ah hB;clear h h1 hB hE hS;go_enter Tryz.func61,Tryz.ntmps61
   go_wp2_with (go_at_call 63;(with_reducible refine key.mono ?_);rintro e w' ⟨rfl,rfl⟩)
   go_ret
   exact⟨rfl,HR.out,DG.of_below HB.out⟩
 | some nd =>
   rw[jQ hT]at key;have key2:=FV s w1;cases hv:Re.valid s with
   | false =>
     have hE:qX T z s=1:=by unfold qX;rw[hT,hv];rfl
     have hS:jH T z s=T:=by unfold jH;rw[hE];rfl
     rw[hv]at key2;rw[hE,hS];have HR:=ah h1;have HB:=ah hB;clear h h1 hB hE hS;go_enter Tryz.func61,Tryz.ntmps61
     go_wp2_with (first|(refine aR aQ _ rfl rfl hA ?_)|(go_at_call 63;(with_reducible refine key.mono ?_);rintro e w' ⟨rfl,rfl⟩)|(go_at_call 93;(with_reducible refine key2.mono ?_);rintro e w2 ⟨rfl,hb2⟩))
     go_ret
     exact⟨rfl,HR.out.after hb2,DG.of_below (HB.out.trans (hb2.mono HB.out.size))⟩
   | true =>
     have hE:qX T z s=0:=by unfold qX;rw[hT,hv];rfl
     have hS:jH T z s=Tr.set T z { nd with sty:=s }:=by unfold jH Tr.FJ;rw[hE,hT];rfl
     rw[hv]at key2;rw[hE,hS];obtain⟨i,rfl,him⟩:=h.nat hT;have HR:=ah h1;have HB:=ah hB;clear h h1 hB hE hS;go_enter Tryz.func61,Tryz.ntmps61
     go_upto_region 6 with(first|(refine aR aQ _ rfl rfl hA ?_)|(go_at_call 63;(with_reducible refine key.mono ?_);rintro e w' ⟨rfl,rfl⟩)|(go_at_call 93;(with_reducible refine key2.mono ?_);rintro e w2 ⟨rfl,hb2⟩))
     have hR2:=(HR.out.after hb2).after (Below.refl _ w2).drew;have hA2:At w2.drew w (.cells (cells s) 59):=(hA.keep hb2).drew;have hO2:Below w w w2.drew:=(HB.out.trans (hb2.mono HB.out.size)).drew;obtain⟨W3,hst,hOO,hD3,hG3⟩:=hR2.Oz hT s;have hA3:=hA2.out (λ(q:w.heap.size=g)=>hnb (.inr (.inl q))) hOO;generalize hW2:w2.drew=W2 at *;have hS0:W2.cell? ⟨r,0,none⟩=some (.slice g m c)/\At W2 w (.cells (cells s) 59):=⟨hR2.cT,hA2⟩;have qp:=ah (show _/\At W3 w (.cells (cells s) 59)from⟨hD3.cT,hA3⟩);have HST:=ah hst;have HD3:=ah hD3;have HG3:=ah ((DG.of_below hO2).trans hG3);clear hR2 hA2 hO2 hD3 hG3 hst hA3 HR HB hA hb2 hOO;refine aj.qm (S:=(λW'=>W'.cell? ⟨r,0,none⟩=some (.slice g m c)/\At W' w (.cells (cells s) 59))) 9 aX ?_ ?_
     . rw[hW2];exact hS0
     intro hS1;rw[hW2];clear hS1 hW2;refine aO 0 ?_;refine aO 1 ?_;refine aO 2 ?_;refine aO 3 ?_;refine aO 4 ?_;refine jc 5 rfl (eO aQ (.tmp 5) rfl rfl (λW h=>h.2)) ?_;refine aO 6 ?_;refine aO 7 ?_;refine tk1 8 ?_;refine aj.Step.skip (rU (.tmp 23) (.tmp 21) rfl rfl rfl HST.out) ?_;refine⟨λ_=>qp.out,?_⟩
     (try simp only[bN,bO,bP,tks])
     refine gX ?_;go_wp2
     go_ret
     exact⟨rfl,HD3.out,HG3.out⟩
theorem Nv{T:Tr.T}{z u:Int}{p:Tr.Nd}(hu:T u=some p)(hz:T z=none):Tr.nR T z u i=Tr.set (Tr.set T z ⟨u,[],Re.zero⟩) u { p with kids:=Tr.wi p.kids i z }:=by
 have hne:u≠z:=λe=>by rw[e,hz]at hu;cases hu
 funext y;rw[Tr.IE hu hz];by_cases e:y=z
 . rw[if_pos e,e,Tr.aK _ _ (Ne.symm hne),Tr.aP]
 . rw[if_neg e]
   by_cases e2:y=u
   . rw[if_pos e2,e2,Tr.aP]
   . rw[if_neg e2,Tr.aK _ _ e2,Tr.aK _ _ e]
theorem ab9{T:Tr.T}(h:Doc w r g c m K T)(H:Tr.WF T)(hn:(Tr.ord T).length<4096){u a:Int}(hE0:Tr.lH T u a≠0):Calls ja0 62 #[r,u,a] w λe w'=>e=.returned (.tuple #[Tr.su T u a,Tr.lH T u a])/\Doc w' r g c m K (Tr.jF T u a)/\DG r g K T w w' g K (Tr.jF T u a):=by
 have hI:Tr.su T u a = -1:=by unfold Tr.su;rw[if_neg hE0]
 have hR:Tr.jF T u a=T:=by unfold Tr.jF;rw[if_neg hE0]
 rw[hI,hR];have HD:=ah h;have key:=iE h u;cases hT:T u with
 | none =>
   have hE:Tr.lH T u a=2:=by unfold Tr.lH;rw[hT]
   rw[hE];rw[jR hT]at key;clear h hI hR hE hE0;exact Z1k
 | some p =>
   rw[jQ hT]at key;obtain⟨iu,rfl,him⟩:=h.nat hT;have c0:=h.cT;have c1:=h.jW hT;obtain⟨A,cc,hv,_⟩:=(h.row _ p hT).ints;rw[hv]at c1;have hkl:=H.pG hT;by_cases hr:a<0\/(p.kids.length:Int)<a
   . have hE:Tr.lH T iu a=1:=by unfold Tr.lH;rw[hT];dsimp only;rw[if_pos hr]
     rw[hE];clear h hI hR hE hE0 hv;generalize p.kids.length=n at *;rcases hr with hr|hr
     . exact Z1k
     . have hr0:¬ a<0:=by omega
       exact Z1k
   . have hr0:¬ a<0:=λe=>hr (.inl e)
     have hr1:¬ (p.kids.length:Int)<a:=λe=>hr (.inr e);have mD:=Fp h H;obtain⟨d,hd1,hd2,hd3⟩:=H.iB hT;have KD:=ah λW (hb:Below w w W)=>pY (h.after hb) (λ_ q=>H.fu q) hd2 ak;have WU:(63:Int)<=(d:Int):=by
      unfold Tr.lH at hE0;rw[hT]at hE0;dsimp only at hE0;rw[if_neg hr,hd3]at hE0;by_cases e:(63:Int)<=(d:Int)
      . exact e
      . rw[if_neg e]at hE0;exact absurd rfl hE0
     have hE:Tr.lH T iu a=5:=by unfold Tr.lH;rw[hT];dsimp only;rw[if_neg hr,hd3,if_pos WU]
     rw[hE];have hnn:¬ (4096:Int)<=((Tr.ord T).length:Int):=by omega
     clear h hI hR hE hE0 hv hd2 hd3 hr;generalize p.kids.length=n at *;generalize (Tr.ord T).length=q at *;go_enter Tryz.func62,Tryz.ntmps62
     go_wp2_with (first|(go_at_call 63;(with_reducible refine key.mono ?_);rintro e w' ⟨rfl,rfl⟩)|(go_at_call 94;(with_reducible refine mD.mono ?_);rintro e w1 ⟨rfl,hb1⟩)|(go_at_call 27;(with_reducible refine(KD.out _ hb1).mono ?_);rintro e w' ⟨rfl,rfl⟩))
     go_ret2
     exact⟨rfl,HD.out.after hb1,DG.of_below hb1⟩
theorem Vh{T:Tr.T}(h:Doc w r g c m K T)(H:Tr.WF T)(hn:(Tr.ord T).length<4096)(hmm:m+1<=4096){u a:Int}{p:Tr.Nd}(hu:T u=some p)(ha:a=i)(hi:i<=p.kids.length){d:Nat}(hd:Tr.Dp T u d)(OA:d<63){k:Nat}(hk:Tr.Free T (k:Int))(hkm:k<m):Calls ja0 62 #[r,u,a] w λe w'=>e=.returned (.tuple #[.int .i64 (k:Int),()])/\∃g' c' m' K',Doc w' r g' c' m' K' (Tr.nR T (k:Int) u i)/\m'<=m+1/\DG r g K T w w' g' K' (Tr.nR T (k:Int) u i):=by
 subst ha;have key:=iE h u;rw[jQ hu]at key;obtain⟨iu,rfl,him⟩:=h.nat hu;have c0:=h.cT;have c1:=h.jW hu;obtain⟨A,cc,hv,_⟩:=(h.row _ p hu).ints;rw[hv]at c1;have hkl:=H.pG hu;have mD:=Fp h H;have KD:=ah λW (hb:Below w w W)=>pY (h.after hb) (λ_ q=>H.fu q) hd ak;have hnn:¬ (4096:Int)<=((Tr.ord T).length:Int):=by omega
 have hdd:¬ (63:Int)<=(d:Int):=by omega
 have hr0:¬ (i:Int)<0:=by omega
 have hr1:¬ (p.kids.length:Int)<(i:Int):=by omega
 have hT:=ah (Nv (i:=i) hu hk.2.1);rw[hT.out];have HD:=ah h;have HV:=ah hv;have HU:=ah hu;have HK:=ah hk;have hil:=ah hi;have afd:Hid (p.kids.length<=10000):=ah ak;clear h hv hd hT hu hk hi hkl;generalize hnk:p.kids.length=nk at *;have HNK:=ah hnk;clear hnk;generalize (Tr.ord T).length=q at *;go_enter Tryz.func62,Tryz.ntmps62
 go_upto_region 9 with(first|(go_at_call 63;(with_reducible refine key.mono ?_);rintro e w' ⟨rfl,rfl⟩)|(go_at_call 94;(with_reducible refine mD.mono ?_);rintro e w1 ⟨rfl,hb1⟩)|(go_at_call 27;(with_reducible refine(KD.out _ hb1).mono ?_);rintro e w' ⟨rfl,rfl⟩))
 have HB1:=ah hb1;clear key mD KD c1;have H1:=ah (HD.out.after hb1);clear hb1 HD c0;go_wp2
 go_loopw [8] (λiv wr=>∃k':Nat,k'<=k/\iv=.int .i64 (k':Int)/\wr=w') (λiv _=>k-(intOf iv).toNat)
 case atStart=>exact⟨0,by omega,rfl,rfl⟩
 case round =>
  obtain⟨k',hk',rfl,rfl⟩:=hrel;have BF:=iE H1.out (k':Int);by_cases hlt:k'<k
  . exact Z1h
  . obtain rfl:k'=k:=by omega
    rw[jR HK.out.2.1]at BF;have h1:=H1.out;obtain⟨gd,rfl⟩:∃x,x=g:=⟨_,rfl⟩;obtain⟨cd,rfl⟩:∃x,x=c:=⟨_,rfl⟩;obtain⟨md,rfl⟩:∃x,x=m:=⟨_,rfl⟩;have hD:=h1;have hG:=DG.refl r gd K T wr;have hkd:k'<md:=hkm;have ajp:iu<md:=him;have hml:md<=md+1:=ak;have hkz:¬ (k':Int)=(md:Int):=ak;have akN:((k':Int)==(md:Int))=false:=(by simpa using hkz);have c0:=h1.cT;have HD:=ah hD;have HG:=ah hG;clear hD hG h1 H1
    go_upto_region 14 with(first|(go_at_call 63;(with_reducible refine BF.mono ?_);rintro e w' ⟨rfl,rfl⟩)|(refine wpList_build aQ 126 _ rfl #[] aV (vR _) ?_)|(refine wpList_buildSlice aQ 127 1 _ rfl #[(0,.agg iX)] ZV (Bw _) ?_)|(at_builtin;refine wpList_append_run aQ _ _ 127 rfl rfl rfl ahK.out ?_))
    obtain⟨Wd,rfl⟩:∃x,x=wr:=⟨_,rfl⟩;exact Z5
theorem Vi{T:Tr.T}(h:Doc w r g c m K T)(H:Tr.WF T)(hn:(Tr.ord T).length<4096)(hmm:m+1<=4096){u a:Int}{p:Tr.Nd}(hu:T u=some p)(ha:a=i)(hi:i<=p.kids.length){d:Nat}(hd:Tr.Dp T u d)(OA:d<63){k:Nat}(hk:Tr.Free T (k:Int))(hkm:k=m):Calls ja0 62 #[r,u,a] w λe w'=>e=.returned (.tuple #[.int .i64 (k:Int),()])/\∃g' c' m' K',Doc w' r g' c' m' K' (Tr.nR T (k:Int) u i)/\m'<=m+1/\DG r g K T w w' g' K' (Tr.nR T (k:Int) u i):=by
 subst ha;have key:=iE h u;rw[jQ hu]at key;obtain⟨iu,rfl,him⟩:=h.nat hu;have c0:=h.cT;have c1:=h.jW hu;obtain⟨A,cc,hv,_⟩:=(h.row _ p hu).ints;rw[hv]at c1;have hkl:=H.pG hu;have mD:=Fp h H;have KD:=ah λW (hb:Below w w W)=>pY (h.after hb) (λ_ q=>H.fu q) hd ak;have hnn:¬ (4096:Int)<=((Tr.ord T).length:Int):=by omega
 have hdd:¬ (63:Int)<=(d:Int):=by omega
 have hr0:¬ (i:Int)<0:=by omega
 have hr1:¬ (p.kids.length:Int)<(i:Int):=by omega
 have hT:=ah (Nv (i:=i) hu hk.2.1);rw[hT.out];have HD:=ah h;have HV:=ah hv;have HU:=ah hu;have HK:=ah hk;have hil:=ah hi;have afd:Hid (p.kids.length<=10000):=ah ak;clear h hv hd hT hu hk hi hkl;generalize hnk:p.kids.length=nk at *;have HNK:=ah hnk;clear hnk;generalize (Tr.ord T).length=q at *;go_enter Tryz.func62,Tryz.ntmps62
 go_upto_region 9 with(first|(go_at_call 63;(with_reducible refine key.mono ?_);rintro e w' ⟨rfl,rfl⟩)|(go_at_call 94;(with_reducible refine mD.mono ?_);rintro e w1 ⟨rfl,hb1⟩)|(go_at_call 27;(with_reducible refine(KD.out _ hb1).mono ?_);rintro e w' ⟨rfl,rfl⟩))
 have HB1:=ah hb1;clear key mD KD c1;have H1:=ah (HD.out.after hb1);clear hb1 HD c0;go_wp2
 go_loopw [8] (λiv wr=>∃k':Nat,k'<=k/\iv=.int .i64 (k':Int)/\wr=w') (λiv _=>k-(intOf iv).toNat)
 case atStart=>exact⟨0,by omega,rfl,rfl⟩
 case round =>
  obtain⟨k',hk',rfl,rfl⟩:=hrel;have BF:=iE H1.out (k':Int);by_cases hlt:k'<k
  . exact Z1h
  . obtain rfl:k'=k:=by omega
    rw[jR HK.out.2.1]at BF;have h1:=H1.out;obtain⟨gd,cd,w2,ahL,hrA,hD,hG⟩:=h1.grow hmm;have ahK:=ah ahL;have c0:=h1.cT;have cB:w2.cell? ⟨r,0,none⟩=some (.slice g m c):=(by rw[hrA.cell];rfl);have cC:=hrA.thaw 0;have hkd:k'<m+1:=ak;have ajp:iu<m+1:=ak;have hml:m+1<=m+1:=aJ _;clear ahL hrA;subst hkm;have HD:=ah hD;have HG:=ah hG;clear hD hG h1 H1
    go_upto_region 14 with(first|(go_at_call 63;(with_reducible refine BF.mono ?_);rintro e w' ⟨rfl,rfl⟩)|(refine wpList_build aQ 126 _ rfl #[] aV (vR _) ?_)|(refine wpList_buildSlice aQ 127 1 _ rfl #[(0,.agg iX)] ZV (Bw _) ?_)|(at_builtin;refine wpList_append_run aQ _ _ 127 rfl rfl rfl ahK.out ?_))
    generalize w2.setCell ⟨r,0,none⟩ (.slice gd (k'+1) cd)=Wd at *;generalize hmd:k'+1=md at *;replace hml:=Nat.le_of_eq hmd.symm;clear hmd;exact Z5
theorem Il{T:Tr.T}{x:Int}{nd p:Tr.Nd}(hx:T x=some nd)(hp:T nd.up=some p):Tr.leave T x=Tr.set T nd.up { p with kids:=Tr.wo p.kids x }:=by
 unfold Tr.leave;rw[hx];dsimp only;rw[hp]
theorem Vj{ops:Array Oper}{S:World->Prop}{o:Oper}{a:Act}{v:Value}(hrun:∀w,(Instr.build 126 #[]).run ja0 w=.ok v w)(hw:Region.wanted o (yielded ops a.tmps)=true)(ho:o.op=.build 126 #[]):aj.Reads ja0 ops S o v a :=
 .inl ⟨hw,λw _=>by unfold execOp;simp only[ho,List.map_toArray,List.map_nil,Sem.run_bind,hrun w,Result.andThen_ok,Sem.run_pure]⟩
theorem Nw{T:Tr.T}(h:Doc w r g c m K T)(H:Tr.WF T)(x:Int):Calls ja0 58 #[r,x] w λe w'=>e=.returned (.tuple #[Tr.wJ T x,Tr.ql T x])/\∃K',Doc w' r g c m K' (Tr.mq T x)/\DG r g K T w w' g K' (Tr.mq T x):=by
 have HD:=ah h;have key:=iE h x;cases hT:T x with
 | none =>
   have hE:Tr.ql T x=2:=by unfold Tr.ql;rw[hT]
   have hI:Tr.wJ T x=0:=by unfold Tr.wJ;rw[hE];rfl
   have hR:Tr.mq T x=T:=by unfold Tr.mq;rw[hE];rfl
   rw[hE,hI,hR];rw[jR hT]at key;clear h hE hI hR;exact Z2s
 | some nd =>
   rw[jQ hT]at key;by_cases h0:x=0
   . have hE:Tr.ql T x=1:=by unfold Tr.ql;rw[hT];exact if_pos h0
     have hI:Tr.wJ T x=0:=by unfold Tr.wJ;rw[hE];rfl
     have hR:Tr.mq T x=T:=by unfold Tr.mq;rw[hE];rfl
     rw[hE,hI,hR];clear h hE hI hR;subst h0;exact Z2s
   . have hE:Tr.ql T x=0:=by unfold Tr.ql;rw[hT];exact if_neg h0
     have hI:Tr.wJ T x=((Tr.sub T 64 x).length:Int):=by unfold Tr.wJ;rw[hE];rfl
     obtain⟨p,hp,hxp⟩:=H.up x nd hT h0;have hR:Tr.mq T x=Tr.del (Tr.set T nd.up { p with kids:=Tr.wo p.kids x }) (Tr.sub T 64 x):=by unfold Tr.mq;rw[hE,if_pos rfl,<-Il hT hp];rfl
     rw[hE,hI,hR];have hsl:(Tr.sub T 64 x).length<=4096:=by
      have:=H.Co hT h0;have:=H.iA;omega
     have nM:=p8 64 x h (H.fZ hT) ak
     have hin:∀y∈Tr.sub T 64 x,0<=y/\y<m:=λy hy=>by
      obtain⟨yd,QX⟩:=((H.fU (H.fZ hT)).1 hy).live;exact h.range _ _ QX
     have hpk:p.kids.length<=10000:=by have:=H.pG hp;have:=H.iA;omega
     obtain⟨nu,nk,ns⟩:=nd;dsimp only at hp hR;obtain⟨iu,rfl,him⟩:=h.nat hp;obtain⟨ix,rfl,hix⟩:=h.nat hT;have h0b:((ix:Int)==0)=false:=by simpa using h0
     have HT:=ah hT;have HP:=ah hp;have HIN:=ah hin;have HPK:=ah hpk;clear hE hI hR hxp hT hp hin hpk;generalize hl:Tr.sub T 64 (ix:Int)=l at *;clear hl;generalize hn:l.length=n at *;have HN:=ah hn;clear hn;go_enter Tryz.func58,Tryz.ntmps58
     go_upto_region 6 with(first|(go_at_call 63;(with_reducible refine key.mono ?_);rintro e w' ⟨rfl,rfl⟩)|(go_at_call 26;(with_reducible refine nM.mono ?_);rintro e w1 ⟨⟨v1,rfl,ho1⟩,hb1⟩;obtain⟨A1,c1,rfl⟩:=dX ho1))
     have D1:=HD.out.after hb1;have c4:=D1.cT;have c5:=D1.cUp HT.out;have c6:=D1.jW HP.out;have jd:=D1.row _ _ HP.out;obtain⟨A,cc,hv,_⟩:=jd.ints;rw[hv]at c6 jd;have BD:=ah jd;have HV:=ah hv;have HD1:=ah D1;have HO1:=ah ho1;have HB1:=ah hb1;clear h key nM jd hv D1 ho1 hb1;generalize hnk:p.kids.length=nk at *;have HNK:=ah hnk;clear hnk
     go_upto_region 7 with(fail)
     clear c5;refine gZ (S:=(λW'=>W'.cell? ⟨r,0,none⟩=some (.slice g m c)/\W'.cell? ⟨g,iu*58+2,none⟩=some (.slice A nk cc)/\Below w1 w1 W')) 15 ?_ ?_
     . exact⟨c4,c6,Below.drew aD⟩
     intro hS0;clear c4 c6;refine aO 0 ?_;refine aO 1 ?_;refine aO 2 ?_;refine aO 3 ?_;refine aO 4 ?_;refine aO 5 ?_;refine aO 6 ?_;refine aO 7 ?_;refine aO 8 ?_;refine aO 9 ?_;refine aO 10 ?_;refine aO 11 ?_;refine aO 12 ?_;refine aO 13 ?_;refine tk1 14 ?_;refine aj.Step.call eB (tJ (BD.out.after hS0.2.2) (by rw[HNK.out];exact HPK.out) (ix:Int)) ?_;rintro e w6 ⟨⟨v6,rfl,Cm⟩,hb6⟩;have hS1:=hS0.2.2.trans (hb6.mono hS0.2.2.size);have Kk:=dP Cm oq;have hown6:=λb hb=>aH hS0.2.2.size (World.ownsRow.lt Cm b hb).1;obtain⟨A6,c6,rfl⟩:=dX Cm;have hD6:=HD1.out.after hS1;have c7:=hD6.cT;have c8:=hD6.jW HP.out;rw[HV.out]at c8;obtain⟨cur,hcur,_⟩:=hD6.cur;have hth:=hcur.thaw (iu*58+2);have hD7:=ah (hD6.rV HP.out Kk)
     have NK:DG r g K T w1 (w6.setCell ⟨g,iu*58+2,none⟩ (.slice A6 (Tr.wo p.kids ix).length c6)) g (λz=>if z=(iu:Int)then .slice A6 (Tr.wo p.kids ix).length c6 else K z) (Tr.set T iu { p with kids:=Tr.wo p.kids ix }) :=
      ⟨(Out.of_below hS1).trans ((Out.refl _ _).set (M:=iT r g K T) (.inr (.inl rfl)) _ _),λb hb=>(pE HP.out hb).elim .inl λq => .inr (hown6 b q)⟩
     have HG7:=ah ((DG.of_below HB1.out).trans NK);have Bc:=bD HO1.out (λb hb (q:iT r g K T b)=>absurd (HD.out.lt q) (by have:=(World.ownsRow.lt HO1.out b hb).1;omega)) NK.1;have HO7:=ah Bc;refine⟨_,rfl,λ_=>⟨c7,c8,hS1⟩,?_⟩;clear NK hS0 hS1 Kk hown6 Cm hb6 hcur hD6 BD HB1 HO1 Bc HV HD1;generalize hnl:(Tr.wo p.kids (ix:Int)).length=nl at *
     (try simp only[bN,bO,bP,tks])
     refine tk1 15 ?_;refine uq ?_ (hS:=by first|(intro hlt;exact absurd hlt aF)|(intro _;exact hlt));refine tk1 16 ?_;refine uq ?_ (hS:=by first|(intro hlt;exact absurd hlt aF)|(intro _;exact hlt));refine tk1 17 ?_;refine aj.Step.skip Z3t ?_;refine⟨by first|(intro hlt;exact absurd hlt aF)|(intro _;exact hlt),?_⟩;(try simp only[Act.put]);refine gX ?_;clear hnl c7 c8 hth;generalize hT7:Tr.set T (iu:Int) { p with kids:=Tr.wo p.kids ix }=T7 at *;generalize hK7:(λz:Int=>if z=(iu:Int)then Value.slice A6 nl c6 else K z)=K7 at *;generalize w6.setCell ⟨g,iu*58+2,none⟩ (.slice A6 nl c6)=w7 at *;have HT7:=ah hT7;clear hT7 hK7
     have hOG:Hid (∀b,(Value.slice A1 n c1).ownBlock=some b->b≠g):=ah λb hb e=>by
      have:=(World.ownsRow.lt HO7.out b hb).1;have:=HD.out.lt (b:=g) (.inr (.inl rfl));omega
     go_wp2
     go_loopw [8] (λiv wr=>∃k:Nat,k<=n/\iv=.int .i64 (k:Int)/\Doc wr r g c m K7 (Tr.del T7 (l.take k))/\DG r g K T w wr g K7 (Tr.del T7 (l.take k))/\wr.ownsRow w.heap.size 3 1 (.slice A1 n c1) n (l.map (Value.int .i64))) (λiv _=>n-(intOf iv).toNat)
     case atStart=>exact⟨0,by omega,rfl,by rw[List.take_zero,Ct];exact hD7.out,by rw[List.take_zero,Ct];exact HG7.out,HO7.out⟩
     case round =>
      obtain⟨k,hk,rfl,hd,hg,ho⟩:=hrel;by_cases hlt:k<n
      . have hltz:(k:Int)<(n:Int):=by omega
        obtain⟨hI,_⟩:=KS.vZ (l:=l) (by have:=dP (base':=0) ho oq;unfold KS;rw[HN.out];exact this);obtain⟨b6,o6,rfl,lb6,Fj⟩:=hI.at_ (k:=k) Vq;have hat:l[k]? = some (l.getD k 0):=by rw[List.getD,ja6 Vq];rfl
        have hmem:=List.mem_of_getElem? hat;obtain⟨y0,y1⟩:=HIN.out _ hmem;have hstep:=ah (Q5 T7 l hat);generalize l.getD k 0=y at *;obtain⟨iy,rfl⟩:∃i:Nat,y=i:=⟨y.toNat,by omega⟩;have hiy:iy<m:=by omega
        obtain⟨w8,hst,hO8,hD8,hG8⟩:=hd.after (Below.refl _ wr).drew |>.ZK hiy
        have c7:=hd.cT;have HST:=ah hst;have Yc:=ah vR;generalize iX=dz at *;have HD8:=ah hD8;have HG8:=ah ((hg.trans (DG.of_below (Below.refl _ wr).drew)).trans hG8);have HO8:=ah (bD (bD (M:=λ_=>False) ho (λ_ _ q=>q) (Out.of_below (Below.refl _ wr).drew)) (λb hb (q:b=g)=>hOG.out b hb q) hO8);clear hst hO8 hD8 hG8 hd hg ho hI hmem hat
        go_upto_region 11 with(fail)
        refine gZ (S:=(λW'=>W'.cell? ⟨r,0,none⟩=some (.slice g m c)/\W'.cell? ⟨b6,o6+k,none⟩=some (.int .i64 (iy:Int)))) 9 ?_ ?_
        . exact⟨c7,Fj⟩
        intro hS0;clear c7 Fj;refine aO 0 ?_;refine aO 1 ?_;refine aO 2 ?_;refine aO 3 ?_;refine aO 4 ?_;refine aO 5 ?_;refine aO 6 ?_;refine aO 7 ?_;refine jc 8 rfl (Vj Yc.out aQ rfl) ?_;refine tk1 9 ?_;refine uq ?_ (hS:=by first|(intro hlt;exact absurd hlt aF)|(intro _;exact hlt));refine tk1 10 ?_;refine aj.Step.skip (rU (.tmp 58) (.tmp 57) rfl rfl rfl HST.out) ?_;refine⟨λhlt=>absurd hlt aF,?_⟩
        (try simp only[bN,bO,bP,tks])
        refine gX ?_;go_wp2
        go_roundw
        case rel=>exact⟨k+1,by omega,by go_num,by rw[<-hstep.out];exact HD8.out,by rw[<-hstep.out];exact HG8.out,HO8.out⟩
        case measure=>simp[intOf];omega
      . obtain rfl:k=n:=by omega
        rw[jb6 (by rw[HN.out];exact aJ _)]at hd hg;have HD8:=ah hd;have HG8:=ah hg;clear hd hg ho;go_wp2
        go_ret2
        rw[HT7.out];exact⟨rfl,_,HD8.out,HG8.out⟩
def vT(T:Tr.T)(dx:Int)(l:List Int):Int:=l.foldl (λm y=>max m (Tr.dep T y-dx)) 0
theorem Qz(T:Tr.T)(dx:Int)(l:List Int)(y:Int):vT T dx (l++[y])=max (vT T dx l) (Tr.dep T y-dx):=by simp[vT]
theorem tL(f:Int->Int)(l:List Int):∀m,m<=l.foldl (λm y=>max m (f y)) m/\(∀y∈l,f y<=l.foldl (λm y=>max m (f y)) m)/\∀B,m<=B->(∀y∈l,f y<=B)->l.foldl (λm y=>max m (f y)) m<=B:=by
 induction l with
 | nil=>intro m;exact⟨Int.le_refl _,by simp,λB h _=>h⟩
 | cons k l ih =>
   intro m;simp only[List.foldl_cons];obtain⟨h1,h2,h3⟩:=ih (max m (f k));refine⟨by omega,λy hy => ?_,λB hB hl=>h3 B ?_ λy hy=>hl y (List.mem_cons_of_mem _ hy)⟩
   . rcases List.mem_cons.1 hy with rfl|hy
     . omega
     . exact h2 y hy
   . have:=hl k jb0;omega
theorem Ny{T:Tr.T}(H:Tr.WF T){dx:Int}(hx:0<=dx)(l:List Int):0<=vT T dx l/\vT T dx l<=63 :=
 ⟨(tL _ l 0).1,(tL _ l 0).2.2 63 ak λy _=>by have:=(ZC H y).2;omega⟩
theorem Vk{T:Tr.T}(H:Tr.WF T){x:Int}{nd:Tr.Nd}(hx:T x=some nd):vT T (Tr.dep T x) (Tr.sub T 64 x)=(Tr.hgt T 64 x:Int):=by
 obtain⟨d,h1,h2,h3⟩:=H.iB hx;obtain⟨y,hy,hd⟩:=H.QI (H.fZ hx) h2;have e:=H.IJ hd;have hge:=(tL (λy=>Tr.dep T y-Tr.dep T x) (Tr.sub T 64 x) 0).2.1 y hy
 have hle:=(tL (λy=>Tr.dep T y-Tr.dep T x) (Tr.sub T 64 x) 0).2.2 (Tr.hgt T 64 x:Int) ak λz hz=>by
  obtain⟨zd,hzd⟩:=((H.fU (H.fZ hx)).1 hz).live;obtain⟨dz,q1,q2,q3⟩:=H.iB hzd;have:=H.Wh (H.fZ hx) h2 hz q2;omega
 unfold vT;omega
theorem ab'{T:Tr.T}{x u:Int}{nd p q:Tr.Nd}(hx:T x=some nd)(hp:T nd.up=some p)(hne:nd.up≠x)(hux:u≠x)(hu:Tr.set T nd.up { p with kids:=Tr.wo p.kids x } u=some q):Tr.jY T x u i=Tr.set (Tr.set (Tr.set T nd.up { p with kids:=Tr.wo p.kids x }) u { q with kids:=Tr.wi q.kids i x }) x { nd with up:=u }:=by
 unfold Tr.jY Tr.enter;rw[Il hx hp,hu,Tr.aK _ _ (Ne.symm hne),hx]
theorem Vl{T:Tr.T}(h:Doc w r g c m K T)(H:Tr.WF T)(x u a:Int):Calls ja0 60 #[r,x,u,a] w λe w'=>e=.returned (.int .i64 (Tr.iY T x u a))/\∃K',Doc w' r g c m K' (Tr.jZ T x u a)/\DG r g K T w w' g K' (Tr.jZ T x u a):=by
 have HD:=ah h;have key:=iE h x;have qg:=iE h u;have same:∀e,Tr.iY T x u a=e->e≠0->Tr.jZ T x u a=T:=λe he hne=>by unfold Tr.jZ;rw[he,if_neg hne]
 cases hX:T x with
 | none =>
   have hE:Tr.iY T x u a=2:=by unfold Tr.iY;rw[hX]
   rw[hE,same _ hE aF];rw[jR hX]at key;clear h qg same hE;exact Z15
 | some nd =>
 rw[jQ hX]at key;cases hU:T u with
 | none =>
   have hE:Tr.iY T x u a=2:=by unfold Tr.iY;rw[hX,hU]
   rw[hE,same _ hE aF];rw[jR hU]at qg;clear h same hE;exact Z15
 | some q =>
 rw[jQ hU]at qg;have hE0:Tr.iY T x u a=if x=0 then 1 else if u∈Tr.sub T 64 x then 3 else if a<0\/((Tr.wo q.kids x).length:Int)<a then 1 else if 63<Tr.dep T u+1+Tr.hgt T 64 x then 5 else 0:=by unfold Tr.iY;rw[hX,hU]
 by_cases h0:x=0
 . have hE:Tr.iY T x u a=1:=by rw[hE0,if_pos h0]
   rw[hE,same _ hE aF];clear h same hE hE0;subst h0;exact Z15
 rw[if_neg h0]at hE0;have h0b:(x==0)=false:=by simpa using h0
 have hsl:(Tr.sub T 64 x).length<=4096:=by
  have:=H.Co hX h0;have:=H.iA;omega
 have nM:=p8 64 x h (H.fZ hX) ak;have hall:=Vk H hX;have N8:0<=Tr.dep T x/\Tr.dep T x<=63:=by obtain⟨d,d1,d2,d3⟩:=H.iB hX;omega
 have hdu:0<=Tr.dep T u/\Tr.dep T u<=63:=by obtain⟨d,d1,d2,d3⟩:=H.iB hU;omega
 obtain⟨p,hp,hxp⟩:=H.up x nd hX h0;have hqk:q.kids.length<=10000:=by have:=H.pG hU;have:=H.iA;omega
 have hpk:p.kids.length<=10000:=by have:=H.pG hp;have:=H.iA;omega
 have hoth:=H.others hX hU h0;have hself:x∈Tr.sub T 64 x:=(H.fU (H.fZ hX)).2 (.refl hX);have ae7:nd.up≠x:=λe=>H.oF hX h0 (by rw[e];exact hself);obtain⟨nu,nk,ns⟩:=nd;dsimp only at hp hoth ae7;obtain⟨iv,rfl,hiv⟩:=h.nat hp;obtain⟨iu,rfl,hiu⟩:=h.nat hU;obtain⟨ix,rfl,hix⟩:=h.nat hX;have HX:=ah hX;have HU:=ah hU;have HP:=ah hp;have HE0:=ah hE0;have HS:=ah same;have HAL:=ah hall;have HQK:=ah hqk;have HPK:=ah hpk;have HOT:=ah hoth;have HNX:=ah ae7;have HSF:=ah hself;clear hX hU hp hxp hE0 same hall hqk hpk hoth ae7 hself;generalize hl:Tr.sub T 64 (ix:Int)=l at *;clear hl;generalize hn:l.length=n at *;have HN:=ah hn;clear hn;go_enter Tryz.func60,Tryz.ntmps60
 go_upto_region 6 with(first|(go_at_call 63;first|((with_reducible refine key.mono ?_);rintro e w' ⟨rfl,rfl⟩)|((with_reducible refine qg.mono ?_);rintro e w' ⟨rfl,rfl⟩))|(go_at_call 26;(with_reducible refine nM.mono ?_);rintro e w1 ⟨⟨v1,rfl,ho1⟩,hb1⟩;obtain⟨A1,c1,rfl⟩:=dX ho1))
 have D1:=HD.out.after hb1;have KX:=ah (tH D1 H (ix:Int));have c4:=D1.cT;have HD1:=ah D1;have HO1:=ah ho1;have HB1:=ah hb1;clear h key qg nM D1 ho1 hb1;go_wp2
 go_loopw [10,11] (λdv iv wr=>∃k:Nat,k<=n/\iv=.int .i64 (k:Int)/\dv=.int .i64 (vT T (Tr.dep T ix) (l.take k))/\(iu:Int) ∉ l.take k/\wr=w1) (λ_ iv _=>n-(intOf iv).toNat)
 case atStart=>exact⟨0,by omega,rfl,rfl,by simp,rfl⟩
 case round =>
  obtain⟨k,hk,rfl,rfl,hni,rfl⟩:=hrel;by_cases hlt:k<n
  . have hltz:(k:Int)<(n:Int):=by omega
    obtain⟨hI,_⟩:=KS.vZ (l:=l) (by have:=dP (base':=0) HO1.out oq;unfold KS;rw[HN.out];exact this);obtain⟨b6,o6,rfl,lb6,Fj⟩:=hI.at_ (k:=k) Vq;have hat:l[k]? = some (l.getD k 0):=by rw[List.getD,ja6 Vq];rfl
    have hmem:=List.mem_of_getElem? hat;have RZ:=dV l k Vq;clear hI hat;generalize l.getD k 0=y at *;by_cases hyu:y=(iu:Int)
    . subst hyu
      have hE:Tr.iY T ix iu a=3:=by rw[HE0.out,if_pos hmem]
      have HR:=ah (show _/\_ from⟨hE,HS.out _ hE aF⟩);clear hmem RZ hni hE;go_wp2
      go_ret
      rw[HR.out.1,HR.out.2];exact⟨rfl,_,HD1.out,DG.of_below HB1.out⟩
    . have hyb:(y==(iu:Int))=false:=by simpa using hyu
      have hstep:Hid (vT T (Tr.dep T ix) (l.take (k+1))=max (vT T (Tr.dep T ix) (l.take k)) (Tr.dep T y-Tr.dep T ix)):=ah (by rw[RZ,Qz]);have ajq:Hid ((iu:Int) ∉ l.take (k+1)):=ah (by rw[RZ];simp only[List.mem_append,List.mem_singleton,not_or];exact⟨hni,λe=>hyu e.symm⟩);have KY:=ah (tH HD1.out H y);obtain⟨f1,f2⟩:=ZC H y;have hw:IntKind.i64.wrap (Tr.dep T y-Tr.dep T ix)=Tr.dep T y-Tr.dep T ix:=IntWalk.i64_in _ ak;clear hmem RZ hni hyu;generalize Tr.dep T y=dy at *;generalize Tr.dep T (ix:Int)=dx at *;generalize vT T dx (l.take k)=dk at *
      go_wp2_with (first|(go_at_call 27;first|((with_reducible refine(KY.out).mono ?_);rintro e w' ⟨rfl,rfl⟩)|((with_reducible refine(KX.out).mono ?_);rintro e w' ⟨rfl,rfl⟩)))
      go_roundw
      case rel=>exact⟨k+1,by omega,by go_num,by rw[hstep.out],ajq.out,trivial⟩
      case measure=>simp[intOf];omega
  . obtain rfl:k=n:=by omega
    rw[jb6 (by rw[HN.out];exact aJ _)]at hni ⊢;rw[HAL.out];have hE1:=HE0.out;rw[if_neg hni]at hE1;have HE1:=ah hE1;have HNI:=ah hni;clear hE1 hni HE0;have c5:=HD1.out.jW HU.out;have jd:=HD1.out.row _ _ HU.out;obtain⟨A,cc,hv,_⟩:=jd.ints;rw[hv]at c5 jd;have BD:=ah jd;clear jd hv;by_cases ha:a<0
    . have hE:Tr.iY T ix iu a=1:=by rw[HE1.out,if_pos (.inl ha)]
      have HR:=ah (show _/\_ from⟨hE,HS.out _ hE aF⟩);clear hE;go_wp2
      go_ret
      rw[HR.out.1,HR.out.2];exact⟨rfl,_,HD1.out,DG.of_below HB1.out⟩
    obtain⟨i,rfl⟩:∃i:Nat,a=i:=⟨a.toNat,by omega⟩;have ahM:=tJ BD.out HQK.out (ix:Int);generalize hnq:q.kids.length=nq at *;have HNQ:=ah hnq;clear hnq;generalize hnw:(Tr.wo q.kids (ix:Int)).length=nw at *;have HNW:=ah hnw;clear hnw;by_cases hal:nw<i
    . have hE:Tr.iY T ix iu i=1:=by rw[HE1.out,if_pos (.inr ak)]
      have HR:=ah (show _/\_ from⟨hE,HS.out _ hE aF⟩);have ajr:(nw:Int)<(i:Int):=by omega
      clear hE
      go_wp2_with (go_at_call 88;(with_reducible refine ahM.mono ?_);rintro e w6 ⟨⟨v6,rfl,Cm⟩,hb6⟩;obtain⟨A6,c6,rfl⟩:=dX Cm)
      go_ret
      rw[HR.out.1,HR.out.2];exact⟨rfl,_,HD1.out.after hb6,DG.of_below (HB1.out.trans (hb6.mono HB1.out.size))⟩
    have ajr:¬ (nw:Int)<(i:Int):=by omega
    go_upto_region 15 with(go_at_call 88;(with_reducible refine ahM.mono ?_);rintro e w6 ⟨⟨v6,rfl,Cm⟩,hb6⟩;obtain⟨A6,c6,rfl⟩:=dX Cm)
    have D6:=HD1.out.after hb6;have KU:=ah (tH D6 H (iu:Int));have hw1:IntKind.i64.wrap (Tr.dep T iu+1)=Tr.dep T iu+1:=IntWalk.i64_in _ ak;have hb2:=Ny H (l:=l) N8.1;rw[HAL.out]at hb2;have hw2:IntKind.i64.wrap (Tr.dep T iu+1+(Tr.hgt T 64 ix:Int))=Tr.dep T iu+1+(Tr.hgt T 64 ix:Int):=IntWalk.i64_in _ ak;have HHG:Hid (∀e:Int,e=e):=ah λ_=>rfl;by_cases hdd:63<Tr.dep T iu+1+(Tr.hgt T 64 ix:Int)
    . have hE:Tr.iY T ix iu i=5:=by rw[HE1.out,if_neg (λq=>q.elim (λq=>absurd q ak) (λq=>absurd q ak)),if_pos hdd]
      have HR:=ah (show _/\_ from⟨hE,HS.out _ hE aF⟩);have HD6:=ah D6;have HB6:=ah (HB1.out.trans (hb6.mono HB1.out.size));clear hE D6 hb6;generalize Tr.dep T (iu:Int)=du at *;generalize Tr.hgt T 64 (ix:Int)=hg at *
      go_wp2_with (go_at_call 27;(with_reducible refine(KU.out).mono ?_);rintro e w' ⟨rfl,rfl⟩)
      go_ret
      rw[HR.out.1,HR.out.2];exact⟨rfl,_,HD6.out,DG.of_below HB6.out⟩
    have hE:Tr.iY T ix iu i=0:=by rw[HE1.out,if_neg (λq=>q.elim (λq=>absurd q ak) (λq=>absurd q ak)),if_neg hdd]
    have ae8:(iu:Int)≠ix:=λe=>by have:=HSF.out;rw[<-e]at this;exact HNI.out this
    obtain⟨q1,hq1,hql⟩:∃q1,Tr.set T (iv:Int) { p with kids:=Tr.wo p.kids ix } iu=some q1/\q1.kids.length=nw:=by
     by_cases e:(iu:Int)=iv
     . have e2:=HU.out
       rw[e,HP.out]at e2;cases e2;exact⟨_,by rw[e,Tr.aP],HNW.out⟩
     . refine⟨q,by rw[Tr.aK _ _ e];exact HU.out,?_⟩
       have:=HOT.out;rw[if_neg (λq=>e q.symm)]at this;have:=HNQ.out;omega
    have hR:Tr.jZ T ix iu i=Tr.set (Tr.set (Tr.set T (iv:Int) { p with kids:=Tr.wo p.kids ix }) iu { q1 with kids:=Tr.wi q1.kids i ix }) ix ⟨iu,nk,ns⟩:=by
     unfold Tr.jZ;rw[if_pos hE,Int.toNat_natCast];exact ab' HX.out HP.out HNX.out ae8 hq1
    have HR:=ah (show _/\_ from⟨hE,hR⟩);have hx2:Tr.set (Tr.set T (iv:Int) { p with kids:=Tr.wo p.kids ix }) iu { q1 with kids:=Tr.wi q1.kids i ix } ix=some ⟨iv,nk,ns⟩:=by
     rw[Tr.aK _ _ (Ne.symm ae8),Tr.aK _ _ (Ne.symm HNX.out)];exact HX.out
    have HX2:=ah hx2;have HQ1:=ah hq1;have hil:Hid (i<=q1.kids.length):=ah ak;have ajs:Hid (q1.kids.length<=10000):=ah (by have h1:=List.length_filter_le (λy=>y != (ix:Int)) q.kids;have h2:=HNW.out;have h3:=HNQ.out;have h4:=HQK.out;unfold Tr.wo at h2;omega);have HG6:=ah (DG.of_below (r:=r) (g:=g) (K:=K) (T:=T) (HB1.out.trans (hb6.mono HB1.out.size)));have c4:=D6.cT;have c5:=D6.cUp HX.out;have HD6:=ah D6;clear hE hR hx2 hq1 hql ae8 hb6 D6 HE1 HS HAL hb2 Cm;generalize Tr.dep T (iu:Int)=du at *;generalize Tr.hgt T 64 (ix:Int)=hg at *
    go_upto_region 18 with(go_at_call 27;(with_reducible refine(KU.out).mono ?_);rintro e w6 ⟨rfl,rfl⟩)
    clear c5 KU;have c5:=HD6.out.jW HP.out;have jd:=HD6.out.row _ _ HP.out;obtain⟨Ap,cp,hv,_⟩:=jd.ints;rw[hv]at c5 jd;have BD:=ah jd;have HV:=ah hv;clear jd hv;have HPL:=ah (aJ p.kids.length);generalize hnp:p.kids.length=np at *;have HNP:=ah hnp;clear hnp;refine gZ (S:=(λW'=>W'.cell? ⟨r,0,none⟩=some (.slice g m c)/\W'.cell? ⟨g,iv*58+2,none⟩=some (.slice Ap np cp)/\Below w6 w6 W')) 15 ?_ ?_
    . exact⟨c4,c5,Below.drew aD⟩
    intro hS0;clear c4 c5;refine aO 0 ?_;refine aO 1 ?_;refine aO 2 ?_;refine aO 3 ?_;refine aO 4 ?_;refine aO 5 ?_;refine aO 6 ?_;refine aO 7 ?_;refine aO 8 ?_;refine aO 9 ?_;refine aO 10 ?_;refine aO 11 ?_;refine aO 12 ?_;refine aO 13 ?_;refine tk1 14 ?_;refine aj.Step.call eB (tJ (BD.out.after hS0.2.2) (by rw[HNP.out];exact HPK.out) (ix:Int)) ?_;rintro e w8 ⟨⟨v6,rfl,Cm⟩,hb6⟩;have hS1:=hS0.2.2.trans (hb6.mono hS0.2.2.size);have Kk:=dP Cm oq;have hown6:=λb hb=>aH hS0.2.2.size (World.ownsRow.lt Cm b hb).1;obtain⟨A8,c8_,rfl⟩:=dX Cm;have hD6:=HD6.out.after hS1;have c7:=hD6.cT;have c8:=hD6.jW HP.out;rw[HV.out]at c8;obtain⟨cur,hcur,_⟩:=hD6.cur;have hth:=hcur.thaw (iv*58+2);have hD7:=ah (hD6.rV HP.out Kk)
    have NK:DG r g K T w6 (w8.setCell ⟨g,iv*58+2,none⟩ (.slice A8 (Tr.wo p.kids (ix:Int)).length c8_)) g (λz=>if z=(iv:Int)then .slice A8 (Tr.wo p.kids (ix:Int)).length c8_ else K z) (Tr.set T iv { p with kids:=Tr.wo p.kids ix }) :=
     ⟨(Out.of_below hS1).trans ((Out.refl _ _).set (M:=iT r g K T) (.inr (.inl rfl)) _ _),λb hb=>(pE HP.out hb).elim .inl λq => .inr (hown6 b q)⟩
    have HG9:=ah (HG6.out.trans NK);have HD9:=ah hD7.out;refine⟨_,rfl,λ_=>⟨c7,c8,hS1⟩,?_⟩;clear NK hS0 hS1 Kk hown6 Cm hb6 hcur hD6 hD7;generalize hnl:(Tr.wo p.kids (ix:Int)).length=n8 at *
    (try simp only[bN,bO,bP,tks])
    refine tk1 15 ?_;refine uq ?_ (hS:=by first|(intro hlt;exact absurd hlt aF)|(intro _;exact hlt));refine tk1 16 ?_;refine uq ?_ (hS:=by first|(intro hlt;exact absurd hlt aF)|(intro _;exact hlt));refine tk1 17 ?_;refine aj.Step.skip Z3t ?_;refine⟨by first|(intro hlt;exact absurd hlt aF)|(intro _;exact hlt),?_⟩;(try simp only[Act.put]);refine gX ?_;clear hnl c7 c8 hth;generalize hT9:Tr.set T (iv:Int) { p with kids:=Tr.wo p.kids ix }=T9 at *;generalize hK9:(λz:Int=>if z=(iv:Int)then Value.slice A8 n8 c8_ else K z)=K9 at *;generalize w8.setCell ⟨g,iv*58+2,none⟩ (.slice A8 n8 c8_)=w9 at *;have HT9:=ah hT9;clear hT9 hK9;have c4:=HD9.out.cT;have c5:=HD9.out.jW HQ1.out;have jd:=HD9.out.row _ _ HQ1.out;obtain⟨Aq,cq,hv,_⟩:=jd.ints;rw[hv]at c5 jd;have acY:=ah jd;have HV2:=ah hv;clear jd hv BD HV HD6 HG6;generalize hnp:q1.kids.length=nz at *;have HNZ:=ah hnp;clear hnp
    go_upto_region 19 with(fail)
    refine gZ (S:=(λW'=>W'.cell? ⟨r,0,none⟩=some (.slice g m c)/\W'.cell? ⟨g,iu*58+2,none⟩=some (.slice Aq nz cq)/\Below w9 w9 W')) 16 ?_ ?_
    . exact⟨c4,c5,Below.drew aD⟩
    intro hS0;clear c4 c5;refine aO 0 ?_;refine aO 1 ?_;refine aO 2 ?_;refine aO 3 ?_;refine aO 4 ?_;refine aO 5 ?_;refine aO 6 ?_;refine aO 7 ?_;refine aO 8 ?_;refine aO 9 ?_;refine aO 10 ?_;refine aO 11 ?_;refine aO 12 ?_;refine aO 13 ?_;refine aO 14 ?_;refine tk1 15 ?_;refine aj.Step.call eB (Gn (acY.out.after hS0.2.2) (by rw[HNZ.out];exact ajs.out) (by rw[HNZ.out];exact hil.out) (ix:Int)) ?_;rintro e iJ ⟨⟨v6,rfl,Cm⟩,hb6⟩;have hS1:=hS0.2.2.trans (hb6.mono hS0.2.2.size);have Kk:=dP Cm oq;have hown6:=λb hb=>aH hS0.2.2.size (World.ownsRow.lt Cm b hb).1;obtain⟨VD,acd,rfl⟩:=dX Cm;have hD6:=HD9.out.after hS1;have c7:=hD6.cT;have c8:=hD6.jW HQ1.out;rw[HV2.out]at c8;obtain⟨cur,hcur,_⟩:=hD6.cur;have hth:=hcur.thaw (iu*58+2);have hD7:=ah (hD6.rV HQ1.out Kk)
    have NK:DG r g K9 T9 w9 (iJ.setCell ⟨g,iu*58+2,none⟩ (.slice VD (Tr.wi q1.kids i (ix:Int)).length acd)) g (λz=>if z=(iu:Int)then .slice VD (Tr.wi q1.kids i (ix:Int)).length acd else K9 z) (Tr.set T9 iu { q1 with kids:=Tr.wi q1.kids i ix }) :=
     ⟨(Out.of_below hS1).trans ((Out.refl _ _).set (M:=iT r g K9 T9) (.inr (.inl rfl)) _ _),λb hb=>(pE HQ1.out hb).elim .inl λq => .inr (hown6 b q)⟩
    have ahN:=ah (HG9.out.trans NK);have ZO:=ah hD7.out;refine⟨_,rfl,λ_=>⟨c7,c8,hS1⟩,?_⟩;clear NK hS0 hS1 Kk hown6 Cm hb6 hcur hD6 hD7;generalize hnl:(Tr.wi q1.kids i (ix:Int)).length=n10 at *
    (try simp only[bN,bO,bP,tks])
    refine tk1 16 ?_;refine uq ?_ (hS:=by first|(intro hlt;exact absurd hlt aF)|(intro _;exact hlt));refine tk1 17 ?_;refine uq ?_ (hS:=by first|(intro hlt;exact absurd hlt aF)|(intro _;exact hlt));refine tk1 18 ?_;refine aj.Step.skip Z3t ?_;refine⟨by first|(intro hlt;exact absurd hlt aF)|(intro _;exact hlt),?_⟩;(try simp only[Act.put]);refine gX ?_;clear hnl c7 c8 hth;generalize Tr.set T9 (iu:Int) { q1 with kids:=Tr.wi q1.kids i ix }=T11 at *;generalize (λz:Int=>if z=(iu:Int)then Value.slice VD n10 acd else K9 z)=K11 at *;generalize iJ.setCell ⟨g,iu*58+2,none⟩ (.slice VD n10 acd)=p9 at *;have c4:=ZO.out.cT;have c5:=ZO.out.cUp HX2.out;obtain⟨cur,hcur,_⟩:=ZO.out.cur;have hth:=hcur.thaw (ix*58+1);obtain⟨ahO,ahP⟩:=ZO.out.WI HX2.out (iu:Int);have ajt:=ah ahO;have aju:=ah (ahN.out.trans ahP);clear hcur ahO ahP ZO ahN acY HV2;go_wp2
    go_ret
    rw[HR.out.1,HR.out.2];exact⟨rfl,_,ajt.out,aju.out⟩
theorem ZP{T:Tr.T}(h:Doc w r g c m K T)(H:Tr.WF T)(hn:(Tr.ord T).length<4096)(hmm:m+1<=4096)(u a:Int):Calls ja0 62 #[r,u,a] w λe w'=>e=.returned (.tuple #[Tr.su T u a,Tr.lH T u a])/\∃g' c' m' K',Doc w' r g' c' m' K' (Tr.jF T u a)/\m'<=m+1/\DG r g K T w w' g' K' (Tr.jF T u a):=by
 by_cases hE:Tr.lH T u a=0
 . have hI:Tr.su T u a=Tr.free T:=by unfold Tr.su;rw[if_pos hE]
   have hR:Tr.jF T u a=Tr.nR T (Tr.free T) u a.toNat:=by unfold Tr.jF;rw[if_pos hE]
   rw[hI,hR,hE];unfold Tr.lH at hE;cases hu:T u with
   | none=>rw[hu]at hE;cases hE
   | some p =>
     rw[hu]at hE;dsimp only at hE;split at hE
     . cases hE
     . split at hE
       . cases hE
       . rename_i h1 h2
         obtain⟨d,h3,h4,h5⟩:=H.iB hu;obtain⟨hfr,_⟩:=H.IK;obtain⟨k,hk⟩:∃k:Nat,Tr.free T=k:=⟨(Tr.free T).toNat,by have:=hfr.1;omega⟩;obtain⟨i,rfl⟩:∃i:Nat,a=i:=⟨a.toNat,by omega⟩;rw[hk]at hfr;rw[hk,Int.toNat_natCast];have hkm:k<m\/k=m:=by
          rcases Nat.lt_trichotomy k m with q|q|q
          . exact .inl q
          . exact .inr q
          . have h6:=hfr.2.2 (m:Int) ak ak
            cases e:T (m:Int)with
            | none=>exact absurd e h6
            | some nd=>have:=h.range _ nd e;omega
         rcases hkm with hkm|hkm
         . exact Vh h H hn hmm hu rfl ak h4 ak hfr hkm
         . exact Vi h H hn hmm hu rfl ak h4 ak hfr hkm
 . refine(ab9 h H hn hE).mono ?_
   rintro e w' ⟨rfl,hd,hg⟩;exact⟨rfl,g,c,m,K,hd,by omega,hg⟩
structure Two(W:World)(t r g c m n n0:Nat)(L:Lay)(K:Int->Value)(T U:Tr.T):Prop where
 good:Good W t L T n n0
 doc:Doc W r g c m K U
 own:∀b,iT r g K U b->n0<=b
 apart:∀b,owned t L T b->¬ iT r g K U b
section
variable {W W':World} {t r g c m n n0:Nat} {L:Lay} {K:Int->Value} {T U:Tr.T}
theorem Two.after(h:Two W t r g c m n n0 L K T U)(hb:Below W W W'):Two W' t r g c m n n0 L K T U:=⟨h.good.after hb,h.doc.after hb,h.own,h.apart⟩
theorem Two.code{n':Nat}{L':Lay}{T':Tr.T}(h:Two W t r g c m n n0 L K T U)(hg:Good W' t L' T' n' n0)(k:Grow t L L' T T' W W'):Two W' t r g c m n' n0 L' K T' U :=
 ⟨hg,h.doc.out (M:=owned t L T) (λb hb q=>h.apart b q hb) k.1,h.own,λb hb hd=>(k.2 b hb).elim (λq=>h.apart b q hd) λq=>absurd (h.doc.lt hd) ak⟩
theorem Two.ref{g' c' m':Nat}{K':Int->Value}{U':Tr.T}(h:Two W t r g c m n n0 L K T U)(hd:Doc W' r g' c' m' K' U')(k:DG r g K U W W' g' K' U')(h0:n0<=W.heap.size):Two W' t r g' c' m' n n0 L K' T U'/\Below n0 W W' :=
 ⟨⟨⟨⟨h.good.inv.rep.out (M:=iT r g K U) (λb hb q=>h.apart b hb q) k.1,h.good.inv.wf,h.good.inv.num⟩,h.good.own,h.good.fit⟩,hd,λb hb=>(k.2 b hb).elim (h.own b) λq=>aH h0 q,λb hb hd'=>(k.2 b hd').elim (h.apart b hb) λq=>absurd (h.good.inv.rep.lt hb) ak⟩,
  k.1.below h0 λb hb q=>absurd (h.own b q) ak⟩
end
theorem ZQ{t r g c m n n0:Nat}{L:Lay}{T:Tr.T}(h:Two w t r g c m n n0 L K T T)(hn:n<4096)(hm:m+1<=4096)(h0:n0<=w.heap.size){x:tF}(hx:Nj x):Calls ja0 25 #[t,r,.agg (eD x)] w λe w'=>e=.returned (.bool true)/\∃L' g' c' m' n' K',Two w' t r g' c' m' n' n0 L' K' (Vd T x) (Vd T x)/\n'<=n+1/\m'<=m+1/\Below n0 w w':=by
 have hA:At (w.alloc (.cells (eD x) 76)) w.heap.size (.cells (eD x) 76):=At.new _ _;have hB:Below w w (w.alloc (.cells (eD x) 76)):=aB aD _;have h1:=h.after hB;have hB0:=hB.mono h0;have hs1:n0<=(w.alloc (.cells (eD x) 76)).heap.size:=by simp;omega
 have FU:(Tr.ord T).length<4096:=by rw[h.good.inv.num];exact hn
 have H:=h.good.inv.wf;have Yn:¬ owned t L T w.heap.size:=λq=>absurd (h.good.inv.rep.lt q) ak;have hlt:w.heap.size<(w.alloc (.cells (eD x) 76)).heap.size:=by simp
 have HA:=ah hA;clear h hB hA;have kR:=Np h1.good hs1 hx.a;have kM:=Ve h1.good hs1 (a:=x.c) hx.a hx.b;have kA:=Nn h1.good hn hs1 (a:=x.b) hx.a;have kS:=E8 h1.good hs1 hx.a hx.s;have dR:=ah λW (h:Doc W r g c m K T)=>Nw h H x.a;have dM:=ah λW (h:Doc W r g c m K T)=>Vl h H x.a x.b x.c;have dA:=ah λW (h:Doc W r g c m K T)=>ZP h H FU hm x.a x.b;have dS:=ah λW (h:Doc W r g c m K T)=>ZN h x.a x.s;have HG:=ah h1;have HX:=ah hx;have ace:Hid (∀(W:World) (L':Lay) (T':Tr.T),Grow t L L' T T' (w.alloc (.cells (eD x) 76)) W->At W w (.cells (eD x) 76)):=ah λW L' T' k=>HA.out.out Yn k.1;clear h1 hx;generalize hI1:Tr.wJ T x.a=rI at kR dR;generalize hE1:Tr.ql T x.a=rE at kR dR;generalize hI2:Tr.iY T x.a x.b x.c=mE at kM dM;generalize hI3:Tr.su T x.a x.b=aI at kA dA;generalize hE3:Tr.lH T x.a x.b=aE at kA dA;generalize Ud:qX T x.a x.s=sE at kS dS;clear hI1 hE1 hI2 hI3 hE3 Ud;have c0:(w.alloc (.cells (eD x) 76)).cell? ⟨w,0,none⟩=some (.int .i64 x.k):=by rw[HA.out.cell,mK x ak];rfl
 have c1:(w.alloc (.cells (eD x) 76)).cell? ⟨w,1,none⟩=some (.int .i64 x.a):=by rw[HA.out.cell,mK x ak];rfl
 have c2:(w.alloc (.cells (eD x) 76)).cell? ⟨w,2,none⟩=some (.int .i64 x.b):=by rw[HA.out.cell,mK x ak];rfl
 have c3:(w.alloc (.cells (eD x) 76)).cell? ⟨w,3,none⟩=some (.int .i64 x.c):=by rw[HA.out.cell,mK x ak];rfl
 have hs:Hid (uf (w.alloc (.cells (eD x) 76)) w.heap.size 4 x.s):=ah λj hj=>by rw[HA.out.cell,xR x hj]
 go_enter Tryz.func25,Tryz.ntmps25
 go_upto_region 1 with(fail)
 generalize w.alloc (.cells (eD x) 76)=w1 at *;by_cases e2:x.k.tmod 5=2
 . have hd:Hid (Vd T x=Tr.mq T x.a):=ah (by unfold Vd;rw[if_pos e2])
   clear kM kA kS dM dA dS
   go_upto_region 5 with(first|(go_at_call 57;(with_reducible refine kR.mono ?_);rintro e w2 ⟨rfl,L',n',hi,hl,hg,hb2⟩;have ZR:=ah (HG.out.code hi hg);have hA2:=ace.out _ _ _ hg;have c12:w2.cell? ⟨w,1,none⟩=some (.int .i64 x.a):=Z43;have HB2:=ah hb2;clear c0 c1 c2 c3 hA2 hi hg hb2)|(go_at_call 58;(with_reducible refine(dR.out _ ZR.out.doc).mono ?_);rintro e w3 ⟨rfl,K',hd3,hg3⟩))
   have hn2:=aH hs1 HB2.out.size;obtain⟨tw,hb⟩:=ZR.out.ref hd3 hg3 (aH hs1 HB2.out.size);have HTW:=ah tw;have HB:=ah ((hB0.trans HB2.out).trans hb);clear tw hb hd3 hg3;go_wp2
   go_ret
   rw[hd.out];exact⟨rfl,L',g,c,m,n',K',HTW.out,by omega,by omega,HB.out⟩
 by_cases e3:x.k.tmod 5=3
 . have hd:Hid (Vd T x=Tr.jZ T x.a x.b x.c):=ah (by unfold Vd;rw[if_neg e2,if_pos e3])
   clear kR kA kS dR dA dS
   go_upto_region 9 with(first|(go_at_call 59;(with_reducible refine kM.mono ?_);rintro e w2 ⟨rfl,L',hi,hg,hb2⟩;have ZR:=ah (HG.out.code hi hg);have hA2:=ace.out _ _ _ hg;have c12:w2.cell? ⟨w,1,none⟩=some (.int .i64 x.a):=Z43;have c22:w2.cell? ⟨w,2,none⟩=some (.int .i64 x.b):=Z43;have c32:w2.cell? ⟨w,3,none⟩=some (.int .i64 x.c):=Z43;have HB2:=ah hb2;clear c0 c1 c2 c3 hA2 hi hg hb2)|(go_at_call 60;(with_reducible refine(dM.out _ ZR.out.doc).mono ?_);rintro e w3 ⟨rfl,K',hd3,hg3⟩))
   obtain⟨tw,hb⟩:=ZR.out.ref hd3 hg3 (aH hs1 HB2.out.size);have HTW:=ah tw;have HB:=ah ((hB0.trans HB2.out).trans hb);clear tw hb hd3 hg3;go_wp2
   go_ret
   rw[hd.out];exact⟨rfl,L',g,c,m,n,K',HTW.out,by omega,by omega,HB.out⟩
 by_cases e4:x.k.tmod 5=4
 . have hd:Hid (Vd T x=jH T x.a x.s):=ah (by unfold Vd;rw[if_neg e2,if_neg e3,if_pos e4])
   clear kR kA kM dR dA dM
   go_upto_region 13 with(first|(refine fC aQ _ rfl rfl hs.out ?_)|(refine fC aQ _ rfl rfl hs2.out ?_)|(go_at_call 18;(with_reducible refine kS.mono ?_);rintro e w2 ⟨rfl,hi,hg,hb2⟩;have ZR:=ah (HG.out.code hi hg);have hA2:=ace.out _ _ _ hg;have c12:w2.cell? ⟨w,1,none⟩=some (.int .i64 x.a):=Z43;have hs2:Hid (uf w2 w.heap.size 4 x.s):=ah (λj hj=>by rw[hA2.cell,xR x hj]);have HB2:=ah hb2;clear c0 c1 c2 c3 hA2 hi hg hb2 hs)|(go_at_call 61;(with_reducible refine(dS.out _ ZR.out.doc).mono ?_);rintro e w3 ⟨rfl,hd3,hg3⟩))
   obtain⟨tw,hb⟩:=ZR.out.ref hd3 hg3 (aH hs1 HB2.out.size);have HTW:=ah tw;have HB:=ah ((hB0.trans HB2.out).trans hb);clear tw hb hd3 hg3;go_wp2
   go_ret
   rw[hd.out];exact⟨rfl,L,g,c,m,n,K,HTW.out,by omega,by omega,HB.out⟩
 have hd:Hid (Vd T x=Tr.jF T x.a x.b):=ah (by unfold Vd;rw[if_neg e2,if_neg e3,if_neg e4]);clear kR kS kM dR dS dM
 go_upto_region 16 with(first|(go_at_call 19;(with_reducible refine kA.mono ?_);rintro e w2 ⟨rfl,L',n',hi,hl,hg,hb2⟩;have ZR:=ah (HG.out.code hi hg);have hA2:=ace.out _ _ _ hg;have c12:w2.cell? ⟨w,1,none⟩=some (.int .i64 x.a):=Z43;have c22:w2.cell? ⟨w,2,none⟩=some (.int .i64 x.b):=Z43;have HB2:=ah hb2;clear c0 c1 c2 c3 hA2 hi hg hb2)|(go_at_call 62;(with_reducible refine(dA.out _ ZR.out.doc).mono ?_);rintro e w3 ⟨rfl,g',c',m',K',hd3,hm3,hg3⟩))
 obtain⟨tw,hb⟩:=ZR.out.ref hd3 hg3 (aH hs1 HB2.out.size);have HTW:=ah tw;have HB:=ah ((hB0.trans HB2.out).trans hb);clear tw hb hd3 hg3;go_wp2
 go_ret
 rw[hd.out];exact⟨rfl,L',g',c',m',n',K',HTW.out,hl,hm3,HB.out⟩
def VT(T:Tr.T):Prop:=∀z nd,T z=some nd->Re.valid nd.sty=true/\zf nd.sty=true
theorem R4:Re.valid Re.zero=true/\zf Re.zero=true:=⟨by decide +kernel,by decide +kernel⟩
theorem VT.le{T T':Tr.T}(h:VT T)(k:dK T' T):VT T':=λz nd hz=>by
 rcases k z nd hz with e|⟨q,hq,e⟩
 . rw[e];exact R4
 . rw[<-e];exact h z q hq
theorem VT.sty{T:Tr.T}(h:VT T)(z:Int){s:Re.St}(hs:zf s=true):VT (jH T z s):=by
 unfold Fix.jH;split
 . rename_i he
   have hv:Re.valid s=true:=by
    unfold qX at he;split at he
    . cases he
    . split at he
      . cases he
      . rename_i h2
        simpa using h2
   unfold Tr.FJ;split
   . exact h
   . intro y nd hy
     by_cases e:y=z
     . subst e;rw[Tr.aP]at hy;cases hy;exact⟨hv,hs⟩
     . rw[Tr.aK _ _ e]at hy;exact h y nd hy
 . exact h
theorem VT.act{T:Tr.T}(h:VT T){x:tF}(hs:zf x.s=true):VT (Vd T x):=by
 unfold Vd;split
 . exact h.le (dK.mq _ _)
 . split
   . exact h.le (dK.jZ _ _ _ _)
   . split
     . exact h.sty _ hs
     . exact h.le (dK.jF _ _ _)
theorem ahQ:VT T0:=λz nd hz=>by
 unfold T0 at hz;split at hz
 . cases hz;exact R4
 . cases hz
def acf(W:World)(n0 t r:Nat):Prop:=∃g c m n L K T,Two W t r g c m n n0 L K T T/\n<=31/\VT T/\∀x d,Tr.Dp T x d->d<=6
theorem Ig.sty{W:World}{b o:Nat}{x:tF}(h:Ig W b o x):uf W b (o+4) x.s:=λj hj=>by
 have:=h (4+j) ak;rw[xR x hj]at this
 rwa [Nat.add_assoc]
theorem QA{a0:Option Addr}{tN:Nat}(cap0:Nat){l:Nat->tF}(hA:ZB w a0 tN l):Calls ja0 6 #[.slice a0 tN cap0] w λe w'=>(∃tb rb ok,e=.returned (.tuple #[.pointer (some ⟨tb,0,none⟩),.pointer (some ⟨rb,0,none⟩),.bool ok])/\(ok=true->acf w' w.heap.size tb rb))/\Below w w w':=by
 have HA:=ah hA;clear hA;go_enter Tryz.func6,Tryz.ntmps6
 go_upto_region 3 with(first|(go_at_call 17;(with_reducible refine(Nq _).mono ?_);rintro e w2 ⟨⟨tb,rfl,L0,g0⟩,hb2⟩)|(go_at_call 23;(with_reducible refine(ZM _).mono ?_);rintro e w3 ⟨⟨rb,rfl,g3,c3,K3,d3,ae9⟩,hb3⟩))
 have g1:=g0.after hb3;have hsz2:=hb2.size;have ahR:Hid (Two w3 tb rb g3 c3 1 1 w.heap.size L0 K3 T0 T0):=ah ⟨g1,d3,λb hb=>by have:=ae9 b hb;omega,λb hb hd=>by have h1:=ae9 b hd;have h2:=g0.inv.rep.lt hb;omega⟩;have HB3:=ah (hb2.trans (hb3.mono hsz2));clear g0 g1 d3 ae9 hb2 hb3 hsz2;by_cases hbig:(30:Int)<(tN:Int)
 . go_wp2
   go_ret3
   exact⟨⟨tb,rb,false,rfl,λh=>by cases h⟩,HB3.out⟩
 go_wp2
 go_loopw [7] (λi wr=>∃k Lr g c m K R5 n,k<=tN/\i=.int .i64 (k:Int)/\Two wr tb rb g c m n w.heap.size Lr K R5 R5/\n<=k+1/\m<=k+1/\VT R5/\Below w w wr) (λi _=>tN-(intOf i).toNat)
 case atStart=>exact⟨0,L0,g3,c3,1,K3,T0,1,by omega,rfl,ahR.out,by omega,by omega,ahQ,HB3.out⟩
 case round =>
  clear ahR HB3;obtain⟨k,Lr,g,c,m,K,R5,n,hk,rfl,hgr,hnk,hmk,hvt,hbr⟩:=hrel;have HGr:=ah hgr;have HBr:=ah hbr;have HVT:=ah hvt;have hnr:=hbr.size;clear hgr hvt;by_cases hlt:k<tN
  . have hltz:(k:Int)<(tN:Int):=by omega
    obtain⟨b,off,rfl,lb,hc⟩:=(HA.out.after hbr) ak;obtain⟨hf,ha⟩:=hc k hlt;have HF:=ah hf;have ahS:=ah ha;have HST:=ah ha.sty;have kT:=λX=>Qv (l k).s X;clear hf ha hc hbr;cases htm:zf (l k).s
    . rw[htm]at kT
      go_wp2_with (first|(refine fC aQ _ rfl rfl HST.out ?_)|(go_at_call 24;(with_reducible refine(kT _).mono ?_);rintro e w5 ⟨rfl,hb5⟩))
      go_ret3
      exact⟨⟨tb,rb,false,rfl,λh=>by cases h⟩,HBr.out.trans (hb5.mono hnr)⟩
    rw[htm]at kT
    go_upto_region 10 with(first|(refine fC aQ _ rfl rfl HST.out ?_)|(go_at_call 24;(with_reducible refine(kT _).mono ?_);rintro e w5 ⟨rfl,hb5⟩))
    have HB5:=ah (HBr.out.trans (hb5.mono hnr));have hn5:=aH hnr hb5.size;have Yl:=ZQ (HGr.out.after hb5) ak ak hn5 HF.out;have ahT:Hid (Ig w5 b (off+k*59) (l k)):=ah λj hj=>(hb5.cell (p:=⟨b,off+k*59+j,none⟩) lb).trans (ahS.out j hj);have lb5:=aU lb hb5.size;clear kT hb5 ahS HST HGr HBr
    go_wp2_with (first|(refine Ck aQ _ rfl rfl ahT.out ?_)|(go_at_call 25;(with_reducible refine Yl.mono ?_);rintro e w4 ⟨rfl,L4,g4,c4,m4,n4,K4,tw4,hn4,hm4,hb4⟩))
    go_roundw
    case rel=>exact⟨k+1,L4,g4,c4,m4,K4,Vd R5 (l k),n4,by omega,by go_num,tw4,by omega,by omega,HVT.out.act htm,HB5.out.trans hb4⟩
    case measure=>simp[intOf];omega
  . have hltz:¬ (k:Int)<(tN:Int):=by omega
    obtain rfl:k=tN:=by omega
    clear hbr HA;have H:=HGr.out.good.inv.wf;have nM:=p8 64 0 HGr.out.doc H.uw (by have:=H.iA;unfold Tr.ord at this;omega);change Calls _ _ _ _ (λe w'=>(∃v,e=.returned v/\w'.ownsRow _ _ 1 v (Tr.ord R5).length ((Tr.ord R5).map (Value.int .i64)))/\_)at nM;have ahU:=ah HGr.out.good.inv.num
    go_upto_region 13 with(go_at_call 26;(with_reducible refine nM.mono ?_);rintro e w5 ⟨⟨v5,rfl,ho5⟩,hb5⟩;obtain⟨A5,c5,rfl⟩:=dX ho5)
    have hk5:=dP (base':=0) ho5 oq;obtain⟨A6,c6,e6,hI6,-⟩:=KS.ints (show KS w5 (.slice A5 (Tr.ord R5).length c5) (Tr.ord R5)from hk5);injection e6 with e7 e8 e9;subst e7;have HI:=ah hI6;have HG5:=ah (HGr.out.after hb5);have HB5:=ah (HBr.out.trans (hb5.mono hnr));have HO:Hid (∃o,Tr.ord R5=o):=ah ⟨_,rfl⟩;clear ho5 hk5 hb5 nM HGr HBr hI6 e8 e9;obtain⟨o,ho⟩:=HO.out;rw[ho]at HI;rw[ho]at ahU;rw[ho];have hno:=ahU.out;rw[hno];go_wp2
    go_loopw [9] (λi wr=>∃j:Nat,j<=n/\i=.int .i64 (j:Int)/\Below w5 w5 wr/\∀q,q<j->Tr.dep R5 (o.getD q 0)<=6) (λi _=>n-(intOf i).toNat)
    case atStart=>exact⟨0,by omega,rfl,Below.refl _ _,λq hq=>by omega⟩
    case round =>
     obtain⟨j,hj,rfl,hb6,hall⟩:=hrel;have ahV:=ah hall;clear hall;by_cases hjn:j<n
     . have hjz:(j:Int)<(n:Int):=by omega
       obtain⟨b6,o6,rfl,lb6,cx⟩:=(HI.out.after hb6).at_ (k:=j) ak;have OH:=(tH (HG5.out.after hb6).doc H (o.getD j 0));obtain⟨z,hz⟩:=aA (o.getD j 0);obtain⟨d,hd⟩:=aA (Tr.dep R5 z);rw[hz]at cx OH;rw[hd]at OH;have HZ:Hid (Tr.dep R5 (o.getD j 0)=d):=ah (by rw[hz,hd]);clear hz hd;by_cases h6:6<d
       . go_wp2_with (go_at_call 27;(with_reducible refine OH.mono ?_);rintro e w7 ⟨rfl,rfl⟩)
         go_ret3
         exact⟨⟨tb,rb,false,rfl,λh=>by cases h⟩,HB5.out.trans (hb6.mono HB5.out.size)⟩
       go_wp2_with (go_at_call 27;(with_reducible refine OH.mono ?_);rintro e w7 ⟨rfl,rfl⟩)
       go_roundw
       case rel=>exact⟨j+1,by omega,by go_num,hb6,λq hq=>by
        by_cases e:q=j
        . subst e;rw[HZ.out];omega
        . exact ahV.out q ak⟩
       case measure=>simp[intOf];omega
     . have hjz:¬ (j:Int)<(n:Int):=by omega
       obtain rfl:j=n:=by omega
       go_wp2
       go_ret3
       refine⟨⟨tb,rb,.inr ⟨rfl,g,c,m,_,Lr,K,R5,HG5.out.after hb6,by omega,HVT.out,λx d hx => ?_⟩⟩,HB5.out.trans (hb6.mono HB5.out.size)⟩;obtain⟨nd,hnd⟩:=hx.live;have hm:x∈o:=by rw[<-ho];exact H.fq.2 ⟨nd,hnd⟩
       obtain⟨q,hq,he⟩:=List.mem_iff_getElem.1 hm;have:=ahV.out q ak;rw[List.getD,ja6 hq,Option.getD_some,he,H.IJ hx]at this;omega
end
section
open Go.Deep
theorem Fb.ids{T:Tr.T}{n:Nat}(M:Fb T n)(ww wh:Int):((yZ T ww wh).map (·.id)).Nodup:=by
 unfold yZ;split
 . exact(M.Fg ww wh).1
 . exact .nil
end
section
open List renaming mem_cons_self → jb0
theorem tO(a b c d:Int)(W:World):(binOp .neq 40 (.agg #[a,b,c,d]) (.agg #[.int .i64 a,.int .i64 b,.int .i64 c,.int .i64 d])).run ja0 W=.ok (.bool false) W:=by
 rw[run_neq_struct];go_simp
theorem Fq{m:Int}(h:0<=m):Fx.clamp 0 0 m=0:=by
 have e:Fx.cut 0=0:=rfl;have h1:=Fx.VR (n:=0) h;unfold Fx.clamp at *;rw[e]at *;have:0<=Fx.cut m:=by unfold Fx.cut;omega
 split<;>omega
theorem ae'(T:Tr.T)(R:Int->Option Pr)(z:Int):U4 O0 z (Ah T R z).1 (Ah T R z).2=(0,0):=by
 obtain⟨h1,h2⟩:=ab7 T R z;unfold U4 O0;simp only[Option.getD_none];rw[Fq h1,Fq h2]
theorem acg(p:Pr)(a b:Int):(p.mv a b).mv (-0) (-0)=p.mv a b:=by
 unfold Pr.mv Fx.add Fx.cut;simp only[Pr.mk.injEq,and_true];constructor<;>omega
theorem still_at{T:Tr.T}{R:Int->Option Pr}{q:Pr}(H:Tr.WF T){z:Int}{nd:Tr.Nd}(hT:T z=some nd){v:Pr×Pr}(hs:RN T R O0 q z=some v) :
  (R z).isSome=true/\((z=0\/(bV T z).c 1=3)->v.1=(R z).getD p0)/\(z=0->v.2=q)/\(z≠0->(bV T z).c 1≠3->(bV T z).c 1≠4->v.1=((R z).getD p0).mv ((RN T R O0 q nd.up).getD (p0,p0)).1.x ((RN T R O0 q nd.up).getD (p0,p0)).1.y):=by
 by_cases h0:z=0
 . subst h0
   rw[Nh H hT]at hs;split at hs
   . rename_i hr
     cases hs;exact⟨hr,λ_=>rfl,λ_=>rfl,λh=>absurd rfl h⟩
   . cases hs
 . rw[Y5 H hT h0]at hs
   split at hs
   . rename_i hr
     cases hs;refine⟨hr.1,λh => ?_,λh=>absurd h h0,λ_ h3 h4 => ?_⟩
     . unfold Qq
       rw[if_pos (h.resolve_left h0)]
     . unfold Qq
       rw[if_neg h3,if_neg h4,ae'];exact acg _ _ _
   . cases hs
theorem ZT{T:Tr.T}{ww wh:Int}(h:RL T ww wh 0=none):yZ T ww wh=[]:=by
 unfold RL yZ at *;split
 . rename_i hs
   rw[if_pos hs]at h;exfalso;unfold RLl at h;rw[Option.map_eq_none_iff,List.find?_eq_none]at h;have hm:wX T ww wh∈tl (qH T) ww wh 64 (wX T ww wh):=by rw[tl];exact jb0
   have:=h _ hm;rw[show(wX T ww wh).id=0 from rfl]at this;exact absurd rfl this
 . rfl
end
open Go.Deep
open World renaming alloc → ja4
open List renaming getElem?_eq_getElem → ja6
theorem J7(a0:Option Addr)(tN cap0:Nat)(a1 a2:Int)(w:World)(w0:Nl w a0 tN cap0):Calls ja0 4 #[.slice a0 tN cap0,a1,a2] w λe w'=>e=.returned (.bool true)/\Below w w w':=by
 obtain⟨l,hA⟩:=w0.acts;have hmk:=@run_makeMap ja0;clear w0;go_enter Tryz.func4,Tryz.ntmps4
 go_upto_region 4 with(go_at_call 5;(with_reducible refine(Ns _).mono ?_);rintro e w1 ⟨rfl,hb1⟩)
 have kG:=QA cap0 (hA.after hb1);have hs1:=hb1.size;clear hA
 go_upto_region 5 with(go_at_call 6;(with_reducible refine kG.mono ?_);rintro e w2 ⟨⟨tb,rb,ok,rfl,hok⟩,hb2⟩)
 have HB2:=hb1.trans (hb2.mono hs1);have hs2:=hb2.size;clear kG hb1 hb2;cases ok with
 | false =>
   go_wp2
   go_ret
   exact⟨rfl,HB2⟩
 | true =>
 by_cases b4:(1048576:Int)<a1
 . go_wp2
   go_ret
   exact⟨rfl,HB2⟩
 by_cases b5:(1048576:Int)<a2
 . go_wp2
   go_ret
   exact⟨rfl,HB2⟩
 obtain⟨gg,cc,mm,n,L,K,T,two,hn,hvt,hdp⟩:=hok rfl;have g2:=two.good;have M:Fb T n:=⟨g2.inv.wf,g2.inv.num,by omega,λx d h=>by have:=hdp x d h;omega,λz nd h=>(hvt z nd h).1⟩;have HM:=ah M;have HG2:=ah g2;have kL:=ZJ HG2.out HM.out a1 a2;clear two M hvt hdp g2 hok
 go_upto_region 8 with(go_at_call 7;(with_reducible refine kL.mono ?_);rintro e w4 ⟨⟨b1,rfl,ajv,hG1⟩,hb4⟩)
 have hR4:=RM.of hG1 (HM.out.ids _ _);have hln:RL T (max a1 0) (max a2 0) 0=none->(yZ T (max a1 0) (max a2 0)).length=0:=λh=>by rw[ZT h];rfl
 obtain⟨R,hR⟩:=aA (RL T (max a1 0) (max a2 0));obtain⟨nl,hnl⟩:=aA ((yZ T (max a1 0) (max a2 0)).length);rw[hnl]at hG1 hln;rw[hR]at hR4 hln;have HLN:=ah hln;have HB4:=HB2.trans (hb4.mono HB2.size);have HG4:=ah (HG2.out.after hb4);have HR4:=ah hR4;have ahW:=ah hG1;have HH:=ah HM.out.wf;have hs4:=aH hs2 hb4.size;have Fv:OM (w4.alloc (.map #[] 0)) w4.heap.size O0:=⟨_,_,GM.made _ _,λz=>rfl⟩;have hb5:Below w4 w4 (w4.alloc (.map #[] 0)):=aB aD _;have kS:=Bp (HG4.out.after hb5).inv.rep (HR4.out.keep hb5) HH.out w4.heap.size Fv a1 a2;clear kL HB2 HG2 hb4 hG1 hR ajv hR4 Fv hnl hln
 go_upto_region 9 with(go_at_call 9;(with_reducible refine kS.mono ?_);rintro e w6 ⟨⟨ms,rfl,gms,qE⟩,hb6⟩)
 have Vm:=hb5.trans (hb6.mono hb5.size);have hs6:=Vm.size;obtain⟨q,hq⟩:=aA (Qt a1 a2);rw[hq]at qE;have HQ:=ah hq;obtain⟨S,hS⟩:=aA (RN T R O0 q);obtain⟨N,hN⟩:=aA (Y8 S (Tr.ord T))
 have HST:Hid (∀z nd v,T z=some nd->S z=some v->(R z).isSome=true/\((z=0\/(bV T z).c 1=3)->v.1=(R z).getD p0)/\(z=0->v.2=q)/\(z≠0->(bV T z).c 1≠3->(bV T z).c 1≠4->v.1=((R z).getD p0).mv ((S nd.up).getD (p0,p0)).1.x ((S nd.up).getD (p0,p0)).1.y)):=ah λz nd v h1 h2=>by
  rw[<-hS]at h2 ⊢;exact still_at HH.out h1 h2
 have HS0:Hid ((R 0).isSome=true->(S 0).isSome=true):=ah λh=>by
  obtain⟨nd,h0,_⟩:=HH.out.root;rw[<-hS,Nh HH.out h0,if_pos h];rfl
 rw[hS,hN]at qE;have HG6:=ah (HG4.out.after Vm);have HR6:=ah (HR4.out.keep Vm);have ahX:=ah (ahW.out.keep Vm);have HB6:=HB4.trans (Vm.mono HB4.size);have HS6:=ah qE;have kO:=Qu HG6.out;clear kS hb5 hb6 hq hS hN qE HG4 HR4 ahW HB4 Vm hmk gms
 go_upto_region 10 with(go_at_call 12;(with_reducible refine kO.mono ?_);rintro e wa ⟨⟨v,rfl,hk⟩,hba⟩;obtain⟨A,c,rfl,hI,-⟩:=hk.row.ints)
 have HBa:=HB6.trans (hba.mono HB6.size);have HSA:=ah (HS6.out.keep hba);have HGA:=ah (HG6.out.after hba);have HRA:=ah (HR6.out.keep hba);have ajw:=ah (ahX.out.keep hba);have HI:=ah hI;have HOR:Hid (∀x∈Tr.ord T,∃nd,T x=some nd):=ah λx hx=>HM.out.wf.fq.1 hx;clear kO HB6 HS6 HG6 HR6 ahX hba hI hk;obtain⟨o,ho⟩:=aA (Tr.ord T);rw[ho]at HI HOR ⊢;have hol:o.length<=64:=by rw[<-ho,HM.out.num];exact HM.out.few
 obtain⟨no,hno⟩:=aA o.length;rw[hno]at hol ⊢;have HNO:=ah hno;have hsa:=HBa.size;clear ho hno;go_wp2
 go_loopw [14] (λi wr=>∃j:Nat,j<=no/\i=.int .i64 (j:Int)/\Below wa wa wr) (λi _=>no-(intOf i).toNat)
 case atStart=>exact⟨0,by omega,rfl,Below.refl _ _⟩
 case round =>
  obtain⟨j,hj,rfl,hbr⟩:=hrel;have hsr:=hbr.size;by_cases hjn:j<no
  . have hjz:(j:Int)<(no:Int):=by omega
    obtain⟨ba,oa,rfl,lba,cx⟩:=(HI.out.after hbr).at_ (k:=j) (by rw[HNO.out];exact hjn);obtain⟨nd,hnd⟩:=HOR.out (o.getD j 0) (by rw[List.getD,ja6 (by rw[HNO.out];exact hjn)];exact List.getElem_mem _);obtain⟨x,hx⟩:=aA (o.getD j 0);rw[hx]at cx hnd;have hxw:Wf x:=(iM _).2 (by have:=HM.out.wf.range x nd hnd;omega);have HND:=ah hnd;obtain⟨⟨⟨s0,s1,s2,s3⟩,⟨t0,t1,t2,t3⟩⟩,hsx⟩:=aA ((S x).getD (p0,p0));have hla:=(HSA.out.keep hbr).look_ok hxw hsx;obtain⟨st,hst⟩:=aA (bV T x);have kSt:=λX (h:Below wa wa X)=>dN (HGA.out.after h).inv.rep hxw;simp only[show(T x).elim Re.zero (·.sty)=st from hst]at kSt;have QZ:=ah kSt;have hfp:=uo st;clear hx hnd kSt;cases hsb:S x with
    | none =>
      rw[hsb]at hla;have hbd:Below wr wr (wr.alloc (.cells #[s0,s1,s2,s3,t0,t1,t2,t3] 42)):=aB aD _;have ajx:=hbr.trans (hbd.mono hsr);simp only[Option.isSome_none]at hla;clear hsb hsx hst hbd;go_wp2
      go_roundw
      case rel=>exact⟨j+1,by omega,by go_num,ajx⟩
      case measure=>simp[intOf];omega
    | some v =>
      rw[hsb]at hla;simp only[Option.isSome_some]at hla;have hv:v=(⟨s0,s1,s2,s3⟩,⟨t0,t1,t2,t3⟩):=by rw[hsb]at hsx;exact hsx
      obtain⟨hr1,hr2,hr3,hr4⟩:=HST.out x nd v HND.out hsb;rw[hst,hv]at hr2 hr4;have HR1:=ah hr1;have HR2:=ah hr2;have Vn:=ah hr4;clear hsb hsx hst hv hr1 hr2 hr3 hr4
      go_upto_region 14 with(fail)
      generalize hW:ja4 _ _=wd;have A15:At wd wr (.cells #[s0,s1,s2,s3,t0,t1,t2,t3] 42):=hW▸At.new _ _;have hb1':Below wr wr wd:=hW▸aB aD _;have hbd:=hbr.trans (hb1'.mono hsr);have YA:=(hb1'.cell (p:=⟨ba,oa+j,none⟩) lba).trans cx;have afa:ba<wd.heap.size:=by have:=hb1'.size;omega
      have hsd:=hbd.size;have J8:=QZ.out wd hbd;clear hW hla cx hbr lba hb1';by_cases c4:st.c 1=4
      . have c4b:(st.c 1==4)=true:=by simp[c4]
        clear HR1 HR2 Vn
        go_wp2_with (go_at_call 13;(with_reducible refine J8.mono ?_);rintro e w7 ⟨rfl,mX⟩)
        go_roundw
        case rel=>exact⟨j+1,by omega,by go_num,hbd.trans (mX.mono hsd)⟩
        case measure=>simp[intOf];omega
      . have c4b:(st.c 1==4)=false:=by simp[c4]
        go_upto_region 15 with(go_at_call 13;(with_reducible refine J8.mono ?_);rintro e w7 ⟨rfl,mX⟩)
        have A7:=A15.keep mX;have ach:=hbd.trans (mX.mono hsd);have cx7:=(mX.cell (p:=⟨ba,oa+j,none⟩) afa).trans YA;have afb:ba<w7.heap.size:=aU afa mX.size;have hs7:=ach.size;obtain⟨⟨r0,r1,r2,r3⟩,hrr⟩:=aA ((R x).getD p0);have hlr:=(HRA.out.keep ach).look hxw;rw[hrr]at HR2 Vn hlr;clear A15 hbd YA afa J8 mX hsd hrr
        go_upto_region 16 with(fail)
        generalize hW:ja4 _ _=w8;have A17:At w8 w7 (.cells #[r0,r1,r2,r3] 40):=hW▸At.new _ _;have ZU:Below w7 w7 w8:=hW▸aB aD _;have A8:=A7.keep ZU;have vB:=ach.trans (ZU.mono hs7);have cx8:=(ZU.cell (p:=⟨ba,oa+j,none⟩) afb).trans cx7;have afc:ba<w8.heap.size:=aU afb ZU.size;have hs8:=vB.size;have J8:=QZ.out w8 vB;have n78:wr.heap.size<w7.heap.size:=A7.lt;clear hW hlr A7 ach cx7 afb ZU hs7;by_cases h0:x=0
        . have h0b:(x != 0)=false:=by simp[h0]
          have e:=HR2.out (.inl h0);simp only[Pr.mk.injEq]at e;obtain⟨rfl,rfl,rfl,rfl⟩:=e;clear Vn HR2 HR1
          skip
          obtain⟨l1,d0,d1,d2,d3,d4,d5,d6,d7⟩:=A8.eight;obtain⟨l2,f0,f1,f2,f3⟩:=At.four A17;have hneq:=tO s0 s1 s2 s3;clear J8;go_wp2
          go_roundw
          case rel=>exact⟨j+1,by omega,by go_num,vB⟩
          case measure=>simp[intOf];omega
        . have h0b:(x != 0)=true:=by simp[h0]
          by_cases c3:st.c 1=3
          . have c3b:(st.c 1 != 3)=false:=by simp[c3]
            have e:=HR2.out (.inr c3);simp only[Pr.mk.injEq]at e;obtain⟨rfl,rfl,rfl,rfl⟩:=e;clear Vn HR2 HR1
            go_upto_region 19 with(go_at_call 13;(with_reducible refine J8.mono ?_);rintro e w9 ⟨rfl,fF⟩)
            have A9:=A8.keep fF;have VD:=A17.keep fF;have hbf:=vB.trans (fF.mono hs8)
            skip
            obtain⟨l1,d0,d1,d2,d3,d4,d5,d6,d7⟩:=A9.eight;obtain⟨l2,f0,f1,f2,f3⟩:=At.four VD;have hneq:=tO s0 s1 s2 s3;clear J8;go_wp2
            go_roundw
            case rel=>exact⟨j+1,by omega,by go_num,hbf⟩
            case measure=>simp[intOf];omega
          . have c3b:(st.c 1 != 3)=true:=by simp[c3]
            have e:=Vn.out h0 c3 c4;have HE:=ah e;have hup:=rO HND.out;obtain⟨pd,hpd,_⟩:=HH.out.up x nd HND.out h0;have huw:Wf nd.up:=(iM _).2 (by have:=HH.out.range _ _ hpd;omega);have kUp:=λX (h:Below wa wa X)=>nU (HGA.out.after h).inv.rep hxw;simp only[hup]at kUp;obtain⟨⟨⟨u0,u1,u2,u3⟩,⟨v0,v1,v2,v3⟩⟩,hsu⟩:=aA ((S nd.up).getD (p0,p0));have hlu:=λX (h:Below wa wa X)=>(HSA.out.keep h).sm.look huw hsu;have hfs:=vO u0 u1 u2 u3 v0 v1 v2 v3;rw[hsu]at HE;obtain⟨⟨m0,m1,m2,m3⟩,hmm⟩:=aA ((⟨r0,r1,r2,r3⟩:Pr).mv u0 u1);have HE2:Hid ((⟨s0,s1,s2,s3⟩:Pr)=⟨m0,m1,m2,m3⟩):=ah (by rw[<-hmm];exact HE.out);have kMv:=λX=>CO ⟨r0,r1,r2,r3⟩ u0 u1 X;simp only[hmm,Pr.ag]at kMv;have HKU:=ah kUp;have HLU:=ah hlu;clear Vn HR2 HR1 e HE hup hpd hsu hmm kUp hlu
            go_upto_region 17 with(go_at_call 13;(with_reducible refine J8.mono ?_);rintro e w9 ⟨rfl,fF⟩)
            have A9:=A8.keep fF;have VD:=A17.keep fF;have hbf:=vB.trans (fF.mono hs8);have cx9:=(fF.cell (p:=⟨ba,oa+j,none⟩) afc).trans cx8;have ajy:ba<w9.heap.size:=aU afc fF.size;have kU9:=HKU.out w9 hbf;have lu9:=HLU.out w9 hbf;have hs9:=hbf.size;clear A8 A17 vB cx8 afc J8 fF HKU HLU hs8
            go_upto_region 18 with(go_at_call 14;(with_reducible refine kU9.mono ?_);rintro e w' ⟨rfl,rfl⟩)
            generalize hW:ja4 _ _=wb;have A18:At wb w9 (.cells #[u0,u1,u2,u3] 40):=hW▸At.new _ _;have aci:Below w9 w9 wb:=hW▸aB aD _;have hbb:=hbf.trans (aci.mono hs9);have A11:=A9.keep aci;have A12:=VD.keep aci;have ajz:=hbb.size;have n79:w7.heap.size<w9.heap.size:=VD.lt;clear hW kU9 lu9 cx9 ajy aci A9 VD hbf hfs;obtain⟨l3,e0,e1,e2,e3⟩:=At.four A18;have hSd:Below wb wb wb.drew:=Below.drew aD;refine gZ (S:=λX=>Below wb wb X) 7 ?_ ?_
            . exact hSd
            intro hx;clear hSd;refine jc 0 rfl (lW (.tmp 17) aQ rfl rfl (λX h=>A12.keep h)) ?_;refine aG 1 ?_;refine aG 2 ?_;refine aG 3 ?_;refine aG 4 ?_;refine tk1 5 ?_;refine aj.Step.call eB (oM u0 u1 _) ?_;rintro e y5 ⟨rfl,rfl⟩;refine⟨_,rfl,λ_=>hx,?_⟩
            (try simp only[bN,bO,bP,tks])
            refine tk1 6 ?_;refine Ao (kMv _) hx ?_;clear hx;intro y6 hx;refine tk1 7 ?_;refine aj.Step.skip (aS (q:=0) qc (.tmp 17) (.tmp 114) rfl rfl rfl (A12.keep hx) rfl aV (qd _ _ _ _)) ?_;rw[dL (cs:=#[r0,r1,r2,r3]) (vs:=#[m0,m1,m2,m3]) rfl];have A13:=At.setRow (A12.keep hx) #[m0,m1,m2,m3];have A14:=At.fT (A11.keep hx) (show wr.heap.size≠w7.heap.size by omega) #[m0,m1,m2,m3];have hbz:Below wa wa (y6.setRow w7.heap.size #[m0,m1,m2,m3]):=aM (hbb.trans (hx.mono ajz)) ak #[m0,m1,m2,m3];generalize y6.setRow w7.heap.size #[.int .i64 m0,.int .i64 m1,.int .i64 m2,.int .i64 m3]=wz at *;refine⟨λhlt=>absurd hlt aF,?_⟩
            (try simp only[bN,bO,bP,tks])
            refine gX ?_;have e:=HE2.out;simp only[Pr.mk.injEq]at e;obtain⟨rfl,rfl,rfl,rfl⟩:=e;clear A11 A12 A18 hx hbb kMv l3 e0 e1 e2 e3 HE2
            skip
            obtain⟨l1,d0,d1,d2,d3,d4,d5,d6,d7⟩:=A14.eight;obtain⟨l2,f0,f1,f2,f3⟩:=At.four A13;have hneq:=tO s0 s1 s2 s3;go_wp2
            go_roundw
            case rel=>exact⟨j+1,by omega,by go_num,hbz⟩
            case measure=>simp[intOf];omega
  . have hjz:¬ (j:Int)<(no:Int):=by omega
    obtain⟨nd0,ahY,_⟩:=HH.out.root;obtain⟨⟨⟨s0,s1,s2,s3⟩,⟨t0,t1,t2,t3⟩⟩,hsx⟩:=aA ((S 0).getD (p0,p0));have hK:(t0=0/\t1=0/\t2=Fx.mx (Fx.cut a1) 0/\t3=Fx.mx (Fx.cut a2) 0)\/nl=0:=by
     cases hr:R 0 with
     | none=>exact .inr (HLN.out hr)
     | some p =>
       obtain⟨v,hv⟩:=Option.isSome_iff_exists.1 (HS0.out (by rw[hr];rfl));have e2:=(HST.out 0 nd0 v ahY hv).2.2.1 rfl;have hsy:=hsx;rw[hv]at hsy;have e3:v=(⟨s0,s1,s2,s3⟩,⟨t0,t1,t2,t3⟩):=hsy;rw[e3,<-HQ.out]at e2;simp only[Qt,Pr.mk.injEq]at e2;exact .inl ⟨e2.1,e2.2.1,e2.2.2.1,e2.2.2.2⟩
    have kO:=λX=>pR 0 0 a1 a2 X;obtain⟨Q2,hQ2⟩:=aA (Fx.mx (Fx.cut a1) 0);obtain⟨Q3,hQ3⟩:=aA (Fx.mx (Fx.cut a2) 0);rw[show Fx.cut 0=0 from rfl,hQ2,hQ3]at kO;rw[hQ2,hQ3]at hK;have hf1:=Bu s0 s1 s2 s3 t0 t1 t2 t3;obtain⟨β,hβ⟩:=aA ((decide (t0=0)&&decide (t1=0)&&decide (t2=Q2)&&decide (t3=Q3)));have er:=λX=>kg t0 t1 t2 t3 0 0 Q2 Q3 X;simp only[hβ]at er;have abN:=λX (h:Below wr wr X)=>(HSA.out.keep (hbr.trans (h.mono hsr))).sm.look (z:=0) ((iM _).2 ak) hsx;have ahZ:=λX (h:Below wr wr X)=>(ajw.out.keep (hbr.trans (h.mono hsr))).len Tryz.underlying28 3;have hHB:Below w w wr:=HBa.trans (hbr.mono hsa);have hsw:=hHB.size;have xP:=ah abN;have Pm:=ah ahZ;have hSd:Below wr wr wr.drew:=Below.drew aD;clear hsx hQ2 hQ3 abN ahZ ahY hbr hsr;cases β with
    | true =>
      clear hK hβ
      go_upto_region 21 with(fail)
      refine gZ (S:=λX=>Below wr wr X) 16 ?_ ?_
      . exact hSd
      intro hx;clear hSd;refine aG 0 ?_;refine aG 1 ?_;refine aG 2 ?_;refine jc 3 rfl (aY aQ rfl rfl rfl (λX h=>xP.out X h)) ?_;refine aG 4 ?_;refine aG 5 ?_;refine aG 6 ?_;refine tk1 7 ?_;refine Ao (kO _) hx ?_;clear hx;intro y7 hx;refine aG 8 ?_;refine aG 9 ?_;refine aG 10 ?_;refine aG 11 ?_;refine aG 12 ?_;refine aG 13 ?_;refine aG 14 ?_;refine aG 15 ?_;refine gX ?_;go_wp2
      go_ret
      exact⟨rfl,hHB.trans (hx.mono hsw)⟩
    | false =>
      have hz:nl=0:=by
       rcases hK with⟨rfl,rfl,rfl,rfl⟩|h
       . simp at hβ
       . exact h
      subst hz;clear hK hβ
      go_upto_region 21 with(fail)
      refine gZ (S:=λX=>Below wr wr X) 16 ?_ ?_
      . exact hSd
      intro hx;clear hSd;refine aG 0 ?_;refine aG 1 ?_;refine aG 2 ?_;refine jc 3 rfl (aY aQ rfl rfl rfl (λX h=>xP.out X h)) ?_;refine aG 4 ?_;refine aG 5 ?_;refine aG 6 ?_;refine tk1 7 ?_;refine Ao (kO _) hx ?_;clear hx;intro y7 hx;refine aG 8 ?_;refine aG 9 ?_;refine aG 10 ?_;refine aG 11 ?_;refine tk1 12 ?_;have hl12:=Pm.out _ hx;refine uq ?_ (hS:=by first|(intro hlt;exact absurd hlt aF)|(intro _;exact hx));refine aG 13 ?_;refine aG 14 ?_;refine aG 15 ?_;refine gX ?_;go_wp2
      go_ret
      exact⟨rfl,hHB.trans (hx.mono hsw)⟩
end Go.Proofs.YtfohooineeijkaaGreat.Fix
