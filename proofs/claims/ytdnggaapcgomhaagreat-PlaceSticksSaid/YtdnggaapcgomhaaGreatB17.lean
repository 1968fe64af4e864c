/- Steps of the program (17); no conditions. -/
import Derived.Test.YtdnggaapcgomhaaGreatM16
set_option linter.all false
set_option maxRecDepth 100000
set_option maxHeartbeats 16000000
namespace Go.Proofs.YtdnggaapcgomhaaGreat.Fix
open Go.ChangeShapes Go.WideShapes Go.ChangeAt Go.RowKit Go.Deep
section
open Go.Joins Go.Shelf
open Go.Proofs.Tryz renaming prog → ja0
open List renaming getElem?_eq_getElem → ja6,take_of_length_le → jb6,length_take → jc9
variable {K:Int->Value}{r g c m i:Nat}{w:World}
theorem aax:(Tryz.prog.info? 146).map (λi=>(i.zero,i.size,i.bytes))=some (some (.agg iZ),58,472):=by kernel_rfl
section
variable {W W':World} {r g c m:Nat} {K K':Int->Value} {T T':Tr.T}
theorem Doc.grow(h:Doc W r g c m K T)(hm:m+1<=4096):∃g' c' w1,(Builtin.append_ #[147,147] 147 #[.slice g m c,.slice W 1 1]).run ja0 (W.alloc (.cells iZ 146))=.ok (.slice (some ⟨g',0,none⟩) (m+1) c') w1 /\
  At w1 r (.cells #[.slice g m c] 149)/\Doc (w1.setCell ⟨r,0,none⟩ (.slice g' (m+1) c')) r g' c' (m+1) K T/\DG r g K T W (w1.setCell ⟨r,0,none⟩ (.slice g' (m+1) c')) g' K T:=by
 obtain⟨i0,hi0,hz0,hz1,hz2⟩:=info_parts aax;obtain⟨cur,h1,h2,h3⟩:=h.cur;have hcap:=h.cap;have hlim:=h.lim;have hown:W.ownsRow 0 146 58 (.slice g m c) m (cur.toList.take (m*58)):=by
  refine⟨by rw[jc9,Array.length_toList];omega,.inr ⟨g,c,cur,rfl,eX _,h1,hcap,hlim,h2,rfl⟩⟩
 have hA:=At.new W (.cells iZ 146)
 obtain⟨v',w1,hr,ho,hg,_,hblk⟩:=run_append_own_at (P:=ja0) (w:=W.alloc (.cells iZ 146)) 0 147 147 146 i0 _ 58 472 Tryz.underlying147 hi0 hz0 hz1 hz2 mW aG _ m _ (hown.alloc _) ⟨W,0,none⟩ 1 1 iZ.toList (by rw[Array.length_toList,mW])
  (by intro j u hj
      rw[addr_add,Nat.zero_add,hA.cell,<-hj,Array.getElem?_toList])
  (λx hx=>Array.all_eq_true_iff_forall_mem.1 IB x (by simpa using hx)) Oi ak aW
 rcases ho.2 with⟨_,h0⟩|⟨g',c',cur',rfl,_,hg',hc1,hc2,hc3,hc4⟩
 . omega
 have hs1:(W.alloc (.cells iZ 146)).heap.size=W.heap.size+1:=by simp
 have gJ:Out (λb=>b=g) (W.alloc (.cells iZ 146)) w1:=Out.grown hg (λb e=>by injection e with e;exact e.symm);have hO0:Out (λb=>b=g) W (W.alloc (.cells iZ 146)):=Out.of_below (aB aD _);have hO:Out (λb=>b=g) W w1:=hO0.trans gJ;have hrA:=h.at_.out (λe=>h.rg e) hO;have hgn:g'=g\/W.heap.size<=g':=by
  rcases hblk with e|e
  . injection e with e;exact .inl e
  . injection e with e;have e':g'=(W.alloc (.cells iZ 146)).heap.size:=e;exact .inr ak
 have hgr:g'≠r:=by
  rcases hgn with e|e
  . rw[e];exact λq=>h.rg q.symm
  . have:=h.lt (.inl rfl);omega
 have hget:∀k,k<(m+1)*58->cur'[k]? = (cur.toList.take (m*58)++iZ.toList)[k]? := λk hk=>by
  rw[<-hc4,List.getElem?_take,if_pos hk,Array.getElem?_toList]
 have htl:(cur.toList.take (m*58)).length=m*58:=by rw[jc9,Array.length_toList];omega
 have hold:∀k,k<m*58->cur'[k]? = cur[k]? := λk hk=>by
  rw[hget k ak,List.getElem?_append_left ak,List.getElem?_take,if_pos hk,Array.getElem?_toList]
 have hO2:Out (λb=>b=r) w1 (w1.setCell ⟨r,0,none⟩ (.slice g' (m+1) c')):=(Out.refl _ _).set (M:=λb=>b=r) rfl _ _;have hO3:Out (iW r g K T) W (w1.setCell ⟨r,0,none⟩ (.slice g' (m+1) c')):=(hO.mono λb _ q => .inr (.inl q)).trans (hO2.mono λb _ q => .inl q);refine⟨g',c',w1,hr,hrA,⟨hrA.set 0 _,⟨cur',(show At w1 g' _ from hg').off hgr 0 _,hc3,λi hi => ?_⟩,hc1,hc2,λz nd hz => ?_,λz nd hz => ?_,hm⟩,hO3,λb hb => ?_⟩
 . by_cases e:i=m
   . subst e
     have hn:T (i:Int)=none:=by
      cases e:T (i:Int)with
      | none=>rfl
      | some nd=>have:=h.range _ _ e;omega
     rw[hn];refine⟨?_,λnd' e=>(by cases e),λnd' e=>(by cases e),λnd' e=>(by cases e)⟩;rw[hget _ ak,List.getElem?_append_right ak,htl,Nat.sub_self];rfl
   . have P:=h3 i ak
     exact⟨by rw[hold _ ak];exact P.live,λnd hn=>by rw[hold _ ak];exact P.up nd hn,λnd hn=>by rw[hold _ ak];exact P.kids nd hn,λnd hn q hq=>by rw[hold _ ak];exact P.sty nd hn q hq⟩
 . have hk:=(h.row z nd hz).out (λb hb (q:b=g)=>h.gb (h.row z nd hz) (by rw[hb,q])) hO
   refine hk.out (λb hb (q:b=r) => ?_) hO2;obtain⟨ajV,hc⟩:=hk.rowAt (hb.trans (congrArg some q));have:=hrA.uniq hc;injection this with _ e2;exact absurd e2 aG
 . have:=h.range z nd hz;omega
 . rcases hb with e|e|hb
   . exact .inl (.inl e)
   . rcases hgn with q|q
     . exact .inl (.inr (.inl (e.trans q)))
     . exact .inr ak
   . exact .inl (.inr (.inr hb))
end
theorem aay(w:World):Calls ja0 36 #[] w λe w'=>(∃r,e=.returned (.pointer (some ⟨r,0,none⟩))/\∃g c K,Doc w' r g c 1 K T0/\∀b,iW r g K T0 b->w.heap.size<=b)/\Below w w w':=by
 have hA1:At (w.alloc (.cells (fH (-1) (.slice none 0 0) Re.zero) 146)) w.heap.size (.cells (fH (-1) (.slice none 0 0) Re.zero) 146):=At.new _ _;have hB1:Below w w (w.alloc (.cells (fH (-1) (.slice none 0 0) Re.zero) 146)):=aB aD _;have hs1:(w.alloc (.cells (fH (-1) (.slice none 0 0) Re.zero) 146)).heap.size=w.heap.size+1:=by simp
 have hB2:=aB hB1 (.cells #[.slice w 1 1] 149)
 have some_:∀z nd,T0 z=some nd->z=0/\nd=⟨-1,[],Re.zero⟩:=λz nd hz=>by
  unfold T0 at hz;split at hz
  . injection hz with hz;exact⟨by assumption,hz.symm⟩
  . cases hz
 have hsz:=BA (-1) (.slice none 0 0) Re.zero
 have hD:Hid (Doc ((w.alloc (.cells (fH (-1) (.slice none 0 0) Re.zero) 146)).alloc (.cells #[.slice w 1 1] 149)) (w.heap.size+1) w.heap.size 1 1 (λ_ => .slice none 0 0) T0):=ah (by
  refine⟨At.new' _ aW,⟨_,hA1.alloc _,by rw[hsz],λi hi => ?_⟩,aH _,by simp[maxLen],λz nd hz => ?_,λz nd hz => ?_,by omega⟩
  . obtain rfl:i=0:=by omega
    have e0:T0 ((0:Nat):Int)=some ⟨-1,[],Re.zero⟩:=rfl;rw[e0];refine⟨?_,λnd e => ?_,λnd e => ?_,λnd e j hj => ?_⟩
    . rw[mX _ _ _ ak];rfl
    . cases e;rw[mX _ _ _ ak];rfl
    . cases e;rw[mX _ _ _ ak];rfl
    . cases e;rw[show 0*58+3+j=3+j by omega,FC _ _ _ hj]
  . rw[(some_ z nd hz).2];exact KS.nil _
  . rw[(some_ z nd hz).1];omega)
 have hBB:=ah hB2;clear hA1 hB1 hB2;go_enter Tryz.func36,Tryz.ntmps36
 go_wp2_with (first|(refine wpList_build aR 146 _ rfl #[(0,.bool true),(1,.int .i64 (-1))] Wy (Da _ _) ?_)|(refine wpList_buildSlice aR 147 1 _ rfl #[(0,.agg (fH (-1) (.slice none 0 0) Re.zero))] Wy (NZ _) ?_)|(refine wpList_build aR 149 _ rfl #[(0,.slice w 1 1)] Wy (NY _ _ _ _) ?_))
 go_ret
 refine⟨⟨w.heap.size+1,rfl,_,_,_,hD.out,λb hb => ?_⟩,hBB.out⟩;rcases hb with rfl|rfl|⟨z,nd,hz,e⟩
 . omega
 . exact aH _
 . cases e
theorem aaz{T:Tr.T}(h:Doc w r g c m K T)(z:Int)(s:Re.St):Calls ja0 77 #[r,z,.agg (cells s)] w λe w'=>e=.returned (.int .i64 (rz T z s))/\Doc w' r g c m K (jI T z s)/\DG r g K T w w' g K (jI T z s):=by
 have hB:Below w w (w.alloc (.cells (cells s) 68)):=aB aD _;have h1:=h.after hB;have hA:At (w.alloc (.cells (cells s) 68)) w.heap.size (.cells (cells s) 68):=At.new _ _;have hnb:¬ iW r g K T w.heap.size:=λq=>absurd (h.lt q) ak;generalize hW:w.alloc (.cells (cells s) 68)=w1 at *;have key:=iI h1 z;cases hT:T z with
 | none =>
   have hE:rz T z s=2:=by unfold rz;rw[hT];rfl
   have hS:jI T z s=T:=by unfold jI;rw[hE];rfl
   rw[jS hT]at key;rw[hE,hS];have HR:=ah h1;have HB:=ah hB;clear h h1 hB hE hS;go_enter Tryz.func77,Tryz.ntmps77
   go_wp2_with (go_at_call 79;(with_reducible refine key.mono ?_);rintro e w' ⟨rfl,rfl⟩)
   go_ret
   exact⟨rfl,HR.out,DG.of_below HB.out⟩
 | some nd =>
   rw[jR hT]at key;have key2:=F6 s w1;cases hv:Re.valid s with
   | false =>
     have hE:rz T z s=1:=by unfold rz;rw[hT,hv];rfl
     have hS:jI T z s=T:=by unfold jI;rw[hE];rfl
     rw[hv]at key2;rw[hE,hS];have HR:=ah h1;have HB:=ah hB;clear h h1 hB hE hS;go_enter Tryz.func77,Tryz.ntmps77
     go_wp2_with (first|(refine aQ aR _ rfl rfl hA ?_)|(go_at_call 79;(with_reducible refine key.mono ?_);rintro e w' ⟨rfl,rfl⟩)|(go_at_call 109;(with_reducible refine key2.mono ?_);rintro e w2 ⟨rfl,hb2⟩))
     go_ret
     exact⟨rfl,HR.out.after hb2,DG.of_below (HB.out.trans (hb2.mono HB.out.size))⟩
   | true =>
     have hE:rz T z s=0:=by unfold rz;rw[hT,hv];rfl
     have hS:jI T z s=Tr.set T z { nd with sty:=s }:=by unfold jI Tr.FT;rw[hE,hT];rfl
     rw[hv]at key2;rw[hE,hS];obtain⟨i,rfl,him⟩:=h.nat hT;have HR:=ah h1;have HB:=ah hB;clear h h1 hB hE hS;go_enter Tryz.func77,Tryz.ntmps77
     go_upto_region 6 with(first|(refine aQ aR _ rfl rfl hA ?_)|(go_at_call 79;(with_reducible refine key.mono ?_);rintro e w' ⟨rfl,rfl⟩)|(go_at_call 109;(with_reducible refine key2.mono ?_);rintro e w2 ⟨rfl,hb2⟩))
     have hR2:=(HR.out.after hb2).after (Below.refl _ w2).drew;have hA2:At w2.drew w (.cells (cells s) 68):=(hA.keep hb2).drew;have hO2:Below w w w2.drew:=(HB.out.trans (hb2.mono HB.out.size)).drew;obtain⟨W3,hst,hOO,hD3,hG3⟩:=hR2.Pj hT s;have hA3:=hA2.out (λ(q:w.heap.size=g)=>hnb (.inr (.inl q))) hOO;generalize hW2:w2.drew=W2 at *;have hS0:W2.cell? ⟨r,0,none⟩=some (.slice g m c)/\At W2 w (.cells (cells s) 68):=⟨hR2.cT,hA2⟩;have qz:=ah (show _/\At W3 w (.cells (cells s) 68)from⟨hD3.cT,hA3⟩);have HST:=ah hst;have HD3:=ah hD3;have HG3:=ah ((DG.of_below hO2).trans hG3);clear hR2 hA2 hO2 hD3 hG3 hst hA3 HR HB hA hb2 hOO;refine aj.qx (S:=(λW'=>W'.cell? ⟨r,0,none⟩=some (.slice g m c)/\At W' w (.cells (cells s) 68))) 9 aV ?_ ?_
     . rw[hW2];exact hS0
     intro hS1;rw[hW2];clear hS1 hW2;refine aO 0 ?_;refine aO 1 ?_;refine aO 2 ?_;refine aO 3 ?_;refine aO 4 ?_;refine jh 5 rfl (eP aR (.tmp 5) rfl rfl (λW h=>h.2)) ?_;refine aO 6 ?_;refine aO 7 ?_;refine tk1 8 ?_;refine aj.Step.skip (sj (.tmp 23) (.tmp 21) rfl rfl rfl HST.out) ?_;refine⟨λ_=>qz.out,?_⟩
     (try simp only[bM,bN,bO,tks])
     refine gZ ?_;go_wp2
     go_ret
     exact⟨rfl,HD3.out,HG3.out⟩
theorem N7{T:Tr.T}{z u:Int}{p:Tr.Nd}(hu:T u=some p)(hz:T z=none):Tr.nX T z u i=Tr.set (Tr.set T z ⟨u,[],Re.zero⟩) u { p with kids:=Tr.wi p.kids i z }:=by
 have hne:u≠z:=λe=>by rw[e,hz]at hu;cases hu
 funext y;rw[Tr.I5 hu hz];by_cases e:y=z
 . rw[if_pos e,e,Tr.aK _ _ (Ne.symm hne),Tr.aP]
 . rw[if_neg e]
   by_cases e2:y=u
   . rw[if_pos e2,e2,Tr.aP]
   . rw[if_neg e2,Tr.aK _ _ e2,Tr.aK _ _ e]
theorem acR{T:Tr.T}(h:Doc w r g c m K T)(H:Tr.WF T)(hn:(Tr.ord T).length<4096){u a:Int}(hE0:Tr.lI T u a≠0):Calls ja0 78 #[r,u,a] w λe w'=>e=.returned (.tuple #[Tr.sM T u a,Tr.lI T u a])/\Doc w' r g c m K (Tr.jG T u a)/\DG r g K T w w' g K (Tr.jG T u a):=by
 have hI:Tr.sM T u a = -1:=by unfold Tr.sM;rw[if_neg hE0]
 have hR:Tr.jG T u a=T:=by unfold Tr.jG;rw[if_neg hE0]
 rw[hI,hR];have HD:=ah h;have key:=iI h u;cases hT:T u with
 | none =>
   have hE:Tr.lI T u a=2:=by unfold Tr.lI;rw[hT]
   rw[hE];rw[jS hT]at key;clear h hI hR hE hE0;exact Z1l
 | some p =>
   rw[jR hT]at key;obtain⟨iu,rfl,him⟩:=h.nat hT;have c0:=h.cT;have c1:=h.jX hT;obtain⟨A,cc,hv,_⟩:=(h.row _ p hT).ints;rw[hv]at c1;have hkl:=H.pR hT;by_cases hr:a<0\/(p.kids.length:Int)<a
   . have hE:Tr.lI T iu a=1:=by unfold Tr.lI;rw[hT];dsimp only;rw[if_pos hr]
     rw[hE];clear h hI hR hE hE0 hv;generalize p.kids.length=n at *;rcases hr with hr|hr
     . exact Z1l
     . have hr0:¬ a<0:=by omega
       exact Z1l
   . have hr0:¬ a<0:=λe=>hr (.inl e)
     have hr1:¬ (p.kids.length:Int)<a:=λe=>hr (.inr e);have mD:=FE h H;obtain⟨d,hd1,hd2,hd3⟩:=H.iF hT;have KD:=ah λW (hb:Below w w W)=>qd (h.after hb) (λ_ q=>H.eU q) hd2 ak;have XD:(63:Int)<=(d:Int):=by
      unfold Tr.lI at hE0;rw[hT]at hE0;dsimp only at hE0;rw[if_neg hr,hd3]at hE0;by_cases e:(63:Int)<=(d:Int)
      . exact e
      . rw[if_neg e]at hE0;exact absurd rfl hE0
     have hE:Tr.lI T iu a=5:=by unfold Tr.lI;rw[hT];dsimp only;rw[if_neg hr,hd3,if_pos XD]
     rw[hE];have hnn:¬ (4096:Int)<=((Tr.ord T).length:Int):=by omega
     clear h hI hR hE hE0 hv hd2 hd3 hr;generalize p.kids.length=n at *;generalize (Tr.ord T).length=q at *;go_enter Tryz.func78,Tryz.ntmps78
     go_wp2_with (first|(go_at_call 79;(with_reducible refine key.mono ?_);rintro e w' ⟨rfl,rfl⟩)|(go_at_call 110;(with_reducible refine mD.mono ?_);rintro e w1 ⟨rfl,hb1⟩)|(go_at_call 40;(with_reducible refine(KD.out _ hb1).mono ?_);rintro e w' ⟨rfl,rfl⟩))
     go_ret2
     exact⟨rfl,HD.out.after hb1,DG.of_below hb1⟩
theorem VP{T:Tr.T}(h:Doc w r g c m K T)(H:Tr.WF T)(hn:(Tr.ord T).length<4096)(hmm:m+1<=4096){u a:Int}{p:Tr.Nd}(hu:T u=some p)(ha:a=i)(hi:i<=p.kids.length){d:Nat}(hd:Tr.Dp T u d)(Pk:d<63){k:Nat}(hk:Tr.Free T (k:Int))(hkm:k<m):Calls ja0 78 #[r,u,a] w λe w'=>e=.returned (.tuple #[.int .i64 (k:Int),()])/\∃g' c' m' K',Doc w' r g' c' m' K' (Tr.nX T (k:Int) u i)/\m'<=m+1/\DG r g K T w w' g' K' (Tr.nX T (k:Int) u i):=by
 subst ha;have key:=iI h u;rw[jR hu]at key;obtain⟨iu,rfl,him⟩:=h.nat hu;have c0:=h.cT;have c1:=h.jX hu;obtain⟨A,cc,hv,_⟩:=(h.row _ p hu).ints;rw[hv]at c1;have hkl:=H.pR hu;have mD:=FE h H;have KD:=ah λW (hb:Below w w W)=>qd (h.after hb) (λ_ q=>H.eU q) hd ak;have hnn:¬ (4096:Int)<=((Tr.ord T).length:Int):=by omega
 have hdd:¬ (63:Int)<=(d:Int):=by omega
 have hr0:¬ (i:Int)<0:=by omega
 have hr1:¬ (p.kids.length:Int)<(i:Int):=by omega
 have hT:=ah (N7 (i:=i) hu hk.2.1);rw[hT.out];have HD:=ah h;have HV:=ah hv;have HU:=ah hu;have HK:=ah hk;have hil:=ah hi;have afM:Hid (p.kids.length<=10000):=ah ak;clear h hv hd hT hu hk hi hkl;generalize hnk:p.kids.length=nk at *;have HNK:=ah hnk;clear hnk;generalize (Tr.ord T).length=q at *;go_enter Tryz.func78,Tryz.ntmps78
 go_upto_region 9 with(first|(go_at_call 79;(with_reducible refine key.mono ?_);rintro e w' ⟨rfl,rfl⟩)|(go_at_call 110;(with_reducible refine mD.mono ?_);rintro e w1 ⟨rfl,hb1⟩)|(go_at_call 40;(with_reducible refine(KD.out _ hb1).mono ?_);rintro e w' ⟨rfl,rfl⟩))
 have HB1:=ah hb1;clear key mD KD c1;have H1:=ah (HD.out.after hb1);clear hb1 HD c0;go_wp2
 go_loopw [8] (λiv wr=>∃k':Nat,k'<=k/\iv=.int .i64 (k':Int)/\wr=w') (λiv _=>k-(intOf iv).toNat)
 case atStart=>exact⟨0,by omega,rfl,rfl⟩
 case round =>
  obtain⟨k',hk',rfl,rfl⟩:=hrel;have BK:=iI H1.out (k':Int);by_cases hlt:k'<k
  . exact Z1i
  . obtain rfl:k'=k:=by omega
    rw[jS HK.out.2.1]at BK;have h1:=H1.out;obtain⟨gd,rfl⟩:∃x,x=g:=⟨_,rfl⟩;obtain⟨cd,rfl⟩:∃x,x=c:=⟨_,rfl⟩;obtain⟨md,rfl⟩:∃x,x=m:=⟨_,rfl⟩;have hD:=h1;have hG:=DG.refl r gd K T wr;have hkd:k'<md:=hkm;have ajW:iu<md:=him;have hml:md<=md+1:=ak;have hkz:¬ (k':Int)=(md:Int):=ak;have ali:((k':Int)==(md:Int))=false:=(by simpa using hkz);have c0:=h1.cT;have HD:=ah hD;have HG:=ah hG;clear hD hG h1 H1
    go_upto_region 14 with(first|(go_at_call 79;(with_reducible refine BK.mono ?_);rintro e w' ⟨rfl,rfl⟩)|(refine wpList_build aR 146 _ rfl #[] aW (vZ _) ?_)|(refine wpList_buildSlice aR 147 1 _ rfl #[(0,.agg iZ)] Wy (BD _) ?_)|(at_builtin;refine wpList_append_run aR _ _ 147 rfl rfl rfl ail.out ?_))
    obtain⟨Wd,rfl⟩:∃x,x=wr:=⟨_,rfl⟩;exact Z6
theorem VQ{T:Tr.T}(h:Doc w r g c m K T)(H:Tr.WF T)(hn:(Tr.ord T).length<4096)(hmm:m+1<=4096){u a:Int}{p:Tr.Nd}(hu:T u=some p)(ha:a=i)(hi:i<=p.kids.length){d:Nat}(hd:Tr.Dp T u d)(Pk:d<63){k:Nat}(hk:Tr.Free T (k:Int))(hkm:k=m):Calls ja0 78 #[r,u,a] w λe w'=>e=.returned (.tuple #[.int .i64 (k:Int),()])/\∃g' c' m' K',Doc w' r g' c' m' K' (Tr.nX T (k:Int) u i)/\m'<=m+1/\DG r g K T w w' g' K' (Tr.nX T (k:Int) u i):=by
 subst ha;have key:=iI h u;rw[jR hu]at key;obtain⟨iu,rfl,him⟩:=h.nat hu;have c0:=h.cT;have c1:=h.jX hu;obtain⟨A,cc,hv,_⟩:=(h.row _ p hu).ints;rw[hv]at c1;have hkl:=H.pR hu;have mD:=FE h H;have KD:=ah λW (hb:Below w w W)=>qd (h.after hb) (λ_ q=>H.eU q) hd ak;have hnn:¬ (4096:Int)<=((Tr.ord T).length:Int):=by omega
 have hdd:¬ (63:Int)<=(d:Int):=by omega
 have hr0:¬ (i:Int)<0:=by omega
 have hr1:¬ (p.kids.length:Int)<(i:Int):=by omega
 have hT:=ah (N7 (i:=i) hu hk.2.1);rw[hT.out];have HD:=ah h;have HV:=ah hv;have HU:=ah hu;have HK:=ah hk;have hil:=ah hi;have afM:Hid (p.kids.length<=10000):=ah ak;clear h hv hd hT hu hk hi hkl;generalize hnk:p.kids.length=nk at *;have HNK:=ah hnk;clear hnk;generalize (Tr.ord T).length=q at *;go_enter Tryz.func78,Tryz.ntmps78
 go_upto_region 9 with(first|(go_at_call 79;(with_reducible refine key.mono ?_);rintro e w' ⟨rfl,rfl⟩)|(go_at_call 110;(with_reducible refine mD.mono ?_);rintro e w1 ⟨rfl,hb1⟩)|(go_at_call 40;(with_reducible refine(KD.out _ hb1).mono ?_);rintro e w' ⟨rfl,rfl⟩))
 have HB1:=ah hb1;clear key mD KD c1;have H1:=ah (HD.out.after hb1);clear hb1 HD c0;go_wp2
 go_loopw [8] (λiv wr=>∃k':Nat,k'<=k/\iv=.int .i64 (k':Int)/\wr=w') (λiv _=>k-(intOf iv).toNat)
 case atStart=>exact⟨0,by omega,rfl,rfl⟩
 case round =>
  obtain⟨k',hk',rfl,rfl⟩:=hrel;have BK:=iI H1.out (k':Int);by_cases hlt:k'<k
  . exact Z1i
  . obtain rfl:k'=k:=by omega
    rw[jS HK.out.2.1]at BK;have h1:=H1.out;obtain⟨gd,cd,w2,ain,hrA,hD,hG⟩:=h1.grow hmm;have ail:=ah ain;have c0:=h1.cT;have cB:w2.cell? ⟨r,0,none⟩=some (.slice g m c):=(by rw[hrA.cell];rfl);have cC:=hrA.thaw 0;have hkd:k'<m+1:=ak;have ajW:iu<m+1:=ak;have hml:m+1<=m+1:=aH _;clear ain hrA;subst hkm;have HD:=ah hD;have HG:=ah hG;clear hD hG h1 H1
    go_upto_region 14 with(first|(go_at_call 79;(with_reducible refine BK.mono ?_);rintro e w' ⟨rfl,rfl⟩)|(refine wpList_build aR 146 _ rfl #[] aW (vZ _) ?_)|(refine wpList_buildSlice aR 147 1 _ rfl #[(0,.agg iZ)] Wy (BD _) ?_)|(at_builtin;refine wpList_append_run aR _ _ 147 rfl rfl rfl ail.out ?_))
    generalize w2.setCell ⟨r,0,none⟩ (.slice gd (k'+1) cd)=Wd at *;generalize hmd:k'+1=md at *;replace hml:=Nat.le_of_eq hmd.symm;clear hmd;exact Z6
theorem IC{T:Tr.T}{x:Int}{nd p:Tr.Nd}(hx:T x=some nd)(hp:T nd.up=some p):Tr.leave T x=Tr.set T nd.up { p with kids:=Tr.wo p.kids x }:=by
 unfold Tr.leave;rw[hx];dsimp only;rw[hp]
theorem VR{ops:Array Oper}{S:World->Prop}{o:Oper}{a:Act}{v:Value}(hrun:∀w,(Instr.build 146 #[]).run ja0 w=.ok v w)(hw:Region.wanted o (yielded ops a.tmps)=true)(ho:o.op=.build 146 #[]):aj.Reads ja0 ops S o v a :=
 .inl ⟨hw,λw _=>by unfold execOp;simp only[ho,List.map_toArray,List.map_nil,Sem.run_bind,hrun w,Result.andThen_ok,Sem.run_pure]⟩
theorem N8{T:Tr.T}(h:Doc w r g c m K T)(H:Tr.WF T)(x:Int):Calls ja0 74 #[r,x] w λe w'=>e=.returned (.tuple #[Tr.wQ T x,Tr.qw T x])/\∃K',Doc w' r g c m K' (Tr.mq T x)/\DG r g K T w w' g K' (Tr.mq T x):=by
 have HD:=ah h;have key:=iI h x;cases hT:T x with
 | none =>
   have hE:Tr.qw T x=2:=by unfold Tr.qw;rw[hT]
   have hI:Tr.wQ T x=0:=by unfold Tr.wQ;rw[hE];rfl
   have hR:Tr.mq T x=T:=by unfold Tr.mq;rw[hE];rfl
   rw[hE,hI,hR];rw[jS hT]at key;clear h hE hI hR;exact Z2t
 | some nd =>
   rw[jR hT]at key;by_cases h0:x=0
   . have hE:Tr.qw T x=1:=by unfold Tr.qw;rw[hT];exact if_pos h0
     have hI:Tr.wQ T x=0:=by unfold Tr.wQ;rw[hE];rfl
     have hR:Tr.mq T x=T:=by unfold Tr.mq;rw[hE];rfl
     rw[hE,hI,hR];clear h hE hI hR;subst h0;exact Z2t
   . have hE:Tr.qw T x=0:=by unfold Tr.qw;rw[hT];exact if_neg h0
     have hI:Tr.wQ T x=((Tr.sub T 64 x).length:Int):=by unfold Tr.wQ;rw[hE];rfl
     obtain⟨p,hp,hxp⟩:=H.up x nd hT h0;have hR:Tr.mq T x=Tr.del (Tr.set T nd.up { p with kids:=Tr.wo p.kids x }) (Tr.sub T 64 x):=by unfold Tr.mq;rw[hE,if_pos rfl,<-IC hT hp];rfl
     rw[hE,hI,hR];have hsl:(Tr.sub T 64 x).length<=4096:=by
      have:=H.Cx hT h0;have:=H.iE;omega
     have nT:=qg 64 x h (H.gD hT) ak
     have hin:∀y∈Tr.sub T 64 x,0<=y/\y<m:=λy hy=>by
      obtain⟨yd,RD⟩:=((H.fZ (H.gD hT)).1 hy).live;exact h.range _ _ RD
     have hpk:p.kids.length<=10000:=by have:=H.pR hp;have:=H.iE;omega
     obtain⟨nu,nk,ns⟩:=nd;dsimp only at hp hR;obtain⟨iu,rfl,him⟩:=h.nat hp;obtain⟨ix,rfl,hix⟩:=h.nat hT;have h0b:((ix:Int)==0)=false:=by simpa using h0
     have HT:=ah hT;have HP:=ah hp;have HIN:=ah hin;have HPK:=ah hpk;clear hE hI hR hxp hT hp hin hpk;generalize hl:Tr.sub T 64 (ix:Int)=l at *;clear hl;generalize hn:l.length=n at *;have HN:=ah hn;clear hn;go_enter Tryz.func74,Tryz.ntmps74
     go_upto_region 6 with(first|(go_at_call 79;(with_reducible refine key.mono ?_);rintro e w' ⟨rfl,rfl⟩)|(go_at_call 39;(with_reducible refine nT.mono ?_);rintro e w1 ⟨⟨v1,rfl,ho1⟩,hb1⟩;obtain⟨A1,c1,rfl⟩:=dY ho1))
     have D1:=HD.out.after hb1;have c4:=D1.cT;have c5:=D1.cUp HT.out;have c6:=D1.jX HP.out;have ji:=D1.row _ _ HP.out;obtain⟨A,cc,hv,_⟩:=ji.ints;rw[hv]at c6 ji;have BJ:=ah ji;have HV:=ah hv;have HD1:=ah D1;have HO1:=ah ho1;have HB1:=ah hb1;clear h key nT ji hv D1 ho1 hb1;generalize hnk:p.kids.length=nk at *;have HNK:=ah hnk;clear hnk
     go_upto_region 7 with(fail)
     clear c5;refine iC (S:=(λW'=>W'.cell? ⟨r,0,none⟩=some (.slice g m c)/\W'.cell? ⟨g,iu*58+2,none⟩=some (.slice A nk cc)/\Below w1 w1 W')) 15 ?_ ?_
     . exact⟨c4,c6,Below.drew aD⟩
     intro hS0;clear c4 c6;refine aO 0 ?_;refine aO 1 ?_;refine aO 2 ?_;refine aO 3 ?_;refine aO 4 ?_;refine aO 5 ?_;refine aO 6 ?_;refine aO 7 ?_;refine aO 8 ?_;refine aO 9 ?_;refine aO 10 ?_;refine aO 11 ?_;refine aO 12 ?_;refine aO 13 ?_;refine tk1 14 ?_;refine aj.Step.call eD (tY (BJ.out.after hS0.2.2) (by rw[HNK.out];exact HPK.out) (ix:Int)) ?_;rintro e w6 ⟨⟨v6,rfl,Cu⟩,hb6⟩;have hS1:=hS0.2.2.trans (hb6.mono hS0.2.2.size);have KI:=dP Cu oI;have hown6:=λb hb=>aJ hS0.2.2.size (World.ownsRow.lt Cu b hb).1;obtain⟨A6,c6,rfl⟩:=dY Cu;have hD6:=HD1.out.after hS1;have c7:=hD6.cT;have c8:=hD6.jX HP.out;rw[HV.out]at c8;obtain⟨cur,hcur,_⟩:=hD6.cur;have hth:=hcur.thaw (iu*58+2);have hD7:=ah (hD6.sw HP.out KI)
     have Ox:DG r g K T w1 (w6.setCell ⟨g,iu*58+2,none⟩ (.slice A6 (Tr.wo p.kids ix).length c6)) g (λz=>if z=(iu:Int)then .slice A6 (Tr.wo p.kids ix).length c6 else K z) (Tr.set T iu { p with kids:=Tr.wo p.kids ix }) :=
      ⟨(Out.of_below hS1).trans ((Out.refl _ _).set (M:=iW r g K T) (.inr (.inl rfl)) _ _),λb hb=>(pO HP.out hb).elim .inl λq => .inr (hown6 b q)⟩
     have HG7:=ah ((DG.of_below HB1.out).trans Ox);have Bg:=bG HO1.out (λb hb (q:iW r g K T b)=>absurd (HD.out.lt q) (by have:=(World.ownsRow.lt HO1.out b hb).1;omega)) Ox.1;have HO7:=ah Bg;refine⟨_,rfl,λ_=>⟨c7,c8,hS1⟩,?_⟩;clear Ox hS0 hS1 KI hown6 Cu hb6 hcur hD6 BJ HB1 HO1 Bg HV HD1;generalize hnl:(Tr.wo p.kids (ix:Int)).length=nl at *
     (try simp only[bM,bN,bO,tks])
     refine tk1 15 ?_;refine uG ?_ (hS:=by first|(intro hlt;exact absurd hlt aG)|(intro _;exact hlt));refine tk1 16 ?_;refine uG ?_ (hS:=by first|(intro hlt;exact absurd hlt aG)|(intro _;exact hlt));refine tk1 17 ?_;refine aj.Step.skip Z3v ?_;refine⟨by first|(intro hlt;exact absurd hlt aG)|(intro _;exact hlt),?_⟩;(try simp only[Act.put]);refine gZ ?_;clear hnl c7 c8 hth;generalize hT7:Tr.set T (iu:Int) { p with kids:=Tr.wo p.kids ix }=T7 at *;generalize hK7:(λz:Int=>if z=(iu:Int)then Value.slice A6 nl c6 else K z)=K7 at *;generalize w6.setCell ⟨g,iu*58+2,none⟩ (.slice A6 nl c6)=w7 at *;have HT7:=ah hT7;clear hT7 hK7
     have hOG:Hid (∀b,(Value.slice A1 n c1).ownBlock=some b->b≠g):=ah λb hb e=>by
      have:=(World.ownsRow.lt HO7.out b hb).1;have:=HD.out.lt (b:=g) (.inr (.inl rfl));omega
     go_wp2
     go_loopw [8] (λiv wr=>∃k:Nat,k<=n/\iv=.int .i64 (k:Int)/\Doc wr r g c m K7 (Tr.del T7 (l.take k))/\DG r g K T w wr g K7 (Tr.del T7 (l.take k))/\wr.ownsRow w.heap.size 3 1 (.slice A1 n c1) n (l.map (Value.int .i64))) (λiv _=>n-(intOf iv).toNat)
     case atStart=>exact⟨0,by omega,rfl,by rw[List.take_zero,CB];exact hD7.out,by rw[List.take_zero,CB];exact HG7.out,HO7.out⟩
     case round =>
      obtain⟨k,hk,rfl,hd,hg,ho⟩:=hrel;by_cases hlt:k<n
      . have hltz:(k:Int)<(n:Int):=by omega
        obtain⟨hI,_⟩:=KS.wG (l:=l) (by have:=dP (base':=0) ho oI;unfold KS;rw[HN.out];exact this);obtain⟨b6,o6,rfl,lb6,FD⟩:=hI.at_ (k:=k) V7;have hat:l[k]? = some (l.getD k 0):=by rw[List.getD,ja6 V7];rfl
        have hmem:=List.mem_of_getElem? hat;obtain⟨y0,y1⟩:=HIN.out _ hmem;have hstep:=ah (RH T7 l hat);generalize l.getD k 0=y at *;obtain⟨iy,rfl⟩:∃i:Nat,y=i:=⟨y.toNat,by omega⟩;have hiy:iy<m:=by omega
        obtain⟨w8,hst,hO8,hD8,hG8⟩:=hd.after (Below.refl _ wr).drew |>.aaw hiy
        have c7:=hd.cT;have HST:=ah hst;have YN:=ah vZ;generalize iZ=dz at *;have HD8:=ah hD8;have HG8:=ah ((hg.trans (DG.of_below (Below.refl _ wr).drew)).trans hG8);have HO8:=ah (bG (bG (M:=λ_=>False) ho (λ_ _ q=>q) (Out.of_below (Below.refl _ wr).drew)) (λb hb (q:b=g)=>hOG.out b hb q) hO8);clear hst hO8 hD8 hG8 hd hg ho hI hmem hat
        go_upto_region 11 with(fail)
        refine iC (S:=(λW'=>W'.cell? ⟨r,0,none⟩=some (.slice g m c)/\W'.cell? ⟨b6,o6+k,none⟩=some (.int .i64 (iy:Int)))) 9 ?_ ?_
        . exact⟨c7,FD⟩
        intro hS0;clear c7 FD;refine aO 0 ?_;refine aO 1 ?_;refine aO 2 ?_;refine aO 3 ?_;refine aO 4 ?_;refine aO 5 ?_;refine aO 6 ?_;refine aO 7 ?_;refine jh 8 rfl (VR YN.out aR rfl) ?_;refine tk1 9 ?_;refine uG ?_ (hS:=by first|(intro hlt;exact absurd hlt aG)|(intro _;exact hlt));refine tk1 10 ?_;refine aj.Step.skip (sj (.tmp 58) (.tmp 57) rfl rfl rfl HST.out) ?_;refine⟨λhlt=>absurd hlt aG,?_⟩
        (try simp only[bM,bN,bO,tks])
        refine gZ ?_;go_wp2
        go_roundw
        case rel=>exact⟨k+1,by omega,by go_num,by rw[<-hstep.out];exact HD8.out,by rw[<-hstep.out];exact HG8.out,HO8.out⟩
        case measure=>simp[intOf];omega
      . obtain rfl:k=n:=by omega
        rw[jb6 (by rw[HN.out];exact aH _)]at hd hg;have HD8:=ah hd;have HG8:=ah hg;clear hd hg ho;go_wp2
        go_ret2
        rw[HT7.out];exact⟨rfl,_,HD8.out,HG8.out⟩
def wu(T:Tr.T)(dx:Int)(l:List Int):Int:=l.foldl (λm y=>max m (Tr.dep T y-dx)) 0
theorem Q7(T:Tr.T)(dx:Int)(l:List Int)(y:Int):wu T dx (l++[y])=max (wu T dx l) (Tr.dep T y-dx):=by simp[wu]
theorem uf(f:Int->Int)(l:List Int):∀m,m<=l.foldl (λm y=>max m (f y)) m/\(∀y∈l,f y<=l.foldl (λm y=>max m (f y)) m)/\∀B,m<=B->(∀y∈l,f y<=B)->l.foldl (λm y=>max m (f y)) m<=B:=by
 induction l with
 | nil=>intro m;exact⟨Int.le_refl _,by simp,λB h _=>h⟩
 | cons k l ih =>
   intro m;simp only[List.foldl_cons];obtain⟨h1,h2,h3⟩:=ih (max m (f k));refine⟨by omega,λy hy => ?_,λB hB hl=>h3 B ?_ λy hy=>hl y (List.mem_cons_of_mem _ hy)⟩
   . rcases List.mem_cons.1 hy with rfl|hy
     . omega
     . exact h2 y hy
   . have:=hl k List.mem_cons_self;omega
theorem N9{T:Tr.T}(H:Tr.WF T){dx:Int}(hx:0<=dx)(l:List Int):0<=wu T dx l/\wu T dx l<=63 :=
 ⟨(uf _ l 0).1,(uf _ l 0).2.2 63 ak λy _=>by have:=(aaq H y).2;omega⟩
theorem VU{T:Tr.T}(H:Tr.WF T){x:Int}{nd:Tr.Nd}(hx:T x=some nd):wu T (Tr.dep T x) (Tr.sub T 64 x)=(Tr.hgt T 64 x:Int):=by
 obtain⟨d,h1,h2,h3⟩:=H.iF hx;obtain⟨y,hy,hd⟩:=H.Rl (H.gD hx) h2;have e:=H.I8 hd;have hge:=(uf (λy=>Tr.dep T y-Tr.dep T x) (Tr.sub T 64 x) 0).2.1 y hy
 have hle:=(uf (λy=>Tr.dep T y-Tr.dep T x) (Tr.sub T 64 x) 0).2.2 (Tr.hgt T 64 x:Int) ak λz hz=>by
  obtain⟨zd,hzd⟩:=((H.fZ (H.gD hx)).1 hz).live;obtain⟨dz,q1,q2,q3⟩:=H.iF hzd;have:=H.WW (H.gD hx) h2 hz q2;omega
 unfold wu;omega
theorem acS{T:Tr.T}{x u:Int}{nd p q:Tr.Nd}(hx:T x=some nd)(hp:T nd.up=some p)(hne:nd.up≠x)(hux:u≠x)(hu:Tr.set T nd.up { p with kids:=Tr.wo p.kids x } u=some q):Tr.j3 T x u i=Tr.set (Tr.set (Tr.set T nd.up { p with kids:=Tr.wo p.kids x }) u { q with kids:=Tr.wi q.kids i x }) x { nd with up:=u }:=by
 unfold Tr.j3 Tr.enter;rw[IC hx hp,hu,Tr.aK _ _ (Ne.symm hne),hx]
theorem VW{T:Tr.T}(h:Doc w r g c m K T)(H:Tr.WF T)(x u a:Int):Calls ja0 76 #[r,x,u,a] w λe w'=>e=.returned (.int .i64 (Tr.jf T x u a))/\∃K',Doc w' r g c m K' (Tr.j4 T x u a)/\DG r g K T w w' g K' (Tr.j4 T x u a):=by
 have HD:=ah h;have key:=iI h x;have ql:=iI h u;have same:∀e,Tr.jf T x u a=e->e≠0->Tr.j4 T x u a=T:=λe he hne=>by unfold Tr.j4;rw[he,if_neg hne]
 cases hX:T x with
 | none =>
   have hE:Tr.jf T x u a=2:=by unfold Tr.jf;rw[hX]
   rw[hE,same _ hE aG];rw[jS hX]at key;clear h ql same hE;exact Z16
 | some nd =>
 rw[jR hX]at key;cases hU:T u with
 | none =>
   have hE:Tr.jf T x u a=2:=by unfold Tr.jf;rw[hX,hU]
   rw[hE,same _ hE aG];rw[jS hU]at ql;clear h same hE;exact Z16
 | some q =>
 rw[jR hU]at ql;have hE0:Tr.jf T x u a=if x=0 then 1 else if u∈Tr.sub T 64 x then 3 else if a<0\/((Tr.wo q.kids x).length:Int)<a then 1 else if 63<Tr.dep T u+1+Tr.hgt T 64 x then 5 else 0:=by unfold Tr.jf;rw[hX,hU]
 by_cases h0:x=0
 . have hE:Tr.jf T x u a=1:=by rw[hE0,if_pos h0]
   rw[hE,same _ hE aG];clear h same hE hE0;subst h0;exact Z16
 rw[if_neg h0]at hE0;have h0b:(x==0)=false:=by simpa using h0
 have hsl:(Tr.sub T 64 x).length<=4096:=by
  have:=H.Cx hX h0;have:=H.iE;omega
 have nT:=qg 64 x h (H.gD hX) ak;have hall:=VU H hX;have OJ:0<=Tr.dep T x/\Tr.dep T x<=63:=by obtain⟨d,d1,d2,d3⟩:=H.iF hX;omega
 have hdu:0<=Tr.dep T u/\Tr.dep T u<=63:=by obtain⟨d,d1,d2,d3⟩:=H.iF hU;omega
 obtain⟨p,hp,hxp⟩:=H.up x nd hX h0;have hqk:q.kids.length<=10000:=by have:=H.pR hU;have:=H.iE;omega
 have hpk:p.kids.length<=10000:=by have:=H.pR hp;have:=H.iE;omega
 have hoth:=H.others hX hU h0;have hself:x∈Tr.sub T 64 x:=(H.fZ (H.gD hX)).2 (.refl hX);have afG:nd.up≠x:=λe=>H.oN hX h0 (by rw[e];exact hself);obtain⟨nu,nk,ns⟩:=nd;dsimp only at hp hoth afG;obtain⟨iv,rfl,hiv⟩:=h.nat hp;obtain⟨iu,rfl,hiu⟩:=h.nat hU;obtain⟨ix,rfl,hix⟩:=h.nat hX;have HX:=ah hX;have HU:=ah hU;have HP:=ah hp;have HE0:=ah hE0;have HS:=ah same;have HAL:=ah hall;have HQK:=ah hqk;have HPK:=ah hpk;have HOT:=ah hoth;have HNX:=ah afG;have HSF:=ah hself;clear hX hU hp hxp hE0 same hall hqk hpk hoth afG hself;generalize hl:Tr.sub T 64 (ix:Int)=l at *;clear hl;generalize hn:l.length=n at *;have HN:=ah hn;clear hn;go_enter Tryz.func76,Tryz.ntmps76
 go_upto_region 6 with(first|(go_at_call 79;first|((with_reducible refine key.mono ?_);rintro e w' ⟨rfl,rfl⟩)|((with_reducible refine ql.mono ?_);rintro e w' ⟨rfl,rfl⟩))|(go_at_call 39;(with_reducible refine nT.mono ?_);rintro e w1 ⟨⟨v1,rfl,ho1⟩,hb1⟩;obtain⟨A1,c1,rfl⟩:=dY ho1))
 have D1:=HD.out.after hb1;have KX:=ah (tX D1 H (ix:Int));have c4:=D1.cT;have HD1:=ah D1;have HO1:=ah ho1;have HB1:=ah hb1;clear h key ql nT D1 ho1 hb1;go_wp2
 go_loopw [10,11] (λdv iv wr=>∃k:Nat,k<=n/\iv=.int .i64 (k:Int)/\dv=.int .i64 (wu T (Tr.dep T ix) (l.take k))/\(iu:Int) ∉ l.take k/\wr=w1) (λ_ iv _=>n-(intOf iv).toNat)
 case atStart=>exact⟨0,by omega,rfl,rfl,by simp,rfl⟩
 case round =>
  obtain⟨k,hk,rfl,rfl,hni,rfl⟩:=hrel;by_cases hlt:k<n
  . have hltz:(k:Int)<(n:Int):=by omega
    obtain⟨hI,_⟩:=KS.wG (l:=l) (by have:=dP (base':=0) HO1.out oI;unfold KS;rw[HN.out];exact this);obtain⟨b6,o6,rfl,lb6,FD⟩:=hI.at_ (k:=k) V7;have hat:l[k]? = some (l.getD k 0):=by rw[List.getD,ja6 V7];rfl
    have hmem:=List.mem_of_getElem? hat;have SF:=dW l k V7;clear hI hat;generalize l.getD k 0=y at *;by_cases hyu:y=(iu:Int)
    . subst hyu
      have hE:Tr.jf T ix iu a=3:=by rw[HE0.out,if_pos hmem]
      have HR:=ah (show _/\_ from⟨hE,HS.out _ hE aG⟩);clear hmem SF hni hE;go_wp2
      go_ret
      rw[HR.out.1,HR.out.2];exact⟨rfl,_,HD1.out,DG.of_below HB1.out⟩
    . have hyb:(y==(iu:Int))=false:=by simpa using hyu
      have hstep:Hid (wu T (Tr.dep T ix) (l.take (k+1))=max (wu T (Tr.dep T ix) (l.take k)) (Tr.dep T y-Tr.dep T ix)):=ah (by rw[SF,Q7]);have ajX:Hid ((iu:Int) ∉ l.take (k+1)):=ah (by rw[SF];simp only[List.mem_append,List.mem_singleton,not_or];exact⟨hni,λe=>hyu e.symm⟩);have KY:=ah (tX HD1.out H y);obtain⟨f1,f2⟩:=aaq H y;have hw:IntKind.i64.wrap (Tr.dep T y-Tr.dep T ix)=Tr.dep T y-Tr.dep T ix:=IntWalk.i64_in _ ak;clear hmem SF hni hyu;generalize Tr.dep T y=dy at *;generalize Tr.dep T (ix:Int)=dx at *;generalize wu T dx (l.take k)=dk at *
      go_wp2_with (first|(go_at_call 40;first|((with_reducible refine(KY.out).mono ?_);rintro e w' ⟨rfl,rfl⟩)|((with_reducible refine(KX.out).mono ?_);rintro e w' ⟨rfl,rfl⟩)))
      go_roundw
      case rel=>exact⟨k+1,by omega,by go_num,by rw[hstep.out],ajX.out,trivial⟩
      case measure=>simp[intOf];omega
  . obtain rfl:k=n:=by omega
    rw[jb6 (by rw[HN.out];exact aH _)]at hni ⊢;rw[HAL.out];have hE1:=HE0.out;rw[if_neg hni]at hE1;have HE1:=ah hE1;have HNI:=ah hni;clear hE1 hni HE0;have c5:=HD1.out.jX HU.out;have ji:=HD1.out.row _ _ HU.out;obtain⟨A,cc,hv,_⟩:=ji.ints;rw[hv]at c5 ji;have BJ:=ah ji;clear ji hv;by_cases ha:a<0
    . have hE:Tr.jf T ix iu a=1:=by rw[HE1.out,if_pos (.inl ha)]
      have HR:=ah (show _/\_ from⟨hE,HS.out _ hE aG⟩);clear hE;go_wp2
      go_ret
      rw[HR.out.1,HR.out.2];exact⟨rfl,_,HD1.out,DG.of_below HB1.out⟩
    obtain⟨i,rfl⟩:∃i:Nat,a=i:=⟨a.toNat,by omega⟩;have aio:=tY BJ.out HQK.out (ix:Int);generalize hnq:q.kids.length=nq at *;have HNQ:=ah hnq;clear hnq;generalize hnw:(Tr.wo q.kids (ix:Int)).length=nw at *;have HNW:=ah hnw;clear hnw;by_cases hal:nw<i
    . have hE:Tr.jf T ix iu i=1:=by rw[HE1.out,if_pos (.inr ak)]
      have HR:=ah (show _/\_ from⟨hE,HS.out _ hE aG⟩);have ajY:(nw:Int)<(i:Int):=by omega
      clear hE
      go_wp2_with (go_at_call 104;(with_reducible refine aio.mono ?_);rintro e w6 ⟨⟨v6,rfl,Cu⟩,hb6⟩;obtain⟨A6,c6,rfl⟩:=dY Cu)
      go_ret
      rw[HR.out.1,HR.out.2];exact⟨rfl,_,HD1.out.after hb6,DG.of_below (HB1.out.trans (hb6.mono HB1.out.size))⟩
    have ajY:¬ (nw:Int)<(i:Int):=by omega
    go_upto_region 15 with(go_at_call 104;(with_reducible refine aio.mono ?_);rintro e w6 ⟨⟨v6,rfl,Cu⟩,hb6⟩;obtain⟨A6,c6,rfl⟩:=dY Cu)
    have D6:=HD1.out.after hb6;have KU:=ah (tX D6 H (iu:Int));have hw1:IntKind.i64.wrap (Tr.dep T iu+1)=Tr.dep T iu+1:=IntWalk.i64_in _ ak;have hb2:=N9 H (l:=l) OJ.1;rw[HAL.out]at hb2;have hw2:IntKind.i64.wrap (Tr.dep T iu+1+(Tr.hgt T 64 ix:Int))=Tr.dep T iu+1+(Tr.hgt T 64 ix:Int):=IntWalk.i64_in _ ak;have HHG:Hid (∀e:Int,e=e):=ah λ_=>rfl;by_cases hdd:63<Tr.dep T iu+1+(Tr.hgt T 64 ix:Int)
    . have hE:Tr.jf T ix iu i=5:=by rw[HE1.out,if_neg (λq=>q.elim (λq=>absurd q ak) (λq=>absurd q ak)),if_pos hdd]
      have HR:=ah (show _/\_ from⟨hE,HS.out _ hE aG⟩);have HD6:=ah D6;have HB6:=ah (HB1.out.trans (hb6.mono HB1.out.size));clear hE D6 hb6;generalize Tr.dep T (iu:Int)=du at *;generalize Tr.hgt T 64 (ix:Int)=hg at *
      go_wp2_with (go_at_call 40;(with_reducible refine(KU.out).mono ?_);rintro e w' ⟨rfl,rfl⟩)
      go_ret
      rw[HR.out.1,HR.out.2];exact⟨rfl,_,HD6.out,DG.of_below HB6.out⟩
    have hE:Tr.jf T ix iu i=0:=by rw[HE1.out,if_neg (λq=>q.elim (λq=>absurd q ak) (λq=>absurd q ak)),if_neg hdd]
    have afH:(iu:Int)≠ix:=λe=>by have:=HSF.out;rw[<-e]at this;exact HNI.out this
    obtain⟨q1,hq1,hql⟩:∃q1,Tr.set T (iv:Int) { p with kids:=Tr.wo p.kids ix } iu=some q1/\q1.kids.length=nw:=by
     by_cases e:(iu:Int)=iv
     . have e2:=HU.out
       rw[e,HP.out]at e2;cases e2;exact⟨_,by rw[e,Tr.aP],HNW.out⟩
     . refine⟨q,by rw[Tr.aK _ _ e];exact HU.out,?_⟩
       have:=HOT.out;rw[if_neg (λq=>e q.symm)]at this;have:=HNQ.out;omega
    have hR:Tr.j4 T ix iu i=Tr.set (Tr.set (Tr.set T (iv:Int) { p with kids:=Tr.wo p.kids ix }) iu { q1 with kids:=Tr.wi q1.kids i ix }) ix ⟨iu,nk,ns⟩:=by
     unfold Tr.j4;rw[if_pos hE,Int.toNat_natCast];exact acS HX.out HP.out HNX.out afH hq1
    have HR:=ah (show _/\_ from⟨hE,hR⟩);have hx2:Tr.set (Tr.set T (iv:Int) { p with kids:=Tr.wo p.kids ix }) iu { q1 with kids:=Tr.wi q1.kids i ix } ix=some ⟨iv,nk,ns⟩:=by
     rw[Tr.aK _ _ (Ne.symm afH),Tr.aK _ _ (Ne.symm HNX.out)];exact HX.out
    have HX2:=ah hx2;have HQ1:=ah hq1;have hil:Hid (i<=q1.kids.length):=ah ak;have ajZ:Hid (q1.kids.length<=10000):=ah (by have h1:=List.length_filter_le (λy=>y != (ix:Int)) q.kids;have h2:=HNW.out;have h3:=HNQ.out;have h4:=HQK.out;unfold Tr.wo at h2;omega);have HG6:=ah (DG.of_below (r:=r) (g:=g) (K:=K) (T:=T) (HB1.out.trans (hb6.mono HB1.out.size)));have c4:=D6.cT;have c5:=D6.cUp HX.out;have HD6:=ah D6;clear hE hR hx2 hq1 hql afH hb6 D6 HE1 HS HAL hb2 Cu;generalize Tr.dep T (iu:Int)=du at *;generalize Tr.hgt T 64 (ix:Int)=hg at *
    go_upto_region 18 with(go_at_call 40;(with_reducible refine(KU.out).mono ?_);rintro e w6 ⟨rfl,rfl⟩)
    clear c5 KU;have c5:=HD6.out.jX HP.out;have ji:=HD6.out.row _ _ HP.out;obtain⟨Ap,cp,hv,_⟩:=ji.ints;rw[hv]at c5 ji;have BJ:=ah ji;have HV:=ah hv;clear ji hv;have HPL:=ah (aH p.kids.length);generalize hnp:p.kids.length=np at *;have HNP:=ah hnp;clear hnp;refine iC (S:=(λW'=>W'.cell? ⟨r,0,none⟩=some (.slice g m c)/\W'.cell? ⟨g,iv*58+2,none⟩=some (.slice Ap np cp)/\Below w6 w6 W')) 15 ?_ ?_
    . exact⟨c4,c5,Below.drew aD⟩
    intro hS0;clear c4 c5;refine aO 0 ?_;refine aO 1 ?_;refine aO 2 ?_;refine aO 3 ?_;refine aO 4 ?_;refine aO 5 ?_;refine aO 6 ?_;refine aO 7 ?_;refine aO 8 ?_;refine aO 9 ?_;refine aO 10 ?_;refine aO 11 ?_;refine aO 12 ?_;refine aO 13 ?_;refine tk1 14 ?_;refine aj.Step.call eD (tY (BJ.out.after hS0.2.2) (by rw[HNP.out];exact HPK.out) (ix:Int)) ?_;rintro e w8 ⟨⟨v6,rfl,Cu⟩,hb6⟩;have hS1:=hS0.2.2.trans (hb6.mono hS0.2.2.size);have KI:=dP Cu oI;have hown6:=λb hb=>aJ hS0.2.2.size (World.ownsRow.lt Cu b hb).1;obtain⟨A8,c8_,rfl⟩:=dY Cu;have hD6:=HD6.out.after hS1;have c7:=hD6.cT;have c8:=hD6.jX HP.out;rw[HV.out]at c8;obtain⟨cur,hcur,_⟩:=hD6.cur;have hth:=hcur.thaw (iv*58+2);have hD7:=ah (hD6.sw HP.out KI)
    have Ox:DG r g K T w6 (w8.setCell ⟨g,iv*58+2,none⟩ (.slice A8 (Tr.wo p.kids (ix:Int)).length c8_)) g (λz=>if z=(iv:Int)then .slice A8 (Tr.wo p.kids (ix:Int)).length c8_ else K z) (Tr.set T iv { p with kids:=Tr.wo p.kids ix }) :=
     ⟨(Out.of_below hS1).trans ((Out.refl _ _).set (M:=iW r g K T) (.inr (.inl rfl)) _ _),λb hb=>(pO HP.out hb).elim .inl λq => .inr (hown6 b q)⟩
    have HG9:=ah (HG6.out.trans Ox);have HD9:=ah hD7.out;refine⟨_,rfl,λ_=>⟨c7,c8,hS1⟩,?_⟩;clear Ox hS0 hS1 KI hown6 Cu hb6 hcur hD6 hD7;generalize hnl:(Tr.wo p.kids (ix:Int)).length=n8 at *
    (try simp only[bM,bN,bO,tks])
    refine tk1 15 ?_;refine uG ?_ (hS:=by first|(intro hlt;exact absurd hlt aG)|(intro _;exact hlt));refine tk1 16 ?_;refine uG ?_ (hS:=by first|(intro hlt;exact absurd hlt aG)|(intro _;exact hlt));refine tk1 17 ?_;refine aj.Step.skip Z3v ?_;refine⟨by first|(intro hlt;exact absurd hlt aG)|(intro _;exact hlt),?_⟩;(try simp only[Act.put]);refine gZ ?_;clear hnl c7 c8 hth;generalize hT9:Tr.set T (iv:Int) { p with kids:=Tr.wo p.kids ix }=T9 at *;generalize hK9:(λz:Int=>if z=(iv:Int)then Value.slice A8 n8 c8_ else K z)=K9 at *;generalize w8.setCell ⟨g,iv*58+2,none⟩ (.slice A8 n8 c8_)=w9 at *;have HT9:=ah hT9;clear hT9 hK9;have c4:=HD9.out.cT;have c5:=HD9.out.jX HQ1.out;have ji:=HD9.out.row _ _ HQ1.out;obtain⟨Aq,cq,hv,_⟩:=ji.ints;rw[hv]at c5 ji;have adA:=ah ji;have HV2:=ah hv;clear ji hv BJ HV HD6 HG6;generalize hnp:q1.kids.length=nz at *;have HNZ:=ah hnp;clear hnp
    go_upto_region 19 with(fail)
    refine iC (S:=(λW'=>W'.cell? ⟨r,0,none⟩=some (.slice g m c)/\W'.cell? ⟨g,iu*58+2,none⟩=some (.slice Aq nz cq)/\Below w9 w9 W')) 16 ?_ ?_
    . exact⟨c4,c5,Below.drew aD⟩
    intro hS0;clear c4 c5;refine aO 0 ?_;refine aO 1 ?_;refine aO 2 ?_;refine aO 3 ?_;refine aO 4 ?_;refine aO 5 ?_;refine aO 6 ?_;refine aO 7 ?_;refine aO 8 ?_;refine aO 9 ?_;refine aO 10 ?_;refine aO 11 ?_;refine aO 12 ?_;refine aO 13 ?_;refine aO 14 ?_;refine tk1 15 ?_;refine aj.Step.call eD (GA (adA.out.after hS0.2.2) (by rw[HNZ.out];exact ajZ.out) (by rw[HNZ.out];exact hil.out) (ix:Int)) ?_;rintro e iL ⟨⟨v6,rfl,Cu⟩,hb6⟩;have hS1:=hS0.2.2.trans (hb6.mono hS0.2.2.size);have KI:=dP Cu oI;have hown6:=λb hb=>aJ hS0.2.2.size (World.ownsRow.lt Cu b hb).1;obtain⟨A10,acT,rfl⟩:=dY Cu;have hD6:=HD9.out.after hS1;have c7:=hD6.cT;have c8:=hD6.jX HQ1.out;rw[HV2.out]at c8;obtain⟨cur,hcur,_⟩:=hD6.cur;have hth:=hcur.thaw (iu*58+2);have hD7:=ah (hD6.sw HQ1.out KI)
    have Ox:DG r g K9 T9 w9 (iL.setCell ⟨g,iu*58+2,none⟩ (.slice A10 (Tr.wi q1.kids i (ix:Int)).length acT)) g (λz=>if z=(iu:Int)then .slice A10 (Tr.wi q1.kids i (ix:Int)).length acT else K9 z) (Tr.set T9 iu { q1 with kids:=Tr.wi q1.kids i ix }) :=
     ⟨(Out.of_below hS1).trans ((Out.refl _ _).set (M:=iW r g K9 T9) (.inr (.inl rfl)) _ _),λb hb=>(pO HQ1.out hb).elim .inl λq => .inr (hown6 b q)⟩
    have aip:=ah (HG9.out.trans Ox);have aaA:=ah hD7.out;refine⟨_,rfl,λ_=>⟨c7,c8,hS1⟩,?_⟩;clear Ox hS0 hS1 KI hown6 Cu hb6 hcur hD6 hD7;generalize hnl:(Tr.wi q1.kids i (ix:Int)).length=n10 at *
    (try simp only[bM,bN,bO,tks])
    refine tk1 16 ?_;refine uG ?_ (hS:=by first|(intro hlt;exact absurd hlt aG)|(intro _;exact hlt));refine tk1 17 ?_;refine uG ?_ (hS:=by first|(intro hlt;exact absurd hlt aG)|(intro _;exact hlt));refine tk1 18 ?_;refine aj.Step.skip Z3v ?_;refine⟨by first|(intro hlt;exact absurd hlt aG)|(intro _;exact hlt),?_⟩;(try simp only[Act.put]);refine gZ ?_;clear hnl c7 c8 hth;generalize Tr.set T9 (iu:Int) { q1 with kids:=Tr.wi q1.kids i ix }=T11 at *;generalize (λz:Int=>if z=(iu:Int)then Value.slice A10 n10 acT else K9 z)=K11 at *;generalize iL.setCell ⟨g,iu*58+2,none⟩ (.slice A10 n10 acT)=qh at *;have c4:=aaA.out.cT;have c5:=aaA.out.cUp HX2.out;obtain⟨cur,hcur,_⟩:=aaA.out.cur;have hth:=hcur.thaw (ix*58+1);obtain⟨aiq,air⟩:=aaA.out.Xt HX2.out (iu:Int);have aj0:=ah aiq;have aj1:=ah (aip.out.trans air);clear hcur aiq air aaA aip adA HV2;go_wp2
    go_ret
    rw[HR.out.1,HR.out.2];exact⟨rfl,_,aj0.out,aj1.out⟩
theorem aaB{T:Tr.T}(h:Doc w r g c m K T)(H:Tr.WF T)(hn:(Tr.ord T).length<4096)(hmm:m+1<=4096)(u a:Int):Calls ja0 78 #[r,u,a] w λe w'=>e=.returned (.tuple #[Tr.sM T u a,Tr.lI T u a])/\∃g' c' m' K',Doc w' r g' c' m' K' (Tr.jG T u a)/\m'<=m+1/\DG r g K T w w' g' K' (Tr.jG T u a):=by
 by_cases hE:Tr.lI T u a=0
 . have hI:Tr.sM T u a=Tr.free T:=by unfold Tr.sM;rw[if_pos hE]
   have hR:Tr.jG T u a=Tr.nX T (Tr.free T) u a.toNat:=by unfold Tr.jG;rw[if_pos hE]
   rw[hI,hR,hE];unfold Tr.lI at hE;cases hu:T u with
   | none=>rw[hu]at hE;cases hE
   | some p =>
     rw[hu]at hE;dsimp only at hE;split at hE
     . cases hE
     . split at hE
       . cases hE
       . rename_i h1 h2
         obtain⟨d,h3,h4,h5⟩:=H.iF hu;obtain⟨hfr,_⟩:=H.I9;obtain⟨k,hk⟩:∃k:Nat,Tr.free T=k:=⟨(Tr.free T).toNat,by have:=hfr.1;omega⟩;obtain⟨i,rfl⟩:∃i:Nat,a=i:=⟨a.toNat,by omega⟩;rw[hk]at hfr;rw[hk,Int.toNat_natCast];have hkm:k<m\/k=m:=by
          rcases Nat.lt_trichotomy k m with q|q|q
          . exact .inl q
          . exact .inr q
          . have h6:=hfr.2.2 (m:Int) ak ak
            cases e:T (m:Int)with
            | none=>exact absurd e h6
            | some nd=>have:=h.range _ nd e;omega
         rcases hkm with hkm|hkm
         . exact VP h H hn hmm hu rfl ak h4 ak hfr hkm
         . exact VQ h H hn hmm hu rfl ak h4 ak hfr hkm
 . refine(acR h H hn hE).mono ?_
   rintro e w' ⟨rfl,hd,hg⟩;exact⟨rfl,g,c,m,K,hd,by omega,hg⟩
structure Two(W:World)(t r g c m n n0:Nat)(L:Lay)(K:Int->Value)(T U:Tr.T):Prop where
 good:Good W t L T n n0
 doc:Doc W r g c m K U
 own:∀b,iW r g K U b->n0<=b
 apart:∀b,owned t L T b->¬ iW r g K U b
section
variable {W W':World} {t r g c m n n0:Nat} {L:Lay} {K:Int->Value} {T U:Tr.T}
theorem Two.after(h:Two W t r g c m n n0 L K T U)(hb:Below W W W'):Two W' t r g c m n n0 L K T U:=⟨h.good.after hb,h.doc.after hb,h.own,h.apart⟩
theorem Two.code{n':Nat}{L':Lay}{T':Tr.T}(h:Two W t r g c m n n0 L K T U)(hg:Good W' t L' T' n' n0)(k:Grow t L L' T T' W W'):Two W' t r g c m n' n0 L' K T' U :=
 ⟨hg,h.doc.out (M:=owned t L T) (λb hb q=>h.apart b q hb) k.1,h.own,λb hb hd=>(k.2 b hb).elim (λq=>h.apart b q hd) λq=>absurd (h.doc.lt hd) ak⟩
theorem Two.ref{g' c' m':Nat}{K':Int->Value}{U':Tr.T}(h:Two W t r g c m n n0 L K T U)(hd:Doc W' r g' c' m' K' U')(k:DG r g K U W W' g' K' U')(h0:n0<=W.heap.size):Two W' t r g' c' m' n n0 L K' T U'/\Below n0 W W' :=
 ⟨⟨⟨⟨h.good.inv.rep.out (M:=iW r g K U) (λb hb q=>h.apart b hb q) k.1,h.good.inv.wf,h.good.inv.num⟩,h.good.own,h.good.fit⟩,hd,λb hb=>(k.2 b hb).elim (h.own b) λq=>aJ h0 q,λb hb hd'=>(k.2 b hd').elim (h.apart b hb) λq=>absurd (h.good.inv.rep.lt hb) ak⟩,
  k.1.below h0 λb hb q=>absurd (h.own b q) ak⟩
end
theorem aaC{t r g c m n n0:Nat}{L:Lay}{T:Tr.T}(h:Two w t r g c m n n0 L K T T)(hn:n<4096)(hm:m+1<=4096)(h0:n0<=w.heap.size){x:tT}(hx:NM x):Calls ja0 38 #[t,r,.agg (eG x)] w λe w'=>e=.returned (.bool true)/\∃L' g' c' m' n' K',Two w' t r g' c' m' n' n0 L' K' (VK T x) (VK T x)/\n'<=n+1/\m'<=m+1/\Below n0 w w':=by
 have hA:At (w.alloc (.cells (eG x) 91)) w.heap.size (.cells (eG x) 91):=At.new _ _;have hB:Below w w (w.alloc (.cells (eG x) 91)):=aB aD _;have h1:=h.after hB;have hB0:=hB.mono h0;have hs1:n0<=(w.alloc (.cells (eG x) 91)).heap.size:=by simp;omega
 have F5:(Tr.ord T).length<4096:=by rw[h.good.inv.num];exact hn
 have H:=h.good.inv.wf;have YZ:¬ owned t L T w.heap.size:=λq=>absurd (h.good.inv.rep.lt q) ak;have hlt:w.heap.size<(w.alloc (.cells (eG x) 91)).heap.size:=by simp
 have HA:=ah hA;clear h hB hA;have kR:=NS h1.good hs1 hx.a;have kM:=VL h1.good hs1 (a:=x.c) hx.a hx.b;have kA:=NR h1.good hn hs1 (a:=x.b) hx.a;have kS:=Fu h1.good hs1 hx.a hx.s;have dR:=ah λW (h:Doc W r g c m K T)=>N8 h H x.a;have dM:=ah λW (h:Doc W r g c m K T)=>VW h H x.a x.b x.c;have dA:=ah λW (h:Doc W r g c m K T)=>aaB h H F5 hm x.a x.b;have dS:=ah λW (h:Doc W r g c m K T)=>aaz h x.a x.s;have HG:=ah h1;have HX:=ah hx;have acU:Hid (∀(W:World) (L':Lay) (T':Tr.T),Grow t L L' T T' (w.alloc (.cells (eG x) 91)) W->At W w (.cells (eG x) 91)):=ah λW L' T' k=>HA.out.out YZ k.1;clear h1 hx;generalize hI1:Tr.wQ T x.a=rI at kR dR;generalize hE1:Tr.qw T x.a=rE at kR dR;generalize hI2:Tr.jf T x.a x.b x.c=mE at kM dM;generalize hI3:Tr.sM T x.a x.b=aI at kA dA;generalize hE3:Tr.lI T x.a x.b=aE at kA dA;generalize UK:rz T x.a x.s=sE at kS dS;clear hI1 hE1 hI2 hI3 hE3 UK;have c0:(w.alloc (.cells (eG x) 91)).cell? ⟨w,0,none⟩=some (.int .i64 x.k):=by rw[HA.out.cell,mK x ak];rfl
 have c1:(w.alloc (.cells (eG x) 91)).cell? ⟨w,1,none⟩=some (.int .i64 x.a):=by rw[HA.out.cell,mK x ak];rfl
 have c2:(w.alloc (.cells (eG x) 91)).cell? ⟨w,2,none⟩=some (.int .i64 x.b):=by rw[HA.out.cell,mK x ak];rfl
 have c3:(w.alloc (.cells (eG x) 91)).cell? ⟨w,3,none⟩=some (.int .i64 x.c):=by rw[HA.out.cell,mK x ak];rfl
 have hs:Hid (uy (w.alloc (.cells (eG x) 91)) w.heap.size 4 x.s):=ah λj hj=>by rw[HA.out.cell,xX x hj]
 go_enter Tryz.func38,Tryz.ntmps38
 go_upto_region 1 with(fail)
 generalize w.alloc (.cells (eG x) 91)=w1 at *;by_cases e2:x.k.tmod 5=2
 . have hd:Hid (VK T x=Tr.mq T x.a):=ah (by unfold VK;rw[if_pos e2])
   clear kM kA kS dM dA dS
   go_upto_region 5 with(first|(go_at_call 73;(with_reducible refine kR.mono ?_);rintro e w2 ⟨rfl,L',n',hi,hl,hg,hb2⟩;have TW2:=ah (HG.out.code hi hg);have hA2:=acU.out _ _ _ hg;have c12:w2.cell? ⟨w,1,none⟩=some (.int .i64 x.a):=Z45;have HB2:=ah hb2;clear c0 c1 c2 c3 hA2 hi hg hb2)|(go_at_call 74;(with_reducible refine(dR.out _ TW2.out.doc).mono ?_);rintro e w3 ⟨rfl,K',hd3,hg3⟩))
   have hn2:=aJ hs1 HB2.out.size;obtain⟨tw,hb⟩:=TW2.out.ref hd3 hg3 (aJ hs1 HB2.out.size);have HTW:=ah tw;have HB:=ah ((hB0.trans HB2.out).trans hb);clear tw hb hd3 hg3;go_wp2
   go_ret
   rw[hd.out];exact⟨rfl,L',g,c,m,n',K',HTW.out,by omega,by omega,HB.out⟩
 by_cases e3:x.k.tmod 5=3
 . have hd:Hid (VK T x=Tr.j4 T x.a x.b x.c):=ah (by unfold VK;rw[if_neg e2,if_pos e3])
   clear kR kA kS dR dA dS
   go_upto_region 9 with(first|(go_at_call 75;(with_reducible refine kM.mono ?_);rintro e w2 ⟨rfl,L',hi,hg,hb2⟩;have TW2:=ah (HG.out.code hi hg);have hA2:=acU.out _ _ _ hg;have c12:w2.cell? ⟨w,1,none⟩=some (.int .i64 x.a):=Z45;have c22:w2.cell? ⟨w,2,none⟩=some (.int .i64 x.b):=Z45;have c32:w2.cell? ⟨w,3,none⟩=some (.int .i64 x.c):=Z45;have HB2:=ah hb2;clear c0 c1 c2 c3 hA2 hi hg hb2)|(go_at_call 76;(with_reducible refine(dM.out _ TW2.out.doc).mono ?_);rintro e w3 ⟨rfl,K',hd3,hg3⟩))
   obtain⟨tw,hb⟩:=TW2.out.ref hd3 hg3 (aJ hs1 HB2.out.size);have HTW:=ah tw;have HB:=ah ((hB0.trans HB2.out).trans hb);clear tw hb hd3 hg3;go_wp2
   go_ret
   rw[hd.out];exact⟨rfl,L',g,c,m,n,K',HTW.out,by omega,by omega,HB.out⟩
 by_cases e4:x.k.tmod 5=4
 . have hd:Hid (VK T x=jI T x.a x.s):=ah (by unfold VK;rw[if_neg e2,if_neg e3,if_pos e4])
   clear kR kA kM dR dA dM
   go_upto_region 13 with(first|(refine fD aR _ rfl rfl hs.out ?_)|(refine fD aR _ rfl rfl hs2.out ?_)|(go_at_call 33;(with_reducible refine kS.mono ?_);rintro e w2 ⟨rfl,hi,hg,hb2⟩;have TW2:=ah (HG.out.code hi hg);have hA2:=acU.out _ _ _ hg;have c12:w2.cell? ⟨w,1,none⟩=some (.int .i64 x.a):=Z45;have hs2:Hid (uy w2 w.heap.size 4 x.s):=ah (λj hj=>by rw[hA2.cell,xX x hj]);have HB2:=ah hb2;clear c0 c1 c2 c3 hA2 hi hg hb2 hs)|(go_at_call 77;(with_reducible refine(dS.out _ TW2.out.doc).mono ?_);rintro e w3 ⟨rfl,hd3,hg3⟩))
   obtain⟨tw,hb⟩:=TW2.out.ref hd3 hg3 (aJ hs1 HB2.out.size);have HTW:=ah tw;have HB:=ah ((hB0.trans HB2.out).trans hb);clear tw hb hd3 hg3;go_wp2
   go_ret
   rw[hd.out];exact⟨rfl,L,g,c,m,n,K,HTW.out,by omega,by omega,HB.out⟩
 have hd:Hid (VK T x=Tr.jG T x.a x.b):=ah (by unfold VK;rw[if_neg e2,if_neg e3,if_neg e4]);clear kR kS kM dR dS dM
 go_upto_region 16 with(first|(go_at_call 34;(with_reducible refine kA.mono ?_);rintro e w2 ⟨rfl,L',n',hi,hl,hg,hb2⟩;have TW2:=ah (HG.out.code hi hg);have hA2:=acU.out _ _ _ hg;have c12:w2.cell? ⟨w,1,none⟩=some (.int .i64 x.a):=Z45;have c22:w2.cell? ⟨w,2,none⟩=some (.int .i64 x.b):=Z45;have HB2:=ah hb2;clear c0 c1 c2 c3 hA2 hi hg hb2)|(go_at_call 78;(with_reducible refine(dA.out _ TW2.out.doc).mono ?_);rintro e w3 ⟨rfl,g',c',m',K',hd3,hm3,hg3⟩))
 obtain⟨tw,hb⟩:=TW2.out.ref hd3 hg3 (aJ hs1 HB2.out.size);have HTW:=ah tw;have HB:=ah ((hB0.trans HB2.out).trans hb);clear tw hb hd3 hg3;go_wp2
 go_ret
 rw[hd.out];exact⟨rfl,L',g',c',m',n',K',HTW.out,hl,hm3,HB.out⟩
def VT(T:Tr.T):Prop:=∀z nd,T z=some nd->Re.valid nd.sty=true/\zk nd.sty=true
theorem SG:Re.valid Re.zero=true/\zk Re.zero=true:=⟨by decide +kernel,by decide +kernel⟩
theorem VT.le{T T':Tr.T}(h:VT T)(k:dN T' T):VT T':=λz nd hz=>by
 rcases k z nd hz with e|⟨q,hq,e⟩
 . rw[e];exact SG
 . rw[<-e];exact h z q hq
theorem VT.sty{T:Tr.T}(h:VT T)(z:Int){s:Re.St}(hs:zk s=true):VT (jI T z s):=by
 unfold Fix.jI;split
 . rename_i he
   have hv:Re.valid s=true:=by
    unfold rz at he;split at he
    . cases he
    . split at he
      . cases he
      . rename_i h2
        simpa using h2
   unfold Tr.FT;split
   . exact h
   . intro y nd hy
     by_cases e:y=z
     . subst e;rw[Tr.aP]at hy;cases hy;exact⟨hv,hs⟩
     . rw[Tr.aK _ _ e]at hy;exact h y nd hy
 . exact h
theorem VT.act{T:Tr.T}(h:VT T){x:tT}(hs:zk x.s=true):VT (VK T x):=by
 unfold VK;split
 . exact h.le (dN.mq _ _)
 . split
   . exact h.le (dN.j4 _ _ _ _)
   . split
     . exact h.sty _ hs
     . exact h.le (dN.jG _ _ _)
theorem ais:VT T0:=λz nd hz=>by
 unfold T0 at hz;split at hz
 . cases hz;exact SG
 . cases hz
def acV(W:World)(n0 t r:Nat):Prop:=∃g c m n L K T,Two W t r g c m n n0 L K T T/\n<=31/\VT T/\∀x d,Tr.Dp T x d->d<=6
theorem Iu.sty{W:World}{b o:Nat}{x:tT}(h:Iu W b o x):uy W b (o+4) x.s:=λj hj=>by
 have:=h (4+j) ak;rw[xX x hj]at this
 rwa [Nat.add_assoc]
theorem Q8{a0:Option Addr}{ug:Nat}(cap0:Nat){l:Nat->tT}(hA:aap w a0 ug l):Calls ja0 9 #[.slice a0 ug cap0] w λe w'=>(∃tb rb ok,e=.returned (.tuple #[.pointer (some ⟨tb,0,none⟩),.pointer (some ⟨rb,0,none⟩),.bool ok])/\(ok=true->acV w' w.heap.size tb rb))/\Below w w w':=by
 have HA:=ah hA;clear hA;go_enter Tryz.func9,Tryz.ntmps9
 go_upto_region 3 with(first|(go_at_call 32;(with_reducible refine(NT _).mono ?_);rintro e w2 ⟨⟨tb,rfl,L0,g0⟩,hb2⟩)|(go_at_call 36;(with_reducible refine(aay _).mono ?_);rintro e w3 ⟨⟨rb,rfl,g3,c3,K3,d3,afI⟩,hb3⟩))
 have g1:=g0.after hb3;have hsz2:=hb2.size;have ait:Hid (Two w3 tb rb g3 c3 1 1 w.heap.size L0 K3 T0 T0):=ah ⟨g1,d3,λb hb=>by have:=afI b hb;omega,λb hb hd=>by have h1:=afI b hd;have h2:=g0.inv.rep.lt hb;omega⟩;have HB3:=ah (hb2.trans (hb3.mono hsz2));clear g0 g1 d3 afI hb2 hb3 hsz2;by_cases hbig:(30:Int)<(ug:Int)
 . go_wp2
   go_ret3
   exact⟨⟨tb,rb,false,rfl,λh=>by cases h⟩,HB3.out⟩
 go_wp2
 go_loopw [7] (λi wr=>∃k Lr g c m K SH n,k<=ug/\i=.int .i64 (k:Int)/\Two wr tb rb g c m n w.heap.size Lr K SH SH/\n<=k+1/\m<=k+1/\VT SH/\Below w w wr) (λi _=>ug-(intOf i).toNat)
 case atStart=>exact⟨0,L0,g3,c3,1,K3,T0,1,by omega,rfl,ait.out,by omega,by omega,ais,HB3.out⟩
 case round =>
  clear ait HB3;obtain⟨k,Lr,g,c,m,K,SH,n,hk,rfl,hgr,hnk,hmk,hvt,hbr⟩:=hrel;have HGr:=ah hgr;have HBr:=ah hbr;have HVT:=ah hvt;have hnr:=hbr.size;clear hgr hvt;by_cases hlt:k<ug
  . have hltz:(k:Int)<(ug:Int):=by omega
    obtain⟨b,off,rfl,lb,hc⟩:=(HA.out.after hbr) ak;obtain⟨hf,ha⟩:=hc k hlt;have HF:=ah hf;have aiu:=ah ha;have HST:=ah ha.sty;have kT:=λX=>QZ (l k).s X;clear hf ha hc hbr;cases htm:zk (l k).s
    . rw[htm]at kT
      go_wp2_with (first|(refine fD aR _ rfl rfl HST.out ?_)|(go_at_call 37;(with_reducible refine(kT _).mono ?_);rintro e w5 ⟨rfl,hb5⟩))
      go_ret3
      exact⟨⟨tb,rb,false,rfl,λh=>by cases h⟩,HBr.out.trans (hb5.mono hnr)⟩
    rw[htm]at kT
    go_upto_region 10 with(first|(refine fD aR _ rfl rfl HST.out ?_)|(go_at_call 37;(with_reducible refine(kT _).mono ?_);rintro e w5 ⟨rfl,hb5⟩))
    have HB5:=ah (HBr.out.trans (hb5.mono hnr));have hn5:=aJ hnr hb5.size;have YW:=aaC (HGr.out.after hb5) ak ak hn5 HF.out;have aiv:Hid (Iu w5 b (off+k*59) (l k)):=ah λj hj=>(hb5.cell (p:=⟨b,off+k*59+j,none⟩) lb).trans (aiu.out j hj);have lb5:=aT lb hb5.size;clear kT hb5 aiu HST HGr HBr
    go_wp2_with (first|(refine Cr aR _ rfl rfl aiv.out ?_)|(go_at_call 38;(with_reducible refine YW.mono ?_);rintro e w4 ⟨rfl,L4,g4,c4,m4,n4,K4,tw4,hn4,hm4,hb4⟩))
    go_roundw
    case rel=>exact⟨k+1,L4,g4,c4,m4,K4,VK SH (l k),n4,by omega,by go_num,tw4,by omega,by omega,HVT.out.act htm,HB5.out.trans hb4⟩
    case measure=>simp[intOf];omega
  . have hltz:¬ (k:Int)<(ug:Int):=by omega
    obtain rfl:k=ug:=by omega
    clear hbr HA;have H:=HGr.out.good.inv.wf;have nT:=qg 64 0 HGr.out.doc H.uH (by have:=H.iE;unfold Tr.ord at this;omega);change Calls _ _ _ _ (λe w'=>(∃v,e=.returned v/\w'.ownsRow _ _ 1 v (Tr.ord SH).length ((Tr.ord SH).map (Value.int .i64)))/\_)at nT;have aiw:=ah HGr.out.good.inv.num
    go_upto_region 13 with(go_at_call 39;(with_reducible refine nT.mono ?_);rintro e w5 ⟨⟨v5,rfl,ho5⟩,hb5⟩;obtain⟨A5,c5,rfl⟩:=dY ho5)
    have hk5:=dP (base':=0) ho5 oI;obtain⟨A6,c6,e6,hI6,-⟩:=KS.ints (show KS w5 (.slice A5 (Tr.ord SH).length c5) (Tr.ord SH)from hk5);injection e6 with e7 e8 e9;subst e7;have HI:=ah hI6;have HG5:=ah (HGr.out.after hb5);have HB5:=ah (HBr.out.trans (hb5.mono hnr));have HO:Hid (∃o,Tr.ord SH=o):=ah ⟨_,rfl⟩;clear ho5 hk5 hb5 nT HGr HBr hI6 e8 e9;obtain⟨o,ho⟩:=HO.out;rw[ho]at HI;rw[ho]at aiw;rw[ho];have hno:=aiw.out;rw[hno];go_wp2
    go_loopw [9] (λi wr=>∃j:Nat,j<=n/\i=.int .i64 (j:Int)/\Below w5 w5 wr/\∀q,q<j->Tr.dep SH (o.getD q 0)<=6) (λi _=>n-(intOf i).toNat)
    case atStart=>exact⟨0,by omega,rfl,Below.refl _ _,λq hq=>by omega⟩
    case round =>
     obtain⟨j,hj,rfl,hb6,hall⟩:=hrel;have aix:=ah hall;clear hall;by_cases hjn:j<n
     . have hjz:(j:Int)<(n:Int):=by omega
       obtain⟨b6,o6,rfl,lb6,cx⟩:=(HI.out.after hb6).at_ (k:=j) ak;have Pv:=(tX (HG5.out.after hb6).doc H (o.getD j 0));obtain⟨z,hz⟩:=aA (o.getD j 0);obtain⟨d,hd⟩:=aA (Tr.dep SH z);rw[hz]at cx Pv;rw[hd]at Pv;have HZ:Hid (Tr.dep SH (o.getD j 0)=d):=ah (by rw[hz,hd]);clear hz hd;by_cases h6:6<d
       . go_wp2_with (go_at_call 40;(with_reducible refine Pv.mono ?_);rintro e w7 ⟨rfl,rfl⟩)
         go_ret3
         exact⟨⟨tb,rb,false,rfl,λh=>by cases h⟩,HB5.out.trans (hb6.mono HB5.out.size)⟩
       go_wp2_with (go_at_call 40;(with_reducible refine Pv.mono ?_);rintro e w7 ⟨rfl,rfl⟩)
       go_roundw
       case rel=>exact⟨j+1,by omega,by go_num,hb6,λq hq=>by
        by_cases e:q=j
        . subst e;rw[HZ.out];omega
        . exact aix.out q ak⟩
       case measure=>simp[intOf];omega
     . have hjz:¬ (j:Int)<(n:Int):=by omega
       obtain rfl:j=n:=by omega
       go_wp2
       go_ret3
       refine⟨⟨tb,rb,.inr ⟨rfl,g,c,m,_,Lr,K,SH,HG5.out.after hb6,by omega,HVT.out,λx d hx => ?_⟩⟩,HB5.out.trans (hb6.mono HB5.out.size)⟩;obtain⟨nd,hnd⟩:=hx.live;have hm:x∈o:=by rw[<-ho];exact H.fB.2 ⟨nd,hnd⟩
       obtain⟨q,hq,he⟩:=List.mem_iff_getElem.1 hm;have:=aix.out q ak;rw[List.getD,ja6 hq,Option.getD_some,he,H.I8 hx]at this;omega
end
theorem Fz.ids{T:Tr.T}{n:Nat}(M:Fz T n)(ww wh:Int):((Gy T ww wh).map (·.id)).Nodup:=by
 unfold Gy;split
 . exact(M.FB ww wh).1
 . exact .nil
open Go.ChangeShapes Go.WideShapes Go.ChangeAt Go.RowKit
open Go.Proofs.Tryz renaming prog → ja0
section
open Go.Deep Go.Joins
structure OfN where
 z:Int
 x:Int
 y:Int
def Kr(q:OfN):Prop:=(Lit.int .i64 q.z).wf=true/\(Lit.int .i64 q.x).wf=true/\(Lit.int .i64 q.y).wf=true
theorem Oe:Tryz.prog.cellsOf 128=3:=by kernel_rfl
theorem afJ:Tryz.prog.cellsOf 3=1:=by kernel_rfl
section
variable {H:Type} {enc:TypeId×Value->H} {w:World} {base:Nat} {spare:Nat->Bool} {held:Bool}
theorem aaH{n:Nat}{cs:List Value}{y:DataW H×List MemPlace}(h:DataW.trod enc ja0 w base spare held n 128 cs=some y) :
  ∃q:OfN,cs=[.int .i64 q.z,.int .i64 q.x,.int .i64 q.y]/\Kr q:=by
 obtain⟨xs,k,rfl,_,hl,hxl,hf⟩:=DataW.trod_struct Tryz.underlying128 h;rw[Oe]at hl
 match xs,hxl,cs,hl with
 | [y0,y1,y2],_,[v0,v1,v2],_ =>
   have g0:=hf 0 _ rfl;have g1:=hf 1 _ rfl;have g2:=hf 2 _ rfl;simp[afJ]at g0 g1 g2;obtain⟨a0,e0,_,w0⟩:=DataW.trod_int Tryz.underlying3 g0;obtain⟨a1,e1,_,w1⟩:=DataW.trod_int Tryz.underlying3 g1;obtain⟨a2,e2,_,w2⟩:=DataW.trod_int Tryz.underlying3 g2;simp at e0 e1 e2;exact⟨⟨a0,a1,a2⟩,by rw[e0,e1,e2],w0,w1,w2⟩
def Og(w:World)(a:Option Addr)(len cap:Nat):Prop :=
 (a=none/\len=0/\cap=0)\/∃x,a=some x/\len<=cap/\cap<=maxLen/\∃l:Nat->OfN,∀i,i<len->Kr (l i)/\∀j,j<3->w.cell? (x.add (i*3+j))=([Value.int .i64 (l i).z,.int .i64 (l i).x,.int .i64 (l i).y]:List Value)[j]?
theorem VX{n:Nat}{cs:List Value}{x:DataW H×List MemPlace}(h:DataW.trod enc ja0 w base spare held n 49 cs=some x) :
  ∃a len cap,cs=[.slice a len cap]/\Og w a len cap:=by
 rcases open_slice Tryz.underlying49 h with⟨rfl,_⟩|⟨a,len,cap,m,k,D,Pl,rfl,hb,hl,hm,hmm,rfl,hx⟩
 . exact⟨none,0,0,rfl,.inl ⟨rfl,rfl,rfl⟩⟩
 . refine⟨some a,len,cap,rfl,.inr ⟨a,rfl,hl,hm,?_⟩⟩
   have each:∀i,i<len->∃q:OfN,Kr q/\∀j,j<3->w.cell? (a.add (i*3+j))=([Value.int .i64 q.z,.int .i64 q.x,.int .i64 q.y]:List Value)[j]? := by
    intro i hi;obtain⟨cs',h1,h2⟩:=hx i (by rw[hmm];split<;>omega);rw[Oe]at h1;obtain⟨_,hlen,hcell⟩:=World.cells?_some h1;obtain⟨q,rfl,hq⟩:=aaH h2;refine⟨q,hq,λj hj => ?_⟩;rw[<-hcell j hj,add_add]
   have:Inhabited OfN:=⟨⟨0,0,0⟩⟩;obtain⟨q,hq⟩:=choose_lt each;exact⟨q,hq⟩
end
theorem Og.cap{w:World}{a:Option Addr}{len cap:Nat}(h:Og w a len cap):len<=cap/\len<=9223372036854775807:=by
 rcases h with⟨_,rfl,rfl⟩|⟨_,_,h,h2,_⟩
 . omega
 . simp only[maxLen]at h2;omega
def aaI(w:World)(a:Option Addr)(n:Nat)(l:Nat->OfN):Prop :=
 0<n->∃b off,a=some ⟨b,off,none⟩/\b<w.heap.size/\∀k,k<n->Kr (l k)/\w.cell? ⟨b,off+k*3,none⟩=some (.int .i64 (l k).z)/\w.cell? ⟨b,off+k*3+1,none⟩=some (.int .i64 (l k).x)/\w.cell? ⟨b,off+k*3+2,none⟩=some (.int .i64 (l k).y)
theorem aaI.after{W w:World}{A:Option Addr}{l:Nat->OfN}{n:Nat}(h:aaI W A n l)(hb:Below W W w):aaI w A n l:=λh0=>by
 obtain⟨b,off,rfl,hl,hc⟩:=h h0;refine⟨b,off,rfl,aT hl hb.size,λk hk => ?_⟩;obtain⟨hf,c0,c1,c2⟩:=hc k hk;exact⟨hf,(hb.cell (p:=⟨b,_,none⟩) hl).trans c0,(hb.cell (p:=⟨b,_,none⟩) hl).trans c1,(hb.cell (p:=⟨b,_,none⟩) hl).trans c2⟩
theorem Og.aj2{w:World}{a:Option Addr}{len cap:Nat}(h:Og w a len cap):∃l,aaI w a len l:=by
 rcases h with⟨rfl,rfl,rfl⟩|⟨x,rfl,_,_,l,hc⟩
 . exact⟨λ_=>⟨0,0,0⟩,λh=>absurd h ak⟩
 . refine⟨l,λh0 => ?_⟩
   obtain⟨b,off,spot⟩:=x;have c0:=(hc 0 h0).2 0 ak;have hspot:spot=none:=by
    have:=World.cell?_spot c0;simpa[Addr.add]using this
   subst hspot;have hb:=World.block_lt_of_cell? _ _ c0;refine⟨b,off,rfl,by unfold Addr.add at hb;simpa using hb,λk hk => ?_⟩;have e:=λj hj=>(hc k hk).2 j hj;simp only[addr_add,<-Nat.add_assoc]at e;exact⟨(hc k hk).1,e 0 ak,e 1 ak,e 2 ak⟩
end
open Go.Deep
open World renaming alloc → ja4
open List renaming getElem?_eq_getElem → ja6
def ogo(l:Nat->OfN)(n:Nat):Nat->Int->Option (Int×Int)
 | 0=>λ_=>none
 | k+1=>λz=>if z=(l (n-1-k)).z then some ((l (n-1-k)).x,(l (n-1-k)).y)else ogo l n k z
def KF(W:World)(m k:Nat)(O:Int->Option (Int×Int)):Prop:=∃n g,n<=k/\GM 3 W m n g/\∀z,g (.int .i64 z)=(O z).map λp=>pt p.1 p.2
section
variable {W W':World} {m k:Nat} {O:Int->Option (Int×Int)}
theorem KF.om(h:KF W m k O):OM W m O:=by obtain⟨n,g,_,h,r⟩:=h;exact⟨n,g,h,r⟩
theorem KF.lt(h:KF W m k O):m<W.heap.size:=h.om.lt
theorem KF.out{M:Nat->Prop}(h:KF W m k O)(hm:¬ M m)(q:Out M W W'):KF W' m k O:=by obtain⟨n,g,hn,h,r⟩:=h;exact⟨n,g,hn,h.out hm q,r⟩
theorem KF.keep(h:KF W m k O)(hb:Below W W W'):KF W' m k O:=by obtain⟨n,g,hn,h,r⟩:=h;exact⟨n,g,hn,h.keep hb,r⟩
theorem KF.made(W:World):KF (W.alloc (.map #[] 0)) W.heap.size 0 (λ_=>none):=⟨0,_,aH _,GM.made _ _,λ_=>rfl⟩
theorem KF.put(h:KF W m k O)(hk:k<maxLen){z:Int}(hz:Wf z)(x y:Int):∃W',(Instr.mapUpdate 36 (.map (some m)) (.int .i64 z) (pt x y)).run ja0 W=.ok () W'/\KF W' m (k+1) (λv=>if v=z then some (x,y)else O v)/\Out (λx=>x=m) W W':=by
 obtain⟨n,g,hn,h,r⟩:=h;obtain⟨W',n',hn',h1,h2,h3⟩:=h.put iT Tryz.underlying36 ak (iA hz) (v:=pt x y);refine⟨W',h1,⟨n',_,by omega,h2,λv => ?_⟩,h3⟩;show xO g _ _ _=Option.map _ (if v=z then some (x,y)else O v);by_cases e:v=z
 . subst e;rw[iU,if_pos rfl];rfl
 . rw[jZ (QY e),if_neg e];exact r v
end
theorem acX:(Tryz.prog.info? 130).map (λi=>(i.zero,i.size,i.bytes))=some (some (.agg #[(),.complex .f64 0 0]),2,24):=by kernel_rfl
theorem IJ(z x y:Int)(Y:World):(Instr.build 130 #[(0,.int .i64 z),(1,pt x y)]).run ja0 Y=.ok (.agg #[z,pt x y]) Y:=by kernel_rfl
theorem VY{ops:Array Oper}{S:World->Prop}{o:Oper}{a:Act}(z x y:Int)(hw:Region.wanted o (yielded ops a.tmps)=true)(ps:Array (Nat×Operand))(ho:o.op=.build 130 ps)(hq:(ps.map λp=>(p.1,a.eval p.2))=#[(0,.int .i64 z),(1,pt x y)]):aj.Reads ja0 ops S o (.agg #[z,pt x y]) a:=by
 refine .inl ⟨hw,λw _ => ?_⟩;unfold execOp;simp only[ho,hq,Sem.run_bind,IJ,Result.andThen_ok,Sem.run_pure]
theorem Q9{W:World}{base k:Nat}{v:Value}{xs:List Value}(z:Int)(p:Value)(hp:p.oneCell'=true)(hown:W.ownsRow base 130 2 v k xs)(hbase:base<=W.heap.size)(hk:k<=1000) :
  ∃v' w',(Builtin.append_ #[50,50] 50 #[v,.slice W 1 1]).run ja0 (W.alloc (.cells #[z,p] 130))=.ok v' w'/\w'.ownsRow base 130 2 v' (k+1) (xs++[.int .i64 z,p])/\Below base W w':=by
 obtain⟨i0,hi0,hz0,hz1,hz2⟩:=info_parts acX;have hA:=At.new W (.cells #[z,p] 130)
 obtain⟨v',w',hr,ho,hg,_,_⟩:=run_append_own_at (P:=ja0) (w:=W.alloc (.cells #[z,p] 130)) base 50 50 130 i0 _ 2 24 Tryz.underlying50 hi0 hz0 hz1 hz2 rfl aG v k _ (hown.alloc _) ⟨W,0,none⟩ 1 1 [.int .i64 z,p] rfl
  (by intro j u hj
      rw[addr_add,Nat.zero_add,hA.cell,<-hj]
      simp)
  (by intro u hu;simp at hu;rcases hu with rfl|rfl;rfl;exact hp) Oi ak iJ
 exact⟨v',w',hr,ho,(Below.alloc aD hbase _).grown hg iJ λg hgg=>(hown.lt g hgg).1⟩
theorem acY{w:World}{A:Option Addr}{n cap:Nat}{l:Nat->OfN}(HO0:aaI w A n l)(hn:n<=60):Calls ja0 20 #[.slice A n cap] w λe w'=>(∃mm v,e=.returned (.tuple #[.map (some mm),v])/\w.heap.size<=mm/\OM w' mm (ogo l n n))/\Below w w w':=by
 have hmk:=@run_makeMap ja0;have HO:=ah HO0;clear HO0;go_enter Tryz.func20,Tryz.ntmps20
 go_upto_region 2 with(fail)
 generalize hW:ja4 _ _=w1;have hM0:KF w1 w.heap.size 0 (ogo l n 0):=hW▸KF.made w;have hb1:Below w w w1:=hW▸aB aD _;have HM0:=ah hM0;have hs1:=hb1.size;clear hW hmk hM0
 go_upto_region 4 with(fail)
 go_loopw [6] (λi wr=>∃k:Nat,k<=n/\i=.int .i64 ((n:Int)-1-k)/\Below w w wr/\KF wr w.heap.size k (ogo l n k)) (λi _=>(intOf i+1).toNat)
 case atStart=>exact⟨0,by omega,by go_num,hb1,HM0.out⟩
 case round =>
  obtain⟨k,hk,rfl,hbr,hM⟩:=hrel;by_cases hkn:k<n
  . obtain⟨b,off,rfl,hb,hc⟩:=(HO.out.after hbr) ak
    obtain⟨i,hii⟩:=aA (n-1-k);obtain⟨hf,c0,c1,c2⟩:=hc i ak;have hi:((n:Int)-1-k)=(i:Int):=by omega
    have hin:(i:Int)<n:=by omega
    have hi0:(0:Int)<=i:=by omega
    have alj:i<n:=by omega
    rw[hi];have hog:ogo l n (k+1)=λv=>if v=(l i).z then some ((l i).x,(l i).y)else ogo l n k v:=by rw[<-hii];rfl
    obtain⟨⟨z,x,y⟩,hq⟩:=aA (l i);rw[hq]at hf c0 c1 c2 hog;simp only at hf c0 c1 c2 hog;have HOG:=ah hog;have hz:Wf z:=hf.1;have hsr:=hbr.size;have HIZ:=ah hi;have HM:=ah hM;clear hc hf hii hi hog hM hq
    go_upto_region 6 with(fail)
    have hSd:Below wr wr wr.drew:=Below.drew aD;refine iC (S:=λX=>Below wr wr X) 17 ?_ ?_
    . exact hSd
    intro hx;clear hSd;refine aF 0 ?_;refine aF 1 ?_;refine aF 2 ?_;refine aF 3 ?_;refine aF 4 ?_;refine aF 5 ?_;refine aF 6 ?_;refine aF 7 ?_;refine aF 8 ?_;refine aF 9 ?_;refine aF 10 ?_;refine aF 11 ?_;refine aF 12 ?_;refine aF 13 ?_;refine aF 14 ?_;refine aF 15 ?_;refine tk1 16 ?_;refine aj.Step.call eD (nO x y _) ?_;rintro e y5 ⟨rfl,rfl⟩;refine⟨_,rfl,λ_=>hx,?_⟩
    (try simp only[bM,bN,bO,tks])
    have hM1:=HM.out.keep hx;generalize wr.drew=wd at *;obtain⟨W5,hrun,hM5,BI⟩:=hM1.put Oi hz x y;rw[<-HOG.out]at hM5;refine tk1 17 ?_;refine aj.Step.skip (nI (.tmp 16) (.tmp 21) (.tmp 32) rfl rfl rfl rfl hrun) ?_;refine⟨λhlt=>absurd hlt aG,?_⟩
    (try simp only[bM,bN,bO,tks])
    refine gZ ?_;have hb5:Below w w W5:=(hbr.trans (hx.mono hsr)).trans (BI.below (by have:=hx.size;omega) λb' hb' e=>by omega);have hi:=HIZ.out;go_wp2
    go_roundw
    case rel=>exact⟨k+1,by omega,by go_num,hb5,hM5⟩
    case measure=>simp[intOf]
  . have hkz:k=n:=by omega
    subst hkz;have hsr:=hbr.size;have HM:=ah hM;clear hM HM0 hb1 hs1;generalize wr=wB at *
    go_upto_region 8 with(fail)
    go_loopw [5,7] (λs5 s7 X=>∃(j:Nat) (xs:List Value),j<=k/\s7=.int .i64 (j:Int)/\X.ownsRow wB.heap.size 130 2 s5 j xs/\Below wB wB X) (λ_ s7 _=>k-(intOf s7).toNat)
    case atStart=>exact⟨0,[],by omega,rfl,World.ownsRow_nil _ _ _ _,Below.refl _ _⟩
    case round =>
     obtain⟨j,xs,hj,rfl,hown,hbX⟩:=hrel;by_cases hjk:j<k
     . obtain⟨b,off,rfl,hb,hc⟩:=(HO.out.after hbr) ak
       obtain⟨hf,c0,c1,c2⟩:=hc j hjk;have hjz:(j:Int)<k:=by omega
       have hj0:(0:Int)<=j:=by omega
       obtain⟨⟨z,x,y⟩,hq⟩:=aA (l j);rw[hq]at c0 c1 c2;simp only at c0 c1 c2;have HOWN:=ah hown;clear hc hf hq hown;have hbd:=λX=>IJ z x y X;have hsX:=hbX.size
       go_upto_region 10 with(fail)
       have hown2:World.ownsRow (World.drew wr) wB.heap.size 130 2 _ j xs:=HOWN.out;have hSd:=Below.drew hbX;refine iC (S:=λY=>Below wB wB Y) 21 ?_ ?_
       . exact hSd
       intro hx;clear hSd;refine aF 0 ?_;refine aF 1 ?_;refine aF 2 ?_;refine aF 3 ?_;refine aF 4 ?_;refine aF 5 ?_;refine aF 6 ?_;refine aF 7 ?_;refine aF 8 ?_;refine aF 9 ?_;refine aF 10 ?_;refine aF 11 ?_;refine aF 12 ?_;refine aF 13 ?_;refine aF 14 ?_;refine aF 15 ?_;refine tk1 16 ?_;refine aj.Step.call eD (nO x y _) ?_;rintro e y5 ⟨rfl,rfl⟩;refine⟨_,rfl,λ_=>hx,?_⟩
       (try simp only[bM,bN,bO,tks])
       refine jh 17 rfl (VY z x y aR _ rfl Wy) ?_;refine tk1 18 ?_;refine uG ?_ (hS:=by first|(intro hlt;exact absurd hlt aG)|(intro _;exact aB hx _));obtain⟨v',W5,hap,hown5,hb5⟩:=Q9 z (pt x y) rfl hown2 (show wB.heap.size<=wr.drew.heap.size by have:=hx.size;exact this) ak;have hx5:=hx.trans hb5;refine tk1 19 ?_;refine aj.Step.value (vC (.tmp 39) (.tmp 57) 50 50 rfl rfl rfl hap) ?_;refine⟨λ_=>hx5,?_⟩
       (try simp only[bM,bN,bO,tks])
       clear hx;have hx:=hx5;refine aF 20 ?_;refine gZ ?_;go_wp2
       go_roundw
       case rel=>exact⟨j+1,_,by omega,by go_num,hown5,hx5⟩
       case measure=>simp[intOf];omega
     . have hjz:¬ (j:Int)<k:=by omega
       have hM1:=HM.out.keep hbX;have hbw:=hbr.trans (hbX.mono hsr);go_wp2;refine bodyPost_ret (by simp[results,Tryz.results20,go_sem];first|done|exact⟨rfl,rfl⟩|rfl) rfl ?_;exact⟨⟨_,⟨_,rfl⟩,aH _,hM1.om⟩,hbw⟩
end Go.Proofs.YtdnggaapcgomhaaGreat.Fix
