/- Steps of the program (15); no conditions. -/
import Derived.Test.YtfohooineeijkaaGreatM14
set_option linter.all false
set_option maxRecDepth 100000
set_option maxHeartbeats 16000000
namespace Go.Proofs.YtfohooineeijkaaGreat.Fix
open Go.ChangeShapes Go.WideShapes Go.ChangeAt Go.RowKit
open Go.Proofs.Tryz renaming prog → ja0
section
open List renaming setIfInBounds_toArray → ja1,set_cons_zero → ja2,set_cons_succ → ja3,getElem?_eq_getElem → ja6,length_append → ja8,length_cons → jb4,getElem?_map → jb7
open World renaming setCell → ja4
variable {v:Nat->Value}{d:Nat->Bool}{W W':World}{n₀ B:Nat}
section
variable {Y:rF} {B:Int->Fw.Bx} {F:Int->Nat} {D:Int->Prop} {KM:World->Nat->Prop} {f:Nat} {w:World} {P:Nat->Prop}
structure BkM(w4:World)(l:Nat->List Int)(m:Nat)(d:Nat->Bool)(v:Nat->Value)(W:World):Prop where
 out:Below w4 w4 W
 ro:∀i,i∈[5,11,17]->d i=true->∃T,v i=.slice (some ⟨T,0,none⟩) m m/\w4.heap.size<=T/\At W T (.cells (bG (λk=>(l i).getD k 0) m 0) 3)
 ne:∀i j,i∈[5,11,17]->j∈[5,11,17]->i≠j->d i=true->d j=true->v i≠v j
 cp:∀p q,(p,q)∈[(18,5),(19,11),(20,17)]->d p=true->d q=true/\v p=v q
theorem BkM.made{w4:World}{l:Nat->List Int}{m:Nat}{W:World}(h:BkM w4 l m d v W){i:Nat}(hi:i∈[5,11,17])(hd:d i=false):BkM w4 l m (λj=>j==i||d j) (λj=>if j=i then .slice W m m else v j) (W.alloc (.cells (bG (λk=>(l i).getD k 0) m 0) 3)):=by
 have hb:Below W W (W.alloc (.cells (bG (λk=>(l i).getD k 0) m 0) 3)):=aD aG _
 have hne:∀j,j∈[5,11,17]->d j=true->v j ≠ .slice W m m:=λj hj hdj e=>by
  obtain⟨T,e1,_,A⟩:=h.ro j hj hdj;cases e1.symm.trans e;exact absurd A.lt (Nat.lt_irrefl _)
 refine⟨Below.ay h.out aF hb,λj hj hdj => ?_,λj k hj hk hjk hdj hdk => ?_,λp q hpq hdp => ?_⟩
 . by_cases e:j=i
   . subst e
     exact⟨_,if_pos rfl,h.out.size,At.new _ _⟩
   . obtain⟨T,a,b,c⟩:=h.ro j hj (by simpa[e]using hdj)
     exact⟨T,(if_neg e).trans a,b,c.keep hb⟩
 . by_cases e:j=i
   . have e2:k≠i:=λe2=>hjk (e.trans e2.symm)
     rw[if_pos e,if_neg e2];exact(hne k hk (by simpa[e2]using hdk)).symm
   . rw[if_neg e]
     by_cases e2:k=i
     . rw[if_pos e2]
       exact hne j hj (by simpa[e]using hdj)
     . rw[if_neg e2]
       exact h.ne j k hj hk hjk (by simpa[e]using hdj) (by simpa[e2]using hdk)
 . have hp:p≠i:=by rintro rfl;simp at hi hpq;omega
   obtain⟨a,b⟩:=h.cp p q hpq (by simpa[hp]using hdp);have hq:q≠i:=λe=>by rw[e,hd]at a;cases a
   exact⟨by simp[a],by rw[if_neg hp,if_neg hq];exact b⟩
theorem BkM.set{w4:World}{l:Nat->List Int}{m:Nat}{W:World}(h:BkM w4 l m d v W){i j:Nat}(hi:(i,j)∈[(18,5),(19,11),(20,17)])(hd:d j=true){x:Value}(hx:v j=x):BkM w4 l m (λj=>j==i||d j) (λj=>if j=i then x else v j) W:=by
 have hn:∀k,k∈[5,11,17]->k≠i:=λk hk e=>by subst e;simp at hi hk;omega
 refine⟨h.out,λk hk hdk => ?_,λk k' hk hk' hkk hdk aiN => ?_,λp q hpq hdp => ?_⟩
 . obtain⟨T,a,b⟩:=h.ro k hk (by simpa[hn k hk]using hdk)
   exact⟨T,(if_neg (hn k hk)).trans a,b⟩
 . rw[if_neg (hn k hk),if_neg (hn k' hk')]
   exact h.ne k k' hk hk' hkk (by simpa[hn k hk]using hdk) (by simpa[hn k' hk']using aiN)
 . have hq:q≠i:=hn q (by simp at hpq ⊢;omega)
   by_cases e:p=i
   . subst e
     obtain rfl:q=j:=by simp at hpq hi;omega
     exact⟨by simp[hd],by rw[if_pos rfl,if_neg hq];exact hx.symm⟩
   . obtain⟨a,b⟩:=h.cp p q hpq (by simpa[e]using hdp)
     exact⟨by simp[a],by rw[if_neg e,if_neg hq];exact b⟩
structure BkI(Y:rF)(B:Int->Fw.Bx)(F:Int->Nat)(w:World)(P P':Nat->Prop)(n' N:Nat)(ly:Fw.Ld)(wr:World)(d:Nat->Bool)(v:Nat->Value)(W:World):Prop where
 out:Out (λb=>b=Y.pm) wr W
 c:d 4=true->v 4=.agg #[.int .i64 (-1),.int .i64 (-1)]
 ls:d 5=false->qR Y B F w P n' P' W
 ly:d 5=true->v 5=.agg (fH ly)/\∃n2 P2,n2<=N/\qR Y B F w P n2 P2 W/\(∀b,b<wr.heap.size->P2 b->P' b)/\(d 15=true->∀T,v 15=.pointer (some ⟨T,0,none⟩)->¬ P2 T)/\(d 16=true->∀T,v 16=.pointer (some ⟨T,0,none⟩)->¬ P2 T)
 p:d 15=true->∃T,v 15=.pointer (some ⟨T,0,none⟩)/\wr.heap.size<=T/\At W T (.cells #[(),(),(),(),(),(),()] 88)
 q:d 16=true->∃T,v 16=.pointer (some ⟨T,0,none⟩)/\wr.heap.size<=T/\At W T (.cells (cells Re.zero) 59)
theorem BkI.below{Y:rF}{B:Int->Fw.Bx}{F:Int->Nat}{w:World}{P P':Nat->Prop}{n' N:Nat}{ly:Fw.Ld}{wr:World}(h:BkI Y B F w P P' n' N ly wr d v W)(hb:Below W W W'):BkI Y B F w P P' n' N ly wr d v W' where
 out:=Out.trans' h.out (Out.of_below (M:=λ_=>False) hb) λ_ _ q=>q.elim
 c:=h.c
 ls:=λe=>(h.ls e).after hb
 ly:=λe=>by obtain⟨a,n2,P2,b,c,r⟩:=h.ly e;exact⟨a,n2,P2,b,c.after hb,r⟩
 p:=λe=>by obtain⟨T,a,b,c⟩:=h.p e;exact⟨T,a,b,c.keep hb⟩
 q:=λe=>by obtain⟨T,a,b,c⟩:=h.q e;exact⟨T,a,b,c.keep hb⟩
theorem BkI.made{Y:rF}{B:Int->Fw.Bx}{F:Int->Nat}{w:World}{P P':Nat->Prop}{n' N:Nat}{ly:Fw.Ld}{wr:World}{W:World}(h:BkI Y B F w P P' n' N ly wr d v W){i:Nat}{o:Obj}(hi:i=15/\o=.cells #[(),(),(),(),(),(),()] 88\/i=16/\o=.cells (cells Re.zero) 59):BkI Y B F w P P' n' N ly wr (λj=>j==i||d j) (λj=>if j=i then .pointer W else v j) (W.alloc o):=by
 have h':=h.below (aD aG o);have hA:At (W.alloc o) W.heap.size o:=At.new _ _;have hs:=h.out.size;rcases hi with⟨rfl,rfl⟩|⟨rfl,rfl⟩
 . exact⟨h'.out,h'.c,h'.ls,λe=>by obtain⟨a,n2,P2,b,c,r,r1,r2⟩:=h.ly e;exact⟨a,n2,P2,b,c.after (aD aG _),r,λ_ T hT hP=>by cases hT;exact absurd (c.lt _ hP) (Nat.lt_irrefl _),r2⟩,λ_=>⟨_,rfl,hs,hA⟩,h'.q⟩
 . exact⟨h'.out,h'.c,h'.ls,λe=>by obtain⟨a,n2,P2,b,c,r,r1,r2⟩:=h.ly e;exact⟨a,n2,P2,b,c.after (aD aG _),r,r1,λ_ T hT hP=>by cases hT;exact absurd (c.lt _ hP) (Nat.lt_irrefl _)⟩,h'.p,λ_=>⟨_,rfl,hs,hA⟩⟩
theorem aej(hL:xg Y B F D KM f)(hK:∀(X X':World) (b:Nat),KM X b->Below X X X'->KM X' b)(uo:∀(X X':World) (b:Nat),KM X b->Out (λq=>q≠b) X X'->KM X' b)(Cv:∀z,D z->∀k∈(B z).fl,D k/\F z=F k+1)(hlen:∀z,D z->(B z).fl.length<=10000)(hf:f<=1000)(hR0:RO w Y B D KM)(hkm:Y.km<w.heap.size)
  (z i0 i1:Int) (hz:D z) (hdn:∀k∈(B z).fl,D k/\F k=f) (hne:(B z).fl≠[]) (hl:(B z).fl.length<=64) (n:Nat) (Gw:Kp Y B F n P w) (hP:∀b,P b->b<w.heap.size) (hn:n+2*((B z).fl.map (Fw.cst B f)).sum<maxLen) (xs:List Fw.Ld) (hi:Int) (hm:Fw.Bp B (Fw.lay B f) f z i0 i1=(xs,hi)) :
  Calls ja0 95 #[Y.lb,.agg #[z,i0,i1]] w λe w'=>∃R cap cs P' n',e=.returned (.agg #[.slice (some ⟨R,0,none⟩) xs.length cap,hi])/\w.heap.size<=R/\At w' R (.cells cs 88)/\o8 cs xs/\n'<=n+2*((B z).fl.map (Fw.cst B f)).sum/\Kp Y B F n' P' w'/\(∀b,P' b->P b\/w.heap.size<=b)/\¬ P' R/\Out (λb=>b=Y.pm) w w':=by
 obtain⟨es0,U0,p9⟩:=hR0.Gv;have hpl:=p9.lt;obtain⟨fl,hfl⟩:=aC ((B z).fl);rw[hfl]at hdn hne hl hn ⊢;obtain⟨s,hs⟩:=aC ((B z).sty);obtain⟨OQ,hib⟩:=aC ((B z).ib);obtain⟨ks,hks⟩:=aC (fl.map (Fw.Eo B (Fw.lay B f) i0 i1));obtain⟨szl,Vi⟩:∃l:List Int,ks.map (·.s1)=l:=⟨_,rfl⟩;obtain⟨AJ,abW⟩:=aC ((fl.map λk=>Fx.coll (Fw.meet B 0 f k)));obtain⟨Ad,abX⟩:=aC ((fl.map λk=>Fx.coll (Fw.meet B 1 f k)));obtain⟨first,QK⟩:=aC ((if Fw.opn s OQ 0=true then 0 else AJ.getD 0 0));obtain⟨last,hlast⟩:=aC ((if Fw.opn s OQ 1=true then 0 else Ad.getD (Ad.length-1) 0));obtain⟨m,hmm⟩:=aC fl.length
 have HXS:Hid (ks.mapIdx (blG first szl AJ Ad)=xs/\Fw.wr (Fw.wr (first+Fx.wG szl AJ Ad m)+last)=hi):=ah (by
  unfold Fw.Bp at hm;simp only[hfl,hs,hib,hks,Vi,abW,abX,QK,hlast,hmm]at hm;injection hm with h1 h2
  exact⟨h1,h2⟩)
 have AO:Hid (ks.length=m):=ah (by rw[<-hks,List.length_map,hmm]);have HLS:Hid (szl.length=m):=ah (by rw[<-Vi,List.length_map,AO.out]);have D9:Hid (AJ.length=m):=ah (by rw[<-abW,List.length_map,hmm]);have HLU:Hid (Ad.length=m):=ah (by rw[<-abX,List.length_map,hmm]);have XI:=ah hks;have HSZ:=ah Vi;have HTP:=ah abW;have HBT:=ah abX;have O7:=ah QK;have HLA:=ah hlast;have Qj:=ah hs;have HIB:=ah hib;have Iy:=ah hfl;have HM:=ah hmm;have HN:=ah hn;have HDN:=ah hdn;have wu:=ah hR0;have HDW:=ah Cv;have HLEN:=ah hlen;rw[hmm]at hl;have hm0:0<m:=by rw[<-hmm];exact List.length_pos_iff.2 hne
 clear hm hks Vi abW abX QK hlast hmm Cv hlen;have hS:=qR.start Gw hP;have yg:=hR0;obtain⟨b0,hb0⟩:=aC (Y.bl z);obtain⟨hbx,agf,_⟩:=yg.box z hz;obtain⟨A,cp,hvf,hI,hle,hmx,hAn⟩:=agf.ints;have hlp:0<(B z).fl.length:=by rw[hfl];exact List.length_pos_iff.2 hne
 obtain⟨b1,o1,rfl,Wx,_⟩:=hI.at_ hlp;rw[hb0,hs,hib,hvf,hfl]at hbx;have HVF:Hid (Y.vf z=.slice (some ⟨b1,o1,none⟩) m cp):=ah (by rw[hvf,hfl,HM.out]);rw[HM.out]at hbx;generalize Y.va z=zva at hbx;have Vh:=hbx.lt
 have n0p:b0≠Y.pm:=λe=>by
  rw[e]at hbx;exact absurd (At.uniq hbx p9) bI
 have nlp:Y.lb≠Y.pm:=λe=>by
  have h1:=yg.lay;rw[e]at h1;exact absurd (At.uniq h1 p9) bI
 have b01:Below w w ((w.alloc (.cells #[z,i0,i1] 86)).alloc (.cells #[.slice none 0 0,()] 147)):=aD (aD aG _) _;have A0:At ((w.alloc (.cells #[z,i0,i1] 86)).alloc (.cells #[.slice none 0 0,()] 147)) w.heap.size (.cells #[z,i0,i1] 86):=At.alloc (At.new _ _) _;have A4:At ((w.alloc (.cells #[z,i0,i1] 86)).alloc (.cells #[.slice none 0 0,()] 147)) (w.heap.size+1) (.cells #[.slice none 0 0,()] 147):=At.new' _ Gs;have hS1:=hS.after b01;have GU:=yg.keep hK b01;have YT:=ah (aR.keep hbx b01);clear hdn hR0 yg hS p9 hs hib hbx hfl Gw hn agf hI hle hmx hAn hvf hlp Wx;go_enter Tryz.func95,Tryz.ntmps95
 go_upto_region 1 with(fail)
 generalize (w.alloc (.cells #[z,i0,i1] 86)).alloc (.cells #[.slice none 0 0,()] 147)=w1 at *;have agh:=A4.lt;have hsz:=b01.size;have hlk:=λX (h:Below w1 w1 X)=>(GU.keep hK h).look hz;simp only[hb0]at hlk;obtain⟨lY,yK,yL,AZ,Ba,Bb,Bc⟩:=At.six GU.lay;obtain⟨l0,aA,aB,aY⟩:=At.three A0;have hSd:Below w1 w1 w1.drew:=Below.drew aG;refine jy (S:=λX=>Below w1 w1 X) 8 ?_ ?_
 . exact hSd
 intro hx;clear hSd;refine aS 0 ?_;refine aS 1 ?_;refine aS 2 ?_;refine aS 3 ?_;refine aS 4 ?_;refine aS 5 ?_;refine mG 6 rfl (bU bB rfl rfl rfl (λX h=>hlk X h)) ?_;refine aS 7 ?_;refine jk ?_;have hx2:Below w1 w1 w1.drew:=hx;generalize w1.drew=w3 at *;have abL:=hx2.size;have rY:=hS1.after hx2;have B3:=A0.keep hx2;have C3:=A4.keep hx2;have BM:=ah (aR.keep YT.out hx2);clear b01 A0 A4 hS1 GU hlk yK yL AZ Ba Bb Bc lY hx hb0 YT l0 aA aB aY hx2;obtain⟨csR,hmk,agi⟩:=abF w3 m ak;have Yk:=ah hmk;have HCR:=ah agi;have LG:=aR.lt BM.out;have pQ:w3.cell? ⟨b0,71,none⟩=some (.slice (some ⟨b1,o1,none⟩) m cp):=aR.ext BM.out 16;have Vb:∀b X,(Instr.build 147 #[(0,.slice (some ⟨b,0,none⟩) m m)]).run ja0 X=.ok (.agg #[.slice (some ⟨b,0,none⟩) m m,()]) X:=λb X=>by kernel_rfl
 clear hmk agi
 go_upto_region 3 with(refine ni bB _ _ 145 rfl Yk.out ?_)
 generalize hW:World.alloc _ _=w4;obtain⟨R,hR⟩:=aC w3.heap.size;have AR:At w4 R (.cells csR 88):=hW▸At.alloc (At.new' _ hR.symm) _;have AC:At w4 (R+1) (.cells #[.slice R m m,()] 147):=by
  rw[<-hW,<-hR];exact At.new' _ bI
 have hb4:Below w3 w3 w4:=hW▸aD (aD aG _) _;rw[hR];have Ho:=rY.after hb4;have B4:=B3.keep hb4;have C4:=C3.keep hb4;have NH:=ah (aR.keep BM.out hb4);have gR:w.heap.size+1<R:=by omega
 have ad9:=hb4.size;have gRs:R+1<w4.heap.size:=AC.lt;clear hW hR hb4 rY B3 C3 BM pQ LG Vb Yk;have LG:=aR.lt NH.out;have pQ:w4.cell? ⟨b0,71,none⟩=some (.slice (some ⟨b1,o1,none⟩) m cp):=aR.ext NH.out 16;refine aj.iJ (λa0 a W5=>∃(Ts Tv Tu:Nat) (u33 u34 u35 u36 u37 u38 u39 u40 u41 u42 u43 u44 u45 u46 u47 u48 u49 u50:Value),a={ a0 with tmps:=((((((((((((((((((((a0.tmps.setIfInBounds 33 u33).setIfInBounds 34 u34).setIfInBounds 35 u35).setIfInBounds 36 u36).setIfInBounds 37 u37).setIfInBounds 38 u38).setIfInBounds 39 u39).setIfInBounds 40 u40).setIfInBounds 41 u41).setIfInBounds 42 u42).setIfInBounds 43 u43).setIfInBounds 44 u44).setIfInBounds 45 u45).setIfInBounds 46 u46).setIfInBounds 47 u47).setIfInBounds 48 u48).setIfInBounds 49 u49).setIfInBounds 50 u50).setIfInBounds 7 (.slice Ts m m)).setIfInBounds 8 (.slice Tv m m)).setIfInBounds 9 (.slice Tu m m) }/\(w4.heap.size<=Ts/\w4.heap.size<=Tv/\w4.heap.size<=Tu)/\(Ts≠Tv/\Ts≠Tu/\Tv≠Tu)/\At W5 Ts (.cells (bG (λi=>szl.getD i 0) m 0) 3)/\At W5 Tv (.cells (bG (λi=>AJ.getD i 0) m 0) 3)/\At W5 Tu (.cells (bG (λi=>Ad.getD i 0) m 0) 3)/\Below w4 w4 W5) ?_ ?_
 . have hSd:Below w4 w4 w4.drew:=Below.drew aG
   refine jy (S:=λX=>Below w4 w4 X) 21 ?_ ?_
   . exact hSd
   intro hx;clear hSd;refine aS 0 ?_;refine aS 1 ?_;refine aS 2 ?_;refine aS 3 ?_;refine aS 4 ?_;refine aS 6 ?_;refine aS 7 ?_;refine aS 8 ?_;refine aS 9 ?_;refine aS 10 ?_;refine aS 12 ?_;refine aS 13 ?_;refine aS 14 ?_;refine aS 15 ?_;refine aS 16 ?_;clear pQ LG AR AC B4 C4 NH Ho;refine aj.YM 6 [5,11,17,18,19,20] [38,44,50,7,8,9] (λi=>if i=18 then [5]else if i=19 then [11]else if i=20 then [17]else []) (BkM w4 (λi=>if i=5 then szl else if i=11 then AJ else Ad) m) ⟨⟨_,rfl,rfl,λd v W J hdp hd => ?_⟩,⟨_,rfl,rfl,λd v W J hdp hd => ?_⟩,⟨_,rfl,rfl,λd v W J hdp hd => ?_⟩,⟨_,rfl,rfl,λd v W J hdp hd => ?_⟩,⟨_,rfl,rfl,λd v W J hdp hd => ?_⟩,⟨_,rfl,rfl,λd v W J hdp hd => ?_⟩,trivial⟩ ⟨hx,λ_ _ h=>(by cases h),λ_ _ _ _ _ h=>(by cases h),λ_ _ _ h=>(by cases h)⟩ ?_
   . rw[aj.qg rfl]
     exact aj.Step.value (sI (λk=>szl.getD k 0) (n:=m) (.tmp 37) (.tmp 37) rfl rfl rfl ak) ⟨λ_=>(J.made (i:=5) bI hd).out,J.made (i:=5) bI hd⟩
   . rw[aj.qg rfl]
     exact aj.Step.value (sI (λk=>AJ.getD k 0) (n:=m) (.tmp 43) (.tmp 43) rfl rfl rfl ak) ⟨λ_=>(J.made (i:=11) bI hd).out,J.made (i:=11) bI hd⟩
   . rw[aj.qg rfl]
     exact aj.Step.value (sI (λk=>Ad.getD k 0) (n:=m) (.tmp 49) (.tmp 49) rfl rfl rfl ak) ⟨λ_=>(J.made (i:=17) bI hd).out,J.made (i:=17) bI hd⟩
   . obtain⟨T,e5,_,_⟩:=J.ro 5 bI (hdp 5 bI)
     rw[aj.SS (i:=5) (t:=38) rfl rfl e5]
     (try simp only[bV,bW,bX,tks])
     exact aj.Step.value eD ⟨λ_=>J.out,J.set (i:=18) (j:=5) bI (hdp 5 bI) e5⟩
   . obtain⟨T,e5,_,_⟩:=J.ro 11 bI (hdp 11 bI)
     rw[aj.SS (i:=11) (t:=44) rfl rfl e5]
     (try simp only[bV,bW,bX,tks])
     exact aj.Step.value eD ⟨λ_=>J.out,J.set (i:=19) (j:=11) bI (hdp 11 bI) e5⟩
   . obtain⟨T,e5,_,_⟩:=J.ro 17 bI (hdp 17 bI)
     rw[aj.SS (i:=17) (t:=50) rfl rfl e5]
     (try simp only[bV,bW,bX,tks])
     exact aj.Step.value eD ⟨λ_=>J.out,J.set (i:=20) (j:=17) bI (hdp 17 bI) e5⟩
   intro d v W hd J;obtain⟨Ts,e5,gs,As⟩:=J.ro 5 bI (hd 5 bI);obtain⟨Tv,e11,gv,Av⟩:=J.ro 11 bI (hd 11 bI);obtain⟨Tu,e17,gu,Au⟩:=J.ro 17 bI (hd 17 bI);have e18:=(J.cp 18 5 bI (hd 18 bI)).2.trans e5;have e19:=(J.cp 19 11 bI (hd 19 bI)).2.trans e11;have e20:=(J.cp 20 17 bI (hd 20 bI)).2.trans e17;have nsv:=J.ne 5 11 bI bI bI (hd 5 bI) (hd 11 bI);have nsu:=J.ne 5 17 bI bI bI (hd 5 bI) (hd 17 bI);have nvu:=J.ne 11 17 bI bI bI (hd 11 bI) (hd 17 bI);rw[e5,e11]at nsv;rw[e5,e17]at nsu;rw[e11,e17]at nvu
   (try simp only[aj.oG,aj.qd,aj.kY,aj.oF,List.map_cons,List.map_nil,e5,e11,e17,e18,e19,e20]);(try simp only[bV,bW,bX,tks])
   refine jk ?_;exact⟨rfl,Ts,Tv,Tu,_,_,_,_,_,_,_,_,_,_,_,_,_,_,_,_,_,_,rfl,⟨gs,gv,gu⟩,⟨λe=>nsv (by rw[e]),λe=>nsu (by rw[e]),λe=>nvu (by rw[e])⟩,As,Av,Au,J.out⟩
 . rintro a W5 ⟨Ts,Tv,Tu,u33,u34,u35,u36,u37,u38,u39,u40,u41,u42,u43,u44,u45,u46,u47,u48,u49,u50,rfl,⟨gs,gv,gu⟩,⟨nsv,nsu,nvu⟩,As,Av,Au,hb5⟩
   simp only[ja1,ja2,ja3];have hS5:=Ho.after hb5;have AR5:=AR.keep hb5;have AC5:=AC.keep hb5;have B5:=B4.keep hb5;have C5:=C4.keep hb5;have Hy:=ah (aR.keep NH.out hb5);have hsz5:=hb5.size;clear pQ LG Ho AR AC B4 C4 NH hb5;have LG:=aR.lt Hy.out;have pQ:W5.cell? ⟨b0,71,none⟩=some (.slice (some ⟨b1,o1,none⟩) m cp):=aR.ext Hy.out 16
   go_upto_region 5 with(fail)
   clear pQ LG;obtain⟨N5,WA⟩:=aC W5.heap.size;have lRq:=AC5.lt;have ls5:Ts<N5:=by have:=As.lt;omega
   have lv5:Tv<N5:=by have:=Av.lt;omega
   have lu5:Tu<N5:=by have:=Au.lt;omega
   have lR5:R+1<N5:=by omega
   have n0w:b0<w.heap.size:=Vh;have HN5:=ah WA;have DW:=ah (show∀b,P b->b<w.heap.size from hP);have YU:Hid (csR.size=m*7/\o8 csR (ks.take 0)):=ah ⟨HCR.out,by simp[o8]⟩;clear WA lRq
   go_loopw [56] (λiv wr=>∃(k n':Nat) (P':Nat->Prop) (cs:Array Value),k<=m/\iv=.int .i64 k/\n'<=n+csf B f fl k/\qR Y B F w P n' P' wr/\Hid (∀b,b<N5->P' b->P b)/\N5<=wr.heap.size/\At wr R (.cells cs 88)/\Hid (cs.size=m*7/\o8 cs (ks.take k))/\At wr (R+1) (.cells #[.slice R m m,()] 147)/\Hid (At wr Ts (.cells (bG (λi=>szl.getD i 0) m k) 3))/\Hid (At wr Tv (.cells (bG (λi=>AJ.getD i 0) m k) 3))/\Hid (At wr Tu (.cells (bG (λi=>Ad.getD i 0) m k) 3))/\At wr w (.cells #[z,i0,i1] 86)/\At wr (w.heap.size+1) (.cells #[.slice none 0 0,()] 147)/\Hid (aR wr b0 s (.slice (some ⟨b1,o1,none⟩) m cp) zva OQ)) (λiv _=>m-(intOf iv).toNat)
   case atStart=>exact⟨0,n,P,csR,gF _,rfl,by omega,hS5,ah λb _ h=>h,by rw[HN5.out];exact aO _,AR5,YU,AC5,ah As,ah Av,ah Au,B5,C5,Hy⟩
   case round =>
    clear hS5 AR5 YU AC5 As Av Au B5 C5 Hy;obtain⟨k,n',P',cs,hk,rfl,hn',hSr,yX,Gx,hAr,Jj,AC,hAs,hAv,hAu,A0,A4,xO⟩:=hrel;by_cases hlt:k<m
    . have hltz:(k:Int)<(m:Int):=by omega
      have OP:k<fl.length:=by rw[HM.out];exact hlt
      have qD:=ah hSr;have HRr:=ah (hSr.ro uo wu.out hkm);obtain⟨kid,sJ⟩:=aC (fl[k]);have hdk:=ah (HDN.out kid (sJ▸List.getElem_mem _));have Fb:=abV HVF.out (HRr.out.box z hz).2.1 (by rw[Iy.out];exact HM.out.symm);rw[Iy.out]at Fb;obtain⟨Wx,cb1⟩:=Vp Fb OP;rw[show fl.getD k 0=kid by rw[<-sJ,List.getD,ja6 OP];rfl]at cb1;have abY:=ah sJ;have hlk:=λX (h:Out (λb=>b=Y.pm) wr X)=>HRr.out.lookO h hdk.out.1;obtain⟨bk,hbk⟩:=aC (Y.bl kid);simp only[hbk]at hlk;have hbx:=(HRr.out.box kid hdk.out.1).1;rw[hbk]at hbx;obtain⟨sk,hsk⟩:=aC ((B kid).sty);rw[hsk]at hbx;generalize Y.vf kid=vf at hbx;generalize Y.va kid=va at hbx;generalize (B kid).ib=ib at hbx
      have nkp:bk≠Y.pm:=λe=>by
       obtain⟨es1,ck1,hp1⟩:=HRr.out.Gv;rw[e]at hbx;exact absurd (At.uniq hbx hp1) bI
      have qM:=ah hbx;have HSK:=ah hsk;obtain⟨l0,aA,aB,aY⟩:=At.three A0;clear sJ Fb hbk hbx hsk hSr
      go_upto_region 7 with(fail)
      clear cb1 Wx;obtain⟨lY,yK,yL,AZ,Ba,Bb,Bc⟩:=At.six HRr.out.lay;have lbk:=aR.lt qM.out;have npm:Y.pm<w.heap.size:=hpl;obtain⟨ly,xS⟩:=aC (Fw.lay B f kid i0 i1 (-1) (-1));have abZ:csf B f fl (k+1)=csf B f fl k+Fw.cst B f kid:=by rw[YP B f fl OP,abY.out]
      have agj:=YQ B f fl (k+1);have hnn:=HN.out;refine aj.iJ (λa0 a W6=>∃(Tp Tq n2:Nat) (P2:Nat->Prop) (u61 u62 u63 u64 u65 u66 u67 u68 u69 u70 u71 u72 u73 u74 u75:Value),a={ a0 with tmps:=((((((((((((((((a0.tmps.setIfInBounds 61 u61).setIfInBounds 62 u62).setIfInBounds 63 u63).setIfInBounds 64 u64).setIfInBounds 65 u65).setIfInBounds 66 u66).setIfInBounds 67 u67).setIfInBounds 68 u68).setIfInBounds 69 u69).setIfInBounds 70 u70).setIfInBounds 71 u71).setIfInBounds 72 u72).setIfInBounds 73 u73).setIfInBounds 74 u74).setIfInBounds 75 u75).setIfInBounds 12 (.pointer Tp)).setIfInBounds 13 (.pointer Tq) }/\wr.heap.size<=Tp/\wr.heap.size<=Tq/\Tp≠Tq/\At W6 Tp (.cells (fH ly) 88)/\At W6 Tq (.cells (cells sk) 59)/\n2<=n'+Fw.cst B f kid/\qR Y B F w P n2 P2 W6/\(∀b,b<wr.heap.size->P2 b->P' b)/\¬ P2 Tp/\¬ P2 Tq/\Out (λb=>b=Y.pm) wr W6) ?_ ?_
      . have n1:w.heap.size≠Y.pm:=by omega
        have hSd:Out (λb=>b=Y.pm) wr wr.drew:=(Out.refl _ _).drew;refine jy (S:=λX=>Out (λb=>b=Y.pm) wr X) 19 ?_ ?_
        . exact hSd
        intro hx;have hLS:=qD.out.after ((Below.refl wr.heap.size wr).drew);clear hSd
        (refine aj.aV (i:=0) rfl bE bE bE bE ak (by assumption) rT ?_;(try simp only[Act.put,ja1,ja2,ja3]))
        (refine aj.aV (i:=1) rfl bE bE bE bE ak (by assumption) rT ?_;(try simp only[Act.put,ja1,ja2,ja3]))
        (refine aj.aV (i:=2) rfl bE bE bE bE ak (by assumption) rT ?_;(try simp only[Act.put,ja1,ja2,ja3]))
        (refine aj.aV (i:=3) rfl bE bE bE bE ak (by assumption) rT ?_;(try simp only[Act.put,ja1,ja2,ja3]))
        (refine aj.aV (i:=6) rfl bE bE bE bE ak (by assumption) rT ?_;(try simp only[Act.put,ja1,ja2,ja3]))
        (refine aj.aV (i:=7) rfl bE bE bE bE ak (by assumption) rT ?_;(try simp only[Act.put,ja1,ja2,ja3]))
        (refine aj.aV (i:=8) rfl bE bE bE bE ak (by assumption) rT ?_;(try simp only[Act.put,ja1,ja2,ja3]))
        (refine aj.aV (i:=9) rfl bE bE bE bE ak (by assumption) rT ?_;(try simp only[Act.put,ja1,ja2,ja3]))
        (refine aj.aV (i:=10) rfl bE bE bE bE ak (by assumption) rT ?_;(try simp only[Act.put,ja1,ja2,ja3]))
        refine mG 11 rfl (bU bB rfl rfl rfl (λX h=>hlk X h)) ?_
        (refine aj.aV (i:=12) rfl bE bE bE bE ak (by assumption) rT ?_;(try simp only[Act.put,ja1,ja2,ja3]))
        (refine aj.aV (i:=13) rfl bE bE bE bE ak (by assumption) rT ?_;(try simp only[Act.put,ja1,ja2,ja3]))
        refine mG 14 rfl (jr bB (.tmp 74) rfl rfl (λX h=>aR.style (At.out qM.out nkp h))) ?_;clear l0 aA aB aY lY yK yL AZ Ba Bb Bc hlk hAr Jj AC hAs hAv hAu A0 A4 xO qM HRr qD n1 lbk;have hPl:=hLS.lt;have hwr:=hLS.size;refine aj.YM 4 [4,5,15,16] [65,66,12,13] (λi=>if i=5 then [4]else []) (BkI Y B F w P P' n' (n'+Fw.cst B f kid) ly wr) ⟨⟨_,rfl,rfl,λd v W J _ _ => ?_⟩,⟨_,rfl,rfl,λd v W J hdp hd => ?_⟩,⟨_,rfl,rfl,λd v W J _ _ => ?_⟩,⟨_,rfl,rfl,λd v W J _ _ => ?_⟩,trivial⟩ ⟨hx,λh=>(by cases h),λ_=>hLS,λh=>(by cases h),λh=>(by cases h),λh=>(by cases h)⟩ ?_
        . rw[aj.qg rfl]
          refine aj.Step.call eD (nC _) λe W2 h=>⟨_,h.1,λ_=>(J.below h.2).out,?_⟩;have J':=J.below h.2;exact⟨J'.out,λ_=>rfl,J'.ls,J'.ly,J'.p,J'.q⟩
        . have e4:=J.c (hdp 4 bI)
          rw[aj.SS (i:=4) (t:=65) rfl rfl e4]
          (try simp only[bV,bW,bX,tks])
          have sF:=tQ hL uo wu.out hkm (J.ls hd) kid i0 i1 (-1) (-1) hdk.out.1 hdk.out.2 ak;rw[xS]at sF;refine aj.Step.call eD sF ?_;rintro e W2 ⟨rfl,n2,P2,hn2,ab0,aek,hO⟩;have hs2:=J.out.size;refine⟨_,rfl,λ_=>J.out.trans hO,J.out.trans hO,λ_=>e4,λh=>(by simp at h),λ_=>⟨rfl,n2,P2,hn2,ab0,λb hb h=>aek b (bA hb hs2) h,λh T hT hq => ?_,λh T hT hq => ?_⟩,λh => ?_,λh => ?_⟩
          . obtain⟨T',e1,g,A⟩:=J.p h
            cases e1.symm.trans hT;exact absurd (hPl _ (aek _ A.lt hq)) (Nat.not_lt.2 g)
          . obtain⟨T',e1,g,A⟩:=J.q h
            cases e1.symm.trans hT;exact absurd (hPl _ (aek _ A.lt hq)) (Nat.not_lt.2 g)
          . obtain⟨T',e1,g,A⟩:=J.p h
            exact⟨T',e1,g,At.out (M:=λb=>b=Y.pm) A ak hO⟩
          . obtain⟨T',e1,g,A⟩:=J.q h
            exact⟨T',e1,g,At.out (M:=λb=>b=Y.pm) A ak hO⟩
        . rw[aj.qg rfl]
          exact aj.Step.value (u:=.pointer W) (w':=W.alloc (.cells #[(),(),(),(),(),(),()] 88)) eD ⟨λ_=>(J.below (aD aG _)).out,J.made (.inl ⟨rfl,rfl⟩)⟩
        . rw[aj.qg rfl]
          exact aj.Step.value (kV rfl) ⟨λ_=>(J.below (aD aG _)).out,J.made (.inr ⟨rfl,rfl⟩)⟩
        intro d v W hd J;have e4:=J.c (hd 4 bI);obtain⟨e5,n2,P2,hn2,ab0,Jd,np,nq⟩:=J.ly (hd 5 bI);obtain⟨Tp,e15,gp,Ap⟩:=J.p (hd 15 bI);obtain⟨Tq,e16,gq,Aq⟩:=J.q (hd 16 bI);replace np:=np (hd 15 bI) Tp e15;replace nq:=nq (hd 16 bI) Tq e16
        have FE:Tp≠Tq:=λe=>by
         subst e;exact absurd (At.uniq Ap Aq) bI
        replace hx:=J.out;replace hLS:=ab0
        (try simp only[aj.oG,aj.qd,aj.kY,aj.oF,List.map_cons,List.map_nil,e4,e5,e15,e16]);(try simp only[bV,bW,bX,tks])
        clear ab0 J e4 e5 e15 e16 hd hPl;refine tk1 17 ?_;refine aj.Step.skip (bH (q:=0) oC (.tmp 12) (.tmp 66) rfl rfl rfl Ap (dW ly) bI (pY ly)) ?_;rw[fM (cs:=#[(),(),(),(),(),(),()]) (vs:=fH ly) rfl];have Wn:At (W.setRow Tp (fH ly)) Tp (.cells (fH ly) 88):=At.setRow Ap _;have WB:=At.iP Aq FE.symm (fH ly);have iR:Out (λb=>b=Tp) W (W.setRow Tp (fH ly)):=Out.setRow (M:=λb=>b=Tp) (Out.refl _ _) rfl _;replace hLS:=hLS.own iR λb hb h=>by subst h;exact⟨np,by omega⟩
        replace hx:=Out.trans' hx iR λb hb h=>by omega
        generalize W.setRow Tp (fH ly)=y1 at *;clear iR Ap Aq;refine⟨λ_=>hx,?_⟩
        (try simp only[bV,bW,bX,tks])
        refine tk1 18 ?_;refine aj.Step.skip (kX (.tmp 13) (.tmp 75) rfl rfl rfl WB) ?_;have Aq3:At (y1.setRow Tq (cells sk)) Tq (.cells (cells sk) 59):=At.setRow WB _;have Ap3:=At.iP Wn FE (cells sk);have hO2:Out (λb=>b=Tq) y1 (y1.setRow Tq (cells sk)):=Out.setRow (M:=λb=>b=Tq) (Out.refl _ _) rfl _;replace hLS:=hLS.own hO2 λb hb h=>by subst h;exact⟨nq,by omega⟩
        replace hx:=Out.trans' hx hO2 λb hb h=>by omega
        generalize y1.setRow Tq (cells sk)=y2 at *;clear hO2 Wn WB;refine⟨λ_=>hx,?_⟩
        (try simp only[bV,bW,bX,tks])
        refine jk ?_;exact⟨rfl,Tp,Tq,n2,P2,_,_,_,_,_,_,_,_,_,_,_,_,_,_,_,rfl,gp,gq,FE,Ap3,Aq3,hn2,hLS,Jd,np,nq,hx⟩
      . rintro a W6 ⟨Tp,Tq,n2,P2,u61,u62,u63,u64,u65,u66,u67,u68,u69,u70,u71,u72,u73,u74,u75,rfl,gp,gq,FE,Ap,Aq,hn2,tX,Jd,hnp,hnq,jM⟩
        simp only[ja1,ja2,ja3];clear hlk l0 aA aB aY lY yK yL AZ Ba Bb Bc lbk;have KR:Hid (∀b,b<N5->P2 b->P b):=ah λb hb h=>yX.out b hb (Jd b ak h);have hs6:=jM.size;have vU:=hAr.out (M:=λb=>b=Y.pm) ak jM;have AC6:=AC.out (M:=λb=>b=Y.pm) ak jM;have As6:=ah (At.out (M:=λb=>b=Y.pm) hAs.out ak jM);have Av6:=ah (At.out (M:=λb=>b=Y.pm) hAv.out ak jM);have Au6:=ah (At.out (M:=λb=>b=Y.pm) hAu.out ak jM);have B6:=A0.out (M:=λb=>b=Y.pm) ak jM;have C6:=A4.out (M:=λb=>b=Y.pm) ak jM;have NI:=ah (At.out (M:=λb=>b=Y.pm) xO.out n0p jM);have hN6:N5<=W6.heap.size:=aK Gx hs6;clear hAr AC hAs hAv hAu A0 A4 xO jM Jd qM qD yX HRr;obtain⟨l0,aA,aB,aY⟩:=At.three B6;obtain⟨lp,TI,TJ,cp2,cp3,cp4,cp5,cp6⟩:=At.seven (b:=Tp) Ap;have zp5:=Ap.thaw 5;have lq:=Aq.lt;have c21:W6.cell? ⟨Tq,21,none⟩=some (.int .i64 (sk.c 21)):=(Aq.cell 21).trans (dG sk ak rfl);have c22:W6.cell? ⟨Tq,22,none⟩=some (.int .i64 (sk.c 22)):=(Aq.cell 22).trans (dG sk ak rfl);have c17:W6.cell? ⟨Tq,17,none⟩=some (.int .i64 (sk.c 17)):=(Aq.cell 17).trans (dG sk ak rfl);have c18:W6.cell? ⟨Tq,18,none⟩=some (.int .i64 (sk.c 18)):=(Aq.cell 18).trans (dG sk ak rfl);have HAQ:=ah Aq;obtain⟨au,hau⟩:=aC (Fx.Xa i0 ly.s0 (Fx.len (sk.c 21) (sk.c 22) i0 0) (Fx.len (sk.c 17) (sk.c 18) i0 0) (Fx.dY (sk.c 21) i0) (Fx.dY (sk.c 17) i0));have ael:=λX=>Xu i0 ly.s0 (sk.c 21) (sk.c 22) (sk.c 17) (sk.c 18) i0 X;simp only[hau]at ael;clear Aq
        go_upto_region 9 with(go_at_call 126;(with_reducible refine(ael _).mono ?_);rintro e' w9 ⟨rfl,iM⟩;replace Ap:=Ap.keep iM;obtain⟨lp,TI,TJ,cp2,cp3,cp4,cp5,cp6⟩:=At.seven (b:=Tp) Ap;have zp5:=Ap.thaw 5)
        generalize hW:ja4 _ _ _=NJ;obtain⟨y,hy⟩:∃y:Fw.Ld,{ ly with a0:=au }=y:=⟨_,rfl⟩;have ab1:At NJ Tp (.cells (fH y) 88):=by
         rw[<-hW,<-hy];exact At.set Ap 5 _
        have mq:Out (λb=>b=Tp) W6 NJ:=by
         rw[<-hW];exact Out.set (M:=λb=>b=Tp) (Out.of_below iM) rfl 5 _
        have HYK:Hid (ks.take (k+1)=ks.take k++[y]/\szl.getD k 0=y.s1):=ah (by
         have hkk:k<ks.length:=by rw[AO.out];exact hlt
         have e:ks[k]=y:=by
          have e1:=XI.out;subst e1;rw[List.getElem_map,abY.out,<-hy];unfold Fw.Eo;simp only[xS,HSK.out,hau]
         refine⟨by rw[List.take_succ_eq_append_getElem hkk,e],?_⟩;rw[<-HSZ.out,List.getD,jb7,ja6 hkk,e]
         rfl)
        have hTN:N5<=Tp:=by omega
        have nZ:=tX.own mq λb hb h=>by subst h;exact⟨hnp,by omega⟩
        have ab2:=ah (vU.out (M:=λb=>b=Tp) ak mq);have Af:=AC6.out (M:=λb=>b=Tp) ak mq;have agk:=ah (At.out (M:=λb=>b=Tp) As6.out ak mq);have agl:=ah (At.out (M:=λb=>b=Tp) Av6.out ak mq);have agm:=ah (At.out (M:=λb=>b=Tp) Au6.out ak mq);have B10:=B6.out (M:=λb=>b=Tp) ak mq;have OT:=C6.out (M:=λb=>b=Tp) ak mq;have xu:=ah (At.out (M:=λb=>b=Tp) NI.out ak mq);have FH:N5<=NJ.heap.size:=aK hN6 mq.size;clear hW hy mq iM ael hau Ap lp TI TJ cp2 cp3 cp4 cp5 cp6 zp5 lq c21 c22 c17 c18 HAQ l0 aA aB aY vU AC6 As6 Av6 Au6 B6 C6 NI hN6 hs6 tX hnp hnq;have hRf:k*7+7<=cs.size:=by have:=Jj.out.1;omega
        have HYL:Hid (∀j,j<7->NJ.cell? ⟨Tp,0+j,none⟩=(fH y)[j]?):=ah λj hj=>by rw[Nat.zero_add];exact ab1.cell j
        obtain⟨lC,Hz,H7⟩:=At.two Af;have aiO:=ab2.out.lt;have lTp:=ab1.lt
        go_upto_region 10 with(first|(refine fQ BF oC bB _ rfl rfl (dW y) HYL.out ?_)|(refine iq oC bB _ _ rfl rfl rfl ab2.out (dW y) hRf (pY y) ?_))
        generalize hW:World.setRow _ _ _=Dn;have YV:At Dn R (.cells (splice cs (k*7) (fH y)) 88):=hW▸At.setRow ab2.out _;have jU:Out (λb=>b=R) NJ Dn:=hW▸Out.setRow (M:=λb=>b=R) (Out.refl _ _) rfl _
        have agn:Hid ((splice cs (k*7) (fH y)).size=m*7/\o8 (splice cs (k*7) (fH y)) (ks.take (k+1))):=ah (by
         have e:(ks.take k).length=k:=by rw[List.length_take,AO.out];omega
         refine⟨by rw[jA (by rw[dW];exact hRf)];exact Jj.out.1,?_⟩;have h1:=Jj.out.2.snoc (x:=y) (by rw[e];exact hRf);rw[e]at h1;rw[HYK.out.1]
         exact h1)
        have sG:¬ P2 R:=λh=>by have:=DW.out _ (KR.out _ ak h);omega
        have sH:=nZ.own jU λb hb h=>by subst h;exact⟨sG,by omega⟩
        have agp:=ab1.out (M:=λb=>b=R) ak jU;have KT:=Af.out (M:=λb=>b=R) ak jU;have YW:=At.out (M:=λb=>b=R) agk.out ak jU;have agq:=ah (At.out (M:=λb=>b=R) agl.out ak jU);have agr:=ah (At.out (M:=λb=>b=R) agm.out ak jU);have B11:=B10.out (M:=λb=>b=R) ak jU;have NK:=OT.out (M:=λb=>b=R) ak jU;have xw:=ah (At.out (M:=λb=>b=R) xu.out ak jU);have NM:N5<=Dn.heap.size:=aK FH jU.size;generalize splice cs (k*7) (fH y)=aiP at *;clear hW jU lC Hz H7 aiO lTp HYL ab2 Af agk agl agm B10 OT xu FH nZ ab1 Jj hRf;obtain⟨lp,TI,TJ,cp2,cp3,cp4,cp5,cp6⟩:=At.seven (b:=Tp) agp;have lS:=YW.lt;have cSk:=YW.cell k;rw[dO _ hlt]at cSk;have zSk:=YW.thaw k
        go_upto_region 11 with(fail)
        generalize hW:ja4 _ _ _=Vs;have e12:(bG (λi=>szl.getD i 0) m k).setIfInBounds k (.int .i64 y.s1)=bG (λi=>szl.getD i 0) m (k+1):=by
         have h1:=lD (λi=>szl.getD i 0) hlt;simp only[HYK.out.2]at h1;exact h1
        have ags:Hid (At Vs Ts (.cells (bG (λi=>szl.getD i 0) m (k+1)) 3)):=ah (by
         rw[<-hW,<-e12]
         exact At.set YW k _)
        have pJ:Out (λb=>b=Ts) Dn Vs:=hW▸Out.set (M:=λb=>b=Ts) (Out.refl _ _) rfl k _;have vW:=sH.own pJ λb hb h=>by subst h;exact⟨λh=>by have:=DW.out _ (KR.out _ ls5 h);omega,by omega⟩
        have NP:=YV.out (M:=λb=>b=Ts) ak pJ;have FI:=KT.out (M:=λb=>b=Ts) ak pJ;have QL:=At.out (M:=λb=>b=Ts) agq.out ak pJ;have agt:=ah (At.out (M:=λb=>b=Ts) agr.out ak pJ);have B12:=B11.out (M:=λb=>b=Ts) ak pJ;have LM:=NK.out (M:=λb=>b=Ts) ak pJ;have Jk:=ah (At.out (M:=λb=>b=Ts) xw.out ak pJ);have H8:N5<=Vs.heap.size:=aK NM pJ.size;clear hW pJ lp TI TJ cp2 cp3 cp4 cp5 cp6 lS cSk zSk e12 YW YV KT agq agr B11 NK xw NM sH agp;have hfT:AJ.getD k 0=Fx.coll (Fw.meet B 0 f kid):=by
         rw[<-HTP.out,List.getD,jb7,ja6 OP,abY.out];rfl
        have hfU:Ad.getD k 0=Fx.coll (Fw.meet B 1 f kid):=by
         rw[<-HBT.out,List.getD,jb7,ja6 OP,abY.out];rfl
        have HFT:=ah hfT;have HFU:=ah hfU;have QM:=aef hK F HDW.out HLEN.out f kid Vs hdk.out.1 hdk.out.2 hf (vW.ro uo wu.out hkm);have hml:=xq B 0 f kid;obtain⟨mt,hmt⟩:=aC (Fw.meet B 0 f kid);rw[hmt]at QM hml HFT;have ab3:=ah vW;clear hfT hfU hmt vW
        go_upto_region 12 with(first|(go_at_call 128;(with_reducible refine QM.mono ?_);rintro e' Az ⟨⟨v,rfl,hown⟩,uO⟩;obtain⟨Am,cm,rfl,qU⟩:=wL hown LY;replace QL:=QL.keep uO;have lV:=QL.lt;have cVk:=QL.cell k;rw[dO _ hlt]at cVk;have zVk:=QL.thaw k)|(go_at_call 127;(with_reducible refine(Mw Am mt mt.length cm Az qU rfl).mono ?_);rintro e' w14 ⟨rfl,rfl⟩))
        generalize hW:ja4 _ _ _=W14;have e14:(bG (λi=>AJ.getD i 0) m k).setIfInBounds k (.int .i64 (Fx.coll mt))=bG (λi=>AJ.getD i 0) m (k+1):=by
         have h1:=lD (λi=>AJ.getD i 0) hlt;simp only[HFT.out]at h1;exact h1
        have agu:Hid (At W14 Tv (.cells (bG (λi=>AJ.getD i 0) m (k+1)) 3)):=ah (by
         rw[<-hW,<-e14]
         exact At.set QL k _)
        have vX:Out (λb=>b=Tv) Vs W14:=hW▸Out.set (M:=λb=>b=Tv) (Out.of_below uO) rfl k _;have QN:=ab3.out.own vX λb hb h=>by subst h;exact⟨λh=>by have:=DW.out _ (KR.out _ lv5 h);omega,by omega⟩
        have agv:=NP.out (M:=λb=>b=Tv) ak vX;have agw:=FI.out (M:=λb=>b=Tv) ak vX;have agx:=ah (At.out (M:=λb=>b=Tv) ags.out ak vX);have QO:=At.out (M:=λb=>b=Tv) agt.out ak vX;have B14:=B12.out (M:=λb=>b=Tv) ak vX;have C14:=LM.out (M:=λb=>b=Tv) ak vX;have SV:=ah (At.out (M:=λb=>b=Tv) Jk.out ak vX);have ab4:N5<=W14.heap.size:=aK H8 vX.size;clear hW vX lV cVk zVk e14 ags NP FI QL agt B12 LM Jk H8 ab3 QM hml hown qU uO;have QM:=aei hK F HDW.out HLEN.out f kid W14 hdk.out.1 hdk.out.2 hf (QN.ro uo wu.out hkm);have hml:=xq B 1 f kid;obtain⟨mu,hmu⟩:=aC (Fw.meet B 1 f kid);rw[hmu]at QM hml HFU;have agy:=ah QN;clear hmu QN
        go_upto_region 13 with(first|(go_at_call 128;(with_reducible refine QM.mono ?_);rintro e' Az ⟨⟨v,rfl,hown⟩,uO⟩;obtain⟨Am,cm,rfl,qU⟩:=wL hown LY;replace QO:=QO.keep uO;have lV:=QO.lt;have cVk:=QO.cell k;rw[dO _ hlt]at cVk;have zVk:=QO.thaw k)|(go_at_call 127;(with_reducible refine(Mw Am mu mu.length cm Az qU rfl).mono ?_);rintro e' w14 ⟨rfl,rfl⟩))
        generalize hW:ja4 _ _ _=W16;have e16:(bG (λi=>Ad.getD i 0) m k).setIfInBounds k (.int .i64 (Fx.coll mu))=bG (λi=>Ad.getD i 0) m (k+1):=by
         have h1:=lD (λi=>Ad.getD i 0) hlt;simp only[HFU.out]at h1;exact h1
        have aiQ:Hid (At W16 Tu (.cells (bG (λi=>Ad.getD i 0) m (k+1)) 3)):=ah (by
         rw[<-hW,<-e16]
         exact At.set QO k _)
        have H9:Out (λb=>b=Tu) W14 W16:=hW▸Out.set (M:=λb=>b=Tu) (Out.of_below uO) rfl k _;have aiR:=agy.out.own H9 λb hb h=>by subst h;exact⟨λh=>by have:=DW.out _ (KR.out _ lu5 h);omega,by omega⟩
        have aiS:=agv.out (M:=λb=>b=Tu) ak H9;have aiT:=agw.out (M:=λb=>b=Tu) ak H9;have aiU:=ah (At.out (M:=λb=>b=Tu) agx.out ak H9);have aiV:=ah (At.out (M:=λb=>b=Tu) agu.out ak H9);have B16:=B14.out (M:=λb=>b=Tu) ak H9;have C16:=C14.out (M:=λb=>b=Tu) ak H9;have agz:=ah (At.out (M:=λb=>b=Tu) SV.out ak H9);have aiW:N5<=W16.heap.size:=aK ab4 H9.size;clear hW H9 lV cVk zVk e16 agx agv agw agu QO B14 C14 SV ab4 agy QM hml hown qU uO;go_wp2
        go_roundw
        case rel=>exact⟨k+1,n2,P2,aiP,by omega,by go_num,by omega,aiR,KR,aiW,aiS,agn,aiT,aiU,aiV,aiQ,B16,C16,agz⟩
        case measure=>simp[intOf];omega
    . obtain rfl:k=m:=by omega
      have hIs:Ints wr (some ⟨Ts,0,none⟩) szl:=by
       have h1:=iI _ k LY hAs.out;have h2:=tV szl;rw[HLS.out]at h2;rw[h2]at h1;exact h1
      have hIv:Ints wr (some ⟨Tv,0,none⟩) AJ:=by
       have h1:=iI _ k LY hAv.out;have h2:=tV AJ;rw[D9.out]at h2;rw[h2]at h1;exact h1
      have hIu:Ints wr (some ⟨Tu,0,none⟩) Ad:=by
       have h1:=iI _ k LY hAu.out;have h2:=tV Ad;rw[HLU.out]at h2;rw[h2]at h1;exact h1
      have yj:=Vo (some ⟨Ts,0,none⟩) (some ⟨Tv,0,none⟩) (some ⟨Tu,0,none⟩) szl AJ Ad k k k k wr hIs hIv hIu HLS.out D9.out HLU.out ak
      have HN2:Hid (n'<=n+2*(fl.map (Fw.cst B f)).sum):=ah (by
       have h1:=YQ B f fl k
       omega)
      have qD:=ah hSr;have HRC:=ah (show cs.size=k*7/\o8 cs ks from by
       have h1:=Jj.out;rw[List.take_of_length_le (by rw[AO.out];exact aO _)]at h1
       exact h1)
      obtain⟨en,hen⟩:=aC (Fx.wG szl AJ Ad k);rw[hen]at yj;have HEN:=ah hen;clear hIs hIv hIu hSr Jj hn' hlt hen
      go_upto_region 15 with(go_at_call 129;(with_reducible refine yj.mono ?_);rintro e' w9 ⟨⟨bb,rfl,gbb,WJ⟩,iM⟩)
      have Hf:=qD.out.after iM;have AR9:=hAr.keep iM;have AC9:=AC.keep iM;have B9:=A0.keep iM;have C9:=A4.keep iM;have NQ:=ah (aR.keep xO.out iM);have Av9:=hAv.out.keep iM;have Au9:=hAu.out.keep iM;have agA:=ah WJ;have hN9:N5<=w9.heap.size:=aK Gx iM.size;have akv:N5<=bb:=aK Gx gbb;clear yj WJ qD hAr AC hAs hAv hAu A0 A4 xO iM gbb Gx;obtain⟨m1,akw,akx⟩:∃m1,m1+1<=k/\k<=m1+1:=⟨k-1,by omega,by omega⟩;have hwk:IntKind.i64.wrap ((k:Int)-1)=(m1:Int):=by rw[IntWalk.i64_in _ ak];omega
      have aiX:(m1:Int)<(k:Int):=by omega
      have aem:(0:Int)<(k:Int):=by omega
      have lv9:=Av9.lt;have lu9:=Au9.lt;have cv0:w9.cell? ⟨Tv,0,none⟩=some (.int .i64 (AJ.getD 0 0)):=(Av9.cell 0).trans (by rw[dO _ hm0,if_pos hm0]);have cu1:w9.cell? ⟨Tu,m1,none⟩=some (.int .i64 (Ad.getD m1 0)):=(Au9.cell m1).trans (by rw[dO _ ak,if_pos ak]);obtain⟨t0,ht0⟩:=aC (AJ.getD 0 0);obtain⟨u1,hu1⟩:=aC (Ad.getD m1 0);rw[ht0]at cv0;rw[hu1]at cu1;have HF1:Hid ((if Fw.opn s OQ 0=true then 0 else t0)=first):=ah (by rw[<-ht0];exact O7.out)
      have BK:Hid ((if Fw.opn s OQ 1=true then 0 else u1)=last):=ah (by
       rw[<-hu1];have h1:=HLA.out;rw[HLU.out,show k-1=m1 by omega]at h1
       exact h1)
      clear ht0 hu1;have hSd:Below w9 w9 w9.drew:=Below.drew aG;refine jy (S:=λX=>Below w9 w9 X) 11 ?_ ?_
      . exact hSd
      intro hx;clear hSd;refine aS 0 ?_;refine aS 1 ?_;refine aS 2 ?_;refine aS 3 ?_;refine aS 4 ?_;refine aS 5 ?_;refine aS 6 ?_;refine aS 7 ?_;refine aS 8 ?_;refine aS 9 ?_;refine aS 10 ?_;refine jk ?_;have Ww:Below w9 w9 w9.drew:=hx;generalize w9.drew=jD at *;have nZ:=Hf.after Ww;have agB:=AR9.keep Ww;have Af:=AC9.keep Ww;have B10:=B9.keep Ww;have OT:=C9.keep Ww;have xu:=ah (aR.keep NQ.out Ww);have ac3:=ah (agA.out.after Ww);have FH:N5<=jD.heap.size:=aK hN9 Ww.size;clear hx Ww Hf AR9 AC9 B9 C9 NQ agA hN9 cv0 cu1 lv9 lu9 Av9 Au9 hwk aiX aem;obtain⟨o0,ho0⟩:=aC (Fw.opn s OQ 0);obtain⟨o1',ho1⟩:=aC (Fw.opn s OQ 1);have FJ:=Ec b0 s _ zva OQ jD xu.out;rw[ho0]at FJ HF1;rw[ho1]at BK;have HO1:=ah ho1;clear ho0 ho1
      go_upto_if 140 with(go_at_call 130;(with_reducible refine FJ.mono ?_);rintro e' rP ⟨rfl,iA⟩)
      have sH:=nZ.after iA;have YV:=agB.keep iA;have KT:=Af.keep iA;have NK:=OT.keep iA;have xw:=ah (aR.keep xu.out iA);have ac4:=ah (ac3.out.after iA);have NM:N5<=rP.heap.size:=aK FH iA.size;clear nZ agB Af B10 OT xu ac3 FH iA FJ;go_cut [16]from 139 to 141 (λv w2=>v=.int .i64 first/\Below rP rP w2)
      case first =>
       cases o0 with
       | true =>
         have e1:=HF1.out;rw[if_pos rfl]at e1;exact Z3h
       | false =>
         have e1:=HF1.out;rw[if_neg bI]at e1;exact Z3h
      case rest =>
       obtain⟨rfl,iA⟩:=hcut;have agC:=ah (aR.keep xw.out iA);have FJ:=Eb b0 s _ zva OQ wc agC.out;rw[HO1.out]at FJ;have ac5:=sH.after iA;have ac6:=YV.keep iA;have ac7:=KT.keep iA;have agD:=NK.keep iA;have YX:=ah (ac4.out.after iA);have ac8:N5<=wc.heap.size:=aK NM iA.size;clear sH YV KT NK xw ac4 NM iA
       go_upto_if 142 with(go_at_call 130;(with_reducible refine FJ.mono ?_);rintro e' Az ⟨rfl,uO⟩)
       have agE:=ac5.after uO;have agF:=ac6.keep uO;have agG:=ac7.keep uO;have C13:=agD.keep uO;have ac9:=ah (YX.out.after uO);have agH:N5<=Az.heap.size:=aK ac8 uO.size;clear ac5 ac6 ac7 agD agC YX ac8 uO FJ;go_cut [17]from 141 to 143 (λv w2=>v=.int .i64 last/\Below Az Az w2)
       case first =>
        cases o1' with
        | true =>
          have e1:=BK.out;rw[if_pos rfl]at e1;exact Z3h
        | false =>
          have e1:=BK.out;rw[if_neg bI]at e1;exact Z3h
       case rest =>
        obtain⟨rfl,QS⟩:=hcut;have vW:=agE.after QS;have NP:=agF.keep QS;have FI:=agG.keep QS;have LM:=C13.keep QS;have ac':=ah (ac9.out.after QS);have H8:N5<=wc.heap.size:=aK agH QS.size;clear agE agF agG C13 ac9 agH QS;obtain⟨lC,Hz,H7⟩:=At.two FI
        go_upto_region 21 with(fail)
        clear lC Hz H7;have YU:Hid (cs.size=k*7/\o8 cs (Ae (blG first szl AJ Ad) ks 0)):=ah (by rw[Vr];exact HRC.out);have sG:=ah (show¬ P' R from λh=>by have:=DW.out _ (yX.out _ ak h);omega);have aiY:=ah (show¬ P' (R+1)from λh=>by have:=DW.out _ (yX.out _ lR5 h);omega);have aiZ:=ah (show¬ P' (w.heap.size+1)from λh=>by have:=DW.out _ (yX.out _ ak h);omega);have HLB:Hid ((Fx.wH szl AJ Ad k).length=k):=ah (Fx.rU _ _ _ _)
        go_loopw [146] (λiv wr=>∃(i:Nat) (cs2:Array Value),i<=k/\iv=.int .i64 i/\qR Y B F w P n' P' wr/\At wr R (.cells cs2 88)/\Hid (cs2.size=k*7/\o8 cs2 (Ae (blG first szl AJ Ad) ks i))/\At wr (R+1) (.cells #[.slice R k k,()] 147)/\At wr (w.heap.size+1) (.cells #[.slice none 0 0,()] 147)/\Hid (Ints wr (some ⟨bb,0,none⟩) (Fx.wH szl AJ Ad k))) (λiv _=>k-(intOf iv).toNat)
        case atStart=>exact⟨0,cs,gF _,rfl,vW,NP,YU,FI,LM,ac'⟩
        case round =>
         clear vW NP YU FI LM ac';obtain⟨i,cs2,hi2,rfl,hSr,hAr,Jj,AC,A4,zq⟩:=hrel;by_cases hlt:i<k
         . have hltz:(i:Int)<(k:Int):=by omega
           have qD:=ah hSr;have hik:i<ks.length:=by rw[AO.out];exact hlt
           obtain⟨lz,cz⟩:=lints zq.out (k:=i) (by rw[HLB.out];exact hlt);rw[Fx.Ef _ _ _ hlt]at cz;obtain⟨bg,hbg⟩:=aC (Fx.pR szl AJ Ad i);rw[hbg]at cz;have HBG:=ah hbg;obtain⟨lC,Hz,H7⟩:=At.two AC;have lR:=hAr.lt;have hlast:i*7+6<cs2.size:=by have:=Jj.out.1;omega
           have cR6:wr.cell? ⟨R,i*7+6,none⟩=some cs2[i*7+6]:=(hAr.cell _).trans (Array.getElem?_eq_getElem hlast);generalize cs2[i*7+6]=old at cR6;have zR6:=hAr.thaw (i*7+6);obtain⟨p,hp⟩:=aC (IntKind.i64.wrap (first+bg));have nbR:bb≠R:=by omega
           clear hSr hbg
           go_upto_region 23 with(fail)
           have hSd:Out (λb=>b=R) wr wr.drew:=(Out.refl _ _).drew;refine jy (S:=λX=>Out (λb=>b=R) wr X) 13 ?_ ?_
           . exact hSd
           intro hx;clear hSd
           (refine aj.aV (i:=0) rfl bE bE bE bE ak (by assumption) rT ?_;(try simp only[Act.put,ja1,ja2,ja3]))
           (refine aj.aV (i:=1) rfl bE bE bE bE ak (by assumption) rT ?_;(try simp only[Act.put,ja1,ja2,ja3]))
           (refine aj.aV (i:=2) rfl bE bE bE bE ak (by assumption) rT ?_;(try simp only[Act.put,ja1,ja2,ja3]))
           (refine aj.aV (i:=3) rfl bE bE bE bE ak (by assumption) rT ?_;(try simp only[Act.put,ja1,ja2,ja3]))
           (refine aj.aV (i:=4) rfl bE bE bE bE ak (by assumption) rT ?_;(try simp only[Act.put,ja1,ja2,ja3]))
           (refine aj.aV (i:=5) rfl bE bE bE bE ak (by assumption) rT ?_;(try simp only[Act.put,ja1,ja2,ja3]))
           (refine aj.aV (i:=6) rfl bE bE bE bE ak (by assumption) rT ?_;(try simp only[Act.put,ja1,ja2,ja3]))
           (refine aj.aV (i:=7) rfl bE bE bE bE ak (by assumption) rT ?_;(try simp only[Act.put,ja1,ja2,ja3]))
           (refine aj.aV (i:=8) rfl bE bE bE bE ak (by assumption) rT ?_;(try simp only[Act.put,ja1,ja2,ja3]))
           (refine aj.aV (i:=9) rfl bE bE bE bE ak (by assumption) rT ?_;(try simp only[Act.put,ja1,ja2,ja3]))
           (refine aj.aV (i:=10) rfl bE bE bE bE ak (by assumption) rT ?_;(try simp only[Act.put,ja1,ja2,ja3]))
           (refine aj.aV (i:=11) rfl bE bE bE bE ak (by assumption) rT ?_;(try simp only[Act.put,ja1,ja2,ja3]))
           refine tk1 12 ?_;refine aj.Step.skip Z43 ?_;generalize hW:ja4 _ _ _=W3;have AR3:At W3 R (.cells (cs2.setIfInBounds (i*7+6) (.int .i64 p)) 88):=hW▸At.set hAr (i*7+6) _;have hO3:Out (λb=>b=R) wr W3:=hW▸Out.set (M:=λb=>b=R) (Out.refl _ _) rfl (i*7+6) _;refine⟨λ_=>Out.drew hO3,?_⟩
           (try simp only[bV,bW,bX,tks])
           refine jk ?_
           have ai0:Hid ((cs2.setIfInBounds (i*7+6) (.int .i64 p)).size=k*7/\o8 (cs2.setIfInBounds (i*7+6) (.int .i64 p)) (Ae (blG first szl AJ Ad) ks (i+1))):=ah (by
            refine⟨by simpa using Jj.out.1,?_⟩;have h1:=Jj.out.2.M8 (k:=i) (by rw[Cw];exact hik) p;rw[YR _ _ hik]at h1;rw[<-Vq _ _ hik];have e:blG first szl AJ Ad i ks[i]={ ks[i]with a1:=p }:=by
             unfold blG;rw[HBG.out,<-sK,hp]
            rw[e]
            exact h1)
           have hO4:=Out.drew hO3;have AR4:=At.drew AR3;have Ho:=qD.out.own hO4 λb hb h=>by subst h;exact⟨sG.out,by omega⟩
           have AC4:=AC.out (M:=λb=>b=R) ak hO4;have C4:=A4.out (M:=λb=>b=R) ak hO4;have abM:=ah (xk zq.out hO4 nbR);generalize W3.drew=W4 at *;generalize cs2.setIfInBounds (i*7+6) (.int .i64 p)=BL at *;clear hW hx hO3 hO4 AR3 lC Hz H7 lR hlast cR6 zR6 cz lz hAr Jj AC A4 zq hp;go_wp2
           go_roundw
           case rel=>exact⟨i+1,BL,by omega,by go_num,Ho,AR4,ai0,AC4,C4,abM⟩
           case measure=>simp[intOf];omega
         . obtain rfl:i=k:=by omega
           have HRF:Hid (o8 cs2 xs):=ah (by
            have h1:=Jj.out.2;rw[<-AO.out,YS,HXS.out.1]at h1
            exact h1)
           have hxl:xs.length=i:=by rw[<-HXS.out.1,List.length_mapIdx,AO.out]
           obtain⟨lC,Hz,H7⟩:=At.two AC;have zC1:=AC.thaw 1;obtain⟨q1,hq1⟩:=aC (IntKind.i64.wrap (first+en));obtain⟨q2,hq2⟩:=aC (IntKind.i64.wrap (q1+last))
           have HHI:Hid (q2=hi):=ah (by
            have h1:=HXS.out.2;rw[HEN.out,<-sK (first+en),hq1,<-sK,hq2]at h1
            exact h1)
           have qD:=ah hSr;clear hSr Jj zq
           go_upto_region 26 with(fail)
           generalize hW:ja4 _ _ _=Vs;have FI:At Vs (R+1) (.cells #[.slice R i i,q2] 147):=hW▸At.set AC 1 _;have pJ:Out (λb=>b=R+1) wr Vs:=hW▸Out.set (M:=λb=>b=R+1) (Out.refl _ _) rfl 1 _;have vW:=qD.out.own pJ λb hb h=>by subst h;exact⟨aiY.out,by omega⟩
           have NP:=hAr.out (M:=λb=>b=R+1) ak pJ;have LM:=A4.out (M:=λb=>b=R+1) ak pJ;clear hW lC Hz H7 zC1 hAr AC A4 pJ hq1 hq2;obtain⟨lC,Hz,H7⟩:=At.two FI;obtain⟨l4,fF,fG⟩:=At.two LM;have je:=LM.thaw 0;have jf:=LM.thaw 1;have ab3:=ah vW;have agI:=ah NP;clear vW NP;go_wp2;generalize hW:ja4 _ _ _=W6;have A6:At W6 (w.heap.size+1) (.cells #[.slice R i i,q2] 147):=hW▸At.set (At.set LM 0 _) 1 _;have SG:Out (λb=>b=w.heap.size+1) Vs W6:=by
            exact Z2a
           clear hW fF fG je jf lC Hz H7 FI LM;have AR6:=agI.out.out (M:=λb=>b=w.heap.size+1) ak SG;have tX:=ab3.out.own SG λb hb h=>by subst h;exact⟨aiZ.out,by omega⟩
           obtain⟨l4,fF,fG⟩:=At.two A6;have jM:=tX.fin;have LQ:=tX.kp;have hNw:=tX.new;refine bodyPost_ret (v:=.agg #[.slice R i i,q2]) (by simp[results,Tryz.results95,go_sem,fF,fG,l4];first|done|exact⟨rfl,rfl⟩|rfl) rfl ⟨R,i,cs2,P',n',by rw[hxl,HHI.out],by omega,AR6,HRF.out,HN2.out,LQ,hNw,sG.out,jM⟩
end
attribute [local go_sem] Oper.semAt_some
def Jl(n₀ B:Nat)(W W':World):Prop:=Below n₀ W W'/\∀k t v,B<k->k<B+5->t≠57->Boxed W k t v->Boxed W' k t v
theorem Jl.refl(n₀ B:Nat)(W:World):Jl n₀ B W W:=⟨Below.refl _ _,λ_ _ _ _ _ _ h=>h⟩
theorem Jl.trans{X Y Z:World}(h:Jl n₀ B X Y)(k:Jl n₀ B Y Z):Jl n₀ B X Z:=⟨h.1.trans k.1,λi t v h1 h2 h3 h4=>k.2 i t v h1 h2 h3 (h.2 i t v h1 h2 h3 h4)⟩
theorem Jl.of_below(h:Below W W W')(hn:n₀<=W.heap.size):Jl n₀ B W W' :=
 ⟨h.mono hn,λi t v _ _ _ hb=>(h.block i hb.lt).trans hb⟩
theorem Jl.putObj{w:World}(hn:n₀<=w.heap.size)(hB:B+5<=w.heap.size)(W:World)(l:Nat)(o o':Obj)(hl:w.heap.size<=l)(h:W.heap[l]? = some o)(hc:o.isCells=false)(hw:o.isWalk=false):Jl n₀ B W (W.putObj l o') :=
 ⟨belowK_b hn W l o o' hl h hc hw,λi t v _ h2 _ hb=>(World.putObj_heap_other ak).trans hb⟩
theorem FK(h:Below W W W'):W.grownBy W' none:=⟨h.os,h.tape,h.output,h.size,λk hk _=>h.block k hk⟩
theorem YZ(A:Option Addr)(n c:Nat)(room gap:Int)(wrap:Bool)(w:World) :
  Calls ja0 173 #[.slice A n c,room,gap,wrap] w λe w'=>e=.returned (.func (.func 201) #[] #[w,.pointer (some ⟨w.heap.size+1,0,none⟩),.pointer (some ⟨w.heap.size+2,0,none⟩),.pointer (some ⟨w.heap.size+3,0,none⟩)]) /\
   w'=(((w.alloc (.cells #[.slice A n c] 37)).alloc (.cells #[room] 3)).alloc (.cells #[gap] 3)).alloc (.cells #[wrap] 4):=by
 have Kc:=@tC;go_enter Tryz.func173,Tryz.ntmps173
 go_wp2;exact Zy
theorem QT{P:Program}{ops:Array Oper}{Q:Exit->Act->World->Prop}{S:World->Prop}{k:Nat}{o:Oper}{os:List Oper}{a:Act}{t:TypeId}{x:Operand}{lo hi mx:Option Operand}{v:Value}(ho:o.op=.slice t x lo hi mx)(hw:Region.wanted o (yielded ops a.tmps)=true)
  (hrun:∀w,(Instr.sliceAt t (a.eval x) (lo.map a.eval) (hi.map a.eval) (mx.map a.eval)).run P w=.ok v w) (h:aj.eU P ops Q S k os (a.put o.dst v)):aj.eU P ops Q S (k+1) (o::os) a :=
 aj.jq hw (λw _=>by unfold execOp;simp only[ho,Sem.run_bind,Sem.run_pure,hrun,Result.andThen_ok]) h
def agJ(x:Nat×Nat):Array Value:=#[.int .i64 (x.1:Int),.int .i64 (x.2:Int)]
theorem Y0(A:Option Addr)(l:List Int)(n c:Nat)(room gap:Int)(wrap:Bool)(w:World)(q:Nat)(hI:Ints w A l)(hl:l.length=n)(h0:0<n)(hn:n<=100000)(hq:q=Li.cnt room gap wrap l) :
 Calls ja0 202 #[.slice A n c,room,gap,wrap] w λe w'=>e=.returned (.int .i64 (q:Nat))/\w=w':=hq▸Vg A l n c room gap wrap w hI hl h0 hn
theorem ab5(n:Nat)(hn1:1<=n)(lp n₀ B:Nat)(A:Option Addr)(l:List Int)(m c:Nat)(room gap:Int)(wrap:Bool)(hl:l.length=m)(hm:m<=10000)(hcap:m<=c)(J Jx:List (Nat×Nat)->World->Prop)
  (hY:∀pre x W,J pre W->pre.length<(Li.brk room gap wrap l).length->YieldAt Fence.wide (n-1) ja0 lp (agJ x) W λe W' =>
   (e=.returned (.bool true)/\J (pre++[x]) W'/\Jl n₀ B W W')\/(e=.returned (.bool false)/\Jx (pre++[x]) W'))
  (W:World) (hJ:AbidesFrom W.heap.size J) (hn₀:n₀<=W.heap.size) (b1:Boxed W (B+1) 37 (.slice A m c)) (b2:Boxed W (B+2) 3 (.int .i64 room)) (b3:Boxed W (B+3) 3 (.int .i64 gap)) (b4:Boxed W (B+4) 4 (.bool wrap))
  (hI:Ints W A l) (hA:0<l.length->∀x,A=some x->x.block<n₀) (h0:J [] W) :
  CallsIn Fence.wide n ja0 201 #[.func (.yield lp) #[] #[],.pointer (some ⟨B+1,0,none⟩),.pointer (some ⟨B+2,0,none⟩),.pointer (some ⟨B+3,0,none⟩),.pointer (some ⟨B+4,0,none⟩)] W λe W'=>(∃v,e=.returned v) /\
   ((∃ys,ys=Li.brk room gap wrap l/\J ys W')\/(∃pre,True/\Jx pre W')):=by
 have HL:=ah hl;have HI:=ah hI;have HA:=ah hA;have HY:=ah hY;have HJ:=ah hJ;have HB1:=ah b1;have HB2:=ah b2;have HB3:=ah b3;have HB4:=ah b4;clear hl hI hA hY hJ b1 b2 b3 b4;refine callsIn_of_wp Tryz.func201 rfl trivial ?_ rfl;simp only[Tryz.ntmps201,List.size_toArray,jb4,List.length_nil,Nat.reduceAdd,Nat.reduceSub,Array.replicate_succ,Array.replicate_zero,List.push_toArray,List.append_toArray,List.nil_append,List.cons_append]
 gi_wp2
 gi_loopw [6,7] (λvf _ wr=>∃(k:Nat) (pre:List (Nat×Nat)),vf=.int .i64 k/\k<=m/\Hid (pre++Li.tail room gap wrap l k=Li.brk room gap wrap l)/\J pre wr/\Jl n₀ B W wr) (λvf _ _=>m-(intOf vf).toNat)
 case atStart=>exact⟨0,[],rfl,by omega,ah rfl,h0,Jl.refl _ _ _⟩
 case round =>
  obtain⟨k,pre,rfl,hk,HP,hJs,hK⟩:=hrel;have p1:=hK.2 _ _ _ ak ak aN HB1.out;have p2:=hK.2 _ _ _ ak ak aN HB2.out;have p3:=hK.2 _ _ _ ak ak aN HB3.out;have p4:=hK.2 _ _ _ ak ak aN HB4.out;have c1:=p1.cell;have c2:=p2.cell;have c3:=p3.cell;have c4:=p4.cell;have l1:=p1.lt;have l2:=p2.lt;have l3:=p3.lt;have l4:=p4.lt;clear p1 p2 p3 p4;by_cases hlt:k<m
  . have hltz:(k:Int)<(m:Int):=by omega
    have HI0:Hid (Ints wr A l):=ah (HI.out.keep hK.1 HA.out);have I1:=HI0.out.from_ k c Z4o (by rw[HL.out];exact hcap);have F1:=qA A m c k ak;generalize hA1:(if c=k then A else A.map (·.add (k*1)))=A1 at *;have HI1:=ah I1;have HF1:=ah F1;obtain⟨r,r1,r2⟩:∃r,r+k<=m/\m<=r+k:=⟨m-k,by omega,by omega⟩;have HR:Hid (m-k=r):=ah ak;have BK:Hid ((l.drop k).length=r):=ah (by rw[List.length_drop,HL.out];omega);replace HF1:=ah HF1.out;rw[HR.out]at HF1;clear hA1 I1 F1;obtain⟨s,hs⟩:∃s,s=Li.stop room gap wrap l k:=⟨_,rfl⟩;have hks:k<s:=by rw[hs];exact Li.zG _ _ _ _ _
    have hsm:s<=m:=by rw[hs,<-HL.out];exact Li.J4 _ _ _ _ (by rw[HL.out];exact hlt)
    have ht:=Li.tq room gap wrap l (at_:=k) (by rw[HL.out];exact hlt);rw[<-hs]at ht;have HT:=ah ht;obtain⟨q,hq⟩:∃q,q=Li.cnt room gap wrap (l.drop k):=⟨_,rfl⟩;have aky:s<=k+q:=by rw[hs,hq];exact aO _
    have akz:k+q<=s:=by rw[hs,hq];exact aO _
    have w1:IntKind.i64.wrap ((k:Int)+(q:Int))=(s:Int):=by rw[IntWalk.i64_in _ ak];omega
    have HQ:=ah hq;clear hs ht hq;have lw:=hK.1.size
    gi_upto_region 2 with(fail)
    refine wpIn_wide.2 ?_;refine vS ?_
    (repeat (first|(refine QT rfl bB (HF1.out) ?_;(try simp only[bV,bW,bX,tks]))|refine jV ?_ | refine jW ?_ (hc:=by intro w2 hS;first|with_reducible exact AF hS (Y0 _ _ _ _ _ _ _ _ _ (HI1.out.after hS) BK.out ak ak HQ.out))|refine jX ?_))
    refine aj.bY ?_;intro w2 hS;have hJ2:=HJ.out pre wr w2 none hJs (FK hS) (λr e=>by cases e);have hK2:=hK.trans (Jl.of_below hS (aK hn₀ lw));have hlen:pre.length<(Li.brk room gap wrap l).length:=by
     rw[<-HP.out,HT.out,ja8,jb4];omega
    obtain⟨fn,tmps,assign,body,hy,hR⟩:=HY.out pre (k,s) w2 hJ2 hlen;simp only[agJ]at hy;clear hS hJs hK c1 c2 c3 c4 l1 l2 l3 l4
    gi_wp2
    refine hR.mono ?_;rintro e W3 (⟨rfl,hJ3,hk3⟩|⟨rfl,hJx3⟩)
    . gi_wp2
      go_roundw
      case rel=>exact⟨s,pre++[(k,s)],rfl,hsm,ah (by rw[<-HP.out,HT.out,List.append_assoc];rfl),hJ3,hK2.trans hk3⟩
      case measure=>simp[intOf];omega
    . gi_wp2
      refine bodyPost_ret (results_none rfl _ _ _) rfl ?_;exact⟨⟨_,rfl⟩,.inr ⟨_,trivial,hJx3⟩⟩
  . have hltz:¬ (k:Int)<(m:Int):=by omega
    have HE:Hid (pre=Li.brk room gap wrap l):=ah (by rw[<-HP.out,Li.sZ _ _ _ _ Z4o,List.append_nil])
    gi_wp2
    go_end0
    refine⟨⟨_,rfl⟩,.inl ?_⟩
    first|exact⟨_,HE.out,hJs⟩|(rw[<-HE.out];exact hJs)
end
open Go.Shelf
open List renaming length_append → ja8,length_cons → jb4
attribute [local go_sem] Oper.semAt_some
theorem Y1:(Tryz.prog.info? 57).map (λi=>(i.zero,i.size,i.bytes))=some (some (.agg #[(),()]),2,16):=by kernel_rfl
theorem cell_two_new(w:World)(x y:Value)(t:TypeId):∀j u,[x,y][j]? = some u->(w.alloc (.cells #[x,y] t)).cell? ((⟨w,0,none⟩:Addr).add j)=some u:=by
 intro j u hj
 match j,hj with
 | 0,hj=>simp at hj;subst hj;simp[Addr.add]
 | 1,hj=>simp at hj;subst hj;simp[Addr.add]
theorem Jl.appended{n₀ B:Nat}{W w1:World}{v v':Value}{k:Nat}{xs:List Value}{tmp:Obj}(hrow:W.ownsRow n₀ 57 2 v k xs)(hgrow:(W.alloc tmp).grownBy w1 v.ownBlock)(hb:Below n₀ W (w1.setCell ⟨B,0,none⟩ v')):Jl n₀ B W (w1.setCell ⟨B,0,none⟩ v') :=
 ⟨hb,λi t u h1 h2 h3 h4=>((h4.alloc tmp).kept hgrow (h4.not_row h3 hrow)).kept (grownBy_setCell' w1 B v') (λe=>by injection e with e;omega)⟩
theorem Vt(A:Option Addr)(l:List Int)(m c:Nat)(room gap:Int)(wrap:Bool)(w:World)(hI:Ints w A l)(hl:l.length=m)(hm:m<=10000)(hcap:m<=c) :
  Calls ja0 133 #[.slice A m c,room,gap,wrap] w λe w'=>∃v,e=.returned v/\w'.ownsRow w.heap.size 57 2 v (Li.brk room gap wrap l).length ((Li.flat (Li.brk room gap wrap l)).map (Value.int .i64))/\Below w w w':=by
 obtain⟨i0,hi,hz0,hz1,hz2⟩:=info_parts Y1;have HI:=ah hI;have HL:=ah hl;have HA:=ah hI.lt;clear hI hl;refine(callsIn_wide (n:=5)).1 ?_;refine callsIn_of_wp_marks Tryz.func133 rfl trivial ?_ rfl;simp only[Tryz.ntmps133,List.size_toArray,jb4,List.length_nil,Nat.reduceAdd,Nat.reduceSub,Array.replicate_succ,Array.replicate_zero,List.push_toArray,List.append_toArray,List.nil_append,List.cons_append]
 gi_wp2_with (refine⟨trivial,?_⟩;gi_at_call 173;refine(callsIn_wide.2 (YZ _ _ _ _ _ _ _)).mono ?_;rintro e w' ⟨rfl,rfl⟩)
 have bT:At _ (w.heap.size+1) _:=At.new' (W:=w.alloc (.cells #[] 57)) (.cells #[.slice w 0 0] 218) bI;have bR:At _ w _:=At.new w (.cells #[] 57);have b1:At _ (w.heap.size+1+1) _:=At.new' (W:=(w.alloc (.cells #[] 57)).alloc (.cells #[.slice w 0 0] 218)) (.cells #[.slice A m c] 37) bI;have b2:At _ (w.heap.size+1+2) _:=At.new' (W:=((w.alloc (.cells #[] 57)).alloc (.cells #[.slice w 0 0] 218)).alloc (.cells #[.slice A m c] 37)) (.cells #[room] 3) bI;have b3:At _ (w.heap.size+1+3) _:=At.new' (W:=(((w.alloc (.cells #[] 57)).alloc (.cells #[.slice w 0 0] 218)).alloc (.cells #[.slice A m c] 37)).alloc (.cells #[room] 3)) (.cells #[gap] 3) bI;have b4:At _ (w.heap.size+1+4) _:=At.new' (W:=((((w.alloc (.cells #[] 57)).alloc (.cells #[.slice w 0 0] 218)).alloc (.cells #[.slice A m c] 37)).alloc (.cells #[room] 3)).alloc (.cells #[gap] 3)) (.cells #[wrap] 4) bI;replace bT:=((((bT.alloc (.cells #[.slice A m c] 37)).alloc (.cells #[room] 3)).alloc (.cells #[gap] 3)).alloc (.cells #[wrap] 4));replace bR:=(((((bR.alloc (.cells #[.slice w 0 0] 218)).alloc (.cells #[.slice A m c] 37)).alloc (.cells #[room] 3)).alloc (.cells #[gap] 3)).alloc (.cells #[wrap] 4));replace b1:=(((b1.alloc (.cells #[room] 3)).alloc (.cells #[gap] 3)).alloc (.cells #[wrap] 4));replace b2:=((b2.alloc (.cells #[gap] 3)).alloc (.cells #[wrap] 4));replace b3:=(b3.alloc (.cells #[wrap] 4));have hB0:Below w w _:=aD (aD (aD (aD (aD (aD (Below.refl _ w) (.cells #[] 57)) (.cells #[.slice w 0 0] 218)) (.cells #[.slice A m c] 37)) (.cells #[room] 3)) (.cells #[gap] 3)) (.cells #[wrap] 4);have hsz:(((((( w.alloc (.cells #[] 57)).alloc (.cells #[.slice w 0 0] 218)).alloc (.cells #[.slice A m c] 37)).alloc (.cells #[room] 3)).alloc (.cells #[gap] 3)).alloc (.cells #[wrap] 4)).heap.size=w.heap.size+6:=by simp
 generalize (((((( w.alloc (.cells #[] 57)).alloc (.cells #[.slice w 0 0] 218)).alloc (.cells #[.slice A m c] 37)).alloc (.cells #[room] 3)).alloc (.cells #[gap] 3)).alloc (.cells #[wrap] 4))=W0 at *;have agK:W0.ownsRow w.heap.size 57 2 (.slice w 0 0) 0 []:=⟨by simp,.inr ⟨w.heap.size,0,#[],rfl,aO _,bR,aO _,by simp[maxLen],by simp,by simp⟩⟩;have hIW:=HI.out.after hB0;have hN:=Li.En room gap wrap l;rw[HL.out]at hN
 refine wpIn_rangeFunc_ownG (α:=Nat×Nat) rfl ak (gf:=201) (lb:=#[.pointer (some ⟨w.heap.size+1+1,0,none⟩),.pointer (some ⟨w.heap.size+1+2,0,none⟩),.pointer (some ⟨w.heap.size+1+3,0,none⟩),.pointer (some ⟨w.heap.size+1+4,0,none⟩)]) rfl trivial (enters_of Tryz.func201 bE rfl)
  (encs:=λx:Nat×Nat=>#[.int .i64 (x.1:Int),.int .i64 (x.2:Int)]) (Kp:=Jl w.heap.size (w.heap.size+1)) (S:=λys=>ys=Li.brk room gap wrap l) (Sp:=λ_=>True) (N:=(Li.brk room gap wrap l).length) (w0:=W0)
  (λlp J Jx W hW hJ hJx hY h0=>ab5 4 ak lp w.heap.size (w.heap.size+1) A l m c room gap wrap HL.out hm hcap J Jx hY W hJ (by have:=hW.size;omega)
   ((hW.block _ ak).trans b1) ((hW.block _ ak).trans b2) ((hW.block _ ak).trans b3) ((hW.block _ ak).trans b4)
   (hIW.keep (hW.mono ak) HA.out) HA.out h0)
  Jl.trans (Jl.putObj ak ak) aG (λ_=>rfl)
  (λpre W=>(∃v,Boxed W (w.heap.size+1) 218 v/\W.ownsRow w.heap.size 57 2 v pre.length ((Li.flat pre).map (Value.int .i64))/\True)/\Below w w W)
  (λ_ _ _=>False)
  (OwnFrom.and (Own.from (holdsRow_own w.heap.size (w.heap.size+1) 218 57 2 (λpre:List (Nat×Nat)=>pre.length) (λpre=>(Li.flat pre).map (Value.int .i64)) (λ_ _=>True)) _) (ownFrom_below aF ak))
  (λ_ _ _ _ _ hs _ _=>hs)
  ⟨⟨_,bT,agK,trivial⟩,hB0⟩
  (λx=>{ tmps:=#[.slice A m c,room,gap,wrap,undef,undef,undef,undef,.slice none 0 0,.pointer (some ⟨w.heap.size+1,0,none⟩),.int .i64 (x.1:Int),.int .i64 (x.2:Int),.slice w 0 0,.slice A m c,room,gap,wrap,.func (.func 201) #[] #[.pointer (some ⟨w.heap.size+1+1,0,none⟩),.pointer (some ⟨w.heap.size+1+1+1,0,none⟩),.pointer (some ⟨w.heap.size+1+1+2,0,none⟩),.pointer (some ⟨w.heap.size+1+1+3,0,none⟩)],.int .i64 (x.1:Int),.int .i64 (x.2:Int),undef,undef,undef,undef,undef,undef,undef],defers:=[] }) ?assign ?body ?done ?stop
 case assign =>
  intro lp x W K hK
  gi_wp2
  exact hK
 case body =>
  rintro lp pre x W ⟨⟨v,hv,hrow,_⟩,hB⟩ hlt;have hc:=hv.cell
  gi_wp2_with (gi_at_builtin;refine wpListIn_append_own _ rfl _ _ 218 rfl w.heap.size 57 i0 (.agg #[(),()]) 2 16 Tryz.underlying218 hi hz0 hz1 hz2 rfl aN _ _ _ rfl (hrow.alloc _) ⟨W,0,none⟩ 1 1 [.int .i64 (x.1:Int),.int .i64 (x.2:Int)] rfl rfl (cell_two_new _ _ _ _) LH RN ak (by have:=hB.size;simp;omega) ?_;intro v' w1 hown' hgrow _;obtain⟨g',cap',rfl⟩:=ownsRow_succ hown';obtain⟨hv1,hv2,hr2,hk2,hb2⟩:=hv.appended aN hrow hB.size ak hown' hgrow;have hc1:=hv1.cell;have hf1:=hv1.frozen)
  exact⟨hk2.from _,Jl.appended hrow hgrow hb2,⟨_,hv2,by rw[Li.Uf,List.map_append,ja8];exact hr2,trivial⟩,hB.trans hb2⟩
 case done =>
  rintro D ys W hD rfl ⟨⟨v,hv,hrow,_⟩,hB⟩ hK;have hc:=hv.cell
  gi_wp2
  refine⟨by simp,.inl ⟨_,_,rfl,run_takeDeferred hK,?_⟩⟩;exact⟨_,results_tmp rfl _ _ _,v,rfl,ownsRow_putObj hrow _ hK rfl,hB.trans (belowK_b (w:=w) aF W D _ _ ak hK rfl rfl)⟩
 case stop =>
  rintro D c pre W _ _ h _;exact h.elim
end Go.Proofs.YtfohooineeijkaaGreat.Fix
