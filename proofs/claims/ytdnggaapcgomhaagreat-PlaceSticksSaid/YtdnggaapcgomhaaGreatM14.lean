/- Steps of the program (14); no conditions. -/
import Derived.Test.YtdnggaapcgomhaaGreatM13
set_option linter.all false
set_option maxRecDepth 100000
set_option maxHeartbeats 16000000
namespace Go.Proofs.YtdnggaapcgomhaaGreat.Fix
open Go.ChangeShapes Go.WideShapes Go.ChangeAt Go.RowKit
open Go.Proofs.Tryz renaming prog → ja0
section
open World renaming setCell → ja5
open List renaming getElem?_eq_getElem → ja6,length_append → ja7,length_cons → ja9,take_of_length_le → jb6,getElem_mem → jc3,take_succ_eq_append_getElem → jc8
def dw(T:Tr.T)(z:Int):List Int:=(T z).elim [] (·.kids)
def upT(T:Tr.T)(z:Int):Int:=(T z).elim (-1) (·.up)
def ES(T:Tr.T)(z:Int):Bool:=(T (upT T z)).isSome&&(((bQ T (upT T z)).c 0==0) && !oW (bQ T z))
def lX(T:Tr.T):Nat->Int->List Int
 | 0,_=>[]
 | f+1,z=>z::((pF T (dw T z)).flatMap (lX T f)++(qj T (dw T z)).flatMap (lX T f))
structure Wu where
 bl:Nat
 vf:Value
 va:Value
structure Rd(W:World)(T:Tr.T)(bm n:Nat)(E:Int->Option Wu):Prop where
 gm:∃g,GM 3 W bm n g/\∀z,Wf z->g (.int .i64 z)=(E z).map λe => .pointer (some ⟨e.bl,0,none⟩)
 box:∀z e,E z=some e->Wf z/\aL W e.bl (bQ T z) e.vf e.va (ES T z)/\KS W e.vf (pF T (dw T z))/\KS W e.va (qj T (dw T z))
theorem KS.J7{W:World}{v:Value}{l:List Int}{b:Nat}{es:Array MapEntry}{ck:Nat}(h:KS W v l)(hm:At W b (.map es ck)):v.ownBlock≠some b:=λe=>by
 rcases h.cases with⟨rfl,_⟩|⟨g,c,rfl,cur,h1,_⟩
 . cases e
 . simp[Value.ownBlock]at e
   rw[e]at h1;have:=At.uniq h1 hm;cases this
theorem Rd.after{W W':World}{T:Tr.T}{bm n:Nat}{E:Int->Option Wu}(h:Rd W T bm n E)(hb:Below W W W'):Rd W' T bm n E:=by
 obtain⟨g,h1,h2⟩:=h.gm;exact⟨⟨g,h1.keep hb,h2⟩,λz e he=>⟨(h.box z e he).1,(h.box z e he).2.1.keep hb,(h.box z e he).2.2.1.after hb,(h.box z e he).2.2.2.after hb⟩⟩
def ET(E:Int->Option Wu)(z:Int)(e:Wu):Int->Option Wu:=λy=>if y=z then some e else E y
theorem Vt(E:Int->Option Wu)(z:Int)(e:Wu)(y:Int)(h:(E y).isSome=true):(ET E z e y).isSome=true:=by unfold ET;split<;>first|rfl|exact h
theorem Rd.put{W:World}{T:Tr.T}{bm n:Nat}{E:Int->Option Wu}(h:Rd W T bm n E)(hn:n<maxLen){z:Int}(hz:Wf z){e:Wu}(hb:aL W e.bl (bQ T z) e.vf e.va (ES T z))(hf:KS W e.vf (pF T (dw T z)))(ha:KS W e.va (qj T (dw T z))) :
  ∃W' n',n'<=n+1/\(Instr.mapUpdate 103 (.map (some bm)) (.int .i64 z) (.pointer e.bl)).run ja0 W=.ok () W'/\Rd W' T bm n' (ET E z e)/\Out (λb=>b=bm) W W':=by
 obtain⟨g,h1,h2⟩:=h.gm;obtain⟨es,ck,hm⟩:=h1.obj;obtain⟨W',n',hle,hr,hg,ho⟩:=h1.put (v:=.pointer e.bl) iT Tryz.underlying103 hn (iA hz)
 have nb:∀{b:Nat} {cs:Array Value} {t:TypeId},At W b (.cells cs t)->b≠bm:=λ{b cs t} q e=>by
  subst e;have:=At.uniq q hm;cases this
 have kp:∀{b:Nat} {s:Re.St} {vf va:Value} {ib:Bool} {l1 l2:List Int},aL W b s vf va ib->KS W vf l1->KS W va l2->aL W' b s vf va ib/\KS W' vf l1/\KS W' va l2:=λ{b s vf va ib l1 l2} q1 q2 q3 =>
  ⟨At.out q1 (nb q1) ho,q2.out (λg hg (e:g=bm)=>q2.J7 hm (e▸hg)) ho,q3.out (λg hg (e:g=bm)=>q3.J7 hm (e▸hg)) ho⟩
 refine⟨W',n',hle,hr,⟨⟨_,hg,λy hy => ?_⟩,λy e' he' => ?_⟩,ho⟩
 . by_cases q:y=z
   . subst q;rw[iU];unfold ET;rw[if_pos rfl];rfl
   . rw[jZ (DU q),h2 y hy];unfold ET;rw[if_neg q]
 . unfold ET at he'
   split at he'
   . rename_i q
     injection he' with he';subst q he';exact⟨hz,kp hb hf ha⟩
   . obtain⟨q1,q2,q3,q4⟩:=h.box y e' he'
     exact⟨q1,kp q2 q3 q4⟩
theorem Ik{α:Type}(f:Int->List α){l:List Int}{k:Nat}(h:k<l.length):(l.take (k+1)).flatMap f=(l.take k).flatMap f++f l[k]:=by
 rw[jc8 h,List.flatMap_append];simp
theorem ze{α:Type}(f:Int->List α)(l:List Int)(k:Nat):((l.take k).flatMap f).length<=(l.flatMap f).length:=by
 conv=>rhs;rw[<-List.take_append_drop k l,List.flatMap_append]
 simp
section
variable {t N:Nat} {L:Lay} {T:Tr.T} {lb bm km pm rm:Nat} {ww wh:Int}
theorem Vu(hup:∀z nd,T z=some nd->∀k∈nd.kids,∃kd,T k=some kd/\kd.up=z)(hbm:∀b,owned t L T b->b≠bm):∀(f:Nat) (z:Int) (w:World) (n:Nat) (E:Int->Option Wu),Tr.Fit T f z->dQ w t L T N ->
  At w lb (.cells #[ww,wh,.map (some bm),.map (some km),.map (some pm),.map (some rm)] 107)->Rd w T bm n E->n+(lX T f z).length<maxLen ->
  Calls ja0 43 #[lb,t,z,.bool (ES T z)] w λe w'=>e=.returned (.tuple #[]) /\
   (∃n' E',Rd w' T bm n' E'/\n'<=n+(lX T f z).length/\(∀y,(E y).isSome=true->(E' y).isSome=true)/\∀y∈lX T f z,(E' y).isSome=true)/\Out (λb=>b=bm) w w':=by
 intro f
 induction f with
 | zero=>intro z w n E h;exact h.elim
 | succ f ih =>
   intro z w n E hfit hR hA Xy hn;obtain⟨nd,hT,Ol⟩:=hfit;have hsm:=(hR.small z nd hT).2.2.2.2;have KA:=hR.wf hT;have wT:=dH hR KA;have hst:(T z).elim Re.zero (·.sty)=bQ T z:=rfl;rw[hst]at wT;have hkz:dw T z=nd.kids:=by unfold dw;rw[hT];rfl
   have hkx:∀x∈nd.kids,∃xd,T x=some xd:=λx hx=>by obtain⟨kd,h1,_⟩:=hup z nd hT x hx;exact⟨kd,h1⟩
   have Pm:∀x∈pF T nd.kids,ES T x=((bQ T z).c 0==0):=λx hx=>by
    obtain⟨hx1,hx2⟩:=List.mem_filter.1 hx;obtain⟨kd,h1,h2⟩:=hup z nd hT x hx1;have e:upT T x=z:=by unfold upT;rw[h1];exact h2
    simp only[Bool.and_eq_true]at hx2;unfold ES;rw[e,hT,hx2.2];simp
   have Ud:∀x∈qj T nd.kids,ES T x=false:=λx hx=>by
    obtain⟨hx1,hx2⟩:=List.mem_filter.1 hx;simp only[Bool.and_eq_true]at hx2;unfold ES;rw[hx2.2];simp
   obtain⟨zf,ZM⟩:=aA (pF T nd.kids);obtain⟨Ck,ZN⟩:=aA (qj T nd.kids);have adu:∀x∈zf,x∈nd.kids:=λx hx=>by rw[<-ZM]at hx;exact(List.mem_filter.1 hx).1
   have hsub2:∀x∈Ck,x∈nd.kids:=λx hx=>by rw[<-ZN]at hx;exact(List.mem_filter.1 hx).1
   have ahS:lX T (f+1) z=z::(zf.flatMap (lX T f)++Ck.flatMap (lX T f)):=by simp only[lX,hkz,ZM,ZN]
   rw[ahS]at hn ⊢;rw[ZM]at Pm;rw[ZN]at Ud;obtain⟨ib,hib⟩:=aA (ES T z);rw[hib];have HKF:=ah Ol;have HIB:=ah hib;have ajD:=ah Pm;have ajE:=ah Ud;have HS1:=ah adu;have HS2:=ah hsub2;have HK1:=ah ZM;have HK2:=ah ZN;have HKZ:=ah hkz;have HKX:=ah hkx;have afa:=ah hR;have HRD:=ah Xy;have HA:=ah hA;have HN:=ah hn;have HT:=ah hT;have lbl:=hA.lt;clear ahS Ol hib Pm Ud adu hsub2 ZM ZN hkz hkx hR Xy hA hn hst;go_enter Tryz.func43,Tryz.ntmps43
   go_upto_region 1 with(first|(go_at_call 22;(with_reducible refine wT.mono ?_);rintro e w1 ⟨rfl,hb1⟩)|(go_at_call 81;(with_reducible refine(Mt _ _).mono ?_);rintro e w2 ⟨⟨b,rfl,hbl,hbx⟩,hb2⟩))
   have hB2:Below w w w2:=Below.ay hb1 aC hb2;have hbw:w.heap.size<=b:=aJ hb1.size hbl;have l73:=hbx.lt;have c73:w2.cell? ⟨b,73,none⟩=some (.bool false):=hbx.ext 18;have z73:=At.thaw hbx 73;clear hb1 hb2 wT
   go_upto_region 2 with(fail)
   generalize hW:ja5 _ _ _=w3;have JJ:aL w3 b (bQ T z) (.slice none 0 0) (.slice none 0 0) ib:=by
    unfold aL;rw[<-PI (bQ T z) (.slice none 0 0) (.slice none 0 0) false ib,<-hW];exact At.set hbx 73 _
   have hB3:Below w w w3:=hW▸Below.setCell hB2 hbw _;clear hW hbx c73 z73 l73 hB2;have qC:=Uv (afa.out.after hB3) HT.out nd.kids rfl HKX.out ak;rw[HK1.out,HK2.out]at qC;have hl3:=JJ.lt
   go_upto_region 3 with(go_at_call 82;(with_reducible refine qC.mono ?_);rintro e w4 ⟨⟨v,u,rfl,ho1,ho2,hap⟩,hb4⟩;have QH:=JJ.keep hb4;have l71:=QH.lt;have nU:w4.cell? ⟨b,71,none⟩=some (.slice none 0 0):=QH.ext 16;have c72:w4.cell? ⟨b,72,none⟩=some (.slice none 0 0):=QH.ext 17;have z71:=At.thaw QH 71;have z72:=At.thaw QH 72;obtain⟨A1,d1,rfl,hI1,hd1,he1,hA1⟩:=KS.ints (dP ho1 oI);obtain⟨A2,d2,rfl,hI2,hd2,he2,hA2⟩:=KS.ints (dP ho2 oI))
   have hk1:KS w4 (.slice A1 zf.length d1) zf:=dP ho1 oI;have hk2:KS w4 (.slice A2 Ck.length d2) Ck:=dP ho2 oI;have hg1:∀g,(Value.slice A1 zf.length d1).ownBlock=some g->w3.heap.size<=g:=λg hg=>(World.ownsRow.lt ho1 g hg).1;have hg2:∀g,(Value.slice A2 Ck.length d2).ownBlock=some g->w3.heap.size<=g:=λg hg=>(World.ownsRow.lt ho2 g hg).1;have hB4:Below w w w4:=Below.ay hB3 aC hb4;generalize hW:ja5 _ _ _=w5;have acD:Out (λq=>q=b) w4 w5:=hW▸((Out.refl (λq=>q=b) w4).set rfl 71 _).set rfl 72 _;have ahT:aL w5 b (bQ T z) (.slice A1 zf.length d1) (.slice A2 Ck.length d2) ib:=by
    unfold aL;rw[<-PG (bQ T z) (.slice A1 zf.length d1) (.slice none 0 0) (.slice A2 Ck.length d2) ib,<-PE (bQ T z) (.slice none 0 0) (.slice A1 zf.length d1) (.slice none 0 0) ib,<-hW];exact At.set (At.set QH 71 _) 72 _
   have ahU:=hk1.out (M:=λq=>q=b) (λg hg (e:g=b)=>by have:=hg1 g hg;omega) acD;have ahV:=hk2.out (M:=λq=>q=b) (λg hg (e:g=b)=>by have:=hg2 g hg;omega) acD;have kr:Below w w w5:=hB4.trans (acD.below (by have:=hB4.size;omega) λq hq (e:q=b)=>by omega);clear hW QH l71 nU c72 z71 z72 ho1 ho2 hb4 qC hk1 hk2 hg1 hg2 acD hI1 hI2 hap JJ hl3 hB3 hB4;have hpos:n<maxLen:=by have:=HN.out;omega
   obtain⟨w6,n1,hn1,hmu,acE,iV⟩:=(HRD.out.after kr).put (e:=⟨b,.slice A1 zf.length d1,.slice A2 Ck.length d2⟩) hpos KA (by rw[HIB.out];exact ahT) (by rw[HKZ.out,HK1.out];exact ahU) (by rw[HKZ.out,HK2.out];exact ahV);have xJ:=HA.out.keep kr;have cl:=xJ.cell 2;simp only[List.getElem?_toArray,List.getElem?_cons_zero,List.getElem?_cons_succ]at cl;have ll:=xJ.lt
   go_upto_region 4 with(fail)
   obtain⟨es,ck,hmap⟩:=(HRD.out.gm).elim λg hg=>hg.1.obj;have ak6:=hmap.lt
   have ahW:lb≠bm:=λe=>by
    subst e;have:=At.uniq HA.out hmap;cases this
   have ak7:=kr.size;obtain⟨_,Ae,afb,afc⟩:=acE.box z ⟨b,.slice A1 zf.length d1,.slice A2 Ck.length d2⟩ (by unfold ET;rw[if_pos rfl]);rw[HIB.out]at Ae;rw[HKZ.out,HK1.out]at afb;rw[HKZ.out,HK2.out]at afc;have hbb:b≠bm:=by omega
   have hO:Out (λq=>q=bm) w w6:=Out.trans' (Out.of_below kr) iV λq hq e=>e
   have hE0:Hid ((∀y,(E y).isSome=true->(ET E z ⟨b,.slice A1 zf.length d1,.slice A2 Ck.length d2⟩ y).isSome=true)/\∀y∈z::(zf.take 0).flatMap (lX T f),(ET E z ⟨b,.slice A1 zf.length d1,.slice A2 Ck.length d2⟩ y).isSome=true):=ah ⟨λy hy=>Vt E z _ y hy,λy hy=>by
    simp only[List.take_zero,List.flatMap_nil,List.mem_cons,List.not_mem_nil,or_false]at hy;subst hy;unfold ET
    rw[if_pos rfl];rfl⟩
   have Sw:∃es ck,At w6 bm (.map es ck):=acE.gm.elim λg hg=>hg.1.obj;obtain⟨es6,ck6,Sw⟩:=Sw;have HMP:=ah Sw;clear Sw;have pG:=ah Ae;have ahX:=ah afb;have ahY:=ah afc;have HO:=ah hO;have nU:w6.cell? ⟨b,71,none⟩=some (.slice A1 zf.length d1):=Ae.ext 16;have l71:=Ae.lt;generalize hE:ET E z ⟨b,.slice A1 zf.length d1,.slice A2 Ck.length d2⟩=E1 at *;clear hmu cl ll kr ahT ahU ahV xJ hmap Ae afb afc hO iV hE;obtain⟨m1,hm1⟩:=aA zf.length;obtain⟨m2,hm2⟩:=aA Ck.length;have HM1:=ah hm1;have HM2:=ah hm2;rw[hm1]at nU;simp only[hm1,hm2];clear hm1 hm2;have ak8:m1<=d1:=by rw[<-HM1.out];exact hd1
   have ak9:m1<=5000:=by
    have h1:(pF T nd.kids).length<=nd.kids.length:=List.length_filter_le _ _;rw[HK1.out,HM1.out]at h1;omega
   have ak':m2<=5000:=by
    have h1:(qj T nd.kids).length<=nd.kids.length:=List.length_filter_le _ _;rw[HK2.out,HM2.out]at h1;omega
   go_upto_region 5 with(fail)
   go_loopw [44] (λvi wr=>∃(k n':Nat) (E':Int->Option Wu),k<=m1/\vi=.int .i64 k/\Rd wr T bm n' E'/\n'<=n+1+((zf.take k).flatMap (lX T f)).length/\Hid ((∀y,(E y).isSome=true->(E' y).isSome=true)/\∀y∈z::(zf.take k).flatMap (lX T f),(E' y).isSome=true)/\Out (λq=>q=bm) w6 wr) (λvi _=>m1-(intOf vi).toNat)
   case atStart=>exact⟨0,n1,E1,eX _,rfl,acE,by simp;omega,hE0,Out.refl _ _⟩
   case round =>
    clear acE hE0 nU l71;obtain⟨k,n',E',hk,rfl,hRr,hnr,hEr,hOr⟩:=hrel;by_cases hlt:k<m1
    . have hltz:(k:Int)<(m1:Int):=by omega
      have hkk:k<zf.length:=by rw[HM1.out];exact hlt
      have J8:=pG.out.out (M:=λq=>q=bm) hbb hOr;have Eo:=(ahX.out.out (M:=λq=>q=bm) (λg hg (e:g=bm)=>ahX.out.J7 HMP.out (e▸hg)) hOr).wG.1;obtain⟨b1,o1,rfl,Wn,hc1⟩:=Eo.at_ (k:=k) (by exact hkk);obtain⟨x,hx⟩:=aA (zf.getD k 0);have hx2:zf[k]=x:=by rw[<-hx,List.getD,ja6 hkk];rfl
      rw[hx]at hc1;have hxm:x∈zf:=hx2▸jc3 _;have hfl:=Ik (lX T f) hkk;rw[hx2]at hfl;have hle:=ze (lX T f) zf (k+1);have Ns:((zf.take (k+1)).flatMap (lX T f)).length=((zf.take k).flatMap (lX T f)).length+(lX T f x).length:=by rw[hfl,ja7]
      have hnn:=HN.out;rw[ja9,ja7]at hnn;have hBr:Out (λq=>q=bm) w wr:=HO.out.trans hOr;have key:=ih x wr n' E' (HKF.out x (HS1.out x hxm)) (afa.out.out (M:=λq=>q=bm) (λq hq e=>hbm q hq e) hBr) (HA.out.out (M:=λq=>q=bm) ahW hBr) hRr ak;rw[ajD.out x hxm]at key;have cdd:wr.cell? ⟨b,0,none⟩=some (.int .i64 ((bQ T z).c 0)):=aL.int J8 0 aG rfl;have lbr:=J8.lt;have GJ:=ah hfl;have Vr:=ah Ns;have HEr:=ah hEr;generalize (bQ T z).c 0=cz at *;clear hx2 hfl hle Ns hnn hxm Eo hRr hEr hBr
      go_wp2_with (go_at_call 43;(with_reducible refine key.mono ?_);rintro e w7 ⟨rfl,⟨n2,E2,afd,hn2,hm7,hs7⟩,Bg⟩)
      go_roundw
      case rel=>exact⟨k+1,n2,E2,by omega,by go_num,afd,by rw[Vr.out];omega,ah ⟨λy hy=>hm7 y (HEr.out.out.1 y hy),λy hy=>by
       rw[GJ.out]at hy;rcases List.mem_cons.1 hy with e|hy
       . exact hm7 y (HEr.out.out.2 y (List.mem_cons.2 (.inl e)))
       . rcases List.mem_append.1 hy with hy|hy
         . exact hm7 y (HEr.out.out.2 y (List.mem_cons.2 (.inr hy)))
         . exact hs7 y hy⟩,hOr.trans Bg⟩
      case measure=>simp[intOf];omega
    . obtain rfl:k=m1:=by omega
      have hfull:(zf.take k).flatMap (lX T f)=zf.flatMap (lX T f):=by rw[jb6 (by rw[HM1.out];exact aH _)]
      rw[hfull]at hnr hEr;have J8:=pG.out.out (M:=λq=>q=bm) hbb hOr;have c72:wr.cell? ⟨b,72,none⟩=some (.slice A2 Ck.length d2):=aL.ext J8 17;rw[HM2.out]at c72;have l72:=J8.lt;have ala:m2<=d2:=by rw[<-HM2.out];exact hd2
      clear hfull J8
      go_upto_region 10 with(fail)
      go_loopw [64] (λvi wr=>∃(k n':Nat) (E':Int->Option Wu),k<=m2/\vi=.int .i64 k/\Rd wr T bm n' E'/\n'<=n+1+(zf.flatMap (lX T f)).length+((Ck.take k).flatMap (lX T f)).length/\Hid ((∀y,(E y).isSome=true->(E' y).isSome=true)/\∀y∈z::(zf.flatMap (lX T f)++(Ck.take k).flatMap (lX T f)),(E' y).isSome=true)/\Out (λq=>q=bm) w6 wr) (λvi _=>m2-(intOf vi).toNat)
      case atStart=>exact⟨0,n',E',eX _,rfl,hRr,by simpa using hnr,by simpa using hEr,hOr⟩
      case round =>
       clear hRr hEr c72 l72 hOr hnr hk;obtain⟨k,n',E',hk,rfl,hRr,hnr,hEr,hOr⟩:=hrel;by_cases hlt:k<m2
       . have hltz:(k:Int)<(m2:Int):=by omega
         have hkk:k<Ck.length:=by rw[HM2.out];exact hlt
         have J8:=pG.out.out (M:=λq=>q=bm) hbb hOr;have Eo:=(ahY.out.out (M:=λq=>q=bm) (λg hg (e:g=bm)=>ahY.out.J7 HMP.out (e▸hg)) hOr).wG.1;obtain⟨b1,o1,rfl,Wn,hc1⟩:=Eo.at_ (k:=k) (by exact hkk);obtain⟨x,hx⟩:=aA (Ck.getD k 0);have hx2:Ck[k]=x:=by rw[<-hx,List.getD,ja6 hkk];rfl
         rw[hx]at hc1;have hxm:x∈Ck:=hx2▸jc3 _;have hfl:=Ik (lX T f) hkk;rw[hx2]at hfl;have hle:=ze (lX T f) Ck (k+1);have Ns:((Ck.take (k+1)).flatMap (lX T f)).length=((Ck.take k).flatMap (lX T f)).length+(lX T f x).length:=by rw[hfl,ja7]
         have hnn:=HN.out;rw[ja9,ja7]at hnn;have hBr:Out (λq=>q=bm) w wr:=HO.out.trans hOr;have key:=ih x wr n' E' (HKF.out x (HS2.out x hxm)) (afa.out.out (M:=λq=>q=bm) (λq hq e=>hbm q hq e) hBr) (HA.out.out (M:=λq=>q=bm) ahW hBr) hRr ak;rw[ajE.out x hxm]at key;have cdd:wr.cell? ⟨b,0,none⟩=some (.int .i64 ((bQ T z).c 0)):=aL.int J8 0 aG rfl;have lbr:=J8.lt;have GJ:=ah hfl;have Vr:=ah Ns;have HEr:=ah hEr;generalize (bQ T z).c 0=cz at *;clear hx2 hfl hle Ns hnn hxm Eo hRr hEr hBr
         go_wp2_with (go_at_call 43;(with_reducible refine key.mono ?_);rintro e w7 ⟨rfl,⟨n2,E2,afd,hn2,hm7,hs7⟩,Bg⟩)
         go_roundw
         case rel=>exact⟨k+1,n2,E2,by omega,by go_num,afd,by rw[Vr.out];omega,ah ⟨λy hy=>hm7 y (HEr.out.out.1 y hy),λy hy=>by
          rw[GJ.out]at hy;rcases List.mem_cons.1 hy with e|hy
          . exact hm7 y (HEr.out.out.2 y (List.mem_cons.2 (.inl e)))
          . rcases List.mem_append.1 hy with hy|hy
            . exact hm7 y (HEr.out.out.2 y (List.mem_cons.2 (.inr (List.mem_append.2 (.inl hy)))))
            . rcases List.mem_append.1 hy with hy|hy
              . exact hm7 y (HEr.out.out.2 y (List.mem_cons.2 (.inr (List.mem_append.2 (.inr hy)))))
              . exact hs7 y hy⟩,hOr.trans Bg⟩
         case measure=>simp[intOf];omega
       . obtain rfl:k=m2:=by omega
         have hfull:(Ck.take k).flatMap (lX T f)=Ck.flatMap (lX T f):=by rw[jb6 (by rw[HM2.out];exact aH _)]
         rw[hfull]at hnr hEr;have hHr:=ah hRr;clear hRr hfull;go_wp2
         go_end0
         exact⟨rfl,⟨n',E',hHr.out,by rw[ja7];omega,hEr.out.1,hEr.out.2⟩,HO.out.trans hOr⟩
end
def qM(T:Tr.T)(z:Int):Fw.Bx:=⟨bQ T z,pF T (dw T z),qj T (dw T z),ES T z⟩
noncomputable def Fd(T:Tr.T)(z:Int):Nat:=65-uj T z
def Dsh(T:Tr.T)(z:Int):Prop:=z∈lX T 64 0
theorem rR{T:Tr.T}{z k:Int}{nd:Tr.Nd}(hT:T z=some nd)(h:k∈pF T (dw T z)\/k∈qj T (dw T z)):k∈nd.kids:=by
 have e:dw T z=nd.kids:=by unfold dw;rw[hT];rfl
 rw[e]at h;rcases h with h|h
 . exact(List.mem_filter.1 h).1
 . exact(List.mem_filter.1 h).1
theorem Nt{T:Tr.T}{f:Nat}{a:Int}(h:Tr.Fit T f a):a∈lX T f a:=by
 cases f with
 | zero=>exact h.elim
 | succ f=>simp[lX]
theorem wM{T:Tr.T}{f:Nat}{a z:Int}(hz:z∈lX T (f+1) a):z=a\/∃c,(c∈pF T (dw T a)\/c∈qj T (dw T a))/\z∈lX T f c:=by
 simp only[lX,List.mem_cons,List.mem_append,List.mem_flatMap]at hz;rcases hz with h|⟨c,h1,h2⟩|⟨c,h1,h2⟩
 . exact .inl h
 . exact .inr ⟨c,.inl h1,h2⟩
 . exact .inr ⟨c,.inr h1,h2⟩
theorem Sy{T:Tr.T}{f:Nat}{a c z:Int}(hc:c∈pF T (dw T a)\/c∈qj T (dw T a))(hz:z∈lX T f c):z∈lX T (f+1) a:=by
 simp only[lX,List.mem_cons,List.mem_append,List.mem_flatMap];rcases hc with h|h
 . exact .inr (.inl ⟨c,h,hz⟩)
 . exact .inr (.inr ⟨c,h,hz⟩)
theorem rT{T:Tr.T}:∀{f:Nat} {a z:Int},Tr.Fit T f a->z∈lX T f a->∃nd,T z=some nd:=by
 intro f
 induction f with
 | zero=>intro a z h;exact h.elim
 | succ f ih =>
   intro a z h hz;obtain⟨nd,hT,hk⟩:=h;rcases wM hz with rfl|⟨c,hc,hz⟩
   . exact⟨nd,hT⟩
   . exact ih (hk c (rR hT hc)) hz
theorem Nu{T:Tr.T}:∀{f:Nat} {a z k:Int},Tr.Fit T f a->z∈lX T f a->(k∈pF T (dw T z)\/k∈qj T (dw T z))->k∈lX T f a:=by
 intro f
 induction f with
 | zero=>intro a z k h;exact h.elim
 | succ f ih =>
   intro a z k h hz hk;obtain⟨nd,hT,Ol⟩:=h;rcases wM hz with rfl|⟨c,hc,hz⟩
   . exact Sy hk (Nt (Ol k (rR hT hk)))
   . exact Sy hc (ih (Ol c (rR hT hc)) hz hk)
theorem Vv{T:Tr.T}:∀{f:Nat} {a z:Int},z∈lX T f a->z=a\/(bQ T z).c 0≠3:=by
 intro f
 induction f with
 | zero=>intro a z h;simp[lX]at h
 | succ f ih =>
   intro a z hz;rcases wM hz with h|⟨c,hc,hz⟩
   . exact .inl h
   . rcases ih hz with rfl|h
     . right
       rcases hc with h|h
       . have:=(List.mem_filter.1 h).2
         simp only[Bool.and_eq_true,bne_iff_ne,ne_eq]at this;exact this.1
       . have:=(List.mem_filter.1 h).2
         simp only[Bool.and_eq_true,bne_iff_ne,ne_eq]at this;exact this.1
     . exact .inr h
theorem Il{T:Tr.T}(H:Tr.WF T){z k:Int}{nd:Tr.Nd}(hT:T z=some nd)(hk:k∈nd.kids):Fd T z=Fd T k+1/\Fd T z<=64:=by
 obtain⟨d,hd1,hd⟩:=H.deep z nd hT;have hdk:=H.qR hT hk hd;have h63:=H.aa2 hdk;unfold Fd;rw[qO hd,qO hdk];omega
theorem acF{T:Tr.T}(H:Tr.WF T)(hlen:∀z nd,T z=some nd->nd.kids.length<=64)(hst:∀z nd,T z=some nd->0<=nd.sty.c 0/\nd.sty.c 0<=3)(h0:(bQ T 0).c 0≠3):Wk (qM T) (Fd T) (Dsh T) where
 down:=λz hz k hk=>by
  obtain⟨nd,hT⟩:=rT H.uH hz;exact⟨Nu H.uH hz (.inl hk),(Il H hT (rR hT (.inl hk))).1⟩
 len:=λz hz=>by
  obtain⟨nd,hT⟩:=rT H.uH hz;have e:dw T z=nd.kids:=by unfold dw;rw[hT];rfl
  show(pF T (dw T z)).length<=64;rw[e];exact aJ (by unfold pF;exact List.length_filter_le _ _) (hlen z nd hT)
 kind:=λz hz=>by
  obtain⟨nd,hT⟩:=rT H.uH hz;have h:=hst z nd hT;have e:bQ T z=nd.sty:=by unfold bQ;rw[hT];rfl
  have h3:(bQ T z).c 0≠3:=by
   rcases Vv hz with rfl|h
   . exact h0
   . exact h
  show(bQ T z).c 0=0\/(bQ T z).c 0=1\/(bQ T z).c 0=2;rw[e]at h3 ⊢;omega
 deep:=λz hz=>by unfold Fd;omega
theorem ZO{T:Tr.T}(H:Tr.WF T):∀z,Dsh T z->∀k∈(qM T z).ap,Dsh T k/\Fd T z=Fd T k+1:=λz hz k hk=>by
 obtain⟨nd,hT⟩:=rT H.uH hz;exact⟨Nu H.uH hz (.inr hk),(Il H hT (rR hT (.inr hk))).1⟩
theorem ZP{T:Tr.T}(H:Tr.WF T)(hlen:∀z nd,T z=some nd->nd.kids.length<=64):∀z,Dsh T z->(qM T z).ap.length<=10000:=λz hz=>by
 obtain⟨nd,hT⟩:=rT H.uH hz;have e:dw T z=nd.kids:=by unfold dw;rw[hT];rfl
 show(qj T (dw T z)).length<=10000;rw[e];have h:=hlen z nd hT;have h2:(qj T nd.kids).length<=nd.kids.length:=by unfold qj;exact List.length_filter_le _ _
 omega
def EU(T:Tr.T)(ww wh:Int):Fw.Ld:=Fw.lay (qM T) 64 0 ww wh (-1) (-1)
def Gy(T:Tr.T)(ww wh:Int):List Fw.Ld:=if RN T 1 0=true then tl (qM T) ww wh 64 (EU T ww wh)else []
noncomputable def afe(T:Tr.T)(ww wh:Int):Lit->Option Value:=jU (λ_=>none) (Gy T ww wh)
theorem ZQ{w:World}{t n:Nat}{L:Lay}{T:Tr.T}(h:dQ w t L T n){b:Nat}(hb:owned t L T b):b<w.heap.size:=by
 rcases hb with rfl|rfl|⟨z,nd,hz,rfl|hg⟩
 . exact h.at_.lt
 . exact h.map.lt
 . exact(h.box z nd hz).lt
 . obtain⟨cur,ha⟩:=(h.row z nd hz).rowAt hg
   exact ha.lt
theorem Wk.of{B B':Int->Fw.Bx}{F:Int->Nat}{D:Int->Prop}(h:Wk B F D)(e:∀z,D z->B' z=B z):Wk B' F D where
 down:=λz hz k hk=>h.down z hz k (by rw[<-e z hz];exact hk)
 len:=λz hz=>by rw[e z hz];exact h.len z hz
 kind:=λz hz=>by rw[e z hz];exact h.kind z hz
 deep:=h.deep
def Br(B:Int->Fw.Bx)(ww wh:Int):Fw.Ld:=Fw.lay B 64 0 ww wh (-1) (-1)
def qb(T:Tr.T)(B:Int->Fw.Bx)(ww wh:Int):List Fw.Ld:=if RN T 1 0=true then tl B ww wh 64 (Br B ww wh)else []
noncomputable def EW(T:Tr.T)(B:Int->Fw.Bx)(ww wh:Int):Lit->Option Value:=jU (λ_=>none) (qb T B ww wh)
theorem Io(B:Int->Fw.Bx){w:World}{t N:Nat}{L:Lay}{T:Tr.T}(h:dQ w t L T N)(H:Tr.WF T)(hlen:∀z nd,T z=some nd->nd.kids.length<=64)(hst:∀z nd,T z=some nd->0<=nd.sty.c 0/\nd.sty.c 0<=3)(hBT:∀z,Dsh T z->B z=qM T z)(ww wh:Int)
  (hb1:Fw.cst B 64 0+nJ B 64 0<maxLen) (hb2:(tl B (max ww 0) (max wh 0) 64 (Br B (max ww 0) (max wh 0))).length<maxLen) (hb3:(lX T 64 0).length<maxLen) :
  Calls ja0 10 #[t,ww,wh] w λe w'=>(∃b nr,e=.returned (.map (some b))/\w.heap.size<=b/\GM 3 w' b nr (EW T B (max ww 0) (max wh 0))/\nr<=(qb T B (max ww 0) (max wh 0)).length)/\Below w w w':=by
 obtain⟨rd,hrd,hru⟩:=H.root;have hdp:Tr.Dp T 0 0:=.root hrd;obtain⟨mw,hmw⟩:=aA (max ww 0);obtain⟨mh,hmh⟩:=aA (max wh 0);rw[hmw,hmh]at hb2 ⊢;have Vk:=M4 mw mh w;have HH:=ah h;have HB1:=ah hb1;have HB2:=ah hb2;have HB3:=ah hb3;clear h hb1 hb2 hb3;go_enter Tryz.func10,Tryz.ntmps10
 go_upto_region 2 with(go_at_call 41;(with_reducible refine Vk.mono ?_);rintro e' w1 ⟨⟨lb,bm,km,pm,rm,rfl,⟨glb,gbm,gkm,gpm,grm⟩,⟨nlb,nlk,nlp,nlr,nbk,nbp,nbr,nkp,nkr,npr⟩,hAl,hGb,hKM,hGp,hGr⟩,hw1⟩)
 have HR1:=ah (HH.out.after hw1);obtain⟨b,hb⟩:=aA (RN T 1 0);have wT:=Mv HR1.out (λnd hq=>by rw[hrd]at hq;injection hq with hq;rw[<-hq];exact hru) hdp;rw[show RN T (0+1) 0=b from hb]at wT;cases b with
 | false =>
   have HLG:=ah (show EW T B mw mh=(λ_=>none)/\(qb T B mw mh).length=0 by unfold EW qb;rw[hb];exact⟨rfl,rfl⟩);clear hb
   go_upto_region 5 with(go_at_call 42;(with_reducible refine wT.mono ?_);rintro e' w2 ⟨rfl,hw2⟩)
   have hA2:=hAl.keep hw2;have hG2:=ah (hGr.keep hw2);obtain⟨lY,xC,xD,zy,zA,zB,zC⟩:=At.six hA2;have ZR:Below w w w2:=Below.ay hw1 aC hw2;go_wp2
   go_ret
   exact⟨⟨rm,0,rfl,grm,by rw[HLG.out.1];exact hG2.out,eX _⟩,ZR⟩
 | true =>
   have HLG:=ah (show EW T B mw mh=jU (λ_=>none) (tl B mw mh 64 (Br B mw mh))/\qb T B mw mh=tl B mw mh 64 (Br B mw mh)by unfold EW qb;rw[hb];exact⟨rfl,rfl⟩);have h03:(bQ T 0).c 0≠3:=by
    have q:=hb;unfold RN at q;rw[hrd]at q;simp only[RN,Bool.and_true,bne_iff_ne,ne_eq]at q;unfold bQ;rw[hrd];exact q
   clear hb;have hWk:=(acF H hlen hst h03).of hBT;have hib:ES T 0=false:=by
    unfold ES upT;rw[hrd];show((T rd.up).isSome&&_)=false;rw[hru];cases hq:T (-1)with
    | none=>rfl
    | some nd=>have:=H.range _ _ hq;omega
   have hup:∀z nd,T z=some nd->∀k∈nd.kids,∃kd,T k=some kd/\kd.up=z:=λz nd hz k hk=>(H.kid z nd k hz hk).2
   go_upto_region 3 with(go_at_call 42;(with_reducible refine wT.mono ?_);rintro e' w2 ⟨rfl,hw2⟩)
   have ZR:Below w w w2:=Below.ay hw1 aC hw2;have ahZ:Rd w2 T bm 0 (λ_=>none):=⟨⟨_,hGb.keep hw2,λz hz=>rfl⟩,λz e he=>by cases he⟩;have aff:=Vu (t:=t) (N:=N) (L:=L) (T:=T) (lb:=lb) (bm:=bm) (km:=km) (pm:=pm) (rm:=rm) (ww:=mw) (wh:=mh) hup (λb hb e=>by have:=ZQ HH.out hb;omega) 64 0 w2 0 (λ_=>none) H.uH (HR1.out.after hw2) (hAl.keep hw2) ahZ (by have:=HB3.out;omega);rw[hib]at aff;have hlt1:=hGp.lt;have hlt2:=hGr.lt;have hlt3:=hKM.lt;have ai7:=hAl.lt;have alb:=hw2.size;have HA:=ah (hAl.keep hw2);have HK:=ah (hKM.keep _ _ _ hw2);have HGP:=ah (hGp.keep hw2);have HGR:=ah (hGr.keep hw2);clear Vk wT hAl hGb hKM hGp hGr hw2 ahZ
   go_upto_region 4 with(go_at_call 43;(with_reducible refine aff.mono ?_);rintro e' w3 ⟨rfl,⟨nE,E,Xy,-, -, hE⟩,hO3⟩)
   obtain⟨Y,hY⟩:∃Y:p9,Y=⟨lb,bm,km,pm,rm,mw,mh,λz=>((E z).map (·.bl)).getD 0,λz=>((E z).map (·.vf)).getD undef,λz=>((E z).map (·.va)).getD undef⟩:=⟨_,rfl⟩;have afg:Y.lb=lb:=by rw[hY]
   have ZT:Y.bm=bm:=by rw[hY]
   have Vw:Y.km=km:=by rw[hY]
   have J9:Y.pm=pm:=by rw[hY]
   have Vx:Y.rm=rm:=by rw[hY]
   have afh:Y.ww=mw:=by rw[hY]
   have afi:Y.wh=mh:=by rw[hY]
   have hs3:=hO3.size;have HA3:=ah (HA.out.out (M:=λb=>b=bm) nlb hO3);have ah0:=ah (HGP.out.out (M:=λb=>b=bm) nbp.symm hO3);have ajF:=ah (HGR.out.out (M:=λb=>b=bm) nbr.symm hO3)
   have hRO:RO w3 Y B (Dsh T) nP:={
    lay:=by rw[afg,afh,afi,ZT,Vw,J9,Vx];exact HA3.out
    boxes:=by
     obtain⟨g,h1,h2⟩:=Xy.gm;rw[ZT];refine⟨nE,g,h1,λz hz => ?_⟩;obtain⟨e,he⟩:=Option.isSome_iff_exists.1 (hE z hz);rw[h2 z (Xy.box z e he).1,he,hY];simp[he]
    box:=λz hz=>by
     obtain⟨e,he⟩:=Option.isSome_iff_exists.1 (hE z hz);have h1:=(Xy.box z e he).2;have e1:Y.bl z=e.bl:=by rw[hY];simp[he]
     have e2:Y.vf z=e.vf:=by rw[hY];simp[he]
     have e3:Y.va z=e.va:=by rw[hY];simp[he]
     rw[e1,e2,e3,hBT z hz];exact h1
    kinds:=by rw[Vw];exact nP.out _ _ _ HK.out (hO3.mono λb _ h=>by rw[h];exact nbk)
    wf:=λz hz=>by
     obtain⟨e,he⟩:=Option.isSome_iff_exists.1 (hE z hz);exact(Xy.box z e he).1
    FJ:=by rw[J9];exact ah0.out.obj
    pmb:=by rw[J9,ZT];exact nbp.symm
    pmk:=by rw[J9,Vw];exact nkp.symm
    pmr:=by rw[J9,Vx];exact npr }
   have FK:Kp Y B (Fd T) 0 (λb=>b=pm) w3:=⟨J9,λ_=>none,by rw[J9];exact ah0.out,λz a b v _ _ _ hg=>by cases hg⟩;have hD0:Dsh T 0:=Nt H.uH;have hF0:Fd T 0=64:=by unfold Fd;rw[qO hdp]
   have hrb:Y.rm≠Y.bm:=by rw[Vx,ZT];exact nbr.symm
   have EM:Y.rm≠Y.km:=by rw[Vx,Vw];exact nkr.symm
   have mD:=(J4 Y hWk 64).2;have mQ:=ZL Y hWk (λz hz=>by rw[hBT z hz];exact ZO H z hz) (λz hz=>by rw[hBT z hz];exact ZP H hlen z hz) hrb EM 64;have afj:=Fw.Dx (B 0).sty 0 mw mw (-1);have afk:=Fw.Dx (B 0).sty 1 mw mh (-1);obtain⟨x,hx0⟩:=aA (Br B mw mh);have hxi:x.id=0/\Wf x.i0/\Wf x.i1:=by
    rw[<-hx0];exact⟨rfl,by rw[iQ];exact⟨by have:=afj.1;show _<=Fw.FU (B 0).sty 0 mw mw (-1);omega,afj.2⟩,by rw[iQ];exact⟨by have:=afk.1;show _<=Fw.FU (B 0).sty 1 mw mh (-1);omega,afk.2⟩⟩
   have hlx:Fw.lay B 64 0 mw mh (-1) (-1)=x:=hx0;have ah1:=HB2;rw[hx0]at ah1 HLG;obtain⟨lY,xC,xD,zy,zA,zB,zC⟩:=At.six HA3.out;have HRO:=ah hRO;have HKP:=ah FK;have HKL:=ah mD;have HKT:=ah mQ;have HY:=ah (show Y.lb=lb/\Y.pm=pm/\Y.rm=rm/\Y.km=km/\Y.ww=mw/\Y.wh=mh from⟨afg,J9,Vx,Vw,afh,afi⟩);clear hRO FK mD mQ hY afg ZT Vw J9 Vx afh afi HA HGP HGR HK afj afk hx0 HB2 aff Xy hE;have hSd:w3.drew.cell? ⟨lb,0,none⟩=some (.int .i64 mw)/\w3.drew.cell? ⟨lb,1,none⟩=some (.int .i64 mh):=⟨xC,xD⟩;refine iC (S:=λX=>X.cell? ⟨lb,0,none⟩=some (.int .i64 mw)/\X.cell? ⟨lb,1,none⟩=some (.int .i64 mh)) 9 ?_ ?_
   . exact hSd
   intro hS0;clear hSd;refine aO 0 ?_;refine aO 1 ?_;refine aO 2 ?_;refine aO 3 ?_;refine aO 4 ?_;refine aO 5 ?_;refine tk1 6 ?_;refine aj.Step.call eD (kV _) ?_;rintro e' w5 ⟨rfl,hb5⟩;have yZ:Below w3 w3 w5:=(Below.drew aD).trans hb5;refine⟨_,rfl,λ_=>⟨(yZ.cell (p:=⟨lb,0,none⟩) lY).trans xC,(yZ.cell (p:=⟨lb,1,none⟩) lY).trans xD⟩,?_⟩
   (try simp only[bM,bN,bO,tks])
   have afl:=HRO.out.keep nP.keep yZ;have ah2:=HKP.out.out (M:=λ_=>False) (Out.of_below yZ) λ_ _ q=>q;have hs5:=yZ.size;have mD:=HKL.out 0 mw mh (-1) (-1) w5 0 (λb=>b=pm) hD0 hF0 afl ah2 (λb hb=>by rw[hb];omega) (by rw[HY.out.2.2.2.1];omega) (by have:=HB1.out;omega);rw[hlx,HY.out.1]at mD;refine tk1 7 ?_;refine aj.Step.call eD mD ?_;rintro e' w6 ⟨rfl,n2,P2,hn2,hK2,hP2,iV⟩;rw[HY.out.2.1]at iV;have acG:Out (λb=>b=pm) w3 w6:=(Out.of_below yZ).trans iV;refine⟨_,rfl,λ_=>⟨(Out.cell acG 0 lY nlp).trans xC,(Out.cell acG 1 lY nlp).trans xD⟩,?_⟩
   (try simp only[bM,bN,bO,tks])
   have ah3:=afl.fresh nP.out (by rw[HY.out.2.2.2.1];omega) (iV.mono λb _ h => .inl (by rw[HY.out.2.1];exact h)) hK2.pm.2;have hG6:=ajF.out.out (M:=λb=>b=pm) npr.symm acG
   have mQ:=HKT.out x w6 n2 (λb=>P2 b/\b<w6.heap.size) 0 (λ_=>none) (by rw[hxi.1];exact hD0) (by rw[hxi.1];exact hF0) hxi.2.1 hxi.2.2 ah3 hK2.cut (λb hb=>hb.2) (λhb=>by
    rw[HY.out.2.2.1]at hb;rcases hP2 _ hb.1 with q|q
    . exact npr q.symm
    . omega) (by rw[HY.out.2.2.1];exact hG6) (by rw[hxi.1];have:=HB1.out;omega) (by rw[HY.out.2.2.2.2.1,HY.out.2.2.2.2.2];have:=ah1.out;omega)
   rw[HY.out.1,HY.out.2.1,HY.out.2.2.1,HY.out.2.2.2.2.1,HY.out.2.2.2.2.2]at mQ;refine tk1 8 ?_;refine aj.Step.call eD mQ ?_;rintro e' w7 ⟨rfl,n3,P3,nr3,-, -, -, ahL,Ox,Bg⟩;have acH:Out (λb=>b=pm\/b=rm) w3 w7:=(acG.mono λb _ h => .inl h).trans Bg;have hnl:¬ (lb=pm\/lb=rm):=by rintro(h|h);exact nlp h;exact nlr h
   refine⟨_,rfl,λ_=>⟨(Out.cell acH 0 lY hnl).trans xC,(Out.cell acH 1 lY hnl).trans xD⟩,?_⟩
   (try simp only[bM,bN,bO,tks])
   refine gZ ?_;have Oj:=HA3.out.out hnl acH;have hW7:Below w w w7:=by
    have h1:Below w w2 w3:=hO3.below ZR.size λb hb e=>by omega
    have h2:Below w w3 w7:=acH.below (by have:=ZR.size;omega) λb hb e=>by omega
    exact(ZR.trans h1).trans h2
   have HG7:=ah Ox;clear lY xC xD zy zA zB zC hS0 mQ mD Ox hG6 ah3 afl ah2 hK2;obtain⟨lY,xC,xD,zy,zA,zB,zC⟩:=At.six Oj;go_wp2
   go_ret
   exact⟨⟨rm,nr3,rfl,grm,by rw[HLG.out.1];exact HG7.out,by rw[HLG.out.2];omega⟩,hW7⟩
theorem ZU{w:World}{t N:Nat}{L:Lay}{T:Tr.T}(h:dQ w t L T N)(H:Tr.WF T)(hlen:∀z nd,T z=some nd->nd.kids.length<=64)(hst:∀z nd,T z=some nd->0<=nd.sty.c 0/\nd.sty.c 0<=3)(ww wh:Int)
  (hb1:Fw.cst (qM T) 64 0+nJ (qM T) 64 0<maxLen) (hb2:(tl (qM T) (max ww 0) (max wh 0) 64 (EU T (max ww 0) (max wh 0))).length<maxLen) (hb3:(lX T 64 0).length<maxLen) :
  Calls ja0 10 #[t,ww,wh] w λe w'=>(∃b nr,e=.returned (.map (some b))/\w.heap.size<=b/\GM 3 w' b nr (afe T (max ww 0) (max wh 0))/\nr<=(Gy T (max ww 0) (max wh 0)).length)/\Below w w w' :=
 Io (qM T) h H hlen hst (λ_ _=>rfl) ww wh hb1 hb2 hb3
end
section
open Go.Deep
open World renaming alloc → ja4,setCell → ja5,setRow → jb9
open List renaming getElem?_eq_getElem → ja6,getElem_mem → jc3,take_succ_eq_append_getElem → jc8
variable {z:Int}{M:Nat->Prop}{d:Nat}{nd:Tr.Nd}
def Pr.mv(p:Pr)(a b:Int):Pr:=⟨Fx.cut (Fx.add p.x a),Fx.cut (Fx.add p.y b),p.w,p.h⟩
def Pr.jn(p q:Pr):Pr:=⟨Fx.Tf p.w p.h q.w q.h p.x q.x (Fx.jLo p.x p.w q.x q.w),Fx.Tf p.w p.h q.w q.h p.y q.y (Fx.jLo p.y p.h q.y q.h),Fx.Tf p.w p.h q.w q.h p.w q.w (Fx.jSz p.x p.w q.x q.w),Fx.Tf p.w p.h q.w q.h p.h q.h (Fx.jSz p.y p.h q.y q.h)⟩
def ZV(R:Int->Option Pr)(z:Int):Pr:=⟨0,0,Fx.mx (Fx.cut ((R z).getD p0).w) 0,Fx.mx (Fx.cut ((R z).getD p0).h) 0⟩
def rch(T:Tr.T)(R:Int->Option Pr):Nat->Int->Pr
 | 0,z=>ZV R z
 | f+1,z=>if (bQ T z).c 2=0 then (kf R (dw T z)).foldl (λr k=>if (bQ T k).c 1=3 then r else r.jn ((rch T R f k).mv ((R k).getD p0).x ((R k).getD p0).y)) (ZV R z)else ZV R z
def jst(T:Tr.T)(R:Int->Option Pr)(f:Nat)(r:Pr)(k:Int):Pr:=if (bQ T k).c 1=3 then r else r.jn ((rch T R f k).mv ((R k).getD p0).x ((R k).getD p0).y)
def Vy(T:Tr.T)(R:Int->Option Pr)(f:Nat)(z:Int)(r:Pr):Pr:=(kf R (dw T z)).foldl (jst T R f) r
theorem Cm{α β:Type}(g:β->α->β)(b:β)(l:List α)(d:α){k:Nat}(h:k<l.length):(l.take (k+1)).foldl g b=g ((l.take k).foldl g b) (l.getD k d):=by
 rw[jc8 h,List.foldl_append,List.getD,ja6 h];rfl
theorem ZW(W:World):(isAgg 40).run ja0 W=.ok true W:=by kernel_rfl
theorem sD(W:World):(sizeOf 40).run ja0 W=.ok 4 W:=by kernel_rfl
theorem nK{ops:Array Oper}{S:World->Prop}{o:Oper}{a:Act}(p:Operand){b:Nat}{x y u v:Int}(hw:Region.wanted o (yielded ops a.tmps)=true)(ho:o.op=.load 40 p)(hp:a.eval p=.pointer b)(h:∀X,S X->At X b (.cells #[x,y,u,v] 40)):aj.Reads ja0 ops S o (.agg #[x,y,u,v]) a :=
 .inl ⟨hw,λX hX=>fM ZW sD p ho hp rfl λj hj=>by
  have A:=h X hX
  match j,hj with
  | 0,_=>exact A.cell 0
  | 1,_=>exact A.cell 1
  | 2,_=>exact A.cell 2
  | 3,_=>exact A.cell 3⟩
theorem Ints.afm{W W':World}{A:Option Addr}{l:List Int}(h:Ints W A l)(hM:∀a,A=some a->¬ M a.block)(q:Out M W W'):Ints W' A l :=
 ⟨h.1,λh0=>by
  obtain⟨b,off,rfl,hc⟩:=h.2 h0
  exact⟨b,off,rfl,λk hk=>(q.cell _ (World.block_lt_of_cell? _ _ (hc k hk)) (hM ⟨b,off,none⟩ rfl)).trans (hc k hk)⟩⟩
theorem Cn(s:Re.St)(W:World):(Instr.field 68 (.agg (cells s)) 1).run ja0 W=.ok (.int .i64 (s.c 1)) W:=by kernel_rfl
theorem Vz(x y u v:Int)(W:World):(Instr.field 40 (.agg #[x,y,u,v]) 2).run ja0 W=.ok (.int .i64 u) W:=by kernel_rfl
theorem VA(x y u v:Int)(W:World):(Instr.field 40 (.agg #[x,y,u,v]) 3).run ja0 W=.ok (.int .i64 v) W:=by kernel_rfl
theorem vV(s:Re.St)(W:World):(Instr.field 68 (.agg (cells s)) 2).run ja0 W=.ok (.int .i64 (s.c 2)) W:=by kernel_rfl
section
variable {w:World} {t n:Nat} {L:Lay} {T:Tr.T} {m:Nat} {R:Int->Option Pr}
theorem zh(h:dQ w t L T n)(hmm:RM w m R)(hT:T z=some nd)(f:Nat)(hkd:∀k∈nd.kids,∃kd,T k=some kd)(hl:nd.kids.length<=5000)(rx ry rw rh:Int)
  (ZX:∀k∈nd.kids,∀X,Below w w X->Calls ja0 65 #[t,.map (some m),.int .i64 k] X λe w'=>e=.returned (rch T R f k).ag/\Below X.heap.size X w') :
  Calls ja0 50 #[t,.map (some m),z,.agg #[rx,ry,rw,rh]] w λe w'=>e=.returned (Vy T R f z ⟨rx,ry,rw,rh⟩).ag/\Below w w w':=by
 have HR:=ah h;have HM:=ah hmm;have HKD:=ah hkd;have HRE:=ah ZX;have hkw:∀x∈nd.kids,Wf x:=λx hx=>by obtain⟨kd,q⟩:=hkd x hx;exact h.wf q
 have qC:=λX (hb:Below w w X)=>Ej (h.after hb) (hmm.keep hb) hT nd.kids rfl hkw hl;have ekz:dw T z=nd.kids:=by unfold dw;rw[hT];rfl
 obtain⟨K,hK⟩:=aA (kf R nd.kids);rw[hK]at qC;have hKm:Hid (∀k∈K,k∈nd.kids):=ah λk hk=>(List.mem_filter.1 (hK▸hk)).1;have hKl:K.length<=5000:=by
  rw[<-hK];exact aJ (List.length_filter_le _ _) hl
 obtain⟨ans,eF⟩:∃x,Hid (K.foldl (jst T R f) ⟨rx,ry,rw,rh⟩=x):=⟨_,ah rfl⟩;have e0:Vy T R f z ⟨rx,ry,rw,rh⟩=ans:=by unfold Vy;rw[ekz,hK];exact eF.out
 rw[e0];clear e0 h hmm hT hkd hl ZX hkw ekz hK;go_enter Tryz.func50,Tryz.ntmps50
 go_upto_region 1 with(fail)
 generalize hW:ja4 _ _=W0;have A7:At W0 w (.cells #[rx,ry,rw,rh] 40):=hW▸At.alloc (At.new _ _) _;have A8:At W0 (w.heap.size+1) (.cells #[(),(),(),()] 40):=hW▸At.new' _ aW;have hB0:Below w w W0:=hW▸aB (aB aD _) _;clear hW
 go_upto_region 2 with(go_at_call 88;(with_reducible refine(qC _ hB0).mono ?_);rintro e w1 ⟨⟨v,rfl,hv⟩,hb1⟩;obtain⟨A,c,rfl,hI,-⟩:=KS.ints (dP hv oI))
 have hs0:=A8.lt
 have hap:Hid (∀a,A=some a->¬ a.block=w.heap.size):=ah λa ha e=>by
  have:=(hv.lt a.block (by rw[ha];rfl)).1;omega
 have HI:=ah hI;have A71:=A7.keep hb1;have A81:=A8.keep hb1;have hB1:=hB0.trans (hb1.mono hB0.size);have hs1:=hB1.size;clear A7 A8 hI hv hB0 hb1 qC hs0
 go_loopw [16] (λi wr=>∃k:Nat,k<=K.length/\i=.int .i64 (k:Int)/\At wr w (.cells ((K.take k).foldl (jst T R f) ⟨rx,ry,rw,rh⟩).arr 40)/\Out (λb=>b=w.heap.size) w1 wr) (λi _=>K.length-(intOf i).toNat)
 case atStart=>exact⟨0,by omega,rfl,A71,Out.refl _ _⟩
 case round =>
  clear A71;obtain⟨k,hk,rfl,A7,hO⟩:=hrel;have hB:Below w w wr:=hB1.trans (hO.below hs1 λb hb e=>by omega);have Eo:=HI.out.afm (λa ha=>hap.out a ha) hO;by_cases hlt:k<K.length
  . have hkz:(k:Int)<(K.length:Int):=by omega
    have hstep:=Cm (jst T R f) ⟨rx,ry,rw,rh⟩ K 0 hlt;obtain⟨b0,o0,rfl,l0,c0⟩:=Eo.at_ (k:=k) hlt;have hxm:=hKm.out (K.getD k 0) (by rw[List.getD,ja6 hlt];exact jc3 _);obtain⟨x,hx⟩:=aA (K.getD k 0);obtain⟨p,hp⟩:=aA ((K.take k).foldl (jst T R f) ⟨rx,ry,rw,rh⟩);rw[hx]at c0 hxm hstep;rw[hp]at A7 hstep;obtain⟨px,py,pw,ph⟩:=p;simp only[Pr.arr]at A7;obtain⟨kd,hkd⟩:=HKD.out x hxm;have kS:=dH (HR.out.after hB) (HR.out.wf hkd);obtain⟨s,hs⟩:=aA ((T x).elim Re.zero (·.sty));rw[hs]at kS;have hss:bQ T x=s:=hs;have hfp:=Cn s;obtain⟨q,hq⟩:=aA ((R x).getD p0);have hlk:=λX (h:Below wr wr X)=>(HM.out.keep (hB.trans (h.mono hB.size))).look (HR.out.wf hkd);simp only[hq]at hlk;have hre:=λX (h:Below wr wr X)=>HRE.out x hxm X (hB.trans (h.mono hB.size));by_cases p3:s.c 1=3
    . have p3b:(s.c 1 != 3)=false:=by simp[p3]
      have hst:Hid ((K.take (k+1)).foldl (jst T R f) ⟨rx,ry,rw,rh⟩=⟨px,py,pw,ph⟩):=ah (by rw[hstep];unfold jst;rw[hss,if_pos p3]);clear hlk hre hstep hs hss hx hp hxm hkd Eo
      go_wp2_with (go_at_call 22;(with_reducible refine kS.mono ?_);rintro e w2 ⟨rfl,hb2⟩)
      go_roundw
      case rel=>exact⟨k+1,by omega,by go_num,by rw[hst.out];exact A7.keep hb2,hO.trans (Out.of_below hb2)⟩
      case measure=>exact uT hlt
    . have p3b:(s.c 1 != 3)=true:=by simp[p3]
      obtain⟨u,hu⟩:=aA (rch T R f x);have hst:Hid ((K.take (k+1)).foldl (jst T R f) ⟨rx,ry,rw,rh⟩=(⟨px,py,pw,ph⟩:Pr).jn (u.mv q.x q.y)):=ah (by rw[hstep];unfold jst;rw[hss,if_neg p3,hq,hu]);simp only[hu,Pr.ag]at hre;have ajG:=ah hre;have ajH:=ah hlk;obtain⟨wW,ha2⟩:=aA ((⟨px,py,pw,ph⟩:Pr).jn (u.mv q.x q.y));have kJ:=λX=>UC px py pw ph (Fx.cut (Fx.add u.x q.x)) (Fx.cut (Fx.add u.y q.y)) u.w u.h X
      rw[show Fx.Tf pw ph u.w u.h px (Fx.cut (Fx.add u.x q.x)) (Fx.jLo px pw (Fx.cut (Fx.add u.x q.x)) u.w)=wW.x by rw[<-ha2];rfl,
       show Fx.Tf pw ph u.w u.h py (Fx.cut (Fx.add u.y q.y)) (Fx.jLo py ph (Fx.cut (Fx.add u.y q.y)) u.h)=wW.y by rw[<-ha2];rfl,
       show Fx.Tf pw ph u.w u.h pw u.w (Fx.jSz px pw (Fx.cut (Fx.add u.x q.x)) u.w)=wW.w by rw[<-ha2];rfl,
       show Fx.Tf pw ph u.w u.h ph u.h (Fx.jSz py ph (Fx.cut (Fx.add u.y q.y)) u.h)=wW.h by rw[<-ha2];rfl]at kJ
      rw[ha2]at hst;clear hlk hre hstep hs hss hx hp hxm hkd Eo hu hq
      go_upto_region 5 with(go_at_call 22;(with_reducible refine kS.mono ?_);rintro e w2 ⟨rfl,hb2⟩)
      have hlk:=λX (h:Below w2 w2 X)=>ajH.out X (hb2.trans (h.mono hb2.size));have hre:=λX (h:Below w2 w2 X)=>ajG.out X (hb2.trans (h.mono hb2.size));have A72:=A7.keep hb2;have hO2:=hO.trans (Out.of_below hb2);clear kS hb2 A7 c0 l0 hfp p3b;have hSd:Below w2 w2 w2.drew:=Below.drew aD;refine iC (S:=λX=>Below w2 w2 X) 11 ?_ ?_
      . exact hSd
      intro hx;clear hSd;refine jh 0 rfl (nK (.tmp 7) aR rfl rfl (λX h=>A72.keep h)) ?_;refine aF 1 ?_;refine aF 2 ?_;refine aF 3 ?_;refine aF 5 ?_;refine aF 6 ?_;refine jh 7 rfl (aZ aR rfl rfl rfl (λX h=>hlk X h)) ?_;refine tk1 4 ?_;refine BH (hre _ hx) hx ?_;clear hx;intro w3 hx;refine tk1 8 ?_;refine BH (Bb q.x q.y q.w q.h _) hx ?_;clear hx;intro w4 hx;refine tk1 9 ?_;refine BH (Hu u.x u.y u.w u.h q.x q.y _) hx ?_;clear hx;intro w5 hx;refine tk1 10 ?_;refine BH (kJ _) hx ?_;clear hx;intro w6 hx;refine tk1 11 ?_;have A9:=A72.keep hx;refine aj.Step.skip (aY (q:=0) sD (.tmp 7) (.tmp 35) rfl rfl rfl A9 rfl aW (sF _ _ _ _)) ?_;rw[dZ (cs:=#[px,py,pw,ph]) (vs:=#[wW.x,wW.y,wW.w,wW.h]) rfl];have A10:=At.setRow A9 #[wW.x,wW.y,wW.w,wW.h];have iV:Out (λb=>b=w.heap.size) w1 (w6.setRow w.heap.size #[wW.x,wW.y,wW.w,wW.h]):=Out.setRow (M:=λb=>b=w.heap.size) (hO2.trans (Out.of_below hx)) rfl _;refine⟨λhlt=>absurd hlt aG,?_⟩
      (try simp only[bM,bN,bO,tks])
      refine gZ ?_;go_wp2
      go_roundw
      case rel=>exact⟨k+1,by omega,by go_num,by rw[hst.out];exact A10,iV⟩
      case measure=>exact uT hlt
  . obtain rfl:k=K.length:=by omega
    rw[List.take_length,eF.out]at A7;simp only[Pr.arr]at A7;have A8:At wr (w.heap.size+1) _:=A81.out (M:=λb=>b=w.heap.size) ak hO;obtain⟨l7,c70,nU,c72,c73⟩:=At.four A7;obtain⟨l8,c80,c81,c82,c83⟩:=At.four A8;have z0:=A8.thaw 0;have z1:=A8.thaw 1;have z2:=A8.thaw 2;have z3:=A8.thaw 3;go_wp2;generalize hW:ja5 _ _ _=W2;have A9:At W2 (w.heap.size+1) (.cells #[ans.x,ans.y,ans.w,ans.h] 40):=hW▸At.set (At.set (At.set (At.set A8 0 _) 1 _) 2 _) 3 _;have GI:Below w w W2:=by
     rw[<-hW];exact Below.setCell (Below.setCell (Below.setCell (Below.setCell hB lG _) lG _) lG _) lG _
    clear hW l8 c80 c81 c82 c83 z0 z1 z2 z3;obtain⟨l8,c80,c81,c82,c83⟩:=At.four A9;refine bodyPost_ret (v:=.agg #[_,_,_,_]) (by simp[results,Tryz.results50,go_sem, *];first|done|exact⟨rfl,rfl⟩|exact⟨rfl,rfl,rfl,rfl⟩|rfl) rfl ⟨rfl,GI⟩
theorem Bt(qJ:∀z nd,T z=some nd->nd.kids.length<=5000/\∀k∈nd.kids,∃kd,T k=some kd):∀(f:Nat) (z:Int),Tr.Fit T f z->∀(w:World),dQ w t L T n->RM w m R->Calls ja0 65 #[t,.map (some m),.int .i64 z] w λe w'=>e=.returned (rch T R f z).ag/\Below w w w':=by
 intro f
 induction f with
 | zero=>intro z hf;exact hf.elim
 | succ f ih =>
   intro z hf w h hmm;obtain⟨nd,hT,Wi⟩:=hf;obtain⟨hl,hkd⟩:=qJ z nd hT;have KA:=h.wf hT;obtain⟨q,hq⟩:=aA ((R z).getD p0);have hlk:=λX (hb:Below w w X)=>(hmm.keep hb).look KA;simp only[hq]at hlk;have kO:=λX=>p8 0 0 q.w q.h X;rw[show Fx.cut 0=0 by decide]at kO;obtain⟨ow,how⟩:=aA (Fx.mx (Fx.cut q.w) 0);obtain⟨oh,hoh⟩:=aA (Fx.mx (Fx.cut q.h) 0);simp only[how,hoh]at kO;have hown:ZV R z=⟨0,0,ow,oh⟩:=by unfold ZV;rw[hq,how,hoh]
   have kS:=λX (hb:Below w w X)=>dH (h.after hb) KA;obtain⟨s,hs⟩:=aA ((T z).elim Re.zero (·.sty));simp only[hs]at kS;have hss:bQ T z=s:=hs;have hfp:=vV s;have kJ:=λX (hb:Below w w X)=>zh (h.after hb) (hmm.keep hb) hT f hkd hl 0 0 ow oh (λk hk Y hY=>ih k (Wi k hk) Y (h.after (hb.trans (hY.mono hb.size))) (hmm.keep (hb.trans (hY.mono hb.size))));obtain⟨ans,eF⟩:∃x,Hid (rch T R (f+1) z=x):=⟨_,ah rfl⟩;have eO:rch T R (f+1) z=if s.c 2=0 then Vy T R f z ⟨0,0,ow,oh⟩else ⟨0,0,ow,oh⟩:=by rw[<-hss,<-hown];rfl
   rw[eF.out]at eO;rw[eF.out];have HA:=ah eO;have HJ:=ah kJ;clear eO kJ ih h hmm hT Wi hkd qJ hq how hoh hown hs hss;go_enter Tryz.func65,Tryz.ntmps65
   go_upto_region 1 with(fail)
   generalize hW:ja4 _ _=W0;have A6:At W0 w (.cells #[(),(),(),()] 40):=hW▸At.new _ _;have hB0:Below w w W0:=hW▸aB aD _;clear hW;have k1:=hlk W0 hB0;have hf2:=Vz q.x q.y q.w q.h;have hf3:=VA q.x q.y q.w q.h;clear hlk
   go_upto_region 2 with(go_at_call 24;(with_reducible refine(kO _).mono ?_);rintro e w1 ⟨rfl,hb1⟩)
   have hB1:=hB0.trans (hb1.mono hB0.size);generalize hW:ja4 _ _=W1;obtain⟨b7,nW⟩:=aA w1.heap.size;rw[nW];have A7:At W1 b7 (.cells #[(),(),ow,oh] 40):=hW▸nW▸At.new _ _;have A61:At W1 w _:=hW▸(A6.keep hb1).alloc _;have hB2:Below w w W1:=hW▸aB hB1 _;have h67:w.heap.size<b7:=by have:=A6.lt;have:=hb1.size;omega
   clear hW nW k1 hf2 hf3 hb1 A6 hB0 hB1 kO;have kS1:=kS W1 hB2;clear kS;by_cases c2:s.c 2=0
   . have Wv:(s.c 2 != 0)=false:=by simp[c2]
     rw[if_pos c2]at HA
     go_upto_region 4 with(go_at_call 22;(with_reducible refine kS1.mono ?_);rintro e w2 ⟨rfl,hb2⟩)
     have A72:=A7.keep hb2;have VB:=A61.keep hb2;have hB3:=hB2.trans (hb2.mono hB2.size);have kJ:=HJ.out w2 hB3;rw[<-HA.out]at kJ;simp only[Pr.ag]at kJ;clear A7 A61 hB2 hb2 kS1;obtain⟨l7,c70,nU,c72,c73⟩:=At.four A72
     go_wp2_with (go_at_call 50;(with_reducible refine kJ.mono ?_);rintro e w3 ⟨rfl,hb3⟩;obtain⟨l6,c60,c61,c62,c63⟩:=At.four (VB.keep hb3);have z0:=(VB.keep hb3).thaw 0;have z1:=(VB.keep hb3).thaw 1;have z2:=(VB.keep hb3).thaw 2;have z3:=(VB.keep hb3).thaw 3)
     generalize hW:ja5 _ _ _=W2;have A9:At W2 w (.cells #[ans.x,ans.y,ans.w,ans.h] 40):=hW▸At.set (At.set (At.set (At.set (VB.keep hb3) 0 _) 1 _) 2 _) 3 _;have hB4:=hB3.trans (hb3.mono hB3.size);have GI:Below w w W2:=by
      exact Z2y
     exact Z1m
   . have Wv:(s.c 2 != 0)=true:=by simp[c2]
     rw[if_neg c2]at HA;have eA:=HA.out;subst eA
     go_upto_region 3 with(go_at_call 22;(with_reducible refine kS1.mono ?_);rintro e w2 ⟨rfl,hb2⟩)
     have A72:=A7.keep hb2;have VB:=A61.keep hb2;have hB3:=hB2.trans (hb2.mono hB2.size);clear A7 A61 hB2 hb2 kS1;obtain⟨l7,c70,nU,c72,c73⟩:=At.four A72;obtain⟨l6,c60,c61,c62,c63⟩:=At.four VB;have z0:=VB.thaw 0;have z1:=VB.thaw 1;have z2:=VB.thaw 2;have z3:=VB.thaw 3;go_wp2;generalize hW:ja5 _ _ _=W2;have A9:At W2 w (.cells #[(),(),ow,oh] 40):=hW▸At.set (At.set (At.set (At.set VB 0 _) 1 _) 2 _) 3 _;have GI:Below w w W2:=by
      rw[<-hW];exact Below.setCell (Below.setCell (Below.setCell (Below.setCell hB3 aC _) aC _) aC _) aC _
     exact Z1m
end
def Pr.prt(p:Pr)(s:Re.St):Pr:=⟨Fx.add p.x (s.c 38),Fx.add p.y (s.c 35),Fx.less p.w (Fx.add (Fx.add 0 (s.c 36)) (s.c 38)),Fx.less p.h (Fx.add (Fx.add 0 (s.c 35)) (s.c 37))⟩
theorem tO(p:Pr)(s:Re.St)(w:World):Calls ja0 27 #[.agg #[p.x,p.y,p.w,p.h],.agg (cells s)] w λe w'=>e=.returned (p.prt s).ag/\Below w w w':=by
 obtain⟨x,y,a,b⟩:=p;go_enter Tryz.func27,Tryz.ntmps27
 go_upto_region 1 with(fail)
 generalize hW:ja4 _ _=W0;have A0:At W0 w (.cells #[x,y,a,b] 40):=hW▸At.alloc (At.alloc (At.new _ _) _) _;have A1:At W0 (w.heap.size+1) (.cells (cells s) 68):=hW▸At.alloc (At.new' _ aW) _;have A2:At W0 (w.heap.size+1+1) (.cells #[(),(),(),()] 40):=hW▸At.new' _ aW;have hB:Below w w W0:=hW▸aB (aB (aB aD _) _) _;clear hW;have l1:=A1.lt;have q0:W0.cell? ⟨w.heap.size+1,35,none⟩=some (.int .i64 (s.c 35)):=A1.st 35 ak rfl;have q1:W0.cell? ⟨w.heap.size+1,36,none⟩=some (.int .i64 (s.c 36)):=A1.st 36 ak rfl;have q2:W0.cell? ⟨w.heap.size+1,37,none⟩=some (.int .i64 (s.c 37)):=A1.st 37 ak rfl;have q3:W0.cell? ⟨w.heap.size+1,38,none⟩=some (.int .i64 (s.c 38)):=A1.st 38 ak rfl;clear A1;obtain⟨l0,c0,c1,c2,c3⟩:=At.four A0
 go_wp2_with (go_at_call 30;(with_reducible refine(Ei x y a b (s.c 35) (s.c 36) (s.c 37) (s.c 38) _).mono ?_);rintro e w3 ⟨rfl,hb3⟩;have A3:=A2.keep hb3;obtain⟨l2,d0,d1,d2,d3⟩:=At.four A3;have z0:=A3.thaw 0;have z1:=A3.thaw 1;have z2:=A3.thaw 2;have z3:=A3.thaw 3;have hB3:=hB.trans (hb3.mono hB.size);clear q0 q1 q2 q3 l1 l0 c0 c1 c2 c3)
 generalize hW:ja5 _ _ _=W2;have A9:At W2 (w.heap.size+1+1) (.cells #[.int .i64 (Fx.add x (s.c 38)),.int .i64 (Fx.add y (s.c 35)),.int .i64 (Fx.less a (Fx.add (Fx.add 0 (s.c 36)) (s.c 38))),.int .i64 (Fx.less b (Fx.add (Fx.add 0 (s.c 35)) (s.c 37)))] 40):=hW▸At.set (At.set (At.set (At.set A3 0 _) 1 _) 2 _) 3 _;have GI:Below w w W2:=by
  rw[<-hW];exact Below.setCell (Below.setCell (Below.setCell (Below.setCell hB3 (Nat.le_add_right _ 2) _) (Nat.le_add_right _ 2) _) (Nat.le_add_right _ 2) _) (Nat.le_add_right _ 2) _
 clear hW l2 d0 d1 d2 d3 z0 z1 z2 z3;obtain⟨l2,d0,d1,d2,d3⟩:=At.four A9;refine bodyPost_ret (v:=.agg #[_,_,_,_]) (by simp[results,Tryz.results27,go_sem, *];first|done|exact⟨rfl,rfl⟩|exact⟨rfl,rfl,rfl,rfl⟩|rfl) rfl ⟨rfl,GI⟩
def FM(T:Tr.T):Nat->Int->Int
 | 0,_ => -1
 | f+1,u=>match T u with
   | none=>u
   | some nd=>if nd.sty.c 2=2 then u else FM T f nd.up
theorem EX(W:World):(Instr.build 40 #[]).run ja0 W=.ok (.agg #[(),(),(),()]) W:=by kernel_rfl
section
variable {w:World} {t n:Nat} {L:Lay} {T:Tr.T} {m:Nat} {R:Int->Option Pr}
theorem Ka(h:dQ w t L T n)(hmm:RM w m R)(hz:Wf z)(hn:T z=none):Calls ja0 29 #[t,.map (some m),z] w λe w'=>e=.returned p0.ag/\Below w w w':=by
 have k1:=λX (hb:Below w w X)=>xg (h.after hb) (hmm.keep hb) hz hn;have hbd:=EX;clear h hmm;go_enter Tryz.func29,Tryz.ntmps29
 go_upto_region 1 with(fail)
 generalize hW:ja4 _ _=W0;have A6:At W0 w (.cells #[(),(),(),()] 40):=hW▸At.new _ _;have hB0:Below w w W0:=hW▸aB aD _;clear hW;obtain⟨l6,c60,c61,c62,c63⟩:=At.four A6;have z0:=A6.thaw 0;have z1:=A6.thaw 1;have z2:=A6.thaw 2;have z3:=A6.thaw 3;have k1:=k1 W0 hB0
 go_wp2_with (go_at_call 49;(with_reducible refine k1.mono ?_);rintro e w3 ⟨rfl,rfl⟩)
 generalize hW:ja5 _ _ _=W2;have A9:At W2 w (.cells #[(),(),(),()] 40):=hW▸At.set (At.set (At.set (At.set A6 0 _) 1 _) 2 _) 3 _;have GI:Below w w W2:=by
  rw[<-hW];exact Below.setCell (Below.setCell (Below.setCell (Below.setCell hB0 aC _) aC _) aC _) aC _
 exact Zu
theorem Kc(h:dQ w t L T n)(hmm:RM w m R)(hr:∀nd,T 0=some nd->nd.up = -1)(hd:Tr.Dp T z d)(f:Nat)(hf:Tr.Fit T f z)(qJ:∀z nd,T z=some nd->nd.kids.length<=5000/\∀k∈nd.kids,∃kd,T k=some kd):Calls ja0 29 #[t,.map (some m),.int .i64 z] w λe w'=>e=.returned (if cnt T R (d+1) z=true then rch T R f z else p0).ag/\Below w w w':=by
 have k1:=λX (hb:Below w w X)=>mY (h.after hb) (hmm.keep hb) hr hd;have k2:=λX (hb:Below w w X)=>Bt qJ f z hf X (h.after hb) (hmm.keep hb);have hbd:=EX;obtain⟨u,hu⟩:=aA (rch T R f z);rw[hu]at k2 ⊢;simp only[Pr.ag]at k2;cases hc:cnt T R (d+1) z
 all_goals
  rw[hc]at k1;clear h hmm hr hd hf qJ hu hc
 . rw[if_neg aG]
   go_enter Tryz.func29,Tryz.ntmps29
   go_upto_region 1 with(fail)
   generalize hW:ja4 _ _=W0;have A6:At W0 w (.cells #[(),(),(),()] 40):=hW▸At.new _ _;have hB0:Below w w W0:=hW▸aB aD _;clear hW;have k1:=k1 W0 hB0
   go_wp2_with (go_at_call 49;(with_reducible refine k1.mono ?_);rintro e w3 ⟨rfl,hb3⟩;have A7:=A6.keep hb3;obtain⟨l6,c60,c61,c62,c63⟩:=At.four A7;have z0:=A7.thaw 0;have z1:=A7.thaw 1;have z2:=A7.thaw 2;have z3:=A7.thaw 3)
   generalize hW:ja5 _ _ _=W2;have A9:At W2 w (.cells #[(),(),(),()] 40):=hW▸At.set (At.set (At.set (At.set A7 0 _) 1 _) 2 _) 3 _;have GI:Below w w W2:=by
    rw[<-hW];exact Below.setCell (Below.setCell (Below.setCell (Below.setCell (hB0.trans (hb3.mono hB0.size)) aC _) aC _) aC _) aC _
   exact Zu
 . rw[if_pos rfl]
   go_enter Tryz.func29,Tryz.ntmps29
   go_upto_region 1 with(fail)
   generalize hW:ja4 _ _=W0;have A6:At W0 w (.cells #[(),(),(),()] 40):=hW▸At.new _ _;have hB0:Below w w W0:=hW▸aB aD _;clear hW;have k1:=k1 W0 hB0
   go_wp2_with (first|(go_at_call 49;(with_reducible refine k1.mono ?_);rintro e w3 ⟨rfl,hb3⟩;have A7:=A6.keep hb3;have hB3:=hB0.trans (hb3.mono hB0.size);have k3:=k2 _ hB3)|(go_at_call 65;(with_reducible refine k3.mono ?_);rintro e w4 ⟨rfl,hb4⟩;have A8:=A7.keep hb4;obtain⟨l6,c60,c61,c62,c63⟩:=At.four A8;have z0:=A8.thaw 0;have z1:=A8.thaw 1;have z2:=A8.thaw 2;have z3:=A8.thaw 3;have hB4:=hB3.trans (hb4.mono hB3.size)))
   generalize hW:ja5 _ _ _=W2;have A9:At W2 w (.cells #[u.x,u.y,u.w,u.h] 40):=hW▸At.set (At.set (At.set (At.set A8 0 _) 1 _) 2 _) 3 _;have GI:Below w w W2:=by
    exact Z2y
   exact Zu
theorem Co(h:dQ w t L T n)(hz:Wf z)(hn:T z=none):Calls ja0 35 #[t,z] w λe w'=>e=.returned (.int .i64 (-1))/\Below w w w':=by
 have k:=nZ h hz;rw[show iX T z = -1 by unfold iX;rw[hn]]at k;clear h;go_enter Tryz.func35,Tryz.ntmps35
 go_wp2_with (go_at_call 21;(with_reducible refine k.mono ?_);rintro e w3 ⟨rfl,rfl⟩)
 refine wp_loop_rounds 5 ?_;rw[rounds_succ];go_wp2
 go_ret
 exact⟨rfl,Below.refl _ _⟩
theorem Cq(h:dQ w t L T n)(hr:∀nd,T 0=some nd->nd.up = -1)(hd:Tr.Dp T z d)(hT:T z=some nd):Calls ja0 35 #[t,z] w λe w'=>e=.returned (.int .i64 (FM T d nd.up))/\Below w w w':=by
 have hm:T (-1)=none:=by
  exact Z29
 have k0:=nZ h (h.wf hT);rw[show iX T z=nd.up by unfold iX;rw[hT]]at k0;have HR:=ah h;have GH:=ah hr;obtain⟨ans,eF⟩:∃x,Hid (FM T d nd.up=x):=⟨_,ah rfl⟩;have hst:(∃(q:Nat),Tr.Dp T nd.up q/\FM T (q+1) nd.up=ans)\/(nd.up = -1/\ans = -1):=by
  cases hd with
  | root h0 =>
    rw[hT]at h0;cases h0;exact .inr ⟨hr nd hT,eF.out.symm⟩
  | step h1 h0 h2 =>
    rw[hT]at h1;cases h1;exact .inl ⟨_,h2,eF.out⟩
 rw[eF.out];have HST:=ah hst;obtain⟨u0,hu0⟩:=aA nd.up;rw[hu0]at k0 HST;clear h hr hd hT hst hu0;go_enter Tryz.func35,Tryz.ntmps35
 go_wp2_with (go_at_call 21;(with_reducible refine k0.mono ?_);rintro e w' ⟨rfl,rfl⟩)
 go_loopw [5] (λi wr=>((∃(y:Int) (q:Nat),i=.int .i64 y/\Tr.Dp T y q/\FM T (q+1) y=ans)\/(i=.int .i64 (-1)/\ans = -1))/\Below w w wr) (λi _=>uj T (intOf i))
 case atStart=>exact⟨by rcases HST.out with⟨q,h1,h2⟩|⟨h1,h2⟩;(· exact .inl ⟨_,q,rfl,h1,h2⟩);exact .inr ⟨by rw[h1],h2⟩,Below.refl _ _⟩
 case round =>
  obtain⟨hrel,hB⟩:=hrel;rcases hrel with⟨y,q,rfl,hD,hs⟩|⟨rfl,rfl⟩
  . obtain⟨nd,hT⟩:=hD.live
    have h1:=HR.out.after hB;have hyw:=h1.wf hT;have hyn:(y != -1)=true:=by
     have:=(h1.small _ nd hT).1;simp;omega
    have kS:=dH h1 hyw;obtain⟨s,hsx⟩:=aA ((T y).elim Re.zero (·.sty));rw[hsx]at kS;have hsn:Hid (nd.sty=s):=ah (by rw[<-hsx,hT];rfl);have Rc:=ah hD;have HT:=ah hT;have ql:=λX (hb:Below wr wr X)=>nZ (h1.after hb) hyw;have hu:Hid (iX T y=nd.up):=ah (by unfold iX;rw[hT]);generalize iX T y=u at *;have hfo:=vV s;have hs2:FM T (q+1) y=if s.c 2=2 then y else FM T q nd.up:=by
     show(match T y with|none=>y|some nd=>if nd.sty.c 2=2 then y else FM T q nd.up)=_;rw[hT];simp only[hsn.out]
    rw[hs2]at hs;have PO:=ah hs;have S9:=ah hB;clear hD hT hsx hs hs2 h1 hB;by_cases c2:s.c 2=2
    . have Wv:(s.c 2 != 2)=false:=by simp[c2]
      have e:=PO.out;rw[if_pos c2]at e;subst e
      go_wp2_with (go_at_call 22;(with_reducible refine kS.mono ?_);rintro e w2 ⟨rfl,hb2⟩)
      go_ret
      exact⟨rfl,S9.out.trans (hb2.mono S9.out.size)⟩
    . have Wv:(s.c 2 != 2)=true:=by simp[c2]
      go_wp2_with (first|(go_at_call 22;(with_reducible refine kS.mono ?_);rintro e w2 ⟨rfl,hb2⟩;have ku:=ql _ hb2)|(go_at_call 21;(with_reducible refine ku.mono ?_);rintro e w' ⟨rfl,rfl⟩))
      have hB2:=S9.out.trans (hb2.mono S9.out.size);have hs:=PO.out;rw[if_neg c2]at hs;rw[hu.out];exact Zg
  . go_wp2
    go_ret
    exact⟨rfl,hB⟩
end
def bey(hi afn long:Int):Int:=Fx.mx (Fx.sub (Fx.sub hi afn) long) 0
theorem zi(lo hi b l:Int)(w:World):Calls ja0 51 #[.agg #[lo,hi],b,l] w λe w'=>e=.returned (.int .i64 (bey hi b l))/\Below w w w':=by
 go_enter Tryz.func51,Tryz.ntmps51
 go_wp2_with (first|(go_at_call 52;with_reducible refine mI (kD _ _ _) ?_))
 all_goals go_ret
 all_goals exact⟨bA (by unfold bey Fx.mx;split<;>omega),(Below.refl _ _).alloc aC _⟩
section
variable {w:World} {t n:Nat} {L:Lay} {T:Tr.T} {m:Nat} {R:Int->Option Pr}
theorem Nv(h:dQ w t L T n)(hmm:RM w m R)(hr:∀nd,T 0=some nd->nd.up = -1)(hd:Tr.Dp T z d)(f:Nat)(hT:T z=some nd)(hf:Tr.Fit T (f+1) z)(qJ:∀z nd,T z=some nd->nd.kids.length<=5000/\∀k∈nd.kids,∃kd,T k=some kd)(s:Re.St)(hs:nd.sty=s)(hc2:s.c 2=2)(hcn:cnt T R (d+1) z=true):Calls ja0 13 #[t,.map (some m),.int .i64 z] w λe w'=>e=.returned (pt (bey (Fx.hi (Vy T R f z ⟨0,0,0,0⟩).x (Vy T R f z ⟨0,0,0,0⟩).w) (s.c 38) (((R z).getD p0).prt s).w) (bey (Fx.hi (Vy T R f z ⟨0,0,0,0⟩).y (Vy T R f z ⟨0,0,0,0⟩).h) (s.c 35) (((R z).getD p0).prt s).h))/\Below w w w':=by
 have KA:=h.wf hT;have Wi:∀k∈nd.kids,Tr.Fit T f k:=by
  obtain⟨nd',h1,h2⟩:=hf;rw[hT]at h1;cases h1;exact h2
 have kS:=dH h KA;rw[show(T z).elim Re.zero (·.sty)=s by rw[hT];exact hs]at kS;have kC:=λX (hb:Below w w X)=>mY (h.after hb) (hmm.keep hb) hr hd;simp only[hcn]at kC;obtain⟨q,hq⟩:=aA ((R z).getD p0);have hlk:=λX (hb:Below w w X)=>(hmm.keep hb).look KA;simp only[hq]at hlk;rw[hq];have kJ:=λX (hb:Below w w X)=>zh (h.after hb) (hmm.keep hb) hT f (qJ z nd hT).2 (qJ z nd hT).1 0 0 0 0 (λk hk Y hY=>Bt qJ f k (Wi k hk) Y (h.after (hb.trans (hY.mono hb.size))) (hmm.keep (hb.trans (hY.mono hb.size))));obtain⟨u,hu⟩:=aA (Vy T R f z ⟨0,0,0,0⟩);rw[hu];simp only[hu,Pr.ag]at kJ;obtain⟨v,hv⟩:=aA (q.prt s);have kP:=λX=>tO q s X;rw[hv];simp only[hv,Pr.ag]at kP;have zu:=ah hlk;have HJ:=ah kJ;have HP:=ah kP;have hbd:=EX;clear h hmm hr hd hT hf qJ hs hcn KA Wi hq hlk kJ hu hv kP;go_enter Tryz.func13,Tryz.ntmps13
 go_upto_region 2 with(first|(refine aS aR rfl ?_)|(refine bE aR rfl ?_)|(refine aQ aR _ rfl rfl oC ?_)|(refine bF aR _ _ rfl rfl rfl oC ?_)|(refine aU aR _ _ rfl rfl rfl oC ?_)|(go_at_call 22;(with_reducible refine kS.mono ?_);rintro e w3 ⟨rfl,hb3⟩))
 obtain⟨bs,hbs⟩:=aA w3.heap.size;generalize hW:jb9 _ _ _=w4;have A4:At w4 bs (.cells (cells s) 68):=hW▸hbs▸At.setRow (At.new _ _) _;have hB4:Below w w w4:=hW▸aM (aB hb3 _) hb3.size _;rw[hbs];have alc:w.heap.size<=bs:=hbs▸hb3.size;have KN:=A4.lt;have f2:=A4.st 2 aG rfl;have Wv:(s.c 2 != 2)=false:=by simp[hc2]
 have kC4:=kC w4 hB4;clear hW kS hb3 hbs kC
 go_upto_region 4 with(go_at_call 49;(with_reducible refine kC4.mono ?_);rintro e w5 ⟨rfl,hb5⟩)
 have A5:=A4.keep hb5;have kr:=hB4.trans (hb5.mono hB4.size);have hlk:=λX (h:Below w5 w5 X)=>zu.out X (kr.trans (h.mono kr.size));have kJ5:=λX (h:Below w5 w5 X)=>HJ.out X (kr.trans (h.mono kr.size));clear kC4 hb5 A4 hB4 KN f2 Wv zu HJ;refine aj.fQ (λa0 a W5=>∃(Tp Tq:Nat) (u24 u25 u26 u27 u28 u29 u30 u31 u32 u33:Value),a={ a0 with tmps:=((((((((((((a0.tmps.setIfInBounds 24 u24).setIfInBounds 25 u25).setIfInBounds 26 u26).setIfInBounds 27 u27).setIfInBounds 28 u28).setIfInBounds 29 u29).setIfInBounds 30 u30).setIfInBounds 31 u31).setIfInBounds 32 u32).setIfInBounds 33 u33).setIfInBounds 8 (.pointer Tp)).setIfInBounds 9 (.pointer Tq)) }/\w5.heap.size<=Tp/\w5.heap.size<=Tq/\Tp≠Tq/\At W5 Tp (.cells #[u.x,u.y,u.w,u.h] 40)/\At W5 Tq (.cells #[v.x,v.y,v.w,v.h] 40)/\Below w5 w5 W5) ?_ ?_
 . have hSd:Below w5 w5 w5.drew:=Below.drew aD
   clear kr;refine iC (S:=λX=>Below w5 w5 X) 13 ?_ ?_
   . exact hSd
   intro hx;clear hSd;refine aF 0 ?_;refine aF 1 ?_;refine aF 2 ?_;refine aO 3 ?_;refine aF 5 ?_;refine aF 6 ?_;refine jh 7 rfl (aZ aR rfl rfl rfl (λX h=>hlk X h)) ?_;refine jh 8 rfl (eP aR (.tmp 7) rfl rfl (λX h=>A5.keep h)) ?_;clear hlk A5;generalize w5.drew=W0 at *;refine aj.tN 4 [4,9,10,11] [28,33,8,9] (λi=>if i=9 then [4]else []) (λi=>if i=4 then aj.Rv (.agg #[u.x,u.y,u.w,u.h])else if i=9 then aj.Rv (.agg #[v.x,v.y,v.w,v.h])else aj.Ra (.cells #[(),(),(),()] 40)) ⟨⟨λ_ _ _ _ _ h _=>h,_,rfl,rfl,λW hb=>aj.Step.call eD (kJ5 W (Below.ay hx aC hb)) λ_ _ h=>⟨_,h.1,h.2,rfl⟩⟩,⟨λ_ _ _ _ _ h _=>h,_,rfl,rfl,λW hb=>aj.Step.call eD (HP.out W) λ_ _ h=>⟨_,h.1,h.2,rfl⟩⟩,⟨λ_ _ _ _ _ h hb=>aj.Ra.keep h hb,_,rfl,rfl,λW hb=>aj.Ra.made eD⟩,⟨λ_ _ _ _ _ h hb=>aj.Ra.keep h hb,_,rfl,rfl,λW hb=>aj.Ra.made eD⟩,trivial⟩ (λX h=>Below.ay hx aC h) ?_;intro vs s0 e0 W hb hI hp;have e4:vs 4=_:=(hI 4 aW).2.2;have e9:vs 9=_:=(hI 9 aW).2.2;obtain⟨gp,-, e10,lp,Ap⟩:=hI 10 aW;obtain⟨gq,-, e11,lq,Aq⟩:=hI 11 aW;have ED:=hp 10 aW 11 aW aG
   (try simp only[aj.mU,aj.oG,aj.jC,aj.mR,List.map_cons,List.map_nil,e4,e9,e10,e11]);(try simp only[bM,bN,bO,tks])
   generalize s0 10=Tp at *;generalize s0 11=Tq at *;replace ED:Tp≠Tq:=by omega
   replace gp:=aJ hx.size gp;replace gq:=aJ hx.size gq;replace hx:=Below.ay hx aC hb;clear hI hp hb e4 e9 e10 e11 lp lq;refine tk1 12 ?_;refine aj.Step.skip (aY (q:=0) sD (.tmp 8) (.tmp 28) rfl rfl rfl Ap rfl aW (sF _ _ _ _)) ?_;rw[dZ (cs:=#[(),(),(),()]) (vs:=#[u.x,u.y,u.w,u.h]) rfl];have V4:=At.setRow Ap #[u.x,u.y,u.w,u.h];have Wt:=At.gF Aq ED.symm #[u.x,u.y,u.w,u.h];have hx1:=aM hx gp #[u.x,u.y,u.w,u.h];generalize W.setRow Tp #[.int .i64 u.x,.int .i64 u.y,.int .i64 u.w,.int .i64 u.h]=x1 at *;refine⟨λ_=>hx1,?_⟩
   (try simp only[bM,bN,bO,tks])
   refine tk1 13 ?_;refine aj.Step.skip (aY (q:=0) sD (.tmp 9) (.tmp 33) rfl rfl rfl Wt rfl aW (sF _ _ _ _)) ?_;rw[dZ (cs:=#[(),(),(),()]) (vs:=#[v.x,v.y,v.w,v.h]) rfl];have Aq3:=At.setRow Wt #[v.x,v.y,v.w,v.h];have Ap3:=At.gF V4 ED #[v.x,v.y,v.w,v.h];have hx2:=aM hx1 gq #[v.x,v.y,v.w,v.h];generalize x1.setRow Tq #[.int .i64 v.x,.int .i64 v.y,.int .i64 v.w,.int .i64 v.h]=x2 at *;refine⟨λhlt=>absurd hlt aG,?_⟩
   (try simp only[bM,bN,bO,tks])
   refine gZ ?_;exact⟨rfl,Tp,Tq,_,_,_,_,_,_,_,_,_,_,rfl,gp,gq,ED,Ap3,Aq3,hx2⟩
 rintro a W5 ⟨Tp,Tq,u24,u25,u26,u27,u28,u29,u30,u31,u32,u33,rfl,gp,gq,ED,Ap,Aq,hb6⟩;have zm:=kr.trans (hb6.mono kr.size);have A6:=A5.keep hb6;obtain⟨i0,i1,i2,i3⟩:_/\_/\_/\_:=⟨Mh (s.c 35) (s.c 36) (s.c 37) (s.c 38),Mi (s.c 35) (s.c 36) (s.c 37) (s.c 38),Mj (s.c 35) (s.c 36) (s.c 37) (s.c 38),Mk (s.c 35) (s.c 36) (s.c 37) (s.c 38)⟩;clear kJ5 hlk HP A5 kr hbd gp gq ED hb6
 go_upto_region 6 with(fail)
 have HC:∀X,Below W5 W5 X->(X.cell? ⟨bs,35,none⟩=some (.int .i64 (s.c 35))/\X.cell? ⟨bs,38,none⟩=some (.int .i64 (s.c 38))/\X.cell? ⟨Tq,2,none⟩=some (.int .i64 v.w)/\X.cell? ⟨Tq,3,none⟩=some (.int .i64 v.h)/\Below W5 W5 X):=λX h=>⟨(A6.keep h).st 35 aG rfl,(A6.keep h).st 38 aG rfl,(Aq.keep h).cell 2,(Aq.keep h).cell 3,h⟩;have hSd:=HC _ (Below.drew aD);refine iC (S:=(λX=>X.cell? ⟨bs,35,none⟩=some (.int .i64 (s.c 35))/\X.cell? ⟨bs,38,none⟩=some (.int .i64 (s.c 38))/\X.cell? ⟨Tq,2,none⟩=some (.int .i64 v.w)/\X.cell? ⟨Tq,3,none⟩=some (.int .i64 v.h)/\Below W5 W5 X)) 19 ?_ ?_
 . exact hSd
 intro hS0;have hx:Below W5 W5 W5.drew:=Below.drew aD;clear hSd;refine aO 0 ?_;refine jh 1 rfl (nK (.tmp 8) aR rfl rfl (λX h=>Ap.keep h.2.2.2.2)) ?_;refine aO 3 ?_;refine aO 4 ?_;refine aO 5 ?_;refine aO 6 ?_;refine aO 7 ?_;refine aO 9 ?_;refine jh 10 rfl (nK (.tmp 8) aR rfl rfl (λX h=>Ap.keep h.2.2.2.2)) ?_;refine aO 12 ?_;refine aO 13 ?_;refine aO 14 ?_;refine aO 15 ?_;refine aO 16 ?_;refine tk1 2 ?_;refine aj.Step.call eD (mO u.x u.y u.w u.h _) ?_;rintro e y2 ⟨rfl,hb⟩;replace hx:=Below.ay hx aC hb;clear hb;refine⟨_,rfl,λ_=>HC _ hx,?_⟩
 (try simp only[bM,bN,bO,tks])
 refine tk1 8 ?_;refine aj.Step.call eD (zi (Fx.cut u.x) (Fx.hi u.x u.w) (s.c 38) v.w _) ?_;rintro e y8 ⟨rfl,hb⟩;replace hx:=Below.ay hx aC hb;clear hb;refine⟨_,rfl,λ_=>HC _ hx,?_⟩
 (try simp only[bM,bN,bO,tks])
 refine tk1 11 ?_;refine aj.Step.call eD (rF u.x u.y u.w u.h _) ?_;rintro e y11 ⟨rfl,hb⟩;replace hx:=Below.ay hx aC hb;clear hb;refine⟨_,rfl,λ_=>HC _ hx,?_⟩
 (try simp only[bM,bN,bO,tks])
 refine tk1 17 ?_;refine aj.Step.call eD (zi (Fx.cut u.y) (Fx.hi u.y u.h) (s.c 35) v.h _) ?_;rintro e y17 ⟨rfl,hb⟩;replace hx:=Below.ay hx aC hb;clear hb;refine⟨_,rfl,λ_=>HC _ hx,?_⟩
 (try simp only[bM,bN,bO,tks])
 refine tk1 18 ?_;refine aj.Step.call eD (nO (bey (Fx.hi u.x u.w) (s.c 38) v.w) (bey (Fx.hi u.y u.h) (s.c 35) v.h) _) ?_;rintro e y18 ⟨rfl,rfl⟩;refine⟨_,rfl,λ_=>HC _ hx,?_⟩
 (try simp only[bM,bN,bO,tks])
 refine tk1 19 ?_;refine aj.Step.value eD ?_;refine⟨λhlt=>absurd hlt aG,?_⟩
 (try simp only[bM,bN,bO,tks])
 refine gZ ?_;go_wp2
 go_ret
 exact⟨rfl,zm.trans (hx.mono zm.size)⟩
end
section
variable {w:World} {t n:Nat} {L:Lay} {T:Tr.T} {m:Nat} {R:Int->Option Pr}
theorem EY(h:dQ w t L T n)(hz:Wf z)(hc:(bQ T z).c 2≠2):Calls ja0 13 #[t,.map (some m),z] w λe w'=>e=.returned (pt 0 0)/\Below w w w':=by
 have kS:=dH h hz;obtain⟨s,hs⟩:=aA ((T z).elim Re.zero (·.sty));rw[hs]at kS;have hc2:s.c 2≠2:=by rw[<-hs];exact hc
 rw[<-CO];clear h hz hc hs;go_enter Tryz.func13,Tryz.ntmps13
 go_upto_region 2 with(first|(refine aS aR rfl ?_)|(refine bE aR rfl ?_)|(refine aQ aR _ rfl rfl oC ?_)|(refine bF aR _ _ rfl rfl rfl oC ?_)|(refine aU aR _ _ rfl rfl rfl oC ?_)|(go_at_call 22;(with_reducible refine kS.mono ?_);rintro e w3 ⟨rfl,hb3⟩))
 obtain⟨bs,hbs⟩:=aA w3.heap.size;generalize hW:jb9 _ _ _=w4;have A4:At w4 bs (.cells (cells s) 68):=hW▸hbs▸At.setRow (At.new _ _) _;have hB4:Below w w w4:=hW▸aM (aB hb3 _) hb3.size _;rw[hbs];have KN:=A4.lt;have f2:=A4.st 2 aG rfl;have Wv:(s.c 2 != 2)=true:=by simp[hc2]
 clear hW kS hb3 hbs A4;go_wp2
 go_ret
 exact⟨rfl,hB4⟩
theorem Nw(h:dQ w t L T n)(hmm:RM w m R)(hr:∀nd,T 0=some nd->nd.up = -1)(hd:Tr.Dp T z d)(hcn:cnt T R (d+1) z=false):Calls ja0 13 #[t,.map (some m),z] w λe w'=>e=.returned (pt 0 0)/\Below w w w':=by
 obtain⟨nd,hT⟩:=hd.live;have hz:=h.wf hT;by_cases hc:(bQ T z).c 2=2
 case neg=>exact EY h hz hc
 have kS:=dH h hz;obtain⟨s,hs⟩:=aA ((T z).elim Re.zero (·.sty));rw[hs]at kS;have hc2:s.c 2=2:=by rw[<-hs];exact hc
 have kC:=λX (hb:Below w w X)=>mY (h.after hb) (hmm.keep hb) hr hd;simp only[hcn]at kC;rw[<-CO];clear h hmm hr hd hz hc hs hT hcn;go_enter Tryz.func13,Tryz.ntmps13
 go_upto_region 2 with(first|(refine aS aR rfl ?_)|(refine bE aR rfl ?_)|(refine aQ aR _ rfl rfl oC ?_)|(refine bF aR _ _ rfl rfl rfl oC ?_)|(refine aU aR _ _ rfl rfl rfl oC ?_)|(go_at_call 22;(with_reducible refine kS.mono ?_);rintro e w3 ⟨rfl,hb3⟩))
 obtain⟨bs,hbs⟩:=aA w3.heap.size;generalize hW:jb9 _ _ _=w4;have A4:At w4 bs (.cells (cells s) 68):=hW▸hbs▸At.setRow (At.new _ _) _;have hB4:Below w w w4:=hW▸aM (aB hb3 _) hb3.size _;rw[hbs];have KN:=A4.lt;have f2:=A4.st 2 aG rfl;have Wv:(s.c 2 != 2)=false:=by simp[hc2]
 have kC4:=kC w4 hB4;clear hW kS hb3 hbs A4 kC
 go_wp2_with (go_at_call 49;(with_reducible refine kC4.mono ?_);rintro e w5 ⟨rfl,hb5⟩)
 go_ret
 exact⟨rfl,hB4.trans (hb5.mono hB4.size)⟩
end
def OM(W:World)(m:Nat)(O:Int->Option (Int×Int)):Prop:=∃n g,GM 3 W m n g/\∀z,g (.int .i64 z)=(O z).map λp=>pt p.1 p.2
section
variable {W W':World} {m:Nat} {O:Int->Option (Int×Int)}
theorem OM.lt(h:OM W m O):m<W.heap.size:=by obtain⟨n,g,h,_⟩:=h;exact h.lt
theorem OM.out(h:OM W m O)(hm:¬ M m)(q:Out M W W'):OM W' m O:=by obtain⟨n,g,h,r⟩:=h;exact⟨n,g,h.out hm q,r⟩
theorem OM.keep(h:OM W m O)(hb:Below W W W'):OM W' m O:=by obtain⟨n,g,h,r⟩:=h;exact⟨n,g,h.keep hb,r⟩
theorem OM.look(h:OM W m O)(hz:Wf z):(Instr.lookup 36 (.map (some m)) (.int .i64 z) false).run ja0 W=.ok (pt ((O z).getD (0,0)).1 ((O z).getD (0,0)).2) W:=by
 obtain⟨n,g,h,r⟩:=h;have k:=h.look iT Tryz.underlying36 (z:=.complex .f64 0 0) aV (iA hz);rw[r,CO]at k;rw[k];cases O z<;>rfl
end
def vw(t m mo:Nat)(q:Pr)(ms:Nat):Array Value:=#[t,.map (some m),.map (some mo),q.x,q.y,q.w,q.h,.map (some ms)]
def Ao(a b:Pr):Array Value:=#[a.x,a.y,a.w,a.h,b.x,b.y,b.w,b.h]
theorem xW(a0 a1 a2 a3 b0 b1 b2 b3:Int)(W:World):(Instr.build 42 #[(0,.agg #[a0,a1,a2,a3]),(1,.agg #[b0,b1,b2,b3])]).run ja0 W=.ok (.agg #[a0,a1,a2,a3,b0,b1,b2,b3]) W:=by kernel_rfl
section
variable {w:World} {t n:Nat} {L:Lay} {T:Tr.T} {m:Nat} {R:Int->Option Pr}
theorem xw(hmm:RM w m R)(hz:Wf z)(q:Pr)(mo ms:Nat):Calls ja0 55 #[.agg (vw t m mo q ms),z] w λe w'=>e=.returned (.agg (Ao ((R z).getD p0) q))/\Below w w w':=by
 obtain⟨p,hp⟩:=aA ((R z).getD p0);have hlk:=λX (hb:Below w w X)=>(hmm.keep hb).look hz;simp only[hp]at hlk;rw[hp];have hbd:=xW;obtain⟨q0,q1,q2,q3⟩:=q;obtain⟨x0,x1,x2,x3⟩:=p;simp only[vw,Ao]at *;clear hmm hz hp;go_enter Tryz.func55,Tryz.ntmps55
 go_upto_region 1 with(fail)
 generalize hW:ja4 _ _=W0;have A0:At W0 w (.cells #[t,.map (some m),.map (some mo),q0,q1,q2,q3,.map (some ms)] 119):=hW▸At.alloc (At.new _ _) _;have A1:At W0 (w.heap.size+1) (.cells #[(),(),(),(),(),(),(),()] 42):=hW▸At.new' _ aW;have hB:Below w w W0:=hW▸aB (aB aD _) _;clear hW;obtain⟨l0,c0,c1,c2,c3,c4,c5,c6,c7⟩:=A0.eight;obtain⟨l1,d0,d1,d2,d3,d4,d5,d6,d7⟩:=A1.eight;have z0:=A1.thaw 0;have z1:=A1.thaw 1;have z2:=A1.thaw 2;have z3:=A1.thaw 3;have z4:=A1.thaw 4;have z5:=A1.thaw 5;have z6:=A1.thaw 6;have z7:=A1.thaw 7;have k1:=hlk W0 hB;clear hlk;go_wp2;generalize hW:ja5 _ _ _=W2;have A9:At W2 (w.heap.size+1) (.cells #[x0,x1,x2,x3,q0,q1,q2,q3] 42):=hW▸At.set (At.set (At.set (At.set (At.set (At.set (At.set (At.set A1 0 _) 1 _) 2 _) 3 _) 4 _) 5 _) 6 _) 7 _;have GI:Below w w W2:=by
  rw[<-hW];exact Below.setCell (Below.setCell (Below.setCell (Below.setCell (Below.setCell (Below.setCell (Below.setCell (Below.setCell hB lG _) lG _) lG _) lG _) lG _) lG _) lG _) lG _
 clear hW l1 d0 d1 d2 d3 d4 d5 d6 d7 z0 z1 z2 z3 z4 z5 z6 z7;obtain⟨l1,d0,d1,d2,d3,d4,d5,d6,d7⟩:=A9.eight;refine bodyPost_ret (v:=.agg #[_,_,_,_,_,_,_,_]) (by simp[results,Tryz.results55,go_sem, *];first|done|exact⟨rfl,rfl⟩|exact⟨rfl,rfl,rfl,rfl,rfl,rfl,rfl,rfl⟩|rfl) rfl ⟨rfl,GI⟩
def ZY(O:Int->Option (Int×Int))(z mx my:Int):Int×Int:=(Fx.clamp ((O z).getD (0,0)).1 0 mx,Fx.clamp ((O z).getD (0,0)).2 0 my)
theorem EZ(O:Int->Option (Int×Int))(mx my:Int)(mo:Nat)(ho:OM w mo O)(hz:Wf z)(q:Pr)(ms:Nat)(adv:∀X,Below w w X->Calls ja0 13 #[t,.map (some m),z] X λe w'=>e=.returned (pt mx my)/\Below X.heap.size X w'):Calls ja0 126 #[.agg (vw t m mo q ms),z] w λe w'=>e=.returned (pt (ZY O z mx my).1 (ZY O z mx my).2)/\Below w w w':=by
 obtain⟨⟨o0,o1⟩,hp⟩:=aA ((O z).getD (0,0));have hlk:=λX (hb:Below w w X)=>(ho.keep hb).look hz;simp only[hp]at hlk;unfold ZY;rw[hp];obtain⟨q0,q1,q2,q3⟩:=q;simp only[vw]at *;have zu:=ah hlk;have HMO:=ah adv;have kW:=λX=>PW o0 o1 0 0 mx my X;rw[<-CO]at kW;clear ho hz hp hlk adv;go_enter Tryz.func126,Tryz.ntmps126
 go_upto_region 1 with(fail)
 generalize hW:ja4 _ _=W0;have A0:At W0 w (.cells #[t,.map (some m),.map (some mo),q0,q1,q2,q3,.map (some ms)] 119):=hW▸At.new _ _;have hB:Below w w W0:=hW▸aB aD _;clear hW;have hlk:=λX (h:Below W0 W0 X)=>zu.out X (hB.trans (h.mono hB.size));have kM:=λX (h:Below W0 W0 X)=>HMO.out X (hB.trans (h.mono hB.size));clear zu HMO;have HC:∀X,Below W0 W0 X->(X.cell? ⟨w,0,none⟩=some (.pointer t)/\X.cell? ⟨w,1,none⟩=some (.map (some m))/\X.cell? ⟨w,2,none⟩=some (.map (some mo))/\Below W0 W0 X):=λX h=>⟨(A0.keep h).cell 0,(A0.keep h).cell 1,(A0.keep h).cell 2,h⟩;have hSd:=HC _ (Below.drew aD);refine iC (S:=(λX=>X.cell? ⟨w,0,none⟩=some (.pointer t)/\X.cell? ⟨w,1,none⟩=some (.map (some m))/\X.cell? ⟨w,2,none⟩=some (.map (some mo))/\Below W0 W0 X)) 11 ?_ ?_
 . exact hSd
 intro hS0;have hx:Below W0 W0 W0.drew:=Below.drew aD;clear hSd;refine aO 0 ?_;refine aO 1 ?_;refine aO 2 ?_;refine jh 3 rfl (aZ aR rfl rfl rfl (λX h=>hlk X h.2.2.2)) ?_;refine aO 4 ?_;refine aO 5 ?_;refine aO 6 ?_;refine aO 7 ?_;refine aO 8 ?_;refine tk1 9 ?_;refine aj.Step.call eD (kM _ hx) ?_;rintro e y9 ⟨rfl,hb⟩;replace hx:=Below.ay hx aC hb;clear hb;refine⟨_,rfl,λ_=>HC _ hx,?_⟩
 (try simp only[bM,bN,bO,tks])
 refine tk1 10 ?_;refine aj.Step.call eD (kW _) ?_;rintro e y10 ⟨rfl,rfl⟩;refine⟨_,rfl,λ_=>HC _ hx,?_⟩
 (try simp only[bM,bN,bO,tks])
 refine tk1 11 ?_;refine aj.Step.value eD ?_;refine⟨λhlt=>absurd hlt aG,?_⟩
 (try simp only[bM,bN,bO,tks])
 refine gZ ?_;go_wp2
 go_ret
 exact⟨rfl,hB.trans (hx.mono hB.size)⟩
end
def SM(W:World)(m:Nat)(S:Int->Option (Pr×Pr)):Prop:=∃n g,GM 3 W m n g/\∀z,g (.int .i64 z)=(S z).map λp => .agg (Ao p.1 p.2)
section
variable {W W':World} {m:Nat} {S:Int->Option (Pr×Pr)}
theorem SM.lt(h:SM W m S):m<W.heap.size:=by obtain⟨n,g,h,_⟩:=h;exact h.lt
theorem SM.out(h:SM W m S)(hm:¬ M m)(q:Out M W W'):SM W' m S:=by obtain⟨n,g,h,r⟩:=h;exact⟨n,g,h.out hm q,r⟩
theorem SM.keep(h:SM W m S)(hb:Below W W W'):SM W' m S:=by obtain⟨n,g,h,r⟩:=h;exact⟨n,g,h.keep hb,r⟩
theorem SM.look(h:SM W m S)(hz:Wf z){a b:Pr}(hs:(S z).getD (p0,p0)=(a,b)):(Instr.lookup 34 (.map (some m)) (.int .i64 z) false).run ja0 W=.ok (.agg #[a.x,a.y,a.w,a.h,b.x,b.y,b.w,b.h]) W:=by
 obtain⟨n,g,h,r⟩:=h;have k:=h.look iT Tryz.underlying34 (z:=.agg #[(),(),(),(),(),(),(),()]) aV (iA hz);rw[r]at k;rw[k];cases e:S z with
 | none=>rw[e]at hs;cases hs;rfl
 | some p=>rw[e]at hs;cases hs;rfl
end
theorem Bu(a0 a1 a2 a3 b0 b1 b2 b3:Int)(W:World):(Instr.field 42 (.agg #[a0,a1,a2,a3,b0,b1,b2,b3]) 0).run ja0 W=.ok (.agg #[a0,a1,a2,a3]) W:=by kernel_rfl
section
variable {w:World} {t n:Nat} {L:Lay} {T:Tr.T} {m:Nat} {S:Int->Option (Pr×Pr)}
def Z'(T:Tr.T)(S:Int->Option (Pr×Pr))(q:Pr)(u:Int):Pr:=if u = -1 then q else (((S u).getD (p0,p0)).1).prt (bQ T u)
theorem Ke(h:dQ w t L T n)(mo ms:Nat)(hsm:SM w ms S)(z u:Int)(hu:Wf u)(q:Pr)(ah4:∀X,Below w w X->Calls ja0 35 #[t,z] X λe w'=>e=.returned u/\Below X.heap.size X w'):Calls ja0 128 #[.agg (vw t m mo q ms),z] w λe w'=>e=.returned (Z' T S q u).ag/\Below w w w':=by
 obtain⟨⟨a,b⟩,hab⟩:=aA ((S u).getD (p0,p0));have hlk:=λX (hb:Below w w X)=>(hsm.keep hb).look hu hab;have kS:=λX (hb:Below w w X)=>dH (h.after hb) hu;obtain⟨s,hs⟩:=aA ((T u).elim Re.zero (·.sty));simp only[hs]at kS;have hpt:Z' T S q u=if u = -1 then q else a.prt s:=by unfold Z';rw[hab,show bQ T u=s from hs]
 rw[hpt];obtain⟨ans,eO⟩:=aA ((if u = -1 then q else a.prt s));rw[eO];have HA:=ah eO;have zu:=ah hlk;have Uo:=ah kS;have HSC:=ah ah4;obtain⟨q0,q1,q2,q3⟩:=q;simp only[vw]at *;clear h hsm hab hlk kS hs hpt ah4 hu eO;go_enter Tryz.func128,Tryz.ntmps128
 go_upto_region 1 with(fail)
 generalize hW:ja4 _ _=W0;have A0:At W0 w (.cells #[t,.map (some m),.map (some mo),q0,q1,q2,q3,.map (some ms)] 119):=hW▸At.alloc (At.new _ _) _;have A1:At W0 (w.heap.size+1) (.cells #[(),(),(),()] 40):=hW▸At.new' _ aW;have hB:Below w w W0:=hW▸aB (aB aD _) _;clear hW;obtain⟨l0,c0,c1,c2,c3,c4,c5,c6,c7⟩:=A0.eight;have kC:=HSC.out W0 hB
 go_upto_region 2 with(go_at_call 35;(with_reducible refine kC.mono ?_);rintro e w2 ⟨rfl,hb2⟩)
 have A2:=A0.keep hb2;have A3:=A1.keep hb2;have hB2:=hB.trans (hb2.mono hB.size);clear A0 A1 hB kC hb2 l0 c0 c1 c2 c3 c4 c5 c6 c7 HSC;by_cases hu1:u = -1
 . have ajI:(u == -1)=true:=by simp[hu1]
   have e:=HA.out;rw[if_pos hu1]at e;subst e;obtain⟨l0,c0,c1,c2,c3,c4,c5,c6,c7⟩:=A2.eight;obtain⟨l1,d0,d1,d2,d3⟩:=At.four A3;have z0:=A3.thaw 0;have z1:=A3.thaw 1;have z2:=A3.thaw 2;have z3:=A3.thaw 3;go_wp2;generalize hW:ja5 _ _ _=W2;have A9:At W2 (w.heap.size+1) (.cells #[q0,q1,q2,q3] 40):=hW▸At.set (At.set (At.set (At.set A3 0 _) 1 _) 2 _) 3 _;have GI:Below w w W2:=by
    rw[<-hW];exact Below.setCell (Below.setCell (Below.setCell (Below.setCell hB2 lG _) lG _) lG _) lG _
   clear hW l1 d0 d1 d2 d3 z0 z1 z2 z3;exact Z1u
 . have ajI:(u == -1)=false:=by simp[hu1]
   have hv:=HA.out;rw[if_neg hu1]at hv;have kP:=λX=>tO a s X;simp only[hv,Pr.ag]at kP;have hfs:=Bu a.x a.y a.w a.h b.x b.y b.w b.h;clear hv HA
   go_upto_region 4 with(fail)
   have hlk:=λX (h:Below w2 w2 X)=>zu.out X (hB2.trans (h.mono hB2.size));have kS:=λX (h:Below w2 w2 X)=>Uo.out X (hB2.trans (h.mono hB2.size));clear zu Uo;have HC:∀X,Below w2 w2 X->(X.cell? ⟨w,0,none⟩=some (.pointer t)/\X.cell? ⟨w,7,none⟩=some (.map (some ms))/\Below w2 w2 X):=λX h=>⟨(A2.keep h).cell 0,(A2.keep h).cell 7,h⟩;have hSd:=HC _ (Below.drew aD);refine iC (S:=(λX=>X.cell? ⟨w,0,none⟩=some (.pointer t)/\X.cell? ⟨w,7,none⟩=some (.map (some ms))/\Below w2 w2 X)) 10 ?_ ?_
   . exact hSd
   intro hS0;have hx:Below w2 w2 w2.drew:=Below.drew aD;clear hSd;refine aO 0 ?_;refine aO 1 ?_;refine aO 2 ?_;refine jh 3 rfl (aZ aR rfl rfl rfl (λX h=>hlk X h.2.2)) ?_;refine aO 4 ?_;refine aO 5 ?_;refine aO 6 ?_;refine aO 7 ?_;refine tk1 8 ?_;refine aj.Step.call eD (kS _ hx) ?_;rintro e y9 ⟨rfl,hb⟩;replace hx:=Below.ay hx aC hb;clear hb;refine⟨_,rfl,λ_=>HC _ hx,?_⟩
   (try simp only[bM,bN,bO,tks])
   refine tk1 9 ?_;refine aj.Step.call eD (kP _) ?_;rintro e y10 ⟨rfl,hb⟩;replace hx:=Below.ay hx aC hb;clear hb;refine⟨_,rfl,λ_=>HC _ hx,?_⟩
   (try simp only[bM,bN,bO,tks])
   refine tk1 10 ?_;have A4:=A3.keep hx;refine aj.Step.skip (aY (q:=0) sD (.tmp 4) (.tmp 23) rfl rfl rfl A4 rfl aW (sF _ _ _ _)) ?_;rw[dZ (cs:=#[(),(),(),()]) (vs:=#[ans.x,ans.y,ans.w,ans.h]) rfl];have A9:=At.setRow A4 #[ans.x,ans.y,ans.w,ans.h];have GI:=aM (hB2.trans (hx.mono hB2.size)) (Nat.le_succ w.heap.size) #[ans.x,ans.y,ans.w,ans.h];refine⟨λhlt=>absurd hlt aG,?_⟩
   (try simp only[bM,bN,bO,tks])
   refine gZ ?_;go_wp2;exact Z1u
end
end
open Go.Deep Fl
def ng(x y:Int):Value:=.complex .f64 (Op.negFloat .f64 (fb x)) (Op.negFloat .f64 (fb y))
theorem QI(x y:Int)(W:World):(Op.unary UnOp.neg (pt x y)).run ja0 W=.ok (ng x y) W:=rfl
theorem ajJ(x y:Int)(w:World):Calls ja0 25 #[ng x y] w λe w'=>e=.returned (.int .i64 (Fx.cut (-x)))/\w=w':=by
 have k:=ac8 w (CK (qD x)) (CK (qD y)) (by have:=Fx.dU x;omega) (by have:=Fx.fU x;omega) (by have:=Fx.dU y;omega) (by have:=Fx.fU y;omega);rw[<-Fx.yx]at k;exact k
theorem ajK(x y:Int)(w:World):Calls ja0 26 #[ng x y] w λe w'=>e=.returned (.int .i64 (Fx.cut (-y)))/\w=w':=by
 have k:=ac9 w (CK (qD x)) (CK (qD y)) (by have:=Fx.dU x;omega) (by have:=Fx.fU x;omega) (by have:=Fx.dU y;omega) (by have:=Fx.fU y;omega);rw[<-Fx.yx]at k;exact k
theorem acI(a b c d:Int)(w:World):Calls ja0 60 #[pt a b,ng c d] w λe w'=>e=.returned (pt (Fx.add a (-c)) (Fx.add b (-d)))/\w=w':=by
 rw[<-yM a (-c),<-yM b (-d)];have kx:=ajJ c d;have ky:=ajK c d;go_enter Tryz.func60,Tryz.ntmps60
 go_wp2_with (first|(go_at_call 25;first|(with_reducible refine(kx _).mono ?_);rintro e w' ⟨rfl,rfl⟩|(with_reducible refine(Rf a b _).mono ?_);rintro e w' ⟨rfl,rfl⟩)|(go_at_call 26;first|(with_reducible refine(ky _).mono ?_);rintro e w' ⟨rfl,rfl⟩|(with_reducible refine(Rh a b _).mono ?_);rintro e w' ⟨rfl,rfl⟩)|first|(go_at_call 67;with_reducible refine mI (iR _ _ _) ?_)|(go_at_call 12;with_reducible refine mI (nO _ _ _) ?_))
 exact Zv
theorem VD(x y a b p q:Int)(w:World):Calls ja0 18 #[.agg #[x,y,a,b],ng p q] w λe w'=>e=.returned (.agg #[.int .i64 (Fx.cut (Fx.add x (-p))),.int .i64 (Fx.cut (Fx.add y (-q))),a,b])/\Below w w w':=by
 go_enter Tryz.func18,Tryz.ntmps18
 go_wp2_with (first|(go_at_call 60;(with_reducible refine(acI _ _ _ _ _).mono ?_);rintro e w' ⟨rfl,rfl⟩)|first|(go_at_call 12;with_reducible refine mI (nO _ _ _) ?_))
 exact Z11
end Go.Proofs.YtdnggaapcgomhaaGreat.Fix
