/- Proved here: what functions of the program do, in plain numbers (part 35); no conditions but those in sight. -/
import Derived.Lib.MinMax
import Derived.Test.YtcbcfdihofclkaaGreatQK
import Derived.Test.YtcbcfdihofclkaaGreatQ18
import Derived.Test.YtcbcfdihofclkaaGreatQ20
import Derived.Test.YtcbcfdihofclkaaGreatQ25
import Derived.Test.YtcbcfdihofclkaaGreatQ34
set_option linter.unusedVariables false
set_option linter.unusedSimpArgs false
set_option linter.unusedSectionVars false
set_option maxRecDepth 100000
namespace Go.Proofs.YtcbcfdihofclkaaGreat.Fix
open Go.ChangeShapes Go.WideShapes Go.ChangeAt Go.RowKit
def bS(T:Tr.T)(z:Int):List Int:=(T z).elim [] (·.kids)
def RY(T:Tr.T)(z:Int):Int:=(T z).elim (-1) (·.up)
def vM(T:Tr.T)(z:Int):Bool:=(T (RY T z)).isSome&&(((eB T (RY T z)).c 0==0) && !oM (eB T z))
def jy(T:Tr.T):Nat->Int->List Int
 | 0,_=>[]
 | f+1,z=>z::((ny T (bS T z)).flatMap (jy T f)++(oZ T (bS T z)).flatMap (jy T f))
structure SV where
 bl:Nat
 vf:Value
 va:Value
structure Rd(W:World)(T:Tr.T)(bm n:Nat)(E:Int->Option SV):Prop where
 gm:∃g,GM 3 W bm n g/\∀z,Wf z->g (.int .i64 z)=(E z).map λe => .pointer (some ⟨e.bl,0,none⟩)
 box:∀z e,E z=some e->Wf z/\aF W e.bl (eB T z) e.vf e.va (vM T z)/\KS W e.vf (ny T (bS T z))/\KS W e.va (oZ T (bS T z))
theorem KS.I5{W:World}{v:Value}{l:List Int}{b:Nat}{es:Array MapEntry}{ck:Nat}(h:KS W v l)(hm:At W b (.map es ck)):v.ownBlock≠some b:=λe=>by
 rcases h.cases with⟨rfl,_⟩|⟨g,c,rfl,cur,h1,_⟩
 . cases e
 . simp[Value.ownBlock]at e
   rw[e]at h1;have:=At.uniq h1 hm;cases this
theorem Rd.after{W W':World}{T:Tr.T}{bm n:Nat}{E:Int->Option SV}(h:Rd W T bm n E)(hb:Below W.heap.size W W'):Rd W' T bm n E:=by
 obtain⟨g,h1,h2⟩:=h.gm;exact⟨⟨g,h1.keep hb,h2⟩,λz e he=>⟨(h.box z e he).1,(h.box z e he).2.1.keep hb,(h.box z e he).2.2.1.after hb,(h.box z e he).2.2.2.after hb⟩⟩
def Ee(E:Int->Option SV)(z:Int)(e:SV):Int->Option SV:=λy=>if y=z then some e else E y
theorem RZ(E:Int->Option SV)(z:Int)(e:SV)(y:Int)(h:(E y).isSome=true):(Ee E z e y).isSome=true:=by unfold Ee;split<;>first|rfl|exact h
theorem Rd.put{W:World}{T:Tr.T}{bm n:Nat}{E:Int->Option SV}(h:Rd W T bm n E)(hn:n<maxLen){z:Int}(hz:Wf z){e:SV}(hb:aF W e.bl (eB T z) e.vf e.va (vM T z))(hf:KS W e.vf (ny T (bS T z)))(ha:KS W e.va (oZ T (bS T z))) :
  ∃W' n',n'<=n+1/\(Instr.mapUpdate 116 (.map (some bm)) (.int .i64 z) (.pointer (some ⟨e.bl,0,none⟩))).run Tryz.prog W=.ok () W'/\Rd W' T bm n' (Ee E z e)/\Out (λb=>b=bm) W W':=by
 obtain⟨g,h1,h2⟩:=h.gm;obtain⟨es,ck,hm⟩:=h1.obj;obtain⟨W',n',hle,hr,hg,ho⟩:=h1.put (v:=.pointer (some ⟨e.bl,0,none⟩)) jr Tryz.underlying116 hn (j4 hz)
 have nb:∀{b:Nat} {cs:Array Value} {t:TypeId},At W b (.cells cs t)->b≠bm:=λ{b cs t} q e=>by
  subst e;have:=At.uniq q hm;cases this
 have kp:∀{b:Nat} {s:Re.St} {vf va:Value} {ib:Bool} {l1 l2:List Int},aF W b s vf va ib->KS W vf l1->KS W va l2->aF W' b s vf va ib/\KS W' vf l1/\KS W' va l2:=λ{b s vf va ib l1 l2} q1 q2 q3 =>
  ⟨At.out q1 (nb q1) ho,q2.out (λg hg (e:g=bm)=>q2.I5 hm (e▸hg)) ho,q3.out (λg hg (e:g=bm)=>q3.I5 hm (e▸hg)) ho⟩
 refine⟨W',n',hle,hr,⟨⟨_,hg,λy hy => ?_⟩,λy e' he' => ?_⟩,ho⟩
 . by_cases q:y=z
   . subst q;rw[jm];unfold Ee;rw[if_pos rfl];rfl
   . rw[jK (Dl q),h2 y hy];unfold Ee;rw[if_neg q]
 . unfold Ee at he'
   split at he'
   . rename_i q
     injection he' with he';subst q he';exact⟨hz,kp hb hf ha⟩
   . obtain⟨q1,q2,q3,q4⟩:=h.box y e' he'
     exact⟨q1,kp q2 q3 q4⟩
theorem Gt{α:Type}(f:Int->List α){l:List Int}{k:Nat}(h:k<l.length):(l.take (k+1)).flatMap f=(l.take k).flatMap f++f l[k]:=by
 rw[List.take_succ_eq_append_getElem h,List.flatMap_append];simp
theorem yO{α:Type}(f:Int->List α)(l:List Int)(k:Nat):((l.take k).flatMap f).length<=(l.flatMap f).length:=by
 conv=>rhs;rw[<-List.take_append_drop k l,List.flatMap_append]
 simp
section
variable {t N:Nat} {L:Lay} {T:Tr.T} {lb bm km pm rm:Nat} {ww wh:Int}
set_option maxHeartbeats 8000000 in
theorem R4(hup:∀z nd,T z=some nd->∀k∈nd.kids,∃kd,T k=some kd/\kd.up=z)(hbm:∀b,owned t L T b->b≠bm):∀(f:Nat) (z:Int) (w:World) (n:Nat) (E:Int->Option SV),Tr.Fit T f z->fQ w t L T N ->
  At w lb (.cells #[.int .i64 ww,.int .i64 wh,.map (some bm),.map (some km),.map (some pm),.map (some rm)] 120)->Rd w T bm n E->n+(jy T f z).length<maxLen ->
  Calls Tryz.prog 60 #[.pointer (some ⟨lb,0,none⟩),.pointer (some ⟨t,0,none⟩),.int .i64 z,.bool (vM T z)] w λe w'=>e=.returned (.tuple #[]) /\
   (∃n' E',Rd w' T bm n' E'/\n'<=n+(jy T f z).length/\(∀y,(E y).isSome=true->(E' y).isSome=true)/\∀y∈jy T f z,(E' y).isSome=true)/\Out (λb=>b=bm) w w':=by
 intro f
 induction f with
 | zero=>intro z w n E h;exact h.elim
 | succ f ih =>
   intro z w n E hfit hR hA Uy hn;obtain⟨nd,hT,Mj⟩:=hfit;have hsm:=(hR.small z nd hT).2.2.2.2;have hzw:=hR.wf hT;have wH:=qc hR hzw;have hst:(T z).elim Re.zero (·.sty)=eB T z:=rfl;rw[hst]at wH;have hkz:bS T z=nd.kids:=by unfold bS;rw[hT];rfl
   have hkx:∀x∈nd.kids,∃xd,T x=some xd:=λx hx=>by obtain⟨kd,h1,_⟩:=hup z nd hT x hx;exact⟨kd,h1⟩
   have Np:∀x∈ny T nd.kids,vM T x=((eB T z).c 0==0):=λx hx=>by
    obtain⟨hx1,hx2⟩:=List.mem_filter.1 hx;obtain⟨kd,h1,h2⟩:=hup z nd hT x hx1;have e:RY T x=z:=by unfold RY;rw[h1];exact h2
    simp only[Bool.and_eq_true]at hx2;unfold vM;rw[e,hT,hx2.2];simp
   have QW:∀x∈oZ T nd.kids,vM T x=false:=λx hx=>by
    obtain⟨hx1,hx2⟩:=List.mem_filter.1 hx;simp only[Bool.and_eq_true]at hx2;unfold vM;rw[hx2.2];simp
   obtain⟨yP,Wu⟩:∃l,ny T nd.kids=l:=⟨_,rfl⟩;obtain⟨BF,Wv⟩:∃l,oZ T nd.kids=l:=⟨_,rfl⟩;have abg:∀x∈yP,x∈nd.kids:=λx hx=>by rw[<-Wu]at hx;exact(List.mem_filter.1 hx).1
   have hsub2:∀x∈BF,x∈nd.kids:=λx hx=>by rw[<-Wv]at hx;exact(List.mem_filter.1 hx).1
   have afs:jy T (f+1) z=z::(yP.flatMap (jy T f)++BF.flatMap (jy T f)):=by simp only[jy,hkz,Wu,Wv]
   rw[afs]at hn ⊢;rw[Wu]at Np;rw[Wv]at QW;obtain⟨ib,hib⟩:∃ib,vM T z=ib:=⟨_,rfl⟩;rw[hib];have Xp:=Lib.hid Mj;have HIB:=Lib.hid hib;have ag4:=Lib.hid Np;have ag5:=Lib.hid QW;have HS1:=Lib.hid abg;have HS2:=Lib.hid hsub2;have HK1:=Lib.hid Wu;have YK:=Lib.hid Wv;have HKZ:=Lib.hid hkz;have HKX:=Lib.hid hkx;have acU:=Lib.hid hR;have HRD:=Lib.hid Uy;have HA:=Lib.hid hA;have HN:=Lib.hid hn;have HT:=Lib.hid hT;have lbl:=hA.lt;clear afs Mj hib Np QW abg hsub2 Wu Wv hkz hkx hR Uy hA hn hst;go_enter Tryz.func60,Tryz.ntmps60
   go_upto_region 1 with(first|(go_at_call 21;(with_reducible refine wH.mono ?_);rintro e w1 ⟨rfl,hb1⟩)|(go_at_call 118;(with_reducible refine(KI _ _).mono ?_);rintro e w2 ⟨⟨b,rfl,hbl,hbx⟩,hb2⟩))
   have hB2:Below w.heap.size w w2:=Below.ay hb1 (ah _) hb2;have hbw:w.heap.size<=b:=aC hb1.size hbl;have l73:=hbx.lt;have c73:w2.cell? ⟨b,73,none⟩=some (.bool false):=hbx.ext 18;have z73:=At.thaw hbx 73;clear hb1 hb2 wH
   go_upto_region 2 with(fail)
   generalize hW:World.setCell _ _ _=w3;have Ir:aF w3 b (eB T z) (.slice none 0 0) (.slice none 0 0) ib:=by
    unfold aF;rw[<-Nb (eB T z) (.slice none 0 0) (.slice none 0 0) false ib,<-hW];exact At.set hbx 73 _
   have hB3:Below w.heap.size w w3:=hW▸Below.setCell hB2 hbw _;clear hW hbx c73 z73 l73 hB2;have LK:=Gs (acU.out.after hB3) HT.out nd.kids rfl HKX.out ak;rw[HK1.out,YK.out]at LK;have hl3:=Ir.lt
   go_upto_region 3 with(go_at_call 110;(with_reducible refine LK.mono ?_);rintro e w4 ⟨⟨v,u,rfl,ho1,ho2,hap⟩,hb4⟩;have Oz:=Ir.keep hb4;have l71:=Oz.lt;have qp:w4.cell? ⟨b,71,none⟩=some (.slice none 0 0):=Oz.ext 16;have c72:w4.cell? ⟨b,72,none⟩=some (.slice none 0 0):=Oz.ext 17;have z71:=At.thaw Oz 71;have z72:=At.thaw Oz 72;obtain⟨A1,d1,rfl,hI1,hd1,he1,hA1⟩:=KS.ints (fE ho1 (bJ _));obtain⟨A2,d2,rfl,hI2,hd2,he2,hA2⟩:=KS.ints (fE ho2 (bJ _)))
   have hk1:KS w4 (.slice A1 yP.length d1) yP:=fE ho1 (bJ _);have hk2:KS w4 (.slice A2 BF.length d2) BF:=fE ho2 (bJ _);have hg1:∀g,(Value.slice A1 yP.length d1).ownBlock=some g->w3.heap.size<=g:=λg hg=>(World.ownsRow.lt ho1 g hg).1;have hg2:∀g,(Value.slice A2 BF.length d2).ownBlock=some g->w3.heap.size<=g:=λg hg=>(World.ownsRow.lt ho2 g hg).1;have hB4:Below w.heap.size w w4:=Below.ay hB3 (ah _) hb4;generalize hW:World.setCell _ _ _=w5;have aap:Out (λq=>q=b) w4 w5:=hW▸((Out.refl (λq=>q=b) w4).set rfl 71 _).set rfl 72 _;have aft:aF w5 b (eB T z) (.slice A1 yP.length d1) (.slice A2 BF.length d2) ib:=by
    unfold aF;rw[<-Na (eB T z) (.slice A1 yP.length d1) (.slice none 0 0) (.slice A2 BF.length d2) ib,<-M9 (eB T z) (.slice none 0 0) (.slice A1 yP.length d1) (.slice none 0 0) ib,<-hW];exact At.set (At.set Oz 71 _) 72 _
   have afu:=hk1.out (M:=λq=>q=b) (λg hg (e:g=b)=>by have:=hg1 g hg;omega) aap;have afv:=hk2.out (M:=λq=>q=b) (λg hg (e:g=b)=>by have:=hg2 g hg;omega) aap;have ru:Below w.heap.size w w5:=hB4.trans (aap.below (by have:=hB4.size;omega) λq hq (e:q=b)=>by omega);clear hW Oz l71 qp c72 z71 z72 ho1 ho2 hb4 LK hk1 hk2 hg1 hg2 aap hI1 hI2 hap Ir hl3 hB3 hB4;have hpos:n<maxLen:=by have:=HN.out;omega
   obtain⟨w6,n1,hn1,hmu,aaq,mG⟩:=(HRD.out.after ru).put (e:=⟨b,.slice A1 yP.length d1,.slice A2 BF.length d2⟩) hpos hzw (by rw[HIB.out];exact aft) (by rw[HKZ.out,HK1.out];exact afu) (by rw[HKZ.out,YK.out];exact afv);have xw:=HA.out.keep ru;have cl:=xw.cell 2;simp only[List.getElem?_toArray,List.getElem?_cons_zero,List.getElem?_cons_succ]at cl;have ll:=xw.lt
   go_upto_region 4 with(fail)
   obtain⟨es,ck,hmap⟩:=(HRD.out.gm).elim λg hg=>hg.1.obj;have ahW:=hmap.lt
   have afw:lb≠bm:=λe=>by
    subst e;have:=At.uniq HA.out hmap;cases this
   have ahX:=ru.size;obtain⟨_,zL,acV,acW⟩:=aaq.box z ⟨b,.slice A1 yP.length d1,.slice A2 BF.length d2⟩ (by unfold Ee;rw[if_pos rfl]);rw[HIB.out]at zL;rw[HKZ.out,HK1.out]at acV;rw[HKZ.out,YK.out]at acW;have hbb:b≠bm:=by omega
   have hO:Out (λq=>q=bm) w w6:=Out.trans' (Out.of_below ru) mG λq hq e=>e
   have hE0:Hid ((∀y,(E y).isSome=true->(Ee E z ⟨b,.slice A1 yP.length d1,.slice A2 BF.length d2⟩ y).isSome=true)/\∀y∈z::(yP.take 0).flatMap (jy T f),(Ee E z ⟨b,.slice A1 yP.length d1,.slice A2 BF.length d2⟩ y).isSome=true):=Lib.hid ⟨λy hy=>RZ E z _ y hy,λy hy=>by
    simp only[List.take_zero,List.flatMap_nil,List.mem_cons,List.not_mem_nil,or_false]at hy;subst hy;unfold Ee
    rw[if_pos rfl];rfl⟩
   have P9:∃es ck,At w6 bm (.map es ck):=aaq.gm.elim λg hg=>hg.1.obj;obtain⟨es6,ck6,P9⟩:=P9;have HMP:=Lib.hid P9;clear P9;have qw:=Lib.hid zL;have afx:=Lib.hid acV;have afy:=Lib.hid acW;have HO:=Lib.hid hO;have qp:w6.cell? ⟨b,71,none⟩=some (.slice A1 yP.length d1):=zL.ext 16;have l71:=zL.lt;generalize hE:Ee E z ⟨b,.slice A1 yP.length d1,.slice A2 BF.length d2⟩=E1 at *;clear hmu cl ll ru aft afu afv xw hmap zL acV acW hO mG hE;obtain⟨m1,hm1⟩:∃m,yP.length=m:=⟨_,rfl⟩;obtain⟨m2,hm2⟩:∃m,BF.length=m:=⟨_,rfl⟩;have HM1:=Lib.hid hm1;have SX:=Lib.hid hm2;rw[hm1]at qp;simp only[hm1,hm2];clear hm1 hm2;have ahY:m1<=d1:=by rw[<-HM1.out];exact hd1
   have ahZ:m1<=5000:=by
    have h1:(ny T nd.kids).length<=nd.kids.length:=List.length_filter_le _ _;rw[HK1.out,HM1.out]at h1;omega
   have ah0:m2<=5000:=by
    have h1:(oZ T nd.kids).length<=nd.kids.length:=List.length_filter_le _ _;rw[YK.out,SX.out]at h1;omega
   go_upto_region 5 with(fail)
   go_loopw [44] (λvi wr=>∃(k n':Nat) (E':Int->Option SV),k<=m1/\vi=.int .i64 k/\Rd wr T bm n' E'/\n'<=n+1+((yP.take k).flatMap (jy T f)).length/\Hid ((∀y,(E y).isSome=true->(E' y).isSome=true)/\∀y∈z::(yP.take k).flatMap (jy T f),(E' y).isSome=true)/\Out (λq=>q=bm) w6 wr) (λvi _=>m1-(intOf vi).toNat)
   case atStart=>exact⟨0,n1,E1,bJ _,rfl,aaq,by simp;omega,hE0,Out.refl _ _⟩
   case round =>
    clear aaq hE0 qp l71;obtain⟨k,n',E',hk,rfl,hRr,hnr,hEr,hOr⟩:=hrel;by_cases hlt:k<m1
    . have hltz:(k:Int)<(m1:Int):=by omega
      have hkk:k<yP.length:=by rw[HM1.out];exact hlt
      have I6:=qw.out.out (M:=λq=>q=bm) hbb hOr;have Rk:=(afx.out.out (M:=λq=>q=bm) (λg hg (e:g=bm)=>afx.out.I5 HMP.out (e▸hg)) hOr).vX.1;obtain⟨b1,o1,rfl,Ce,hc1⟩:=Rk.at_ (k:=k) (by exact hkk);obtain⟨x,hx⟩:∃x,yP.getD k 0=x:=⟨_,rfl⟩;have hx2:yP[k]=x:=by rw[<-hx,List.getD,List.getElem?_eq_getElem hkk];rfl
      rw[hx]at hc1;have hxm:x∈yP:=hx2▸List.getElem_mem _;have hfl:=Gt (jy T f) hkk;rw[hx2]at hfl;have hle:=yO (jy T f) yP (k+1);have LJ:((yP.take (k+1)).flatMap (jy T f)).length=((yP.take k).flatMap (jy T f)).length+(jy T f x).length:=by rw[hfl,List.length_append]
      have hnn:=HN.out;rw[List.length_cons,List.length_append]at hnn;have hBr:Out (λq=>q=bm) w wr:=HO.out.trans hOr;have key:=ih x wr n' E' (Xp.out x (HS1.out x hxm)) (acU.out.out (M:=λq=>q=bm) (λq hq e=>hbm q hq e) hBr) (HA.out.out (M:=λq=>q=bm) afw hBr) hRr ak;rw[ag4.out x hxm]at key;have cdd:wr.cell? ⟨b,0,none⟩=some (.int .i64 ((eB T z).c 0)):=aF.int I6 0 aG rfl;have lbr:=I6.lt;have FK:=Lib.hid hfl;have RV:=Lib.hid LJ;have HEr:=Lib.hid hEr;generalize (eB T z).c 0=cz at *;clear hx2 hfl hle LJ hnn hxm Rk hRr hEr hBr
      go_wp2_with (go_at_call 60;(with_reducible refine key.mono ?_);rintro e w7 ⟨rfl,⟨n2,E2,acX,hn2,hm7,hs7⟩,Ez⟩)
      go_roundw
      case rel=>exact⟨k+1,n2,E2,by omega,by go_num,acX,by rw[RV.out];omega,Lib.hid ⟨λy hy=>hm7 y (HEr.out.out.1 y hy),λy hy=>by
       rw[FK.out]at hy;rcases List.mem_cons.1 hy with e|hy
       . exact hm7 y (HEr.out.out.2 y (List.mem_cons.2 (.inl e)))
       . rcases List.mem_append.1 hy with hy|hy
         . exact hm7 y (HEr.out.out.2 y (List.mem_cons.2 (.inr hy)))
         . exact hs7 y hy⟩,hOr.trans Ez⟩
      case measure=>simp[intOf];omega
    . obtain rfl:k=m1:=by omega
      have hfull:(yP.take k).flatMap (jy T f)=yP.flatMap (jy T f):=by rw[List.take_of_length_le (by rw[HM1.out];exact ah _)]
      rw[hfull]at hnr hEr;have I6:=qw.out.out (M:=λq=>q=bm) hbb hOr;have c72:wr.cell? ⟨b,72,none⟩=some (.slice A2 BF.length d2):=aF.ext I6 17;rw[SX.out]at c72;have l72:=I6.lt;have ah1:m2<=d2:=by rw[<-SX.out];exact hd2
      clear hfull I6
      go_upto_region 10 with(fail)
      go_loopw [64] (λvi wr=>∃(k n':Nat) (E':Int->Option SV),k<=m2/\vi=.int .i64 k/\Rd wr T bm n' E'/\n'<=n+1+(yP.flatMap (jy T f)).length+((BF.take k).flatMap (jy T f)).length/\Hid ((∀y,(E y).isSome=true->(E' y).isSome=true)/\∀y∈z::(yP.flatMap (jy T f)++(BF.take k).flatMap (jy T f)),(E' y).isSome=true)/\Out (λq=>q=bm) w6 wr) (λvi _=>m2-(intOf vi).toNat)
      case atStart=>exact⟨0,n',E',bJ _,rfl,hRr,by simpa using hnr,by simpa using hEr,hOr⟩
      case round =>
       clear hRr hEr c72 l72 hOr hnr hk;obtain⟨k,n',E',hk,rfl,hRr,hnr,hEr,hOr⟩:=hrel;by_cases hlt:k<m2
       . have hltz:(k:Int)<(m2:Int):=by omega
         have hkk:k<BF.length:=by rw[SX.out];exact hlt
         have I6:=qw.out.out (M:=λq=>q=bm) hbb hOr;have Rk:=(afy.out.out (M:=λq=>q=bm) (λg hg (e:g=bm)=>afy.out.I5 HMP.out (e▸hg)) hOr).vX.1;obtain⟨b1,o1,rfl,Ce,hc1⟩:=Rk.at_ (k:=k) (by exact hkk);obtain⟨x,hx⟩:∃x,BF.getD k 0=x:=⟨_,rfl⟩;have hx2:BF[k]=x:=by rw[<-hx,List.getD,List.getElem?_eq_getElem hkk];rfl
         rw[hx]at hc1;have hxm:x∈BF:=hx2▸List.getElem_mem _;have hfl:=Gt (jy T f) hkk;rw[hx2]at hfl;have hle:=yO (jy T f) BF (k+1);have LJ:((BF.take (k+1)).flatMap (jy T f)).length=((BF.take k).flatMap (jy T f)).length+(jy T f x).length:=by rw[hfl,List.length_append]
         have hnn:=HN.out;rw[List.length_cons,List.length_append]at hnn;have hBr:Out (λq=>q=bm) w wr:=HO.out.trans hOr;have key:=ih x wr n' E' (Xp.out x (HS2.out x hxm)) (acU.out.out (M:=λq=>q=bm) (λq hq e=>hbm q hq e) hBr) (HA.out.out (M:=λq=>q=bm) afw hBr) hRr ak;rw[ag5.out x hxm]at key;have cdd:wr.cell? ⟨b,0,none⟩=some (.int .i64 ((eB T z).c 0)):=aF.int I6 0 aG rfl;have lbr:=I6.lt;have FK:=Lib.hid hfl;have RV:=Lib.hid LJ;have HEr:=Lib.hid hEr;generalize (eB T z).c 0=cz at *;clear hx2 hfl hle LJ hnn hxm Rk hRr hEr hBr
         go_wp2_with (go_at_call 60;(with_reducible refine key.mono ?_);rintro e w7 ⟨rfl,⟨n2,E2,acX,hn2,hm7,hs7⟩,Ez⟩)
         go_roundw
         case rel=>exact⟨k+1,n2,E2,by omega,by go_num,acX,by rw[RV.out];omega,Lib.hid ⟨λy hy=>hm7 y (HEr.out.out.1 y hy),λy hy=>by
          rw[FK.out]at hy;rcases List.mem_cons.1 hy with e|hy
          . exact hm7 y (HEr.out.out.2 y (List.mem_cons.2 (.inl e)))
          . rcases List.mem_append.1 hy with hy|hy
            . exact hm7 y (HEr.out.out.2 y (List.mem_cons.2 (.inr (List.mem_append.2 (.inl hy)))))
            . rcases List.mem_append.1 hy with hy|hy
              . exact hm7 y (HEr.out.out.2 y (List.mem_cons.2 (.inr (List.mem_append.2 (.inr hy)))))
              . exact hs7 y hy⟩,hOr.trans Ez⟩
         case measure=>simp[intOf];omega
       . obtain rfl:k=m2:=by omega
         have hfull:(BF.take k).flatMap (jy T f)=BF.flatMap (jy T f):=by rw[List.take_of_length_le (by rw[SX.out];exact ah _)]
         rw[hfull]at hnr hEr;have hHr:=Lib.hid hRr;clear hRr hfull;go_wp2
         go_end0
         exact⟨rfl,⟨n',E',hHr.out,by rw[List.length_append];omega,hEr.out.1,hEr.out.2⟩,HO.out.trans hOr⟩
end
def iN(T:Tr.T)(z:Int):Fw.Bx:=⟨eB T z,ny T (bS T z),oZ T (bS T z),vM T z⟩
noncomputable def Fd(T:Tr.T)(z:Int):Nat:=65-wS T z
def Ww(T:Tr.T)(z:Int):Prop:=z∈jy T 64 0
theorem jX{T:Tr.T}{z k:Int}{nd:Tr.Nd}(hT:T z=some nd)(h:k∈ny T (bS T z)\/k∈oZ T (bS T z)):k∈nd.kids:=by
 have e:bS T z=nd.kids:=by unfold bS;rw[hT];rfl
 rw[e]at h;rcases h with h|h
 . exact(List.mem_filter.1 h).1
 . exact(List.mem_filter.1 h).1
theorem Ef{T:Tr.T}{f:Nat}{a:Int}(h:Tr.Fit T f a):a∈jy T f a:=by
 cases f with
 | zero=>exact h.elim
 | succ f=>simp[jy]
theorem sD{T:Tr.T}{f:Nat}{a z:Int}(hz:z∈jy T (f+1) a):z=a\/∃c,(c∈ny T (bS T a)\/c∈oZ T (bS T a))/\z∈jy T f c:=by
 simp only[jy,List.mem_cons,List.mem_append,List.mem_flatMap]at hz;rcases hz with h|⟨c,h1,h2⟩|⟨c,h1,h2⟩
 . exact .inl h
 . exact .inr ⟨c,.inl h1,h2⟩
 . exact .inr ⟨c,.inr h1,h2⟩
theorem Qa{T:Tr.T}{f:Nat}{a c z:Int}(hc:c∈ny T (bS T a)\/c∈oZ T (bS T a))(hz:z∈jy T f c):z∈jy T (f+1) a:=by
 simp only[jy,List.mem_cons,List.mem_append,List.mem_flatMap];rcases hc with h|h
 . exact .inr (.inl ⟨c,h,hz⟩)
 . exact .inr (.inr ⟨c,h,hz⟩)
theorem nG{T:Tr.T}:∀{f:Nat} {a z:Int},Tr.Fit T f a->z∈jy T f a->∃nd,T z=some nd:=by
 intro f
 induction f with
 | zero=>intro a z h;exact h.elim
 | succ f ih =>
   intro a z h hz;obtain⟨nd,hT,hk⟩:=h;rcases sD hz with rfl|⟨c,hc,hz⟩
   . exact⟨nd,hT⟩
   . exact ih (hk c (jX hT hc)) hz
theorem Eh{T:Tr.T}:∀{f:Nat} {a z k:Int},Tr.Fit T f a->z∈jy T f a->(k∈ny T (bS T z)\/k∈oZ T (bS T z))->k∈jy T f a:=by
 intro f
 induction f with
 | zero=>intro a z k h;exact h.elim
 | succ f ih =>
   intro a z k h hz hk;obtain⟨nd,hT,Mj⟩:=h;rcases sD hz with rfl|⟨c,hc,hz⟩
   . exact Qa hk (Ef (Mj k (jX hT hk)))
   . exact Qa hc (ih (Mj c (jX hT hc)) hz hk)
theorem R5{T:Tr.T}:∀{f:Nat} {a z:Int},z∈jy T f a->z=a\/(eB T z).c 0≠3:=by
 intro f
 induction f with
 | zero=>intro a z h;simp[jy]at h
 | succ f ih =>
   intro a z hz;rcases sD hz with h|⟨c,hc,hz⟩
   . exact .inl h
   . rcases ih hz with rfl|h
     . right
       rcases hc with h|h
       . exact Z2n
       . exact Z2n
     . exact .inr h
theorem Gu{T:Tr.T}(H:Tr.WF T){z k:Int}{nd:Tr.Nd}(hT:T z=some nd)(hk:k∈nd.kids):Fd T z=Fd T k+1/\Fd T z<=64:=by
 obtain⟨d,hd1,hd⟩:=H.deep z nd hT;have hdk:=H.rM hT hk hd;have h63:=H.Yj hdk;unfold Fd;rw[sw hd,sw hdk];omega
theorem aar{T:Tr.T}(H:Tr.WF T)(hlen:∀z nd,T z=some nd->nd.kids.length<=64)(hst:∀z nd,T z=some nd->0<=nd.sty.c 0/\nd.sty.c 0<=3)(h0:(eB T 0).c 0≠3):Wk (iN T) (Fd T) (Ww T) where
 down:=λz hz k hk=>by
  obtain⟨nd,hT⟩:=nG H.qy hz;exact⟨Eh H.qy hz (.inl hk),(Gu H hT (jX hT (.inl hk))).1⟩
 len:=λz hz=>by
  obtain⟨nd,hT⟩:=nG H.qy hz;have e:bS T z=nd.kids:=by unfold bS;rw[hT];rfl
  show(ny T (bS T z)).length<=64;rw[e];exact aC (by unfold ny;exact List.length_filter_le _ _) (hlen z nd hT)
 kind:=λz hz=>by
  obtain⟨nd,hT⟩:=nG H.qy hz;have h:=hst z nd hT;have e:eB T z=nd.sty:=by unfold eB;rw[hT];rfl
  have h3:(eB T z).c 0≠3:=by
   rcases R5 hz with rfl|h
   . exact h0
   . exact h
  show(eB T z).c 0=0\/(eB T z).c 0=1\/(eB T z).c 0=2;rw[e]at h3 ⊢;omega
 deep:=λz hz=>by unfold Fd;omega
theorem Wx{T:Tr.T}(H:Tr.WF T):∀z,Ww T z->∀k∈(iN T z).ap,Ww T k/\Fd T z=Fd T k+1:=λz hz k hk=>by
 obtain⟨nd,hT⟩:=nG H.qy hz;exact⟨Eh H.qy hz (.inr hk),(Gu H hT (jX hT (.inr hk))).1⟩
theorem Wy{T:Tr.T}(H:Tr.WF T)(hlen:∀z nd,T z=some nd->nd.kids.length<=64):∀z,Ww T z->(iN T z).ap.length<=10000:=λz hz=>by
 obtain⟨nd,hT⟩:=nG H.qy hz;have e:bS T z=nd.kids:=by unfold bS;rw[hT];rfl
 show(oZ T (bS T z)).length<=10000;rw[e];have h:=hlen z nd hT;have h2:(oZ T nd.kids).length<=nd.kids.length:=by unfold oZ;exact List.length_filter_le _ _
 omega
def nH(T:Tr.T)(ww wh:Int):Fw.Ld:=Fw.lay (iN T) 64 0 ww wh (-1) (-1)
def oW(T:Tr.T)(ww wh:Int):List Fw.Ld:=if su T 1 0=true then tl (iN T) ww wh 64 (nH T ww wh)else []
noncomputable def qA(T:Tr.T)(ww wh:Int):Lit->Option Value:=iZ (λ_=>none) (oW T ww wh)
theorem Wz{w:World}{t n:Nat}{L:Lay}{T:Tr.T}(h:fQ w t L T n){b:Nat}(hb:owned t L T b):b<w.heap.size:=by
 rcases hb with rfl|rfl|⟨z,nd,hz,rfl|hg⟩
 . exact h.at_.lt
 . exact h.map.lt
 . exact(h.box z nd hz).lt
 . obtain⟨cur,ha⟩:=(h.row z nd hz).rowAt hg
   exact ha.lt
theorem Wk.of{B B':Int->Fw.Bx}{F:Int->Nat}{D:Int->Prop}(h:Wk B F D)(e:∀z,D z->B' z=B z):Wk B' F D where
 down:=λz hz k hk=>h.down z hz k (by rw[<-e z hz];exact hk)
 len:=λz hz=>by rw[e z hz];exact h.len z hz
 kind:=λz hz=>by rw[e z hz];exact h.kind z hz
 deep:=h.deep
def sF(B:Int->Fw.Bx)(ww wh:Int):Fw.Ld:=Fw.lay B 64 0 ww wh (-1) (-1)
def nT(T:Tr.T)(B:Int->Fw.Bx)(ww wh:Int):List Fw.Ld:=if su T 1 0=true then tl B ww wh 64 (sF B ww wh)else []
noncomputable def ql(T:Tr.T)(B:Int->Fw.Bx)(ww wh:Int):Lit->Option Value:=iZ (λ_=>none) (nT T B ww wh)
set_option maxHeartbeats 8000000 in
theorem Gv(B:Int->Fw.Bx){w:World}{t N:Nat}{L:Lay}{T:Tr.T}(h:fQ w t L T N)(H:Tr.WF T)(hlen:∀z nd,T z=some nd->nd.kids.length<=64)(hst:∀z nd,T z=some nd->0<=nd.sty.c 0/\nd.sty.c 0<=3)(hBT:∀z,Ww T z->B z=iN T z)(ww wh:Int)
  (hb1:Fw.cst B 64 0+jG B 64 0<maxLen) (hb2:(tl B (max ww 0) (max wh 0) 64 (sF B (max ww 0) (max wh 0))).length<maxLen) (hb3:(jy T 64 0).length<maxLen) :
  Calls Tryz.prog 17 #[.pointer (some ⟨t,0,none⟩),.int .i64 ww,.int .i64 wh] w λe w'=>(∃b nr,e=.returned (.map (some b))/\w.heap.size<=b/\GM 3 w' b nr (ql T B (max ww 0) (max wh 0))/\nr<=(nT T B (max ww 0) (max wh 0)).length)/\Below w.heap.size w w':=by
 obtain⟨rd,hrd,hru⟩:=H.root;have hdp:Tr.Dp T 0 0:=.root hrd;obtain⟨mw,hmw⟩:∃m,max ww 0=m:=⟨_,rfl⟩;obtain⟨mh,hmh⟩:∃m,max wh 0=m:=⟨_,rfl⟩;rw[hmw,hmh]at hb2 ⊢;have RL:=La mw mh w;have HH:=Lib.hid h;have HB1:=Lib.hid hb1;have HB2:=Lib.hid hb2;have HB3:=Lib.hid hb3;clear h hb1 hb2 hb3;go_enter Tryz.func17,Tryz.ntmps17
 go_upto_region 2 with(go_at_call 59;(with_reducible refine RL.mono ?_);rintro e' w1 ⟨⟨lb,bm,km,pm,rm,rfl,⟨glb,gbm,gkm,gpm,grm⟩,⟨nlb,nlk,nlp,nlr,XL,Xn,Xo,Td,XK,Jg⟩,hAl,hGb,hKM,hGp,YM⟩,hw1⟩)
 have HR1:=Lib.hid (HH.out.after hw1);obtain⟨b,hb⟩:∃b,su T 1 0=b:=⟨_,rfl⟩;have wH:=qH HR1.out (λnd hq=>by rw[hrd]at hq;injection hq with hq;rw[<-hq];exact hru) hdp;rw[show su T (0+1) 0=b from hb]at wH;cases b with
 | false =>
   have BR:=Lib.hid (show ql T B mw mh=(λ_=>none)/\(nT T B mw mh).length=0 by unfold ql nT;rw[hb];exact⟨rfl,rfl⟩);clear hb
   go_upto_region 5 with(go_at_call 19;(with_reducible refine wH.mono ?_);rintro e' w2 ⟨rfl,hw2⟩)
   have hA2:=hAl.keep hw2;have hG2:=Lib.hid (YM.keep hw2);obtain⟨lY,wV,wW,zf,zh,zi,zk⟩:=At.six hA2;have WA:Below w.heap.size w w2:=Below.ay hw1 (ah _) hw2;go_wp2
   go_ret
   exact⟨⟨rm,0,rfl,grm,by rw[BR.out.1];exact hG2.out,bJ _⟩,WA⟩
 | true =>
   have BR:=Lib.hid (show ql T B mw mh=iZ (λ_=>none) (tl B mw mh 64 (sF B mw mh))/\nT T B mw mh=tl B mw mh 64 (sF B mw mh)by unfold ql nT;rw[hb];exact⟨rfl,rfl⟩);have h03:(eB T 0).c 0≠3:=by
    have q:=hb;unfold su at q;rw[hrd]at q;simp only[su,Bool.and_true,bne_iff_ne,ne_eq]at q;unfold eB;rw[hrd];exact q
   clear hb;have hWk:=(aar H hlen hst h03).of hBT;have hib:vM T 0=false:=by
    unfold vM RY;rw[hrd];show((T rd.up).isSome&&_)=false;rw[hru];cases hq:T (-1)with
    | none=>rfl
    | some nd=>have:=H.range _ _ hq;omega
   have hup:∀z nd,T z=some nd->∀k∈nd.kids,∃kd,T k=some kd/\kd.up=z:=λz nd hz k hk=>(H.kid z nd k hz hk).2
   go_upto_region 3 with(go_at_call 19;(with_reducible refine wH.mono ?_);rintro e' w2 ⟨rfl,hw2⟩)
   have WA:Below w.heap.size w w2:=Below.ay hw1 (ah _) hw2;have afz:Rd w2 T bm 0 (λ_=>none):=⟨⟨_,hGb.keep hw2,λz hz=>rfl⟩,λz e he=>by cases he⟩;have acY:=R4 (t:=t) (N:=N) (L:=L) (T:=T) (lb:=lb) (bm:=bm) (km:=km) (pm:=pm) (rm:=rm) (ww:=mw) (wh:=mh) hup (λb hb e=>by have:=Wz HH.out hb;omega) 64 0 w2 0 (λ_=>none) H.qy (HR1.out.after hw2) (hAl.keep hw2) afz (by have:=HB3.out;omega);rw[hib]at acY;have hlt1:=hGp.lt;have hlt2:=YM.lt;have hlt3:=hKM.lt;have agz:=hAl.lt;have ah2:=hw2.size;have HA:=Lib.hid (hAl.keep hw2);have HK:=Lib.hid (hKM.keep _ _ _ hw2);have HGP:=Lib.hid (hGp.keep hw2);have HGR:=Lib.hid (YM.keep hw2);clear RL wH hAl hGb hKM hGp YM hw2 afz
   go_upto_region 4 with(go_at_call 60;(with_reducible refine acY.mono ?_);rintro e' w3 ⟨rfl,⟨nE,E,Uy,-, -, hE⟩,hO3⟩)
   obtain⟨Y,hY⟩:∃Y:rV,Y=⟨lb,bm,km,pm,rm,mw,mh,λz=>((E z).map (·.bl)).getD 0,λz=>((E z).map (·.vf)).getD undef,λz=>((E z).map (·.va)).getD undef⟩:=⟨_,rfl⟩;have acZ:Y.lb=lb:=by rw[hY]
   have WB:Y.bm=bm:=by rw[hY]
   have R6:Y.km=km:=by rw[hY]
   have I7:Y.pm=pm:=by rw[hY]
   have R7:Y.rm=rm:=by rw[hY]
   have ac0:Y.ww=mw:=by rw[hY]
   have ac1:Y.wh=mh:=by rw[hY]
   have hs3:=hO3.size;have Xx:=Lib.hid (HA.out.out (M:=λb=>b=bm) nlb hO3);have afA:=Lib.hid (HGP.out.out (M:=λb=>b=bm) Xn.symm hO3);have ag6:=Lib.hid (HGR.out.out (M:=λb=>b=bm) Xo.symm hO3)
   have hRO:RO w3 Y B (Ww T) mW:={
    lay:=by rw[acZ,ac0,ac1,WB,R6,I7,R7];exact Xx.out
    boxes:=by
     obtain⟨g,h1,h2⟩:=Uy.gm;rw[WB];refine⟨nE,g,h1,λz hz => ?_⟩;obtain⟨e,he⟩:=Option.isSome_iff_exists.1 (hE z hz);rw[h2 z (Uy.box z e he).1,he,hY];simp[he]
    box:=λz hz=>by
     obtain⟨e,he⟩:=Option.isSome_iff_exists.1 (hE z hz);have h1:=(Uy.box z e he).2;have e1:Y.bl z=e.bl:=by rw[hY];simp[he]
     have e2:Y.vf z=e.vf:=by rw[hY];simp[he]
     have e3:Y.va z=e.va:=by rw[hY];simp[he]
     rw[e1,e2,e3,hBT z hz];exact h1
    kinds:=by rw[R6];exact mW.out _ _ _ HK.out (hO3.mono λb _ h=>by rw[h];exact XL)
    wf:=λz hz=>by
     obtain⟨e,he⟩:=Option.isSome_iff_exists.1 (hE z hz);exact(Uy.box z e he).1
    Ey:=by rw[I7];exact afA.out.obj
    pmb:=by rw[I7,WB];exact Xn.symm
    pmk:=by rw[I7,R6];exact Td.symm
    pmr:=by rw[I7,R7];exact Jg }
   have EA:Kp Y B (Fd T) 0 (λb=>b=pm) w3:=⟨I7,λ_=>none,by rw[I7];exact afA.out,λz a b v _ _ _ hg=>by cases hg⟩;have hD0:Ww T 0:=Ef H.qy;have hF0:Fd T 0=64:=by unfold Fd;rw[sw hdp]
   have hrb:Y.rm≠Y.bm:=by rw[R7,WB];exact Xo.symm
   have D9:Y.rm≠Y.km:=by rw[R7,R6];exact XK.symm
   have nL:=(IV Y hWk 64).2;have oo:=Wt Y hWk (λz hz=>by rw[hBT z hz];exact Wx H z hz) (λz hz=>by rw[hBT z hz];exact Wy H hlen z hz) hrb D9 64;have ac2:=Fw.CF (B 0).sty 0 mw mw (-1);have ac3:=Fw.CF (B 0).sty 1 mw mh (-1);obtain⟨x,hx0⟩:∃x,sF B mw mh=x:=⟨_,rfl⟩;have hxi:x.id=0/\Wf x.i0/\Wf x.i1:=by
    rw[<-hx0];exact⟨rfl,by rw[eT];exact⟨by have:=ac2.1;show _<=Fw.rz (B 0).sty 0 mw mw (-1);omega,ac2.2⟩,by rw[eT];exact⟨by have:=ac3.1;show _<=Fw.rz (B 0).sty 1 mw mh (-1);omega,ac3.2⟩⟩
   have hlx:Fw.lay B 64 0 mw mh (-1) (-1)=x:=hx0;have afB:=HB2;rw[hx0]at afB BR;obtain⟨lY,wV,wW,zf,zh,zi,zk⟩:=At.six Xx.out;have HRO:=Lib.hid hRO;have HKP:=Lib.hid EA;have HKL:=Lib.hid nL;have HKT:=Lib.hid oo;have HY:=Lib.hid (show Y.lb=lb/\Y.pm=pm/\Y.rm=rm/\Y.km=km/\Y.ww=mw/\Y.wh=mh from⟨acZ,I7,R7,R6,ac0,ac1⟩);clear hRO EA nL oo hY acZ WB R6 I7 R7 ac0 ac1 HA HGP HGR HK ac2 ac3 hx0 HB2 acY Uy hE;have hSd:w3.drew.cell? ⟨lb,0,none⟩=some (.int .i64 mw)/\w3.drew.cell? ⟨lb,1,none⟩=some (.int .i64 mh):=⟨wV,wW⟩;refine kQ (S:=λX=>X.cell? ⟨lb,0,none⟩=some (.int .i64 mw)/\X.cell? ⟨lb,1,none⟩=some (.int .i64 mh)) 9 ?_ ?_
   . exact hSd
   intro hS0;clear hSd;refine aT 0 ?_;refine aT 1 ?_;refine aT 2 ?_;refine aT 3 ?_;refine aT 4 ?_;refine aT 5 ?_;refine tk1 6 ?_;refine aj.Step.call dQ (iT _) ?_;rintro e' w5 ⟨rfl,hb5⟩;have yM:Below w3.heap.size w3 w5:=(Below.drew (Below.refl _ _)).trans hb5;refine⟨_,rfl,λ_=>⟨(yM.cell (p:=⟨lb,0,none⟩) lY).trans wV,(yM.cell (p:=⟨lb,1,none⟩) lY).trans wW⟩,?_⟩
   (try simp only[bF,bG,bH,tks])
   have ac4:=HRO.out.keep mW.keep yM;have afC:=HKP.out.out (M:=λ_=>False) (Out.of_below yM) λ_ _ q=>q;have hs5:=yM.size;have nL:=HKL.out 0 mw mh (-1) (-1) w5 0 (λb=>b=pm) hD0 hF0 ac4 afC (λb hb=>by rw[hb];omega) (by rw[HY.out.2.2.2.1];omega) (by have:=HB1.out;omega);rw[hlx,HY.out.1]at nL;refine tk1 7 ?_;refine aj.Step.call dQ nL ?_;rintro e' w6 ⟨rfl,n2,P2,hn2,hK2,hP2,mG⟩;rw[HY.out.2.1]at mG;have aas:Out (λb=>b=pm) w3 w6:=(Out.of_below yM).trans mG;refine⟨_,rfl,λ_=>⟨(Out.cell aas 0 lY nlp).trans wV,(Out.cell aas 1 lY nlp).trans wW⟩,?_⟩
   (try simp only[bF,bG,bH,tks])
   have afD:=ac4.fresh mW.out (by rw[HY.out.2.2.2.1];omega) (mG.mono λb _ h => .inl (by rw[HY.out.2.1];exact h)) hK2.pm.2;have hG6:=ag6.out.out (M:=λb=>b=pm) Jg.symm aas
   have oo:=HKT.out x w6 n2 (λb=>P2 b/\b<w6.heap.size) 0 (λ_=>none) (by rw[hxi.1];exact hD0) (by rw[hxi.1];exact hF0) hxi.2.1 hxi.2.2 afD hK2.cut (λb hb=>hb.2) (λhb=>by
    rw[HY.out.2.2.1]at hb;rcases hP2 _ hb.1 with q|q
    . exact Jg q.symm
    . omega) (by rw[HY.out.2.2.1];exact hG6) (by rw[hxi.1];have:=HB1.out;omega) (by rw[HY.out.2.2.2.2.1,HY.out.2.2.2.2.2];have:=afB.out;omega)
   rw[HY.out.1,HY.out.2.1,HY.out.2.2.1,HY.out.2.2.2.2.1,HY.out.2.2.2.2.2]at oo;refine tk1 8 ?_;refine aj.Step.call dQ oo ?_;rintro e' w7 ⟨rfl,n3,P3,nr3,-, -, -, afk,MB,Ez⟩;have aat:Out (λb=>b=pm\/b=rm) w3 w7:=(aas.mono λb _ h => .inl h).trans Ez;have hnl:¬ (lb=pm\/lb=rm):=by rintro(h|h);exact nlp h;exact nlr h
   refine⟨_,rfl,λ_=>⟨(Out.cell aat 0 lY hnl).trans wV,(Out.cell aat 1 lY hnl).trans wW⟩,?_⟩
   (try simp only[bF,bG,bH,tks])
   refine jY ?_;have Mi:=Xx.out.out hnl aat;have hW7:Below w.heap.size w w7:=by
    have h1:Below w.heap.size w2 w3:=hO3.below WA.size λb hb e=>by omega
    have h2:Below w.heap.size w3 w7:=aat.below (by have:=WA.size;omega) λb hb e=>by omega
    exact(WA.trans h1).trans h2
   have HG7:=Lib.hid MB;clear lY wV wW zf zh zi zk hS0 oo nL MB hG6 afD ac4 afC hK2;obtain⟨lY,wV,wW,zf,zh,zi,zk⟩:=At.six Mi;go_wp2
   go_ret
   exact⟨⟨rm,nr3,rfl,grm,by rw[BR.out.1];exact HG7.out,by rw[BR.out.2];omega⟩,hW7⟩
theorem WC{w:World}{t N:Nat}{L:Lay}{T:Tr.T}(h:fQ w t L T N)(H:Tr.WF T)(hlen:∀z nd,T z=some nd->nd.kids.length<=64)(hst:∀z nd,T z=some nd->0<=nd.sty.c 0/\nd.sty.c 0<=3)(ww wh:Int)
  (hb1:Fw.cst (iN T) 64 0+jG (iN T) 64 0<maxLen) (hb2:(tl (iN T) (max ww 0) (max wh 0) 64 (nH T (max ww 0) (max wh 0))).length<maxLen) (hb3:(jy T 64 0).length<maxLen) :
  Calls Tryz.prog 17 #[.pointer (some ⟨t,0,none⟩),.int .i64 ww,.int .i64 wh] w λe w'=>(∃b nr,e=.returned (.map (some b))/\w.heap.size<=b/\GM 3 w' b nr (qA T (max ww 0) (max wh 0))/\nr<=(oW T (max ww 0) (max wh 0)).length)/\Below w.heap.size w w' :=
 Gv (iN T) h H hlen hst (λ_ _=>rfl) ww wh hb1 hb2 hb3
end Go.Proofs.YtcbcfdihofclkaaGreat.Fix
