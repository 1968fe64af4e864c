/- Boxes laid by the program: what its functions do, part 32. -/
import Derived.Lib.MinMax
import Derived.Test.YteggipnplbkijaaGreatWK
import Derived.Test.YteggipnplbkijaaGreatW15
import Derived.Test.YteggipnplbkijaaGreatW17
import Derived.Test.YteggipnplbkijaaGreatW22
import Derived.Test.YteggipnplbkijaaGreatW31
set_option linter.unusedVariables false
set_option linter.unusedSimpArgs false
set_option linter.unusedSectionVars false
set_option maxRecDepth 100000
namespace Go.Proofs.YteggipnplbkijaaGreat.Fix
open Go.ChangeShapes Go.WideShapes Go.ChangeAt Go.RowKit
def kidsF (T:Tr.T) (z:Int):List Int:=(T z).elim [] (·.kids)
def upT (T:Tr.T) (z:Int):Int:=(T z).elim (-1) (·.up)
def ibOf (T:Tr.T) (z:Int):Bool:=(T (upT T z)).isSome && (((stOf T (upT T z)).c 0 == 0) && !isOut (stOf T z))
def shs (T:Tr.T):Nat→Int→List Int
 | 0,_=>[]
 | f + 1,z=>z :: ((kfl T (kidsF T z)).flatMap (shs T f) ++ (kap T (kidsF T z)).flatMap (shs T f))
structure Ent where
 bl:Nat
 vf:Value
 va:Value
structure Rd (W:World) (T:Tr.T) (bm n:Nat) (E:Int→Option Ent):Prop where
 gm:∃ g,GM 3 W bm n g∧∀ z,Wf z→g (.int .i64 z)=(E z).map fun e => .pointer (some ⟨e.bl,0,none⟩)
 box:∀ z e,E z=some e→Wf z∧BxAt W e.bl (stOf T z) e.vf e.va (ibOf T z)∧KS W e.vf (kfl T (kidsF T z))∧KS W e.va (kap T (kidsF T z))
theorem KS.ne_map {W:World} {v:Value} {l:List Int} {b:Nat} {es:Array MapEntry} {ck:Nat} (h:KS W v l) (hm:At W b (.map es ck)):v.ownBlock≠some b:=fun e=>by
 rcases h.cases with ⟨rfl,_⟩ | ⟨g,c,rfl,cur,h1,_⟩
 · cases e
 · simp [Value.ownBlock] at e
   rw [e] at h1
   have:=At.uniq h1 hm
   cases this
theorem Rd.after {W W':World} {T:Tr.T} {bm n:Nat} {E:Int→Option Ent} (h:Rd W T bm n E) (hb:Below W.heap.size W W'):Rd W' T bm n E:=by
 obtain ⟨g,h1,h2⟩:=h.gm
 exact ⟨⟨g,h1.keep hb,h2⟩,fun z e he=>⟨(h.box z e he).1,(h.box z e he).2.1.keep hb,(h.box z e he).2.2.1.after hb,(h.box z e he).2.2.2.after hb⟩⟩
def eset (E:Int→Option Ent) (z:Int) (e:Ent):Int→Option Ent:=fun y=>if y=z then some e else E y
theorem eset_mono (E:Int→Option Ent) (z:Int) (e:Ent) (y:Int) (h:(E y).isSome=true):(eset E z e y).isSome=true:=by unfold eset;split <;> first | rfl | exact h
theorem Rd.put {W:World} {T:Tr.T} {bm n:Nat} {E:Int→Option Ent} (h:Rd W T bm n E) (hn:n<maxLen) {z:Int} (hz:Wf z) {e:Ent} (hb:BxAt W e.bl (stOf T z) e.vf e.va (ibOf T z)) (hf:KS W e.vf (kfl T (kidsF T z))) (ha:KS W e.va (kap T (kidsF T z))) :
  ∃ W' n',n'≤n + 1∧(Instr.mapUpdate 96 (.map (some bm)) (.int .i64 z) (.pointer (some ⟨e.bl,0,none⟩))).run Tryz.prog W = .ok () W'∧Rd W' T bm n' (eset E z e)∧Out (fun b=>b=bm) W W':=by
 obtain ⟨g,h1,h2⟩:=h.gm
 obtain ⟨es,ck,hm⟩:=h1.obj
 obtain ⟨W',n',hle,hr,hg,ho⟩:=h1.put (v:= .pointer (some ⟨e.bl,0,none⟩)) keyLaw Tryz.underlying96 hn (key_int hz)
 have nb:∀ {b:Nat} {cs:Array Value} {t:TypeId},At W b (.cells cs t)→b≠bm:=fun {b cs t} q e=>by
  subst e
  have:=At.uniq q hm
  cases this
 have kp:∀ {b:Nat} {s:Re.St} {vf va:Value} {ib:Bool} {l1 l2:List Int},BxAt W b s vf va ib→KS W vf l1→KS W va l2→BxAt W' b s vf va ib∧KS W' vf l1∧KS W' va l2:=fun {b s vf va ib l1 l2} q1 q2 q3 =>
  ⟨At.out q1 (nb q1) ho,q2.out (fun g hg (e:g=bm)=>q2.ne_map hm (e ▸ hg)) ho,q3.out (fun g hg (e:g=bm)=>q3.ne_map hm (e ▸ hg)) ho⟩
 refine ⟨W',n',hle,hr,⟨⟨_,hg,fun y hy => ?_⟩,fun y e' he' => ?_⟩,ho⟩
 · by_cases q:y=z
   · subst q;rw [gset_same];unfold eset;rw [if_pos rfl];rfl
   · rw [gset_off (key_ne q),h2 y hy];unfold eset;rw [if_neg q]
 · unfold eset at he'
   split at he'
   · rename_i q
     injection he' with he'
     subst q he'
     exact ⟨hz,kp hb hf ha⟩
   · obtain ⟨q1,q2,q3,q4⟩:=h.box y e' he'
     exact ⟨q1,kp q2 q3 q4⟩
theorem flat_take {α:Type} (f:Int→List α) {l:List Int} {k:Nat} (h:k<l.length):(l.take (k + 1)).flatMap f=(l.take k).flatMap f ++ f l[k]:=by
 rw [List.take_succ_eq_append_getElem h,List.flatMap_append];simp
theorem flat_take_le {α:Type} (f:Int→List α) (l:List Int) (k:Nat):((l.take k).flatMap f).length≤(l.flatMap f).length:=by
 conv=>rhs;rw [← List.take_append_drop k l,List.flatMap_append]
 simp
section
variable {t N:Nat} {L:Lay} {T:Tr.T} {lb bm km pm rm:Nat} {ww wh:Int}
set_option maxHeartbeats 8000000 in
theorem fread_any (hup:∀ z nd,T z=some nd→∀ k ∈ nd.kids,∃ kd,T k=some kd∧kd.up=z) (hbm:∀ b,owned t L T b→b≠bm):∀ (f:Nat) (z:Int) (w:World) (n:Nat) (E:Int→Option Ent),Tr.Fit T f z→Rep w t L T N →
  At w lb (.cells #[.int .i64 ww,.int .i64 wh,.map (some bm),.map (some km),.map (some pm),.map (some rm)] 100)→Rd w T bm n E→n + (shs T f z).length<maxLen →
  Calls Tryz.prog 43 #[.pointer (some ⟨lb,0,none⟩),.pointer (some ⟨t,0,none⟩),.int .i64 z,.bool (ibOf T z)] w fun e w'=>e = .returned (.tuple #[]) ∧
   (∃ n' E',Rd w' T bm n' E'∧n'≤n + (shs T f z).length∧(∀ y,(E y).isSome=true→(E' y).isSome=true)∧∀ y ∈ shs T f z,(E' y).isSome=true)∧Out (fun b=>b=bm) w w':=by
 intro f
 induction f with
 | zero=>intro z w n E h;exact h.elim
 | succ f ih =>
   intro z w n E hfit hR hA hRd hn
   obtain ⟨nd,hT,hkf⟩:=hfit
   have hsm:=(hR.small z nd hT).2.2.2.2
   have hzw:=hR.wf hT
   have keyS:=tstyle_any hR hzw
   have hst:(T z).elim Re.zero (·.sty)=stOf T z:=rfl
   rw [hst] at keyS
   have hkz:kidsF T z=nd.kids:=by unfold kidsF;rw [hT];rfl
   have hkx:∀ x ∈ nd.kids,∃ xd,T x=some xd:=fun x hx=>by obtain ⟨kd,h1,_⟩:=hup z nd hT x hx;exact ⟨kd,h1⟩
   have hib1:∀ x ∈ kfl T nd.kids,ibOf T x=((stOf T z).c 0 == 0):=fun x hx=>by
    obtain ⟨hx1,hx2⟩:=List.mem_filter.1 hx
    obtain ⟨kd,h1,h2⟩:=hup z nd hT x hx1
    have e:upT T x=z:=by unfold upT;rw [h1];exact h2
    simp only [Bool.and_eq_true] at hx2
    unfold ibOf
    rw [e,hT,hx2.2]
    simp
   have hib2:∀ x ∈ kap T nd.kids,ibOf T x=false:=fun x hx=>by
    obtain ⟨hx1,hx2⟩:=List.mem_filter.1 hx
    simp only [Bool.and_eq_true] at hx2
    unfold ibOf
    rw [hx2.2]
    simp
   obtain ⟨ks1,hks1⟩:∃ l,kfl T nd.kids=l:=⟨_,rfl⟩
   obtain ⟨ks2,hks2⟩:∃ l,kap T nd.kids=l:=⟨_,rfl⟩
   have hsub1:∀ x ∈ ks1,x ∈ nd.kids:=fun x hx=>by rw [← hks1] at hx;exact (List.mem_filter.1 hx).1
   have hsub2:∀ x ∈ ks2,x ∈ nd.kids:=fun x hx=>by rw [← hks2] at hx;exact (List.mem_filter.1 hx).1
   have hshs:shs T (f + 1) z=z :: (ks1.flatMap (shs T f) ++ ks2.flatMap (shs T f)):=by simp only [shs,hkz,hks1,hks2]
   rw [hshs] at hn ⊢
   rw [hks1] at hib1
   rw [hks2] at hib2
   obtain ⟨ib,hib⟩:∃ ib,ibOf T z=ib:=⟨_,rfl⟩
   rw [hib]
   have HKF:=Lib.hid hkf
   have HIB:=Lib.hid hib
   have HIB1:=Lib.hid hib1
   have HIB2:=Lib.hid hib2
   have HS1:=Lib.hid hsub1
   have HS2:=Lib.hid hsub2
   have HK1:=Lib.hid hks1
   have HK2:=Lib.hid hks2
   have HKZ:=Lib.hid hkz
   have HKX:=Lib.hid hkx
   have HRep:=Lib.hid hR
   have HRD:=Lib.hid hRd
   have HA:=Lib.hid hA
   have HN:=Lib.hid hn
   have HT:=Lib.hid hT
   have lbl:=hA.lt
   clear hshs hkf hib hib1 hib2 hsub1 hsub2 hks1 hks2 hkz hkx hR hRd hA hn hst
   go_enter Tryz.func43,Tryz.ntmps43
   go_upto_region 1 with (first | (go_at_call 25;(with_reducible refine keyS.mono ?_);rintro e w1 ⟨rfl,hb1⟩) | (go_at_call 71;(with_reducible refine (fnewbox_any _ _).mono ?_);rintro e w2 ⟨⟨b,rfl,hbl,hbx⟩,hb2⟩))
   have hB2:Below w.heap.size w w2:=Below.after2 hb1 (Nat.le_refl _) hb2
   have hbw:w.heap.size≤b:=Nat.le_trans hb1.size hbl
   have l73:=hbx.lt
   have c73:w2.cell? ⟨b,73,none⟩=some (.bool false):=hbx.ext 18
   have z73:=At.thaw hbx 73
   clear hb1 hb2 keyS
   go_upto_region 2 with (fail)
   generalize hW:World.setCell _ _ _=w3
   have hbx3:BxAt w3 b (stOf T z) (.slice none 0 0) (.slice none 0 0) ib:=by
    unfold BxAt
    rw [← bxc_set_ib (stOf T z) (.slice none 0 0) (.slice none 0 0) false ib, ← hW]
    exact At.set hbx 73 _
   have hB3:Below w.heap.size w w3:=hW ▸ Below.setCell hB2 hbw _
   clear hW hbx c73 z73 l73 hB2
   have keyk:=fkids_any (HRep.out.after hB3) HT.out nd.kids rfl HKX.out Z3f
   rw [HK1.out,HK2.out] at keyk
   have hl3:=hbx3.lt
   go_upto_region 3 with (go_at_call 49;(with_reducible refine keyk.mono ?_);rintro e w4 ⟨⟨v,u,rfl,ho1,ho2,hap⟩,hb4⟩;have hbx4:=hbx3.keep hb4;have l71:=hbx4.lt;have c71:w4.cell? ⟨b,71,none⟩=some (.slice none 0 0):=hbx4.ext 16;have c72:w4.cell? ⟨b,72,none⟩=some (.slice none 0 0):=hbx4.ext 17;have z71:=At.thaw hbx4 71;have z72:=At.thaw hbx4 72;obtain ⟨A1,d1,rfl,hI1,hd1,he1,hA1⟩:=KS.ints (rowBase ho1 (Nat.zero_le _));obtain ⟨A2,d2,rfl,hI2,hd2,he2,hA2⟩:=KS.ints (rowBase ho2 (Nat.zero_le _)))
   have hk1:KS w4 (.slice A1 ks1.length d1) ks1:=rowBase ho1 (Nat.zero_le _)
   have hk2:KS w4 (.slice A2 ks2.length d2) ks2:=rowBase ho2 (Nat.zero_le _)
   have hg1:∀ g,(Value.slice A1 ks1.length d1).ownBlock=some g→w3.heap.size≤g:=fun g hg=>(World.ownsRow.lt ho1 g hg).1
   have hg2:∀ g,(Value.slice A2 ks2.length d2).ownBlock=some g→w3.heap.size≤g:=fun g hg=>(World.ownsRow.lt ho2 g hg).1
   have hB4:Below w.heap.size w w4:=Below.after2 hB3 (Nat.le_refl _) hb4
   generalize hW:World.setCell _ _ _=w5
   have hO45:Out (fun q=>q=b) w4 w5:=hW ▸ ((Out.refl (fun q=>q=b) w4).set rfl 71 _).set rfl 72 _
   have hbx5:BxAt w5 b (stOf T z) (.slice A1 ks1.length d1) (.slice A2 ks2.length d2) ib:=by
    unfold BxAt
    rw [← bxc_set_ap (stOf T z) (.slice A1 ks1.length d1) (.slice none 0 0) (.slice A2 ks2.length d2) ib, ← bxc_set_fl (stOf T z) (.slice none 0 0) (.slice A1 ks1.length d1) (.slice none 0 0) ib, ← hW]
    exact At.set (At.set hbx4 71 _) 72 _
   have hk15:=hk1.out (M:=fun q=>q=b) (fun g hg (e:g=b)=>by have:=hg1 g hg;omega) hO45
   have hk25:=hk2.out (M:=fun q=>q=b) (fun g hg (e:g=b)=>by have:=hg2 g hg;omega) hO45
   have hB5:Below w.heap.size w w5:=hB4.trans (hO45.below (by have:=hB4.size;omega) fun q hq (e:q=b)=>by omega)
   clear hW hbx4 l71 c71 c72 z71 z72 ho1 ho2 hb4 keyk hk1 hk2 hg1 hg2 hO45 hI1 hI2 hap hbx3 hl3 hB3 hB4
   have hpos:n<maxLen:=by have:=HN.out;omega
   obtain ⟨w6,n1,hn1,hmu,hRd6,hO6⟩:=(HRD.out.after hB5).put (e:=⟨b,.slice A1 ks1.length d1,.slice A2 ks2.length d2⟩) hpos hzw (by rw [HIB.out];exact hbx5) (by rw [HKZ.out,HK1.out];exact hk15) (by rw [HKZ.out,HK2.out];exact hk25)
   have hA5:=HA.out.keep hB5
   have cl:=hA5.cell 2
   simp only [List.getElem?_toArray,List.getElem?_cons_zero,List.getElem?_cons_succ] at cl
   have ll:=hA5.lt
   go_upto_region 4 with (fail)
   obtain ⟨es,ck,hmap⟩:=(HRD.out.gm).elim fun g hg=>hg.1.obj
   have hbmw:=hmap.lt
   have hlbm:lb≠bm:=fun e=>by
    subst e
    have:=At.uniq HA.out hmap
    cases this
   have hB5s:=hB5.size
   obtain ⟨_,hbx6,hk16,hk26⟩:=hRd6.box z ⟨b,.slice A1 ks1.length d1,.slice A2 ks2.length d2⟩ (by unfold eset;rw [if_pos rfl])
   rw [HIB.out] at hbx6
   rw [HKZ.out,HK1.out] at hk16
   rw [HKZ.out,HK2.out] at hk26
   have hbb:b≠bm:=by omega
   have hO:Out (fun q=>q=bm) w w6:=Out.trans' (Out.of_below hB5) hO6 fun q hq e=>e
   have hE0:Hid ((∀ y,(E y).isSome=true→(eset E z ⟨b,.slice A1 ks1.length d1,.slice A2 ks2.length d2⟩ y).isSome=true)∧∀ y ∈ z :: (ks1.take 0).flatMap (shs T f),(eset E z ⟨b,.slice A1 ks1.length d1,.slice A2 ks2.length d2⟩ y).isSome=true):=Lib.hid ⟨fun y hy=>eset_mono E z _ y hy,fun y hy=>by
    simp only [List.take_zero,List.flatMap_nil,List.mem_cons,List.not_mem_nil,or_false] at hy
    subst hy
    unfold eset
    rw [if_pos rfl];rfl⟩
   have hmap6:∃ es ck,At w6 bm (.map es ck):=hRd6.gm.elim fun g hg=>hg.1.obj
   obtain ⟨es6,ck6,hmap6⟩:=hmap6
   have HMP:=Lib.hid hmap6
   clear hmap6
   have HBX:=Lib.hid hbx6
   have HK16:=Lib.hid hk16
   have HK26:=Lib.hid hk26
   have HO:=Lib.hid hO
   have c71:w6.cell? ⟨b,71,none⟩=some (.slice A1 ks1.length d1):=hbx6.ext 16
   have l71:=hbx6.lt
   generalize hE:eset E z ⟨b,.slice A1 ks1.length d1,.slice A2 ks2.length d2⟩=E1 at *
   clear hmu cl ll hB5 hbx5 hk15 hk25 hA5 hmap hbx6 hk16 hk26 hO hO6 hE
   obtain ⟨m1,hm1⟩:∃ m,ks1.length=m:=⟨_,rfl⟩
   obtain ⟨m2,hm2⟩:∃ m,ks2.length=m:=⟨_,rfl⟩
   have HM1:=Lib.hid hm1
   have HM2:=Lib.hid hm2
   rw [hm1] at c71
   simp only [hm1,hm2]
   clear hm1 hm2
   have hd1':m1≤d1:=by rw [← HM1.out];exact hd1
   have hm14:m1≤5000:=by
    have h1:(kfl T nd.kids).length≤nd.kids.length:=List.length_filter_le _ _
    rw [HK1.out,HM1.out] at h1
    omega
   have hm24:m2≤5000:=by
    have h1:(kap T nd.kids).length≤nd.kids.length:=List.length_filter_le _ _
    rw [HK2.out,HM2.out] at h1
    omega
   go_upto_region 5 with (fail)
   go_loopw [44] (fun vi wr=>∃ (k n':Nat) (E':Int→Option Ent),k≤m1∧vi = .int .i64 k∧Rd wr T bm n' E'∧n'≤n + 1 + ((ks1.take k).flatMap (shs T f)).length∧Hid ((∀ y,(E y).isSome=true→(E' y).isSome=true)∧∀ y ∈ z :: (ks1.take k).flatMap (shs T f),(E' y).isSome=true)∧Out (fun q=>q=bm) w6 wr) (fun vi _=>m1 - (intOf vi).toNat)
   case atStart=>exact ⟨0,n1,E1,Nat.zero_le _,rfl,hRd6,by simp;omega,hE0,Out.refl _ _⟩
   case round =>
    clear hRd6 hE0 c71 l71
    obtain ⟨k,n',E',hk,rfl,hRr,hnr,hEr,hOr⟩:=hrel
    by_cases hlt:k<m1
    · have hltz:(k:Int)<(m1:Int):=by omega
      have hkk:k<ks1.length:=by rw [HM1.out];exact hlt
      have hbxr:=HBX.out.out (M:=fun q=>q=bm) hbb hOr
      have hIr:=(HK16.out.out (M:=fun q=>q=bm) (fun g hg (e:g=bm)=>HK16.out.ne_map HMP.out (e ▸ hg)) hOr).ints_of.1
      obtain ⟨b1,o1,rfl,lb1,hc1⟩:=hIr.at_ (k:=k) (by exact hkk)
      obtain ⟨x,hx⟩:∃ x,ks1.getD k 0=x:=⟨_,rfl⟩
      have hx2:ks1[k]=x:=by rw [← hx,List.getD,List.getElem?_eq_getElem hkk];rfl
      rw [hx] at hc1
      have hxm:x ∈ ks1:=hx2 ▸ List.getElem_mem _
      have hfl:=flat_take (shs T f) hkk
      rw [hx2] at hfl
      have hle:=flat_take_le (shs T f) ks1 (k + 1)
      have hfll:((ks1.take (k + 1)).flatMap (shs T f)).length=((ks1.take k).flatMap (shs T f)).length + (shs T f x).length:=by rw [hfl,List.length_append]
      have hnn:=HN.out
      rw [List.length_cons,List.length_append] at hnn
      have hBr:Out (fun q=>q=bm) w wr:=HO.out.trans hOr
      have key:=ih x wr n' E' (HKF.out x (HS1.out x hxm)) (HRep.out.out (M:=fun q=>q=bm) (fun q hq e=>hbm q hq e) hBr) (HA.out.out (M:=fun q=>q=bm) hlbm hBr) hRr Z3f
      rw [HIB1.out x hxm] at key
      have cdd:wr.cell? ⟨b,0,none⟩=some (.int .i64 ((stOf T z).c 0)):=BxAt.int hbxr 0 Z3i rfl
      have lbr:=hbxr.lt
      have HFL:=Lib.hid hfl
      have HFLL:=Lib.hid hfll
      have HEr:=Lib.hid hEr
      generalize (stOf T z).c 0=cz at *
      clear hx2 hfl hle hfll hnn hxm hIr hRr hEr hBr
      go_wp2_with (go_at_call 43;(with_reducible refine key.mono ?_);rintro e w7 ⟨rfl,⟨n2,E2,hRd7,hn2,hm7,hs7⟩,hO7⟩)
      go_roundw
      case rel=>exact ⟨k + 1,n2,E2,by omega,by go_num,hRd7,by rw [HFLL.out];omega,Lib.hid ⟨fun y hy=>hm7 y (HEr.out.out.1 y hy),fun y hy=>by
       rw [HFL.out] at hy
       rcases List.mem_cons.1 hy with e | hy
       · exact hm7 y (HEr.out.out.2 y (List.mem_cons.2 (.inl e)))
       · rcases List.mem_append.1 hy with hy | hy
         · exact hm7 y (HEr.out.out.2 y (List.mem_cons.2 (.inr hy)))
         · exact hs7 y hy⟩,hOr.trans hO7⟩
      case measure=>simp [intOf];omega
    · obtain rfl:k=m1:=by omega
      have hfull:(ks1.take k).flatMap (shs T f)=ks1.flatMap (shs T f):=by rw [List.take_of_length_le (by rw [HM1.out];exact Nat.le_refl _)]
      rw [hfull] at hnr hEr
      have hbxr:=HBX.out.out (M:=fun q=>q=bm) hbb hOr
      have c72:wr.cell? ⟨b,72,none⟩=some (.slice A2 ks2.length d2):=BxAt.ext hbxr 17
      rw [HM2.out] at c72
      have l72:=hbxr.lt
      have hd2':m2≤d2:=by rw [← HM2.out];exact hd2
      clear hfull hbxr
      go_upto_region 10 with (fail)
      go_loopw [64] (fun vi wr=>∃ (k n':Nat) (E':Int→Option Ent),k≤m2∧vi = .int .i64 k∧Rd wr T bm n' E'∧n'≤n + 1 + (ks1.flatMap (shs T f)).length + ((ks2.take k).flatMap (shs T f)).length∧Hid ((∀ y,(E y).isSome=true→(E' y).isSome=true)∧∀ y ∈ z :: (ks1.flatMap (shs T f) ++ (ks2.take k).flatMap (shs T f)),(E' y).isSome=true)∧Out (fun q=>q=bm) w6 wr) (fun vi _=>m2 - (intOf vi).toNat)
      case atStart=>exact ⟨0,n',E',Nat.zero_le _,rfl,hRr,by simpa using hnr,by simpa using hEr,hOr⟩
      case round =>
       clear hRr hEr c72 l72 hOr hnr hk
       obtain ⟨k,n',E',hk,rfl,hRr,hnr,hEr,hOr⟩:=hrel
       by_cases hlt:k<m2
       · have hltz:(k:Int)<(m2:Int):=by omega
         have hkk:k<ks2.length:=by rw [HM2.out];exact hlt
         have hbxr:=HBX.out.out (M:=fun q=>q=bm) hbb hOr
         have hIr:=(HK26.out.out (M:=fun q=>q=bm) (fun g hg (e:g=bm)=>HK26.out.ne_map HMP.out (e ▸ hg)) hOr).ints_of.1
         obtain ⟨b1,o1,rfl,lb1,hc1⟩:=hIr.at_ (k:=k) (by exact hkk)
         obtain ⟨x,hx⟩:∃ x,ks2.getD k 0=x:=⟨_,rfl⟩
         have hx2:ks2[k]=x:=by rw [← hx,List.getD,List.getElem?_eq_getElem hkk];rfl
         rw [hx] at hc1
         have hxm:x ∈ ks2:=hx2 ▸ List.getElem_mem _
         have hfl:=flat_take (shs T f) hkk
         rw [hx2] at hfl
         have hle:=flat_take_le (shs T f) ks2 (k + 1)
         have hfll:((ks2.take (k + 1)).flatMap (shs T f)).length=((ks2.take k).flatMap (shs T f)).length + (shs T f x).length:=by rw [hfl,List.length_append]
         have hnn:=HN.out
         rw [List.length_cons,List.length_append] at hnn
         have hBr:Out (fun q=>q=bm) w wr:=HO.out.trans hOr
         have key:=ih x wr n' E' (HKF.out x (HS2.out x hxm)) (HRep.out.out (M:=fun q=>q=bm) (fun q hq e=>hbm q hq e) hBr) (HA.out.out (M:=fun q=>q=bm) hlbm hBr) hRr Z3f
         rw [HIB2.out x hxm] at key
         have cdd:wr.cell? ⟨b,0,none⟩=some (.int .i64 ((stOf T z).c 0)):=BxAt.int hbxr 0 Z3i rfl
         have lbr:=hbxr.lt
         have HFL:=Lib.hid hfl
         have HFLL:=Lib.hid hfll
         have HEr:=Lib.hid hEr
         generalize (stOf T z).c 0=cz at *
         clear hx2 hfl hle hfll hnn hxm hIr hRr hEr hBr
         go_wp2_with (go_at_call 43;(with_reducible refine key.mono ?_);rintro e w7 ⟨rfl,⟨n2,E2,hRd7,hn2,hm7,hs7⟩,hO7⟩)
         go_roundw
         case rel=>exact ⟨k + 1,n2,E2,by omega,by go_num,hRd7,by rw [HFLL.out];omega,Lib.hid ⟨fun y hy=>hm7 y (HEr.out.out.1 y hy),fun y hy=>by
          rw [HFL.out] at hy
          rcases List.mem_cons.1 hy with e | hy
          · exact hm7 y (HEr.out.out.2 y (List.mem_cons.2 (.inl e)))
          · rcases List.mem_append.1 hy with hy | hy
            · exact hm7 y (HEr.out.out.2 y (List.mem_cons.2 (.inr (List.mem_append.2 (.inl hy)))))
            · rcases List.mem_append.1 hy with hy | hy
              · exact hm7 y (HEr.out.out.2 y (List.mem_cons.2 (.inr (List.mem_append.2 (.inr hy)))))
              · exact hs7 y hy⟩,hOr.trans hO7⟩
         case measure=>simp [intOf];omega
       · obtain rfl:k=m2:=by omega
         have hfull:(ks2.take k).flatMap (shs T f)=ks2.flatMap (shs T f):=by rw [List.take_of_length_le (by rw [HM2.out];exact Nat.le_refl _)]
         rw [hfull] at hnr hEr
         have hHr:=Lib.hid hRr
         clear hRr hfull
         go_wp2
         go_end0
         exact ⟨rfl,⟨n',E',hHr.out,by rw [List.length_append];omega,hEr.out.1,hEr.out.2⟩,HO.out.trans hOr⟩
end
def bxT (T:Tr.T) (z:Int):Fw.Bx:=⟨stOf T z,kfl T (kidsF T z),kap T (kidsF T z),ibOf T z⟩
noncomputable def Fd (T:Tr.T) (z:Int):Nat:=65 - depOf T z
def Dsh (T:Tr.T) (z:Int):Prop:=z ∈ shs T 64 0
theorem kids_mem {T:Tr.T} {z k:Int} {nd:Tr.Nd} (hT:T z=some nd) (h:k ∈ kfl T (kidsF T z)∨k ∈ kap T (kidsF T z)):k ∈ nd.kids:=by
 have e:kidsF T z=nd.kids:=by unfold kidsF;rw [hT];rfl
 rw [e] at h
 rcases h with h | h
 · exact (List.mem_filter.1 h).1
 · exact (List.mem_filter.1 h).1
theorem shs_self {T:Tr.T} {f:Nat} {a:Int} (h:Tr.Fit T f a):a ∈ shs T f a:=by
 cases f with
 | zero=>exact h.elim
 | succ f=>simp [shs]
theorem shs_cases {T:Tr.T} {f:Nat} {a z:Int} (hz:z ∈ shs T (f + 1) a):z=a∨∃ c,(c ∈ kfl T (kidsF T a)∨c ∈ kap T (kidsF T a))∧z ∈ shs T f c:=by
 simp only [shs,List.mem_cons,List.mem_append,List.mem_flatMap] at hz
 rcases hz with h | ⟨c,h1,h2⟩ | ⟨c,h1,h2⟩
 · exact .inl h
 · exact .inr ⟨c,.inl h1,h2⟩
 · exact .inr ⟨c,.inr h1,h2⟩
theorem shs_kid {T:Tr.T} {f:Nat} {a c z:Int} (hc:c ∈ kfl T (kidsF T a)∨c ∈ kap T (kidsF T a)) (hz:z ∈ shs T f c):z ∈ shs T (f + 1) a:=by
 simp only [shs,List.mem_cons,List.mem_append,List.mem_flatMap]
 rcases hc with h | h
 · exact .inr (.inl ⟨c,h,hz⟩)
 · exact .inr (.inr ⟨c,h,hz⟩)
theorem shs_live {T:Tr.T}:∀ {f:Nat} {a z:Int},Tr.Fit T f a→z ∈ shs T f a→∃ nd,T z=some nd:=by
 intro f
 induction f with
 | zero=>intro a z h;exact h.elim
 | succ f ih =>
   intro a z h hz
   obtain ⟨nd,hT,hk⟩:=h
   rcases shs_cases hz with rfl | ⟨c,hc,hz⟩
   · exact ⟨nd,hT⟩
   · exact ih (hk c (kids_mem hT hc)) hz
theorem shs_down {T:Tr.T}:∀ {f:Nat} {a z k:Int},Tr.Fit T f a→z ∈ shs T f a→(k ∈ kfl T (kidsF T z)∨k ∈ kap T (kidsF T z))→k ∈ shs T f a:=by
 intro f
 induction f with
 | zero=>intro a z k h;exact h.elim
 | succ f ih =>
   intro a z k h hz hk
   obtain ⟨nd,hT,hkf⟩:=h
   rcases shs_cases hz with rfl | ⟨c,hc,hz⟩
   · exact shs_kid hk (shs_self (hkf k (kids_mem hT hk)))
   · exact shs_kid hc (ih (hkf c (kids_mem hT hc)) hz hk)
theorem shs_shown {T:Tr.T}:∀ {f:Nat} {a z:Int},z ∈ shs T f a→z=a∨(stOf T z).c 0≠3:=by
 intro f
 induction f with
 | zero=>intro a z h;simp [shs] at h
 | succ f ih =>
   intro a z hz
   rcases shs_cases hz with h | ⟨c,hc,hz⟩
   · exact .inl h
   · rcases ih hz with rfl | h
     · right
       rcases hc with h | h
       · have:=(List.mem_filter.1 h).2
         simp only [Bool.and_eq_true,bne_iff_ne,ne_eq] at this
         exact this.1
       · have:=(List.mem_filter.1 h).2
         simp only [Bool.and_eq_true,bne_iff_ne,ne_eq] at this
         exact this.1
     · exact .inr h
theorem kid_depth {T:Tr.T} (H:Tr.WF T) {z k:Int} {nd:Tr.Nd} (hT:T z=some nd) (hk:k ∈ nd.kids):Fd T z=Fd T k + 1∧Fd T z≤64:=by
 obtain ⟨d,hd1,hd⟩:=H.deep z nd hT
 have hdk:=H.kidDp hT hk hd
 have h63:=H.dp63 hdk
 unfold Fd
 rw [depOf_dp hd,depOf_dp hdk]
 omega
theorem wk_tree {T:Tr.T} (H:Tr.WF T) (hlen:∀ z nd,T z=some nd→nd.kids.length≤64) (hst:∀ z nd,T z=some nd→0≤nd.sty.c 0∧nd.sty.c 0≤3) (h0:(stOf T 0).c 0≠3):Wk (bxT T) (Fd T) (Dsh T) where
 down:=fun z hz k hk=>by
  obtain ⟨nd,hT⟩:=shs_live H.fit0 hz
  exact ⟨shs_down H.fit0 hz (.inl hk),(kid_depth H hT (kids_mem hT (.inl hk))).1⟩
 len:=fun z hz=>by
  obtain ⟨nd,hT⟩:=shs_live H.fit0 hz
  have e:kidsF T z=nd.kids:=by unfold kidsF;rw [hT];rfl
  show (kfl T (kidsF T z)).length≤64
  rw [e]
  exact Nat.le_trans (by unfold kfl;exact List.length_filter_le _ _) (hlen z nd hT)
 kind:=fun z hz=>by
  obtain ⟨nd,hT⟩:=shs_live H.fit0 hz
  have h:=hst z nd hT
  have e:stOf T z=nd.sty:=by unfold stOf;rw [hT];rfl
  have h3:(stOf T z).c 0≠3:=by
   rcases shs_shown hz with rfl | h
   · exact h0
   · exact h
  show (stOf T z).c 0=0∨(stOf T z).c 0=1∨(stOf T z).c 0=2
  rw [e] at h3 ⊢
  omega
 deep:=fun z hz=>by unfold Fd;omega
theorem wk_apart {T:Tr.T} (H:Tr.WF T):∀ z,Dsh T z→∀ k ∈ (bxT T z).ap,Dsh T k∧Fd T z=Fd T k + 1:=fun z hz k hk=>by
 obtain ⟨nd,hT⟩:=shs_live H.fit0 hz
 exact ⟨shs_down H.fit0 hz (.inr hk),(kid_depth H hT (kids_mem hT (.inr hk))).1⟩
theorem wk_aplen {T:Tr.T} (H:Tr.WF T) (hlen:∀ z nd,T z=some nd→nd.kids.length≤64):∀ z,Dsh T z→(bxT T z).ap.length≤10000:=fun z hz=>by
 obtain ⟨nd,hT⟩:=shs_live H.fit0 hz
 have e:kidsF T z=nd.kids:=by unfold kidsF;rw [hT];rfl
 show (kap T (kidsF T z)).length≤10000
 rw [e]
 have h:=hlen z nd hT
 have h2:(kap T nd.kids).length≤nd.kids.length:=by unfold kap;exact List.length_filter_le _ _
 omega
def rootL (T:Tr.T) (ww wh:Int):Fw.Ld:=Fw.lay (bxT T) 64 0 ww wh (-1) (-1)
def layL (T:Tr.T) (ww wh:Int):List Fw.Ld:=if shn T 1 0=true then tl (bxT T) ww wh 64 (rootL T ww wh) else []
noncomputable def layG (T:Tr.T) (ww wh:Int):Lit→Option Value:=gputs (fun _=>none) (layL T ww wh)
theorem owned_lt {w:World} {t n:Nat} {L:Lay} {T:Tr.T} (h:Rep w t L T n) {b:Nat} (hb:owned t L T b):b<w.heap.size:=by
 rcases hb with rfl | rfl | ⟨z,nd,hz,rfl | hg⟩
 · exact h.at_.lt
 · exact h.map.lt
 · exact (h.box z nd hz).lt
 · obtain ⟨cur,ha⟩:=(h.row z nd hz).rowAt hg
   exact ha.lt
theorem Wk.of {B B':Int→Fw.Bx} {F:Int→Nat} {D:Int→Prop} (h:Wk B F D) (e:∀ z,D z→B' z=B z):Wk B' F D where
 down:=fun z hz k hk=>h.down z hz k (by rw [← e z hz];exact hk)
 len:=fun z hz=>by rw [e z hz];exact h.len z hz
 kind:=fun z hz=>by rw [e z hz];exact h.kind z hz
 deep:=h.deep
def rootB (B:Int→Fw.Bx) (ww wh:Int):Fw.Ld:=Fw.lay B 64 0 ww wh (-1) (-1)
def layLB (T:Tr.T) (B:Int→Fw.Bx) (ww wh:Int):List Fw.Ld:=if shn T 1 0=true then tl B ww wh 64 (rootB B ww wh) else []
noncomputable def layGB (T:Tr.T) (B:Int→Fw.Bx) (ww wh:Int):Lit→Option Value:=gputs (fun _=>none) (layLB T B ww wh)
set_option maxHeartbeats 8000000 in
theorem flayB_any (B:Int→Fw.Bx) {w:World} {t N:Nat} {L:Lay} {T:Tr.T} (h:Rep w t L T N) (H:Tr.WF T) (hlen:∀ z nd,T z=some nd→nd.kids.length≤64) (hst:∀ z nd,T z=some nd→0≤nd.sty.c 0∧nd.sty.c 0≤3) (hBT:∀ z,Dsh T z→B z=bxT T z) (ww wh:Int)
  (hb1:Fw.cst B 64 0 + tcst B 64 0<maxLen) (hb2:(tl B (max ww 0) (max wh 0) 64 (rootB B (max ww 0) (max wh 0))).length<maxLen) (hb3:(shs T 64 0).length<maxLen) :
  Calls Tryz.prog 18 #[.pointer (some ⟨t,0,none⟩),.int .i64 ww,.int .i64 wh] w fun e w'=>(∃ b nr,e = .returned (.map (some b))∧w.heap.size≤b∧GM 3 w' b nr (layGB T B (max ww 0) (max wh 0))∧nr≤(layLB T B (max ww 0) (max wh 0)).length)∧Below w.heap.size w w':=by
 obtain ⟨rd,hrd,hru⟩:=H.root
 have hdp:Tr.Dp T 0 0:= .root hrd
 obtain ⟨mw,hmw⟩:∃ m,max ww 0=m:=⟨_,rfl⟩
 obtain ⟨mh,hmh⟩:∃ m,max wh 0=m:=⟨_,rfl⟩
 rw [hmw,hmh] at hb2 ⊢
 have keyN:=fnewlay_any mw mh w
 have HH:=Lib.hid h
 have HB1:=Lib.hid hb1
 have HB2:=Lib.hid hb2
 have HB3:=Lib.hid hb3
 clear h hb1 hb2 hb3
 go_enter Tryz.func18,Tryz.ntmps18
 go_upto_region 2 with (go_at_call 42;(with_reducible refine keyN.mono ?_);rintro e' w1 ⟨⟨lb,bm,km,pm,rm,rfl,⟨glb,gbm,gkm,gpm,grm⟩,⟨nlb,nlk,nlp,nlr,nbk,nbp,nbr,nkp,nkr,npr⟩,hAl,hGb,hKM,hGp,hGr⟩,hw1⟩)
 have HR1:=Lib.hid (HH.out.after hw1)
 obtain ⟨b,hb⟩:∃ b,shn T 1 0=b:=⟨_,rfl⟩
 have keyS:=fshown_some HR1.out (fun nd hq=>by rw [hrd] at hq;injection hq with hq;rw [← hq];exact hru) hdp
 rw [show shn T (0 + 1) 0=b from hb] at keyS
 cases b with
 | false =>
   have HLG:=Lib.hid (show layGB T B mw mh=(fun _=>none)∧(layLB T B mw mh).length=0 by unfold layGB layLB;rw [hb];exact ⟨rfl,rfl⟩)
   clear hb
   go_upto_region 5 with (go_at_call 23;(with_reducible refine keyS.mono ?_);rintro e' w2 ⟨rfl,hw2⟩)
   have hA2:=hAl.keep hw2
   have hG2:=Lib.hid (hGr.keep hw2)
   obtain ⟨lY,cY0,cY1,cY2,cY3,cY4,cY5⟩:=At.six hA2
   have hw12:Below w.heap.size w w2:=Below.after2 hw1 (Nat.le_refl _) hw2
   go_wp2
   go_ret
   exact ⟨⟨rm,0,rfl,grm,by rw [HLG.out.1];exact hG2.out,Nat.zero_le _⟩,hw12⟩
 | true =>
   have HLG:=Lib.hid (show layGB T B mw mh=gputs (fun _=>none) (tl B mw mh 64 (rootB B mw mh))∧layLB T B mw mh=tl B mw mh 64 (rootB B mw mh) by unfold layGB layLB;rw [hb];exact ⟨rfl,rfl⟩)
   have h03:(stOf T 0).c 0≠3:=by
    have q:=hb
    unfold shn at q
    rw [hrd] at q
    simp only [shn,Bool.and_true,bne_iff_ne,ne_eq] at q
    unfold stOf
    rw [hrd]
    exact q
   clear hb
   have hWk:=(wk_tree H hlen hst h03).of hBT
   have hib:ibOf T 0=false:=by
    unfold ibOf upT
    rw [hrd]
    show ((T rd.up).isSome && _)=false
    rw [hru]
    cases hq:T (-1) with
    | none=>rfl
    | some nd=>have:=H.range _ _ hq;omega
   have hup:∀ z nd,T z=some nd→∀ k ∈ nd.kids,∃ kd,T k=some kd∧kd.up=z:=fun z nd hz k hk=>(H.kid z nd k hz hk).2
   go_upto_region 3 with (go_at_call 23;(with_reducible refine keyS.mono ?_);rintro e' w2 ⟨rfl,hw2⟩)
   have hw12:Below w.heap.size w w2:=Below.after2 hw1 (Nat.le_refl _) hw2
   have hRd0:Rd w2 T bm 0 (fun _=>none):=⟨⟨_,hGb.keep hw2,fun z hz=>rfl⟩,fun z e he=>by cases he⟩
   have keyR:=fread_any (t:=t) (N:=N) (L:=L) (T:=T) (lb:=lb) (bm:=bm) (km:=km) (pm:=pm) (rm:=rm) (ww:=mw) (wh:=mh) hup (fun b hb e=>by have:=owned_lt HH.out hb;omega) 64 0 w2 0 (fun _=>none) H.fit0 (HR1.out.after hw2) (hAl.keep hw2) hRd0 (by have:=HB3.out;omega)
   rw [hib] at keyR
   have hlt1:=hGp.lt
   have hlt2:=hGr.lt
   have hlt3:=hKM.lt
   have hlt4:=hAl.lt
   have hlt5:=hw2.size
   have HA:=Lib.hid (hAl.keep hw2)
   have HK:=Lib.hid (hKM.keep _ _ _ hw2)
   have HGP:=Lib.hid (hGp.keep hw2)
   have HGR:=Lib.hid (hGr.keep hw2)
   clear keyN keyS hAl hGb hKM hGp hGr hw2 hRd0
   go_upto_region 4 with (go_at_call 43;(with_reducible refine keyR.mono ?_);rintro e' w3 ⟨rfl,⟨nE,E,hRd, -, -, hE⟩,hO3⟩)
   obtain ⟨Y,hY⟩:∃ Y:Lyt,Y=⟨lb,bm,km,pm,rm,mw,mh,fun z=>((E z).map (·.bl)).getD 0,fun z=>((E z).map (·.vf)).getD undef,fun z=>((E z).map (·.va)).getD undef⟩:=⟨_,rfl⟩
   have hYlb:Y.lb=lb:=by rw [hY]
   have hYbm:Y.bm=bm:=by rw [hY]
   have hYkm:Y.km=km:=by rw [hY]
   have hYpm:Y.pm=pm:=by rw [hY]
   have hYrm:Y.rm=rm:=by rw [hY]
   have hYww:Y.ww=mw:=by rw [hY]
   have hYwh:Y.wh=mh:=by rw [hY]
   have hs3:=hO3.size
   have HA3:=Lib.hid (HA.out.out (M:=fun b=>b=bm) nlb hO3)
   have HGP3:=Lib.hid (HGP.out.out (M:=fun b=>b=bm) nbp.symm hO3)
   have HGR3:=Lib.hid (HGR.out.out (M:=fun b=>b=bm) nbr.symm hO3)
   have hRO:RO w3 Y B (Dsh T) KMp:={
    lay:=by rw [hYlb,hYww,hYwh,hYbm,hYkm,hYpm,hYrm];exact HA3.out
    boxes:=by
     obtain ⟨g,h1,h2⟩:=hRd.gm
     rw [hYbm]
     refine ⟨nE,g,h1,fun z hz => ?_⟩
     obtain ⟨e,he⟩:=Option.isSome_iff_exists.1 (hE z hz)
     rw [h2 z (hRd.box z e he).1,he,hY]
     simp [he]
    box:=fun z hz=>by
     obtain ⟨e,he⟩:=Option.isSome_iff_exists.1 (hE z hz)
     have h1:=(hRd.box z e he).2
     have e1:Y.bl z=e.bl:=by rw [hY];simp [he]
     have e2:Y.vf z=e.vf:=by rw [hY];simp [he]
     have e3:Y.va z=e.va:=by rw [hY];simp [he]
     rw [e1,e2,e3,hBT z hz]
     exact h1
    kinds:=by rw [hYkm];exact KMp.out _ _ _ HK.out (hO3.mono fun b _ h=>by rw [h];exact nbk)
    wf:=fun z hz=>by
     obtain ⟨e,he⟩:=Option.isSome_iff_exists.1 (hE z hz)
     exact (hRd.box z e he).1
    pmo:=by rw [hYpm];exact HGP3.out.obj
    pmb:=by rw [hYpm,hYbm];exact nbp.symm
    pmk:=by rw [hYpm,hYkm];exact nkp.symm
    pmr:=by rw [hYpm,hYrm];exact npr }
   have hKp:Kp Y B (Fd T) 0 (fun b=>b=pm) w3:=⟨hYpm,fun _=>none,by rw [hYpm];exact HGP3.out,fun z a b v _ _ _ hg=>by cases hg⟩
   have hD0:Dsh T 0:=shs_self H.fit0
   have hF0:Fd T 0=64:=by unfold Fd;rw [depOf_dp hdp]
   have hrb:Y.rm≠Y.bm:=by rw [hYrm,hYbm];exact nbr.symm
   have hrk:Y.rm≠Y.km:=by rw [hYrm,hYkm];exact nkr.symm
   have keyL:=(both_ok Y hWk 64).2
   have keyT:=tell_all Y hWk (fun z hz=>by rw [hBT z hz];exact wk_apart H z hz) (fun z hz=>by rw [hBT z hz];exact wk_aplen H hlen z hz) hrb hrk 64
   have hbd0:=Fw.wth_bd (B 0).sty 0 mw mw (-1)
   have hbd1:=Fw.wth_bd (B 0).sty 1 mw mh (-1)
   obtain ⟨x,hx0⟩:∃ x,rootB B mw mh=x:=⟨_,rfl⟩
   have hxi:x.id=0∧Wf x.i0∧Wf x.i1:=by
    rw [← hx0]
    exact ⟨rfl,by rw [wf_iff];exact ⟨by have:=hbd0.1;show _≤Fw.wth (B 0).sty 0 mw mw (-1);omega,hbd0.2⟩,by rw [wf_iff];exact ⟨by have:=hbd1.1;show _≤Fw.wth (B 0).sty 1 mw mh (-1);omega,hbd1.2⟩⟩
   have hlx:Fw.lay B 64 0 mw mh (-1) (-1)=x:=hx0
   have HB2':=HB2
   rw [hx0] at HB2' HLG
   obtain ⟨lY,cY0,cY1,cY2,cY3,cY4,cY5⟩:=At.six HA3.out
   have HRO:=Lib.hid hRO
   have HKP:=Lib.hid hKp
   have HKL:=Lib.hid keyL
   have HKT:=Lib.hid keyT
   have HY:=Lib.hid (show Y.lb=lb∧Y.pm=pm∧Y.rm=rm∧Y.km=km∧Y.ww=mw∧Y.wh=mh from ⟨hYlb,hYpm,hYrm,hYkm,hYww,hYwh⟩)
   clear hRO hKp keyL keyT hY hYlb hYbm hYkm hYpm hYrm hYww hYwh HA HGP HGR HK hbd0 hbd1 hx0 HB2 keyR hRd hE
   have hSd:w3.drew.cell? ⟨lb,0,none⟩=some (.int .i64 mw)∧w3.drew.cell? ⟨lb,1,none⟩=some (.int .i64 mh):=⟨cY0,cY1⟩
   refine tkX (S:=fun X=>X.cell? ⟨lb,0,none⟩=some (.int .i64 mw)∧X.cell? ⟨lb,1,none⟩=some (.int .i64 mh)) 9 ?_ ?_
   · exact hSd
   intro hS0
   clear hSd
   refine tkC 0 ?_
   refine tkC 1 ?_
   refine tkC 2 ?_
   refine tkC 3 ?_
   refine tkC 4 ?_
   refine tkC 5 ?_
   refine tk1 6 ?_
   refine Drawn.Step.call tkL (funset_any _) ?_
   rintro e' w5 ⟨rfl,hb5⟩
   have hb35:Below w3.heap.size w3 w5:=(Below.drew (Below.refl _ _)).trans hb5
   refine ⟨_,rfl,fun _=>⟨(hb35.cell (p:=⟨lb,0,none⟩) lY).trans cY0,(hb35.cell (p:=⟨lb,1,none⟩) lY).trans cY1⟩,?_⟩
   (try simp only [tkp,tka,tkz,tks])
   have hRO5:=HRO.out.keep KMp.keep hb35
   have hKP5:=HKP.out.out (M:=fun _=>False) (Out.of_below hb35) fun _ _ q=>q
   have hs5:=hb35.size
   have keyL:=HKL.out 0 mw mh (-1) (-1) w5 0 (fun b=>b=pm) hD0 hF0 hRO5 hKP5 (fun b hb=>by rw [hb];omega) (by rw [HY.out.2.2.2.1];omega) (by have:=HB1.out;omega)
   rw [hlx,HY.out.1] at keyL
   refine tk1 7 ?_
   refine Drawn.Step.call tkL keyL ?_
   rintro e' w6 ⟨rfl,n2,P2,hn2,hK2,hP2,hO6⟩
   rw [HY.out.2.1] at hO6
   have hO36:Out (fun b=>b=pm) w3 w6:=(Out.of_below hb35).trans hO6
   refine ⟨_,rfl,fun _=>⟨(Out.cell hO36 0 lY nlp).trans cY0,(Out.cell hO36 1 lY nlp).trans cY1⟩,?_⟩
   (try simp only [tkp,tka,tkz,tks])
   have hRO6:=hRO5.fresh KMp.out (by rw [HY.out.2.2.2.1];omega) (hO6.mono fun b _ h => .inl (by rw [HY.out.2.1];exact h)) hK2.pm.2
   have hG6:=HGR3.out.out (M:=fun b=>b=pm) npr.symm hO36
   have keyT:=HKT.out x w6 n2 (fun b=>P2 b∧b<w6.heap.size) 0 (fun _=>none) (by rw [hxi.1];exact hD0) (by rw [hxi.1];exact hF0) hxi.2.1 hxi.2.2 hRO6 hK2.cut (fun b hb=>hb.2) (fun hb=>by
    rw [HY.out.2.2.1] at hb
    rcases hP2 _ hb.1 with q | q
    · exact npr q.symm
    · omega) (by rw [HY.out.2.2.1];exact hG6) (by rw [hxi.1];have:=HB1.out;omega) (by rw [HY.out.2.2.2.2.1,HY.out.2.2.2.2.2];have:=HB2'.out;omega)
   rw [HY.out.1,HY.out.2.1,HY.out.2.2.1,HY.out.2.2.2.2.1,HY.out.2.2.2.2.2] at keyT
   refine tk1 8 ?_
   refine Drawn.Step.call tkL keyT ?_
   rintro e' w7 ⟨rfl,n3,P3,nr3, -, -, -, hnr3,hG7,hO7⟩
   have hO37:Out (fun b=>b=pm∨b=rm) w3 w7:=(hO36.mono fun b _ h => .inl h).trans hO7
   have hnl:¬ (lb=pm∨lb=rm):=by rintro (h | h);exact nlp h;exact nlr h
   refine ⟨_,rfl,fun _=>⟨(Out.cell hO37 0 lY hnl).trans cY0,(Out.cell hO37 1 lY hnl).trans cY1⟩,?_⟩
   (try simp only [tkp,tka,tkz,tks])
   refine tkE ?_
   have hA7:=HA3.out.out hnl hO37
   have hW7:Below w.heap.size w w7:=by
    have h1:Below w.heap.size w2 w3:=hO3.below hw12.size fun b hb e=>by omega
    have h2:Below w.heap.size w3 w7:=hO37.below (by have:=hw12.size;omega) fun b hb e=>by omega
    exact (hw12.trans h1).trans h2
   have HG7:=Lib.hid hG7
   clear lY cY0 cY1 cY2 cY3 cY4 cY5 hS0 keyT keyL hG7 hG6 hRO6 hRO5 hKP5 hK2
   obtain ⟨lY,cY0,cY1,cY2,cY3,cY4,cY5⟩:=At.six hA7
   go_wp2
   go_ret
   exact ⟨⟨rm,nr3,rfl,grm,by rw [HLG.out.1];exact HG7.out,by rw [HLG.out.2];omega⟩,hW7⟩
theorem flay_any {w:World} {t N:Nat} {L:Lay} {T:Tr.T} (h:Rep w t L T N) (H:Tr.WF T) (hlen:∀ z nd,T z=some nd→nd.kids.length≤64) (hst:∀ z nd,T z=some nd→0≤nd.sty.c 0∧nd.sty.c 0≤3) (ww wh:Int)
  (hb1:Fw.cst (bxT T) 64 0 + tcst (bxT T) 64 0<maxLen) (hb2:(tl (bxT T) (max ww 0) (max wh 0) 64 (rootL T (max ww 0) (max wh 0))).length<maxLen) (hb3:(shs T 64 0).length<maxLen) :
  Calls Tryz.prog 18 #[.pointer (some ⟨t,0,none⟩),.int .i64 ww,.int .i64 wh] w fun e w'=>(∃ b nr,e = .returned (.map (some b))∧w.heap.size≤b∧GM 3 w' b nr (layG T (max ww 0) (max wh 0))∧nr≤(layL T (max ww 0) (max wh 0)).length)∧Below w.heap.size w w' :=
 flayB_any (bxT T) h H hlen hst (fun _ _=>rfl) ww wh hb1 hb2 hb3
end Go.Proofs.YteggipnplbkijaaGreat.Fix
