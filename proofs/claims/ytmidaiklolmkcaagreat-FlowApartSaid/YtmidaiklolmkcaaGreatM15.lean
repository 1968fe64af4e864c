/- What functions of the program do, in plain numbers, part 15; no conditions. -/
import Derived.Test.YtmidaiklolmkcaaGreatM14
set_option linter.unusedVariables false
set_option linter.unusedSimpArgs false
set_option linter.unusedSectionVars false
set_option maxRecDepth 100000
set_option maxHeartbeats 16000000
namespace Go.Proofs.YtmidaiklolmkcaaGreat.ak
open Go Fix
section
variable {P:Program} {ops:Array Oper} {Q:Exit->Act->World->Prop} {md:Region.Mode} {S:World->Prop} {m:Nat}
theorem yV{i j k:Nat}{o o2 o3:Oper}{fuel:Nat}{listed:Array Bool}{a:Act}{w:World}(hr:Region.ready md ops listed=[i,j,k])(hi0:ops.toList[i]? = some o)(hj0:ops.toList[j]? = some o2)(hk0:ops.toList[k]? = some o3)(hw:Region.wanted o (yielded ops a.tmps)=true)(hw2:Region.wanted o2 (yielded ops a.tmps)=true)(hw3:Region.wanted o3 (yielded ops a.tmps)=true)
  (h:Step P (λu w'=>(i<m->S w')/\aZ P md ops Q S m fuel (listed.setIfInBounds i true) (a.put o.dst u) w') ((execOp a.eval o).run P w))
  (h2:Step P (λu w'=>(j<m->S w')/\aZ P md ops Q S m fuel (listed.setIfInBounds j true) (a.put o2.dst u) w') ((execOp a.eval o2).run P w))
  (h3:Step P (λu w'=>(k<m->S w')/\aZ P md ops Q S m fuel (listed.setIfInBounds k true) (a.put o3.dst u) w') ((execOp a.eval o3).run P w)):aZ P md ops Q S m (fuel+1) listed a w :=
 ⟨by rw[hr];simp,λq hq=>by
  rw[hr]at hq;rcases(show q=i\/q=j\/q=k by simpa using hq)with rfl|rfl|rfl
  . exact⟨o,mK hi0,.inl ⟨hw,h⟩⟩
  . exact⟨o2,mK hj0,.inl ⟨hw2,h2⟩⟩
  . exact⟨o3,mK hk0,.inl ⟨hw3,h3⟩⟩⟩
theorem V8{i j k q:Nat}{o o2 o3 o4:Oper}{fuel:Nat}{listed:Array Bool}{a:Act}{w:World}(hr:Region.ready md ops listed=[i,j,k,q])(hi0:ops.toList[i]? = some o)(hj0:ops.toList[j]? = some o2)(hk0:ops.toList[k]? = some o3)(hq0:ops.toList[q]? = some o4)(hw:Region.wanted o (yielded ops a.tmps)=true)(hw2:Region.wanted o2 (yielded ops a.tmps)=true)(hw3:Region.wanted o3 (yielded ops a.tmps)=true)(hw4:Region.wanted o4 (yielded ops a.tmps)=true)
  (h:Step P (λu w'=>(i<m->S w')/\aZ P md ops Q S m fuel (listed.setIfInBounds i true) (a.put o.dst u) w') ((execOp a.eval o).run P w))
  (h2:Step P (λu w'=>(j<m->S w')/\aZ P md ops Q S m fuel (listed.setIfInBounds j true) (a.put o2.dst u) w') ((execOp a.eval o2).run P w))
  (h3:Step P (λu w'=>(k<m->S w')/\aZ P md ops Q S m fuel (listed.setIfInBounds k true) (a.put o3.dst u) w') ((execOp a.eval o3).run P w))
  (h4:Step P (λu w'=>(q<m->S w')/\aZ P md ops Q S m fuel (listed.setIfInBounds q true) (a.put o4.dst u) w') ((execOp a.eval o4).run P w)):aZ P md ops Q S m (fuel+1) listed a w :=
 ⟨by rw[hr];simp,λp hp=>by
  rw[hr]at hp;rcases(show p=i\/p=j\/p=k\/p=q by simpa using hp)with rfl|rfl|rfl|rfl
  . exact⟨o,mK hi0,.inl ⟨hw,h⟩⟩
  . exact⟨o2,mK hj0,.inl ⟨hw2,h2⟩⟩
  . exact⟨o3,mK hk0,.inl ⟨hw3,h3⟩⟩
  . exact⟨o4,mK hq0,.inl ⟨hw4,h4⟩⟩⟩
end
end Go.Proofs.YtmidaiklolmkcaaGreat.ak
namespace Go.Proofs.YtmidaiklolmkcaaGreat.Fix
open Go.ChangeShapes Go.WideShapes Go.ChangeAt Go.RowKit
theorem LG(ww wh:Int)(w:World):Calls Tryz.prog 22 #[.agg #[.int .i64 ww,.int .i64 wh]] w λe w'=>(∃lb bm km pm rm,e=.returned (.pointer (some ⟨lb,0,none⟩))/\(w.heap.size<=lb/\w.heap.size<=bm/\w.heap.size<=km/\w.heap.size<=pm/\w.heap.size<=rm)/\(lb≠bm/\lb≠km/\lb≠pm/\lb≠rm/\bm≠km/\bm≠pm/\bm≠rm/\km≠pm/\km≠rm/\pm≠rm) /\
  At w' lb (.cells #[.int .i64 ww,.int .i64 wh,.map (some bm),.map (some km),.map (some pm),.map (some rm)] 83)/\GM 3 w' bm 0 (λ_=>none)/\nA w' km/\GM 75 w' pm 0 (λ_=>none)/\GM 3 w' rm 0 (λ_=>none))/\Below w.heap.size w w':=by
 have hmm:=@run_makeMap Tryz.prog;go_enter Tryz.func22,Tryz.ntmps22
 go_upto_region 1 with(fail)
 have A0:At (w.alloc (.cells #[.int .i64 ww,.int .i64 wh] 71)) w.heap.size (.cells #[.int .i64 ww,.int .i64 wh] 71):=At.new _ _;have hB1:Below w.heap.size w (w.alloc (.cells #[.int .i64 ww,.int .i64 wh] 71)):=Below.alloc' aF _;generalize w.alloc (.cells #[.int .i64 ww,.int .i64 wh] 71)=w1 at *;obtain⟨l0,c00,c01⟩:=At.two A0;have hBW:∀X,Below w1.heap.size w1 X->Below w.heap.size w X:=λX h=>Below.ay hB1 aD h;have hws:=hB1.size
 refine ak.kE (λa0 a W5=>∃(lb bm km pm rm:Nat) (u3 u4 u5 u6 u7 u8 u9:Value),a={ a0 with tmps:=(((((((a0.tmps.setIfInBounds 3 u3).setIfInBounds 4 u4).setIfInBounds 5 u5).setIfInBounds 6 u6).setIfInBounds 7 u7).setIfInBounds 8 u8).setIfInBounds 9 u9).setIfInBounds 2 (.pointer (some ⟨lb,0,none⟩)) } /\
  (w1.heap.size<=lb/\w1.heap.size<=bm/\w1.heap.size<=km/\w1.heap.size<=pm/\w1.heap.size<=rm)/\(lb≠bm/\lb≠km/\lb≠pm/\lb≠rm/\bm≠km/\bm≠pm/\bm≠rm/\km≠pm/\km≠rm/\pm≠rm) /\
  At W5 lb (.cells #[.int .i64 ww,.int .i64 wh,.map (some bm),.map (some km),.map (some pm),.map (some rm)] 83)/\GM 3 W5 bm 0 (λ_=>none)/\nA W5 km/\GM 75 W5 pm 0 (λ_=>none)/\GM 3 W5 rm 0 (λ_=>none)/\Below w1.heap.size w1 W5) ?_ ?_
 . refine lF (S:=Below w1.heap.size w1) 8 ?_ ?_
   . exact(Below.refl _ _).drew
   intro hx;refine aM 0 ?_;clear l0 c00 c01 hBW hws hB1 A0;generalize w1.drew=W0 at *;refine ak.V8 (i:=1) (j:=2) (k:=3) (q:=4) jD rfl rfl rfl rfl aX aX aX aX ?_ ?_ ?_ ?_
   . refine ak.Step.value (u:=.map (some W0.heap.size)) (w':=W0.alloc (.map #[] 0)) dV ?_
     obtain⟨cZ,bF,Gb,hb,dH⟩:∃w9,w9=W0.alloc (.map #[] 0)/\GM 3 w9 W0.heap.size 0 (λ_=>none)/\Below W0.heap.size W0 w9/\W0.heap.size<w9.heap.size:=⟨_,rfl,GM.made _ _,Below.alloc' aF _,by simp⟩;rw[<-bF];clear bF;obtain⟨mb,hmb⟩:=aA W0.heap.size;rw[hmb]at Gb;rw[hmb];have gb:W0.heap.size<=mb:=Nat.le_of_eq hmb;have lb:mb<cZ.heap.size:=hmb▸dH;clear hmb dH;replace gb:w1.heap.size<=mb:=by have:=hx.size;omega
     replace hx:=Below.ay hx aD hb;clear hb;refine⟨λ_=>hx,?_⟩
     (try simp only[bL,bM,bN,tks])
     refine ak.yV (i:=2) (j:=3) (k:=4) jD rfl rfl rfl aX aX aX ?_ ?_ ?_
     . refine ak.Step.call dV (jN _) ?_
       rintro e bS ⟨⟨mk,rfl,gk,Gk⟩,hb⟩;have lk:mk<bS.heap.size:=by obtain⟨_,_,q,_⟩:=Gk;exact q.lt
       have YC:mb<mk:=by omega
       replace Gb:=Gb.keep hb;replace lb:mb<bS.heap.size:=by have:=hb.size;omega
       replace gk:w1.heap.size<=mk:=by have:=hx.size;omega
       replace hx:=Below.ay hx aD hb;clear hb;refine⟨_,rfl,λ_=>hx,?_⟩;exact Zl
     . refine ak.Step.value (u:=.map (some cZ.heap.size)) (w':=cZ.alloc (.map #[] 0)) dV ?_
       obtain⟨bS,bF,Gp,hb,dH⟩:∃w9,w9=cZ.alloc (.map #[] 0)/\GM 75 w9 cZ.heap.size 0 (λ_=>none)/\Below cZ.heap.size cZ w9/\cZ.heap.size<w9.heap.size:=⟨_,rfl,GM.made _ _,Below.alloc' aF _,by simp⟩;rw[<-bF];clear bF;obtain⟨mp,hmp⟩:=aA cZ.heap.size;rw[hmp]at Gp;rw[hmp];have gp:cZ.heap.size<=mp:=Nat.le_of_eq hmp;have lp:mp<bS.heap.size:=hmp▸dH;clear hmp dH;have Ya:mb<mp:=by omega
       replace Gb:=Gb.keep hb;replace lb:mb<bS.heap.size:=by have:=hb.size;omega
       replace gp:w1.heap.size<=mp:=by have:=hx.size;omega
       exact Zs
     . refine ak.Step.value (u:=.map (some cZ.heap.size)) (w':=cZ.alloc (.map #[] 0)) dV ?_
       obtain⟨bS,bF,Gr,hb,dH⟩:∃w9,w9=cZ.alloc (.map #[] 0)/\GM 3 w9 cZ.heap.size 0 (λ_=>none)/\Below cZ.heap.size cZ w9/\cZ.heap.size<w9.heap.size:=⟨_,rfl,GM.made _ _,Below.alloc' aF _,by simp⟩;rw[<-bF];clear bF;obtain⟨mr,hmr⟩:=aA cZ.heap.size;rw[hmr]at Gr;rw[hmr];have gr:cZ.heap.size<=mr:=Nat.le_of_eq hmr;have lr:mr<bS.heap.size:=hmr▸dH;clear hmr dH;have Yb:mb<mr:=by omega
       replace Gb:=Gb.keep hb;replace lb:mb<bS.heap.size:=by have:=hb.size;omega
       replace gr:w1.heap.size<=mr:=by have:=hx.size;omega
       exact Zr
   . refine ak.Step.call dV (jN _) ?_
     rintro e cZ ⟨⟨mk,rfl,gk,Gk⟩,hb⟩;have lk:mk<cZ.heap.size:=by obtain⟨_,_,q,_⟩:=Gk;exact q.lt
     replace gk:w1.heap.size<=mk:=by have:=hx.size;omega
     replace hx:=Below.ay hx aD hb;clear hb;refine⟨_,rfl,λ_=>hx,?_⟩
     (try simp only[bL,bM,bN,tks])
     refine ak.yV (i:=1) (j:=3) (k:=4) jD rfl rfl rfl aX aX aX ?_ ?_ ?_
     . refine ak.Step.value (u:=.map (some cZ.heap.size)) (w':=cZ.alloc (.map #[] 0)) dV ?_
       obtain⟨bS,bF,Gb,hb,dH⟩:∃w9,w9=cZ.alloc (.map #[] 0)/\GM 3 w9 cZ.heap.size 0 (λ_=>none)/\Below cZ.heap.size cZ w9/\cZ.heap.size<w9.heap.size:=⟨_,rfl,GM.made _ _,Below.alloc' aF _,by simp⟩;rw[<-bF];clear bF;obtain⟨mb,hmb⟩:=aA cZ.heap.size;rw[hmb]at Gb;rw[hmb];have gb:cZ.heap.size<=mb:=Nat.le_of_eq hmb;have lb:mb<bS.heap.size:=hmb▸dH;clear hmb dH;have YC:mk<mb:=by omega
       replace Gk:=nA.keep _ _ _ Gk hb;replace lk:mk<bS.heap.size:=by have:=hb.size;omega
       replace gb:w1.heap.size<=mb:=by have:=hx.size;omega
       replace hx:=Below.ay hx aD hb;clear hb;refine⟨λ_=>hx,?_⟩;exact Zl
     . refine ak.Step.value (u:=.map (some cZ.heap.size)) (w':=cZ.alloc (.map #[] 0)) dV ?_
       obtain⟨bS,bF,Gp,hb,dH⟩:∃w9,w9=cZ.alloc (.map #[] 0)/\GM 75 w9 cZ.heap.size 0 (λ_=>none)/\Below cZ.heap.size cZ w9/\cZ.heap.size<w9.heap.size:=⟨_,rfl,GM.made _ _,Below.alloc' aF _,by simp⟩;rw[<-bF];clear bF;obtain⟨mp,hmp⟩:=aA cZ.heap.size;rw[hmp]at Gp;rw[hmp];have gp:cZ.heap.size<=mp:=Nat.le_of_eq hmp;have lp:mp<bS.heap.size:=hmp▸dH;clear hmp dH;have TU:mk<mp:=by omega
       replace Gk:=nA.keep _ _ _ Gk hb;replace lk:mk<bS.heap.size:=by have:=hb.size;omega
       replace gp:w1.heap.size<=mp:=by have:=hx.size;omega
       replace hx:=Below.ay hx aD hb;clear hb;refine⟨λ_=>hx,?_⟩;exact Zn
     . refine ak.Step.value (u:=.map (some cZ.heap.size)) (w':=cZ.alloc (.map #[] 0)) dV ?_
       obtain⟨bS,bF,Gr,hb,dH⟩:∃w9,w9=cZ.alloc (.map #[] 0)/\GM 3 w9 cZ.heap.size 0 (λ_=>none)/\Below cZ.heap.size cZ w9/\cZ.heap.size<w9.heap.size:=⟨_,rfl,GM.made _ _,Below.alloc' aF _,by simp⟩;rw[<-bF];clear bF;obtain⟨mr,hmr⟩:=aA cZ.heap.size;rw[hmr]at Gr;rw[hmr];have gr:cZ.heap.size<=mr:=Nat.le_of_eq hmr;have lr:mr<bS.heap.size:=hmr▸dH;clear hmr dH;have YB:mk<mr:=by omega
       replace Gk:=nA.keep _ _ _ Gk hb;replace lk:mk<bS.heap.size:=by have:=hb.size;omega
       replace gr:w1.heap.size<=mr:=by have:=hx.size;omega
       replace hx:=Below.ay hx aD hb;clear hb;refine⟨λ_=>hx,?_⟩;exact Zm
   . refine ak.Step.value (u:=.map (some W0.heap.size)) (w':=W0.alloc (.map #[] 0)) dV ?_
     obtain⟨cZ,bF,Gp,hb,dH⟩:∃w9,w9=W0.alloc (.map #[] 0)/\GM 75 w9 W0.heap.size 0 (λ_=>none)/\Below W0.heap.size W0 w9/\W0.heap.size<w9.heap.size:=⟨_,rfl,GM.made _ _,Below.alloc' aF _,by simp⟩;rw[<-bF];clear bF;obtain⟨mp,hmp⟩:=aA W0.heap.size;rw[hmp]at Gp;rw[hmp];have gp:W0.heap.size<=mp:=Nat.le_of_eq hmp;have lp:mp<cZ.heap.size:=hmp▸dH;clear hmp dH;replace gp:w1.heap.size<=mp:=by have:=hx.size;omega
     replace hx:=Below.ay hx aD hb;clear hb;refine⟨λ_=>hx,?_⟩
     (try simp only[bL,bM,bN,tks])
     refine ak.yV (i:=1) (j:=2) (k:=4) jD rfl rfl rfl aX aX aX ?_ ?_ ?_
     . refine ak.Step.value (u:=.map (some cZ.heap.size)) (w':=cZ.alloc (.map #[] 0)) dV ?_
       obtain⟨bS,bF,Gb,hb,dH⟩:∃w9,w9=cZ.alloc (.map #[] 0)/\GM 3 w9 cZ.heap.size 0 (λ_=>none)/\Below cZ.heap.size cZ w9/\cZ.heap.size<w9.heap.size:=⟨_,rfl,GM.made _ _,Below.alloc' aF _,by simp⟩;rw[<-bF];clear bF;obtain⟨mb,hmb⟩:=aA cZ.heap.size;rw[hmb]at Gb;rw[hmb];have gb:cZ.heap.size<=mb:=Nat.le_of_eq hmb;have lb:mb<bS.heap.size:=hmb▸dH;clear hmb dH;have Ya:mp<mb:=by omega
       replace Gp:=Gp.keep hb;replace lp:mp<bS.heap.size:=by have:=hb.size;omega
       replace gb:w1.heap.size<=mb:=by have:=hx.size;omega
       exact Zs
     . refine ak.Step.call dV (jN _) ?_
       rintro e bS ⟨⟨mk,rfl,gk,Gk⟩,hb⟩;have lk:mk<bS.heap.size:=by obtain⟨_,_,q,_⟩:=Gk;exact q.lt
       have TU:mp<mk:=by omega
       replace Gp:=Gp.keep hb;replace lp:mp<bS.heap.size:=by have:=hb.size;omega
       replace gk:w1.heap.size<=mk:=by have:=hx.size;omega
       replace hx:=Below.ay hx aD hb;clear hb;refine⟨_,rfl,λ_=>hx,?_⟩;exact Zn
     . refine ak.Step.value (u:=.map (some cZ.heap.size)) (w':=cZ.alloc (.map #[] 0)) dV ?_
       obtain⟨bS,bF,Gr,hb,dH⟩:∃w9,w9=cZ.alloc (.map #[] 0)/\GM 3 w9 cZ.heap.size 0 (λ_=>none)/\Below cZ.heap.size cZ w9/\cZ.heap.size<w9.heap.size:=⟨_,rfl,GM.made _ _,Below.alloc' aF _,by simp⟩;rw[<-bF];clear bF;obtain⟨mr,hmr⟩:=aA cZ.heap.size;rw[hmr]at Gr;rw[hmr];have gr:cZ.heap.size<=mr:=Nat.le_of_eq hmr;have lr:mr<bS.heap.size:=hmr▸dH;clear hmr dH;have Jy:mp<mr:=by omega
       replace Gp:=Gp.keep hb;replace lp:mp<bS.heap.size:=by have:=hb.size;omega
       replace gr:w1.heap.size<=mr:=by have:=hx.size;omega
       exact Zt
   . refine ak.Step.value (u:=.map (some W0.heap.size)) (w':=W0.alloc (.map #[] 0)) dV ?_
     obtain⟨cZ,bF,Gr,hb,dH⟩:∃w9,w9=W0.alloc (.map #[] 0)/\GM 3 w9 W0.heap.size 0 (λ_=>none)/\Below W0.heap.size W0 w9/\W0.heap.size<w9.heap.size:=⟨_,rfl,GM.made _ _,Below.alloc' aF _,by simp⟩;rw[<-bF];clear bF;obtain⟨mr,hmr⟩:=aA W0.heap.size;rw[hmr]at Gr;rw[hmr];have gr:W0.heap.size<=mr:=Nat.le_of_eq hmr;have lr:mr<cZ.heap.size:=hmr▸dH;clear hmr dH;replace gr:w1.heap.size<=mr:=by have:=hx.size;omega
     replace hx:=Below.ay hx aD hb;clear hb;refine⟨λ_=>hx,?_⟩
     (try simp only[bL,bM,bN,tks])
     refine ak.yV (i:=1) (j:=2) (k:=3) jD rfl rfl rfl aX aX aX ?_ ?_ ?_
     . refine ak.Step.value (u:=.map (some cZ.heap.size)) (w':=cZ.alloc (.map #[] 0)) dV ?_
       obtain⟨bS,bF,Gb,hb,dH⟩:∃w9,w9=cZ.alloc (.map #[] 0)/\GM 3 w9 cZ.heap.size 0 (λ_=>none)/\Below cZ.heap.size cZ w9/\cZ.heap.size<w9.heap.size:=⟨_,rfl,GM.made _ _,Below.alloc' aF _,by simp⟩;rw[<-bF];clear bF;obtain⟨mb,hmb⟩:=aA cZ.heap.size;rw[hmb]at Gb;rw[hmb];have gb:cZ.heap.size<=mb:=Nat.le_of_eq hmb;have lb:mb<bS.heap.size:=hmb▸dH;clear hmb dH;have Yb:mr<mb:=by omega
       replace Gr:=Gr.keep hb;replace lr:mr<bS.heap.size:=by have:=hb.size;omega
       replace gb:w1.heap.size<=mb:=by have:=hx.size;omega
       exact Zr
     . refine ak.Step.call dV (jN _) ?_
       rintro e bS ⟨⟨mk,rfl,gk,Gk⟩,hb⟩;have lk:mk<bS.heap.size:=by obtain⟨_,_,q,_⟩:=Gk;exact q.lt
       have YB:mr<mk:=by omega
       replace Gr:=Gr.keep hb;replace lr:mr<bS.heap.size:=by have:=hb.size;omega
       replace gk:w1.heap.size<=mk:=by have:=hx.size;omega
       replace hx:=Below.ay hx aD hb;clear hb;refine⟨_,rfl,λ_=>hx,?_⟩;exact Zm
     . refine ak.Step.value (u:=.map (some cZ.heap.size)) (w':=cZ.alloc (.map #[] 0)) dV ?_
       obtain⟨bS,bF,Gp,hb,dH⟩:∃w9,w9=cZ.alloc (.map #[] 0)/\GM 75 w9 cZ.heap.size 0 (λ_=>none)/\Below cZ.heap.size cZ w9/\cZ.heap.size<w9.heap.size:=⟨_,rfl,GM.made _ _,Below.alloc' aF _,by simp⟩;rw[<-bF];clear bF;obtain⟨mp,hmp⟩:=aA cZ.heap.size;rw[hmp]at Gp;rw[hmp];have gp:cZ.heap.size<=mp:=Nat.le_of_eq hmp;have lp:mp<bS.heap.size:=hmp▸dH;clear hmp dH;have Jy:mr<mp:=by omega
       replace Gr:=Gr.keep hb;replace lr:mr<bS.heap.size:=by have:=hb.size;omega
       replace gp:w1.heap.size<=mp:=by have:=hx.size;omega
       exact Zt
 . rintro a W5 ⟨lb,bm,km,pm,rm,u3,u4,u5,u6,u7,u8,u9,rfl,hge,hne,hA,h1,h2,h3,h4,p9⟩
   simp only[List.setIfInBounds_toArray,List.set_cons_zero,List.set_cons_succ];have HF:=ah (show(w.heap.size<=lb/\w.heap.size<=bm/\w.heap.size<=km/\w.heap.size<=pm/\w.heap.size<=rm)from⟨by omega,by omega,by omega,by omega,by omega⟩);have HBW:=ah (hBW W5 p9);go_wp2
   go_ret
   exact⟨⟨lb,bm,km,pm,rm,rfl,HF.out,hne,hA,h1,h2,h3,h4⟩,HBW.out⟩
theorem CP(b:Nat)(s:Re.St)(fl ap:Value)(ib:Bool)(w:World)(h:aL w b s fl ap ib):Calls Tryz.prog 91 #[.pointer (some ⟨b,0,none⟩),.int .i64 0] w λx w'=>x=.returned (.bool (Fw.opn s ib 0))/\Below w.heap.size w w':=by
 have d0:w.cell? ⟨b,69,none⟩=some (.int .i64 (Fw.ed s 0)):=h.ext 14;have d1:w.cell? ⟨b,73,none⟩=some (.bool ib):=h.ext 18;have l0:=h.lt;have yc:=ah h.style;clear h;cases ib
 . exact Za
 . cases h0:s.c 0==0
   . exact Za
   . cases h2:s.c 2==0
     . exact Za
     . cases he:Fw.ed s 0==0
       . exact Za
       . exact Za
theorem CO(b:Nat)(s:Re.St)(fl ap:Value)(ib:Bool)(w:World)(h:aL w b s fl ap ib):Calls Tryz.prog 91 #[.pointer (some ⟨b,0,none⟩),.int .i64 1] w λx w'=>x=.returned (.bool (Fw.opn s ib 1))/\Below w.heap.size w w':=by
 have d0:w.cell? ⟨b,70,none⟩=some (.int .i64 (Fw.ed s 2)):=h.ext 15;have d1:w.cell? ⟨b,73,none⟩=some (.bool ib):=h.ext 18;have l0:=h.lt;have yc:=ah h.style;clear h;cases ib
 . exact Z6
 . cases h0:s.c 0==0
   . exact Z6
   . cases h2:s.c 2==0
     . exact Z6
     . cases he:Fw.ed s 2==0
       . exact Z6
       . cases h5:s.c 5==0
         . exact Z6
         . cases h9:s.c 9==0
           . exact Z6
           . exact Z6
theorem qJ{W:World}{base g:Nat}{x:Int}(h:At W g (.cells #[.int .i64 x] 3))(hb:base<=g):W.ownsRow base 3 1 (.slice (some ⟨g,0,none⟩) 1 1) 1 (([x]:List Int).map (Value.int .i64)) :=
 ⟨by simp,.inr ⟨g,1,#[.int .i64 x],rfl,hb,h,by omega,by simp[maxLen],by simp,by simp⟩⟩
theorem Eb(a b:Int)(w:World):(Instr.index 114 (.agg #[.int .i64 a,.int .i64 b]) (.int .i64 0)).run Tryz.prog w=.ok (.int .i64 a) w:=by kernel_rfl
theorem Ec(a b:Int)(w:World):(Instr.index 114 (.agg #[.int .i64 a,.int .i64 b]) (.int .i64 1)).run Tryz.prog w=.ok (.int .i64 b) w:=by kernel_rfl
theorem vL(B:Int->Fw.Bx)(e:Nat):∀(f:Nat) (z:Int),(Fw.meet B e f z).length<=f+1
 | 0,z=>by simp[Fw.meet]
 | f+1,z=>by
   simp only[Fw.meet,List.length_cons];split
   . split
     . have:=vL B e f (by assumption);omega
     . simp
   . simp
section
variable {Y:sj} {B:Int->Fw.Bx} {D:Int->Prop} {KM:World->Nat->Prop}
theorem acU(hK:∀(X X':World) (b:Nat),KM X b->Below X.heap.size X X'->KM X' b)(F:Int->Nat)(Bd:∀z,D z->∀k∈(B z).fl,D k/\F z=F k+1)(hlen:∀z,D z->(B z).fl.length<=10000):∀(f:Nat) (z:Int) (w:World),D z->F z=f->f<=1000->RO w Y B D KM ->
  Calls Tryz.prog 89 #[.pointer (some ⟨Y.lb,0,none⟩),.int .i64 z,.int .i64 0] w λx w'=>(∃v,x=.returned v/\w'.ownsRow w.heap.size 3 1 v (Fw.meet B 0 f z).length ((Fw.meet B 0 f z).map (Value.int .i64)))/\Below w.heap.size w w':=by
 intro f
 induction f with
 | zero =>
   intro z w hz hF hf hR;obtain⟨hbx,hks,_⟩:=hR.box z hz;have hL:=hR.look hz;have AL:=hR.lay;have hRH:=ah hR;have A2:=hbx;have hB:=Below.refl w.heap.size w;generalize hs:(B z).sty=s at *;generalize hib:(B z).ib=ib at *;generalize hfl:(B z).fl=fl at *;obtain⟨A,cp,hvf,hI,hle,hmx,hAn⟩:=hks.ints;rw[hvf]at hbx A2;generalize Y.va z=va at *;generalize Y.bl z=bz at *;have Fu:w.cell? ⟨Y.lb,2,none⟩=some (.map (some Y.bm)):=AL.cell 2;have BJ:=AL.lt;have ZI:=qM;have ix1:=Eb;go_enter Tryz.func89,Tryz.ntmps89
   go_upto_region 3 with(first|(go_at_call 26;(with_reducible refine(iT _).mono ?_);rintro e w1 ⟨rfl,hb⟩;replace hB:=Below.ay hB aD hb;replace A2:=At.keep A2 hb;clear hb)|(go_at_call 77;(with_reducible refine(gy bz s (.slice A fl.length cp) va ib (-1) (-1) _ A2).mono ?_);rintro e w2 ⟨rfl,hb⟩;replace hB:=Below.ay hB aD hb;replace A2:=At.keep A2 hb;clear hb))
   generalize hW:World.alloc _ _=W1;have AM:At W1 w2.heap.size (.cells #[.int .i64 (Fw.mg s 1 0 (-1))] 3):=hW▸At.new _ _;have hgm:w.heap.size<=w2.heap.size:=hB.size;replace A2:At W1 _ _:=hW▸At.alloc A2 _;replace hB:Below w.heap.size w W1:=hW▸Below.alloc' hB _;clear hW hL AL Fu BJ ZI ix1 hbx;generalize w2.heap.size=gm at *;have qD:W1.cell? ⟨bz,71,none⟩=some (.slice A fl.length cp):=aL.ext A2 16;have l2:=A2.lt;have hfe:fl=[]:=by
    rcases fl with _ | ⟨a,r⟩
    . rfl
    . have:=(Bd z hz a (by rw[hfl];simp)).2;omega
   have hlz:((fl.length:Int)==0)=true:=by rw[hfe];rfl
   cases hop:Fw.opn s ib 0
   . exact Z1m
   . exact Z1m
 | succ f ih =>
   intro z w hz hF hf hR;obtain⟨hbx,hks,_⟩:=hR.box z hz;have hL:=hR.look hz;have AL:=hR.lay;have hRH:=ah hR;have A2:=hbx;have hB:=Below.refl w.heap.size w;generalize hs:(B z).sty=s at *;generalize hib:(B z).ib=ib at *;generalize hfl:(B z).fl=fl at *;obtain⟨A,cp,hvf,hI,hle,hmx,hAn⟩:=hks.ints;rw[hvf]at hbx A2;generalize Y.va z=va at *;generalize Y.bl z=bz at *;have Fu:w.cell? ⟨Y.lb,2,none⟩=some (.map (some Y.bm)):=AL.cell 2;have BJ:=AL.lt;have ZI:=qM;have ix1:=Eb;go_enter Tryz.func89,Tryz.ntmps89
   go_upto_region 3 with(first|(go_at_call 26;(with_reducible refine(iT _).mono ?_);rintro e w1 ⟨rfl,hb⟩;replace hB:=Below.ay hB aD hb;replace A2:=At.keep A2 hb;clear hb)|(go_at_call 77;(with_reducible refine(gy bz s (.slice A fl.length cp) va ib (-1) (-1) _ A2).mono ?_);rintro e w2 ⟨rfl,hb⟩;replace hB:=Below.ay hB aD hb;replace A2:=At.keep A2 hb;clear hb))
   generalize hW:World.alloc _ _=W1;have AM:At W1 w2.heap.size (.cells #[.int .i64 (Fw.mg s 1 0 (-1))] 3):=hW▸At.new _ _;have hgm:w.heap.size<=w2.heap.size:=hB.size;replace A2:At W1 _ _:=hW▸At.alloc A2 _;replace hB:Below w.heap.size w W1:=hW▸Below.alloc' hB _;clear hW hL AL Fu BJ ZI ix1 hbx;generalize w2.heap.size=gm at *;cases hop:Fw.opn s ib 0
   . have Ho:=ah hop
     clear hop;have qD:W1.cell? ⟨bz,71,none⟩=some (.slice A fl.length cp):=aL.ext A2 16;have l2:=A2.lt
     go_wp2_with ((go_at_call 91;(with_reducible refine(CP bz s (.slice A fl.length cp) va ib _ A2).mono ?_);rintro e w3 ⟨rfl,hb⟩;replace AM:=AM.keep hb;replace hB:=Below.ay hB aD hb;replace A2:=At.keep A2 hb;replace qD:=((kY hb).1 _ _ l2).trans qD;replace l2:=aV l2 hb.size;clear hb;rw[Ho.out]))
     refine bodyPost_ret (results_tmp rfl _ _ _) rfl ⟨⟨_,rfl,?_⟩,hB⟩;have hm:Fw.meet B 0 (f+1) z=[Fw.mg s 1 0 (-1)]:=by
      simp only[Fw.meet,hs,hib,Ho.out,Bool.false_eq_true,if_false]
     rw[hm];exact qJ AM hgm
   . have Ho:=ah hop
     clear hop;by_cases hn:fl=[]
     . have hlz:((fl.length:Int)==0)=true:=by rw[hn];rfl
       have qD:W1.cell? ⟨bz,71,none⟩=some (.slice A fl.length cp):=aL.ext A2 16;have l2:=A2.lt
       go_wp2_with ((go_at_call 91;(with_reducible refine(CP bz s (.slice A fl.length cp) va ib _ A2).mono ?_);rintro e w3 ⟨rfl,hb⟩;replace AM:=AM.keep hb;replace hB:=Below.ay hB aD hb;replace A2:=At.keep A2 hb;replace qD:=((kY hb).1 _ _ l2).trans qD;replace l2:=aV l2 hb.size;clear hb;rw[Ho.out]))
       refine bodyPost_ret (results_tmp rfl _ _ _) rfl ⟨⟨_,rfl,?_⟩,hB⟩;have hm:Fw.meet B 0 (f+1) z=[Fw.mg s 1 0 (-1)]:=by
        simp only[Fw.meet,hs,hib,hfl,Ho.out,if_true,hn];simp
       rw[hm];exact qJ AM hgm
     . have hn0:0<fl.length:=List.length_pos_iff.2 hn
       have hnz:((fl.length:Int)==0)=false:=by simp;intro q;exact hn q
       have HN:=ah hn;clear hn;obtain⟨nx,hnx⟩:=aA (fl.getD (0) 0);have hx:nx=fl[(0:Nat)]'aj:=by rw[<-hnx,List.getD_eq_getElem?_getD,List.getElem?_eq_getElem aj];rfl
       have hmem:nx∈fl:=by rw[hx];exact List.getElem_mem _
       have hD:=Bd z hz nx (hfl▸hmem);have hm:Fw.meet B 0 (f+1) z=Fw.mg s 1 0 (-1)::Fw.meet B 0 f nx:=by
        simp only[Fw.meet,hs,hib,hfl,Ho.out,if_true];rw[show fl.head? = some nx from by rw[hx,List.head?_eq_getElem?,List.getElem?_eq_getElem hn0]]
       have acV:=hlen z hz;rw[hfl]at acV;have HM:=ah hm;clear hm hx;have qD:W1.cell? ⟨bz,71,none⟩=some (.slice A fl.length cp):=aL.ext A2 16;have l2:=A2.lt
       go_upto_region 5 with((go_at_call 91;(with_reducible refine(CP bz s (.slice A fl.length cp) va ib _ A2).mono ?_);rintro e w3 ⟨rfl,hb⟩;replace AM:=AM.keep hb;replace hB:=Below.ay hB aD hb;replace A2:=At.keep A2 hb;replace qD:=((kY hb).1 _ _ l2).trans qD;replace l2:=aV l2 hb.size;clear hb;rw[Ho.out]))
       have hIc:=hI.after hB;obtain⟨bf,off,hAf,lf,cf⟩:=hIc.at_ (k:=0) hn0;rw[hnx,Nat.add_zero]at cf;subst hAf;have HLQ:=ah (vL B 0 f nx);clear hnx
       go_wp2_with (first|(go_at_call 89;(with_reducible refine(ih nx _ hD.1 (by have:=hD.2;omega) aj (hRH.out.keep hK hB)).mono ?_);rintro e w4 ⟨⟨v4,rfl,ho4⟩,hb4⟩;obtain⟨A4,c4,rfl,RH,aho,ahp,acW⟩:=KS.ints (fH ho4 sQ);obtain⟨v',w',hr,ho',hB',hs'⟩:=jU (w0:=w) (base:=w.heap.size) (qJ (AM.keep hb4) hgm) (Below.ay hB aD hb4) (aJ hB.size hb4.size) RH (m:=(Fw.meet B 0 f nx).length) rfl acW (by have:=HLQ.out;omega);have HR:=ah hr;clear hr)|(at_builtin;refine wpList_append_run aX _ _ 30 rfl rfl rfl HR.out ?_))
       refine bodyPost_ret (results_tmp rfl _ _ _) rfl ⟨⟨_,rfl,?_⟩,hB'⟩;rw[HM.out];simpa[Nat.add_comm]using ho'
theorem acX(hK:∀(X X':World) (b:Nat),KM X b->Below X.heap.size X X'->KM X' b)(F:Int->Nat)(Bd:∀z,D z->∀k∈(B z).fl,D k/\F z=F k+1)(hlen:∀z,D z->(B z).fl.length<=10000):∀(f:Nat) (z:Int) (w:World),D z->F z=f->f<=1000->RO w Y B D KM ->
  Calls Tryz.prog 89 #[.pointer (some ⟨Y.lb,0,none⟩),.int .i64 z,.int .i64 1] w λx w'=>(∃v,x=.returned v/\w'.ownsRow w.heap.size 3 1 v (Fw.meet B 1 f z).length ((Fw.meet B 1 f z).map (Value.int .i64)))/\Below w.heap.size w w':=by
 intro f
 induction f with
 | zero =>
   intro z w hz hF hf hR;obtain⟨hbx,hks,_⟩:=hR.box z hz;have hL:=hR.look hz;have AL:=hR.lay;have hRH:=ah hR;have A2:=hbx;have hB:=Below.refl w.heap.size w;generalize hs:(B z).sty=s at *;generalize hib:(B z).ib=ib at *;generalize hfl:(B z).fl=fl at *;obtain⟨A,cp,hvf,hI,hle,hmx,hAn⟩:=hks.ints;rw[hvf]at hbx A2;generalize Y.va z=va at *;generalize Y.bl z=bz at *;have Fu:w.cell? ⟨Y.lb,2,none⟩=some (.map (some Y.bm)):=AL.cell 2;have BJ:=AL.lt;have ZI:=qM;have ix1:=Ec;go_enter Tryz.func89,Tryz.ntmps89
   go_upto_region 3 with(first|(go_at_call 26;(with_reducible refine(iT _).mono ?_);rintro e w1 ⟨rfl,hb⟩;replace hB:=Below.ay hB aD hb;replace A2:=At.keep A2 hb;clear hb)|(go_at_call 77;(with_reducible refine(gy bz s (.slice A fl.length cp) va ib (-1) (-1) _ A2).mono ?_);rintro e w2 ⟨rfl,hb⟩;replace hB:=Below.ay hB aD hb;replace A2:=At.keep A2 hb;clear hb))
   generalize hW:World.alloc _ _=W1;have AM:At W1 w2.heap.size (.cells #[.int .i64 (Fw.mg s 1 1 (-1))] 3):=hW▸At.new _ _;have hgm:w.heap.size<=w2.heap.size:=hB.size;replace A2:At W1 _ _:=hW▸At.alloc A2 _;replace hB:Below w.heap.size w W1:=hW▸Below.alloc' hB _;clear hW hL AL Fu BJ ZI ix1 hbx;generalize w2.heap.size=gm at *;have qD:W1.cell? ⟨bz,71,none⟩=some (.slice A fl.length cp):=aL.ext A2 16;have l2:=A2.lt;have hfe:fl=[]:=by
    rcases fl with _ | ⟨a,r⟩
    . rfl
    . have:=(Bd z hz a (by rw[hfl];simp)).2;omega
   have hlz:((fl.length:Int)==0)=true:=by rw[hfe];rfl
   cases hop:Fw.opn s ib 1
   . exact Z1l
   . exact Z1l
 | succ f ih =>
   intro z w hz hF hf hR;obtain⟨hbx,hks,_⟩:=hR.box z hz;have hL:=hR.look hz;have AL:=hR.lay;have hRH:=ah hR;have A2:=hbx;have hB:=Below.refl w.heap.size w;generalize hs:(B z).sty=s at *;generalize hib:(B z).ib=ib at *;generalize hfl:(B z).fl=fl at *;obtain⟨A,cp,hvf,hI,hle,hmx,hAn⟩:=hks.ints;rw[hvf]at hbx A2;generalize Y.va z=va at *;generalize Y.bl z=bz at *;have Fu:w.cell? ⟨Y.lb,2,none⟩=some (.map (some Y.bm)):=AL.cell 2;have BJ:=AL.lt;have ZI:=qM;have ix1:=Ec;go_enter Tryz.func89,Tryz.ntmps89
   go_upto_region 3 with(first|(go_at_call 26;(with_reducible refine(iT _).mono ?_);rintro e w1 ⟨rfl,hb⟩;replace hB:=Below.ay hB aD hb;replace A2:=At.keep A2 hb;clear hb)|(go_at_call 77;(with_reducible refine(gy bz s (.slice A fl.length cp) va ib (-1) (-1) _ A2).mono ?_);rintro e w2 ⟨rfl,hb⟩;replace hB:=Below.ay hB aD hb;replace A2:=At.keep A2 hb;clear hb))
   generalize hW:World.alloc _ _=W1;have AM:At W1 w2.heap.size (.cells #[.int .i64 (Fw.mg s 1 1 (-1))] 3):=hW▸At.new _ _;have hgm:w.heap.size<=w2.heap.size:=hB.size;replace A2:At W1 _ _:=hW▸At.alloc A2 _;replace hB:Below w.heap.size w W1:=hW▸Below.alloc' hB _;clear hW hL AL Fu BJ ZI ix1 hbx;generalize w2.heap.size=gm at *;cases hop:Fw.opn s ib 1
   . have Ho:=ah hop
     clear hop;have qD:W1.cell? ⟨bz,71,none⟩=some (.slice A fl.length cp):=aL.ext A2 16;have l2:=A2.lt
     go_wp2_with ((go_at_call 91;(with_reducible refine(CO bz s (.slice A fl.length cp) va ib _ A2).mono ?_);rintro e w3 ⟨rfl,hb⟩;replace AM:=AM.keep hb;replace hB:=Below.ay hB aD hb;replace A2:=At.keep A2 hb;replace qD:=((kY hb).1 _ _ l2).trans qD;replace l2:=aV l2 hb.size;clear hb;rw[Ho.out]))
     refine bodyPost_ret (results_tmp rfl _ _ _) rfl ⟨⟨_,rfl,?_⟩,hB⟩;have hm:Fw.meet B 1 (f+1) z=[Fw.mg s 1 1 (-1)]:=by
      simp only[Fw.meet,hs,hib,Ho.out,Bool.false_eq_true,if_false]
     rw[hm];exact qJ AM hgm
   . have Ho:=ah hop
     clear hop;by_cases hn:fl=[]
     . have hlz:((fl.length:Int)==0)=true:=by rw[hn];rfl
       have qD:W1.cell? ⟨bz,71,none⟩=some (.slice A fl.length cp):=aL.ext A2 16;have l2:=A2.lt
       go_wp2_with ((go_at_call 91;(with_reducible refine(CO bz s (.slice A fl.length cp) va ib _ A2).mono ?_);rintro e w3 ⟨rfl,hb⟩;replace AM:=AM.keep hb;replace hB:=Below.ay hB aD hb;replace A2:=At.keep A2 hb;replace qD:=((kY hb).1 _ _ l2).trans qD;replace l2:=aV l2 hb.size;clear hb;rw[Ho.out]))
       refine bodyPost_ret (results_tmp rfl _ _ _) rfl ⟨⟨_,rfl,?_⟩,hB⟩;have hm:Fw.meet B 1 (f+1) z=[Fw.mg s 1 1 (-1)]:=by
        simp only[Fw.meet,hs,hib,hfl,Ho.out,if_true,hn];simp
       rw[hm];exact qJ AM hgm
     . have hn0:0<fl.length:=List.length_pos_iff.2 hn
       have hnz:((fl.length:Int)==0)=false:=by simp;intro q;exact hn q
       have HN:=ah hn;clear hn;obtain⟨nx,hnx⟩:=aA (fl.getD (fl.length-1) 0);have hx:nx=fl[(fl.length-1:Nat)]'aj:=by rw[<-hnx,List.getD_eq_getElem?_getD,List.getElem?_eq_getElem aj];rfl
       have hmem:nx∈fl:=by rw[hx];exact List.getElem_mem _
       have hD:=Bd z hz nx (hfl▸hmem);have hm:Fw.meet B 1 (f+1) z=Fw.mg s 1 1 (-1)::Fw.meet B 1 f nx:=by
        simp only[Fw.meet,hs,hib,hfl,Ho.out,if_true];rw[show fl.getLast? = some nx from by rw[hx,List.getLast?_eq_getElem?,List.getElem?_eq_getElem aj]];simp
       have acV:=hlen z hz;rw[hfl]at acV;have HM:=ah hm;clear hm hx;have qD:W1.cell? ⟨bz,71,none⟩=some (.slice A fl.length cp):=aL.ext A2 16;have l2:=A2.lt
       go_upto_region 5 with((go_at_call 91;(with_reducible refine(CO bz s (.slice A fl.length cp) va ib _ A2).mono ?_);rintro e w3 ⟨rfl,hb⟩;replace AM:=AM.keep hb;replace hB:=Below.ay hB aD hb;replace A2:=At.keep A2 hb;replace qD:=((kY hb).1 _ _ l2).trans qD;replace l2:=aV l2 hb.size;clear hb;rw[Ho.out]))
       have hIc:=hI.after hB;obtain⟨bf,off,hAf,lf,cf⟩:=hIc.at_ (k:=0) hn0;obtain⟨m,hmm⟩:∃m,fl.length=m+1:=⟨fl.length-1,by omega⟩;obtain⟨bg,ofg,hAg,lg,cg⟩:=hIc.at_ (k:=m) aj;obtain⟨rfl,rfl⟩:bg=bf/\ofg=off:=by rw[hAf]at hAg;simpa using hAg.symm
       subst hAf;rw[show fl.getD m 0=nx from by rw[<-hnx,hmm];rfl]at cg;rw[Nat.add_zero]at cf;have hsub:IntKind.i64.wrap ((fl.length:Int)-1)=(m:Int):=by rw[IntWalk.i64_in _ aj];omega
       have ai5:m<fl.length:=by omega
       clear hmm
       go_upto_region 7 with(fail)
       refine xW ?_
       (repeat (first|refine nW ?_ | refine nX ?_ (hc:=by intro w2 hS;first|with_reducible exact nR hS (jm _))|refine nY ?_))
       refine ak.cK ?_;intro w2 hS;replace AM:=AM.keep hS;replace hB:=Below.ay hB aD hS;replace A2:=At.keep A2 hS;clear hS;have HLQ:=ah (vL B 1 f nx);clear hnx
       go_wp2_with (first|(go_at_call 89;(with_reducible refine(ih nx _ hD.1 (by have:=hD.2;omega) aj (hRH.out.keep hK hB)).mono ?_);rintro e w4 ⟨⟨v4,rfl,ho4⟩,hb4⟩;obtain⟨A4,c4,rfl,RH,aho,ahp,acW⟩:=KS.ints (fH ho4 sQ);obtain⟨v',w',hr,ho',hB',hs'⟩:=jU (w0:=w) (base:=w.heap.size) (qJ (AM.keep hb4) hgm) (Below.ay hB aD hb4) (aJ hB.size hb4.size) RH (m:=(Fw.meet B 1 f nx).length) rfl acW (by have:=HLQ.out;omega);have HR:=ah hr;clear hr)|(at_builtin;refine wpList_append_run aX _ _ 30 rfl rfl rfl HR.out ?_))
       refine bodyPost_ret (results_tmp rfl _ _ _) rfl ⟨⟨_,rfl,?_⟩,hB'⟩;rw[HM.out];simpa[Nat.add_comm]using ho'
end
theorem Sc(A T B:Option Addr)(s t u:List Int)(n d1 d2 d3:Nat)(w:World)(hs:Ints w A s)(ht:Ints w T t)(hu:Ints w B u)(ls:s.length=n)(lt:t.length=n)(lu:u.length=n)(hn:n<=1001) :
  Calls Tryz.prog 90 #[.slice A n d1,.slice T n d2,.slice B n d3] w λe w'=>(∃b,e=.returned (.tuple #[.slice (some ⟨b,0,none⟩) n n,.int .i64 (Fx.pI s t u n)])/\w.heap.size<=b/\Ints w' (some ⟨b,0,none⟩) (Fx.uV s t u n))/\Below w.heap.size w w':=by
 obtain⟨i0,hi0,hz0,hz1,hz2⟩:=info_parts intZero;have HS:=ah hs;clear hs;have HT:=ah ht;clear ht;have HU:=ah hu;clear hu;have LS:=ah ls;clear ls;have LT:=ah lt;clear lt;have LU:=ah lu;clear lu;go_enter Tryz.func90,Tryz.ntmps90
 go_wp2_with (at_make;refine wpList_make_row _ rfl _ _ 30 rfl 3 i0 (.int .i64 0) Tryz.underlying30 hi0 hz0 hz1 rfl .i64 .i64 n rfl rfl QS aj ?_)
 go_loopw [9,29] (λe i wr=>∃k:Nat,k<=n/\i=.int .i64 k/\e=.int .i64 (Fx.pI s t u k)/\At wr w.heap.size (.cells (aO (Fx.kZ s t u) n k) 3)/\Below w.heap.size w wr) (λ_ i _=>n-(intOf i).toNat)
 case atStart=>exact⟨0,by omega,rfl,rfl,by rw[<-jT];exact At.new _ _,Below.alloc' aF _⟩
 case round =>
  obtain⟨k,hk,rfl,rfl,hA,hB⟩:=hrel;have hB':=hB;by_cases hlt:k<n
  . obtain⟨b1,o1,hA1,l1,c1⟩:=(HS.out.after hB').at_ (k:=k) (by rw[LS.out];exact hlt)
    have HZ:Hid (Fx.pI s t u (k+1)=Fx.add (Fx.kZ s t u k) (s.getD k 0)):=ah (Fx.xE s t u k);generalize s.getD k 0=z at *;subst hA1;have hlb:=hA.lt;rcases Nat.eq_zero_or_pos k with rfl|h0
    . have hz:=hA.cell 0
      rw[dh _ hlt]at hz;have HR:Hid (aO (Fx.kZ s t u) n 0=aO (Fx.kZ s t u) n 1):=ah (Nq _ _ rfl);simp only[Nat.not_lt_zero,if_false]at hz;simp only[Nat.add_zero]at c1
      go_wp2_with (first|(go_at_call 125;with_reducible refine wR (pO _ _ _) ?_))
      go_roundw
      case rel=>exact⟨1,by omega,by go_num,by rw[HZ.out,Fx.CX],by rw[<-HR.out];exact hA,hB⟩
      case measure=>simp[intOf];omega
    . obtain⟨m,hm⟩:∃m,k=m+1:=⟨k-1,by omega⟩
      obtain⟨b2,o2,hA2,l2,c2⟩:=(HT.out.after hB').at_ (k:=k) (by rw[LT.out];exact hlt);obtain⟨b3,o3,hA3,l3,c3⟩:=(HU.out.after hB').at_ (k:=m) (by rw[LU.out];omega);have HP:Hid (Fx.kZ s t u k=Fx.add (Fx.pI s t u k) (Fx.coll [u.getD m 0,t.getD k 0])):=ah (by rw[Fx.Gd s t u aj,show k-1=m by omega]);generalize t.getD k 0=y at *;generalize u.getD m 0=x at *;subst hA2 hA3;have hw:IntKind.i64.wrap ((k:Int)-1)=(m:Int):=by rw[IntWalk.i64_in _ aj];omega
      have hmn:m<n:=by omega
      have hz:=hA.thaw k;have HM:=ah hm;clear hm
      go_upto_region 9 with(fail)
      refine Q6 15 1 ?_
      (repeat (first|refine nW ?_ | refine nX ?_ (hc:=by intro w2 hS;first|with_reducible exact nR hS (UL _ _ _)|with_reducible exact J9 hS (pO _ _ _))|refine nY ?_))
      refine ak.dN ?_;intro w2 hS;have A4:=hA.keep hS;have B4:=Below.ay hB aD hS;have hc4:=A4.cell k;rw[dh _ hlt]at hc4;have hz4:=A4.thaw k;refine x9 ?_;intro K hK;go_simp;refine hK _ _ (ak.bV ?_);clear hK K;generalize hW:World.setCell _ _ _=W2;replace A4:At W2 w.heap.size (.cells (aO (Fx.kZ s t u) n (k+1)) 3):=by
       rw[<-hW,<-ku _ hlt,HP.out];exact A4.set k _
      replace B4:Below w.heap.size w W2:=hW▸Below.setCell B4 aD _;have hc5:=A4.cell k;rw[dh _ aj,if_pos aj]at hc5;have ahq:=A4.lt;clear hW hc4 hz4 hz hS c1 c2 c3 l1 l2 l3 hA hB hB' hlb
      go_wp2_with (first|(go_at_call 125;with_reducible refine wR (pO _ _ _) ?_))
      go_roundw
      case rel=>exact⟨k+1,by omega,by go_num,by rw[HZ.out],A4,B4⟩
      case measure=>simp[intOf];omega
  . obtain rfl:k=n:=by omega
    go_wp2;refine bodyPost_ret (v:=.tuple #[.slice (some ⟨w.heap.size,0,none⟩) k k,.int .i64 _]) (by simp[results,Tryz.results90,go_sem, *];first|done|exact⟨rfl,rfl⟩|rfl) rfl ⟨⟨w.heap.size,rfl,aG _,E5 s t u k JK hA⟩,hB⟩
theorem Cy{cs vs:Array Value}(h:vs.size=cs.size):splice cs 0 vs=vs:=by
 unfold splice;rw[List.take_zero,List.nil_append,Nat.zero_add,h,List.drop_of_length_le eZ,List.append_nil]
theorem Wh(f:Nat->Int)(w:World)(n:Nat)(hn:n<=100000):(Instr.makeSlice 30 (.int .i64 (n:Int)) (.int .i64 (n:Int))).run Tryz.prog w=.ok (.slice (some ⟨w.heap.size,0,none⟩) n n) (w.alloc (.cells (aO f n 0) 3)):=by
 obtain⟨i0,hi0,hz0,hz1,hz2⟩:=info_parts intZero;have hrun:=run_make (P:=Tryz.prog) w 30 3 i0 _ Tryz.underlying30 hi0 hz0 .i64 .i64 n n aj (Int.le_refl _) QS aj;rw[Int.toNat_natCast]at hrun;rw[hrun,<-jT,hz1,Nat.mul_one];rfl
theorem dK(f:Nat->Int){n:Nat}{o:Oper}{a:Act}{w:World}(l c:Operand)(ho:o.op=.makeSlice 30 l c)(hl:a.eval l=.int .i64 (n:Int))(hc:a.eval c=.int .i64 (n:Int))(hn:n<=100000):(execOp a.eval o).run Tryz.prog w=.ok (.value (.slice (some ⟨w.heap.size,0,none⟩) n n)) (w.alloc (.cells (aO f n 0) 3)):=by
 unfold execOp;simp only[ho,hl,hc,Sem.run_bind,Wh f w n hn,Result.andThen_ok,Sem.run_pure]
theorem Sd{w:World}{b o:Nat}{l:List Int}(h:Ints w (some ⟨b,o,none⟩) l){k:Nat}(hk:k<l.length):b<w.heap.size/\w.cell? ⟨b,o+k,none⟩=some (.int .i64 (l.getD k 0)):=by
 obtain⟨b',off,e,hl,hc⟩:=h.at_ hk;injection e with e;injection e with e1 e2;subst e1 e2;exact⟨hl,hc⟩
theorem aaB{W:World}{v:Value}{l:List Int}{b o m cp:Nat}(hv:v=.slice (some ⟨b,o,none⟩) m cp)(h:KS W v l)(hm:m=l.length):Ints W (some ⟨b,o,none⟩) l:=by
 obtain⟨A,c,e,hI,_⟩:=h.ints;rw[hv]at e;injection e with e1 e2 e3;rw[e1];exact hI
section
variable {W W':World} {Y:sj} {B:Int->Fw.Bx} {D:Int->Prop} {KM:World->Nat->Prop}
theorem RO.lookO(h:RO W Y B D KM){X:World}(k:Out (λb=>b=Y.pm) W X){z:Int}(hz:D z):(Instr.lookup 79 (.map (some Y.bm)) (.int .i64 z) false).run Tryz.prog X=.ok (.pointer (some ⟨Y.bl z,0,none⟩)) X:=by
 obtain⟨n,g,h1,h2⟩:=h.boxes;rw[(h1.out (λq=>h.pmb q.symm) k).look mU Tryz.underlying79 (z:=.pointer none) jD (mJ (h.wf z hz)),h2 z hz];rfl
end
def blG(first:Int)(szl uq sW:List Int)(i:Nat)(x:Fw.Ld):Fw.Ld:={ x with a1:=Fw.wr (first+Fx.kZ szl uq sW i) }
def csf(B:Int->Fw.Bx)(f:Nat)(l:List Int)(k:Nat):Nat:=((l.take k).map (Fw.cst B f)).sum
theorem Wi(B:Int->Fw.Bx)(f:Nat)(l:List Int){k:Nat}(hk:k<l.length):csf B f l (k+1)=csf B f l k+Fw.cst B f l[k]:=by
 unfold csf;rw[List.take_succ_eq_append_getElem hk];exact Z30
theorem Wj(B:Int->Fw.Bx)(f:Nat)(l:List Int)(k:Nat):csf B f l k<=(l.map (Fw.cst B f)).sum:=by
 unfold csf
 conv=>rhs;rw[<-List.take_append_drop k l,List.map_append,List.sum_append]
 omega
theorem oV.snoc{cs:Array Value}{l:List Fw.Ld}{x:Fw.Ld}(h:oV cs l)(hf:l.length*7+7<=cs.size):oV (splice cs (l.length*7) (eH x)) (l++[x]):=by
 have hs:l.length*7+(eH x).size<=cs.size:=by rw[dG];exact hf
 refine⟨by rw[ji hs];simp;omega,λi hi j hj => ?_⟩;by_cases e:i<l.length
 . rw[List.getElem_append_left e,iP hs (.inl aj)]
   exact h.2 i e j hj
 . have:i=l.length:=by simp at hi;omega
   subst this;rw[om hs (by rw[dG];exact hj)];simp
theorem oV.Kn{cs:Array Value}{l:List Fw.Ld}(h:oV cs l){k:Nat}(hk:k<l.length)(a:Int):oV (cs.setIfInBounds (k*7+6) (.int .i64 a)) (l.set k { l[k]with a1:=a }):=by
 refine⟨by simpa using h.1,λi hi j hj => ?_⟩;have hi':i<l.length:=by simpa using hi
 have hs:=h.1;simp only[Array.getElem?_setIfInBounds,List.getElem_set];by_cases e:k=i
 . subst e
   rw[if_pos rfl];have h0:=h.2 k hi' j hj;by_cases e6:k*7+6=k*7+j
   . obtain rfl:j=6:=by omega
     rw[if_pos rfl,if_pos aj];rfl
   . rw[if_neg e6,h0]
     rcases(show j=0\/j=1\/j=2\/j=3\/j=4\/j=5 by omega)with rfl|rfl|rfl|rfl|rfl|rfl<;>rfl
 . rw[if_neg e,if_neg aj]
   exact h.2 i hi' j hj
def yX(g:Nat->Fw.Ld->Fw.Ld)(l:List Fw.Ld)(k:Nat):List Fw.Ld:=(l.take k).mapIdx g++l.drop k
theorem Bf(g:Nat->Fw.Ld->Fw.Ld)(l:List Fw.Ld)(k:Nat):(yX g l k).length=l.length:=by simp[yX];omega
theorem Wm(g:Nat->Fw.Ld->Fw.Ld)(l:List Fw.Ld){k:Nat}(hk:k<l.length):(yX g l k)[k]'(by rw[Bf];exact hk)=l[k]:=by
 unfold yX;rw[List.getElem_append_right jM];simp;congr 1;omega
theorem Sg(g:Nat->Fw.Ld->Fw.Ld)(l:List Fw.Ld){k:Nat}(hk:k<l.length):(yX g l k).set k (g k l[k])=yX g l (k+1):=by
 unfold yX;exact Z2c
theorem Si(g:Nat->Fw.Ld->Fw.Ld)(l:List Fw.Ld):yX g l 0=l:=by simp[yX]
theorem Wn(g:Nat->Fw.Ld->Fw.Ld)(l:List Fw.Ld):yX g l l.length=l.mapIdx g:=by simp[yX]
end Go.Proofs.YtmidaiklolmkcaaGreat.Fix
