/- What functions of the program do, in plain numbers, part 7; no conditions. -/
import Derived.Test.YtmidaiklolmkcaaGreatM02
import Derived.Test.YtmidaiklolmkcaaGreatM04
set_option linter.unusedVariables false
set_option linter.unusedSimpArgs false
set_option linter.unusedSectionVars false
set_option maxRecDepth 100000
namespace Go.Proofs.YtmidaiklolmkcaaGreat.Fix
open Go.ChangeShapes Go.WideShapes Go.ChangeAt Go.RowKit
def KS(W:World)(v:Value)(l:List Int):Prop:=W.ownsRow 0 3 1 v l.length (l.map (Value.int .i64))
def Rw(W:World)(g c:Nat)(l:List Int):Prop:=∃cur:Array Value,At W g (.cells cur 3)/\cur.size=c/\l.length<=c/\c<=maxLen/\cur.toList.take l.length=l.map (Value.int .i64)
theorem KS.nil(W:World):KS W (.slice none 0 0) []:=World.ownsRow_nil _ _ _ _
theorem KS.cases{W:World}{v:Value}{l:List Int}(h:KS W v l):(v=.slice none 0 0/\l=[])\/∃g c,v=.slice (some ⟨g,0,none⟩) l.length c/\Rw W g c l:=by
 rcases h.2 with⟨rfl,h0⟩|⟨g,cap,cur,rfl,_,hg,h1,h2,h3,h4⟩
 . exact .inl ⟨rfl,List.eq_nil_of_length_eq_zero h0⟩
 . exact .inr ⟨g,cap,rfl,cur,hg,by simpa using h3,h1,h2,by simpa using h4⟩
theorem Rw.ks{W:World}{g c:Nat}{l:List Int}(h:Rw W g c l):KS W (.slice (some ⟨g,0,none⟩) l.length c) l:=by
 obtain⟨cur,h1,h2,h3,h4,h5⟩:=h;exact⟨by simp,.inr ⟨g,c,cur,rfl,fC _,h1,h3,h4,by simpa using h2,by simpa using h5⟩⟩
theorem Rw.lt{W:World}{g c:Nat}{l:List Int}(h:Rw W g c l):g<W.heap.size:=by obtain⟨cur,h1,_⟩:=h;exact h1.lt
theorem Rw.out{M:Nat->Prop}{W W':World}{g c:Nat}{l:List Int}(h:Rw W g c l)(hm:¬ M g)(k:Out M W W'):Rw W' g c l:=by
 obtain⟨cur,h1,r⟩:=h;exact⟨cur,h1.out hm k,r⟩
theorem KS.lt{W:World}{v:Value}{l:List Int}(h:KS W v l){g:Nat}(hg:v.ownBlock=some g):g<W.heap.size:=(World.ownsRow.lt h g hg).2
theorem KS.out{M:Nat->Prop}{W W':World}{v:Value}{l:List Int}(h:KS W v l)(hm:∀g,v.ownBlock=some g->¬ M g)(k:Out M W W'):KS W' v l:=by
 rcases h.cases with⟨rfl,rfl⟩|⟨g,c,rfl,hr⟩
 . exact KS.nil _
 . exact(hr.out (hm g rfl) k).ks
theorem KS.after{W W':World}{v:Value}{l:List Int}(h:KS W v l)(hb:Below W.heap.size W W'):KS W' v l:=h.out (M:=λ_=>False) (λ_ _ q=>q) (Out.of_below hb)
theorem Rw.ints{W:World}{g c:Nat}{l:List Int}(h:Rw W g c l):Ints W (some ⟨g,0,none⟩) l:=by
 obtain⟨cur,h1,h2,h3,h4,h5⟩:=h;refine⟨by omega,λh0=>⟨g,0,rfl,λk hk => ?_⟩⟩;rw[h1.cell,Nat.zero_add];have:(cur.toList.take l.length)[k]? = (l.map (Value.int .i64))[k]? := by rw[h5]
 rw[List.getElem?_take,if_pos hk]at this;simpa[List.getElem?_eq_getElem hk]using this
theorem KS.ints{W:World}{v:Value}{l:List Int}(h:KS W v l):∃A c,v=.slice A l.length c/\Ints W A l/\l.length<=c/\c<=maxLen/\(A=none->c=0):=by
 rcases h.cases with⟨rfl,rfl⟩|⟨g,c,rfl,hr⟩
 . exact⟨none,0,rfl,⟨by simp,λh=>absurd h eZ⟩,by simp,by simp[maxLen],λ_=>rfl⟩
 . have hr':=hr
   obtain⟨cur,h1,h2,h3,h4,h5⟩:=hr;exact⟨_,c,rfl,hr'.ints,h3,h4,λh=>by cases h⟩
theorem IB{W:World}{g:Nat}{cur:Array Value}{T:TypeId}(h:At W g (.cells cur T))(o:Nat)(vs:List Value)(hfit:o+vs.length<=cur.size)(h1:∀v∈vs,v.oneCell'=true):W.setCells g o vs=W.setRow g (cur.toList.take o++vs++cur.toList.drop (o+vs.length)).toArray:=by
 have a:=run_storeCells_at Tryz.prog g o T vs 0 cur W h (by simpa using hfit) h1;have b:=run_storeCells_cells (P:=Tryz.prog) g o vs 0 W (λj hj=>by rw[h.cell,Array.getElem?_eq_getElem aj];rfl) (λj hj=>by rw[h.thaw]) h1;simp only[Nat.add_zero]at a b;rw[a]at b;injection b with _ b;exact b.symm
theorem Ko(W:World)(g:Nat)(cs:Array Value):(W.setRow g cs).drew=W.drew.setRow g cs:=rfl
theorem Az{P:Program}{w w':World}{o:Oper}{a:Act}(s x:Operand)(t tn:TypeId)(ho:o.op=.call { callee:=.builtin .append,args:=#[s,x],argTypes:=#[t,tn] }){v u v':Value}(hs:a.eval s=v)(hx:a.eval x=u)
  (hrun:(Builtin.append_ #[t,tn] o.type #[v,u]).run P w=.ok v' w'):(execOp a.eval o).run P w=.ok (.value v') w':=by
 exact Z1w
theorem Gu{P:Program}{w w':World}{o:Oper}{a:Act}(s x:Operand)(t tn:TypeId)(ho:o.op=.call { callee:=.builtin .copy,args:=#[s,x],argTypes:=#[t,tn] }){v u v':Value}(hs:a.eval s=v)(hx:a.eval x=u)
  (hrun:(Builtin.copy_ #[t,tn] o.type #[v,u]).run P w=.ok v' w'):(execOp a.eval o).run P w=.ok (.value v') w':=by
 exact Z1w
theorem NG{P:Program}{w w':World}{ops:Array Oper}{rest:List Oper}{o:Oper}{a:Act}{Q:Exit->Act->World->Prop}(hw:Region.wanted o (yielded ops a.tmps)=true){v':Value}
  (hrun:(execOp a.eval o).run P w=.ok (.value v') w') (h:wpList P ops Q rest (a.put o.dst v') w'):wpList P ops Q (o::rest) a w:=by
 exact Z39
theorem Rk{v:Value}{l:List Int}{w:World}(h:KS w v l)(hl:l.length<=10000):Calls Tryz.prog 79 #[v] w λe w'=>(∃v',e=.returned v'/\w'.ownsRow w.heap.size 3 1 v' l.length (l.map (Value.int .i64)))/\Below w.heap.size w w':=by
 have q22:∀(w:World) (a:Option Addr) (n c n' c':Nat),(binOp .eql 30 (.slice a n c) (.slice none n' c')).run Tryz.prog w=.ok (.bool a.isNone) w:=λw a n c n' c'=>Lib.run_eql_slice_nil w _ _ a n c n' c' Tryz.underlying30;rcases h.cases with⟨rfl,rfl⟩|⟨g,c,rfl,hr⟩
 . go_enter Tryz.func79,Tryz.ntmps79
   go_wp2
   go_ret
   exact⟨⟨_,rfl,World.ownsRow_nil _ _ _ _⟩,Below.refl _ _⟩
 . have hown:(w.alloc (.cells #[] 3)).ownsRow w.heap.size 3 1 (.slice (some ⟨w.heap.size,0,none⟩) 0 0) 0 (([]:List Int).map (Value.int .i64)):=World.ownsRow_made w #[] 0 aD (by simp[maxLen]) rfl
   obtain⟨v',w',hrun,hown',hB,_⟩:=jU (m:=l.length) (c:=c) hown (Below.alloc' (Below.refl w.heap.size w) _) eZ (hr.ints.after (Below.alloc' aF _)) rfl (λh=>by cases h) aj;have Hu:=ah hrun;clear hrun hown;go_enter Tryz.func79,Tryz.ntmps79
   go_wp2_with (at_builtin;refine wpList_append_run aX _ _ 30 rfl rfl rfl Hu.out ?_)
   go_ret
   exact⟨⟨_,rfl,by simpa using hown'⟩,hB⟩
theorem Rl{v:Value}{l:List Int}{w:World}(h:KS w v l){i:Nat}{x:Int}(hi:l[i]? = some x)(hf:∀j,j<i->l[j]? ≠ some x):Calls Tryz.prog 83 #[v,.int .i64 x] w λe w'=>e=.returned (.int .i64 (i:Int))/\w'=w:=by
 obtain⟨A,c,rfl,hI,hc,hm,_⟩:=h.ints;have hlt:=(List.getElem?_eq_some_iff.1 hi).1;clear h;unfold maxLen at hm;generalize hn:l.length=n at *;have HN:=ah hn;clear hn;have HA:=ah hI;clear hI;have HF:=ah hf;clear hf;have HE:=ah hi;clear hi;go_enter Tryz.func83,Tryz.ntmps83
 go_wp2
 go_loop [8] (λp=>∃k:Nat,k<=i/\p=.int .i64 k) (λp=>n-(intOf p).toNat)
 case atStart=>exact⟨0,by omega,rfl⟩
 case round =>
  obtain⟨k,hk,rfl⟩:=hrel;obtain⟨b,o,rfl,lb,hcell⟩:=HA.out.at_ (k:=k) (by rw[HN.out];omega);have hkn:k<n:=by omega
  by_cases hki:k=i
  . have hz:l.getD k 0=x:=by rw[hki];simp[List.getD,HE.out]
    rw[hz]at hcell;clear hz;subst hki;go_wp2;exact EL
  . have hz:¬ l.getD k 0=x:=λe=>HF.out k aj (by rw[<-e];simp[List.getD,show k<l.length by rw[HN.out];omega])
    have hz':¬ x=l.getD k 0:=λe=>hz e.symm;generalize l.getD k 0=z at *;have hzb:(x==z)=false:=by simpa using hz'
    go_wp2
    go_round
    case rel=>exact⟨k+1,by omega,by go_num⟩
    case measure=>simp[intOf];omega
def cutAt(g c j:Nat):Addr:=if c=j then ⟨g,0,none⟩else ⟨g,j,none⟩
theorem jX(g n c j:Nat)(hj:j<=n)(W:World):(Instr.sliceAt 30 (.slice (some ⟨g,0,none⟩) n c) (some (.int .i64 (j:Int))) none none).run Tryz.prog W=.ok (.slice (some (cutAt g c j)) (n-j) (c-j)) W:=by
 rw[qo _ n c j hj W];unfold cutAt;by_cases h:c=j
 . rw[if_pos h,if_pos h]
 . rw[if_neg h,if_neg h];simp[addr_add]
theorem Dz(g n c i:Nat)(hi:i<=c)(W:World):(Instr.sliceAt 30 (.slice (some ⟨g,0,none⟩) n c) none (some (.int .i64 (i:Int))) none).run Tryz.prog W=.ok (.slice (some ⟨g,0,none⟩) i c) W:=by
 rw[Dw _ n c i hi W];by_cases h:c=0
 . rw[if_pos h]
 . rw[if_neg h];simp[addr_add]
theorem ni{ops:Array Oper}{S:World->Prop}{o:Oper}{a:Act}{t:TypeId}{x:Operand}{lo hi mx:Option Operand}{v:Value}(hw:Region.wanted o (yielded ops a.tmps)=true)(ho:o.op=.slice t x lo hi mx)
  (hrun:∀W,(Instr.sliceAt t (a.eval x) (lo.map a.eval) (hi.map a.eval) (mx.map a.eval)).run Tryz.prog W=.ok v W):ak.Reads Tryz.prog ops S o v a :=
 .inl ⟨hw,λW _=>by unfold execOp;simp only[ho,Sem.run_bind,Sem.run_pure,hrun,Result.andThen_ok]⟩
theorem At.drew{W:World}{b:Nat}{o:Obj}(h:At W b o):At W.drew b o:=h
theorem Out.drew{M:Nat->Prop}{X Y:World}(h:Out M X Y):Out M X Y.drew:=⟨h.1.drew,h.2⟩
theorem DC(l:List Int):∀v∈l.map (Value.int .i64),v.oneCell'=true:=λv hv=>by obtain⟨z,_,rfl⟩:=List.mem_map.1 hv;rfl
theorem NH{g c i j:Nat}{l:List Int}{w:World}(h:Rw w g c l)(hij:i<j)(hj:j<=l.length):Calls Tryz.prog 84 #[.slice (some ⟨g,0,none⟩) l.length c,.int .i64 (i:Int),.int .i64 (j:Int)] w λe w'=>e=.returned (.slice (some ⟨g,0,none⟩) (i+(l.length-j)) c)/\Rw w' g c (l.take i++l.drop j)/\Out (λb=>b=g) w w':=by
 obtain⟨i0,hi0,hz0,hz1,hz2⟩:=info_parts intZero;obtain⟨cur,hA,hs,hc,hm,ht⟩:=h;unfold maxLen at hm;have hti:cur.toList.take i=(l.take i).map (Value.int .i64):=by
  rw[List.map_take,<-ht,List.take_take,Nat.min_eq_left aj]
 obtain⟨news,hnews⟩:∃news,news=(l.drop j).map (Value.int .i64):=⟨_,rfl⟩;have hnl:news.length=l.length-j:=by rw[hnews];simp
 have hget:∀k u,news[k]? = some u->w.drew.cell? ((cutAt g c j).add k)=some u:=λk u hu=>by
  have hk:k<l.length-j:=by rw[<-hnl];exact(List.getElem?_eq_some_iff.1 hu).1
  unfold cutAt;rw[if_neg aj,addr_add,hA.drew.cell];have e:(cur.toList.take l.length)[j+k]? = (l.map (Value.int .i64))[j+k]? := by rw[ht]
  rw[List.getElem?_take,if_pos aj]at e;rw[hnews,List.getElem?_map,List.getElem?_drop]at hu;rw[<-hu,<-List.getElem?_map,<-e];simp
 have happ:=run_append_room (P:=Tryz.prog) w.drew 30 30 3 i0 Tryz.underlying30 hi0 g i c cur hA.drew (cutAt g c j) (l.length-j) (c-j) news (by rw[hnl,hz1];omega) hget (by rw[hnews];exact DC _) aj (by rw[hz1,hnl];omega);rw[hz1,Nat.mul_one]at happ;obtain⟨X,hX⟩:∃X:Array Value,X=(cur.toList.take i++news++cur.toList.drop (i+news.length)).toArray:=⟨_,rfl⟩;rw[<-hX]at happ;have hXs:X.size=c:=by rw[hX];simp;omega
 have Yg:At (w.drew.setRow g X) g (.cells X 3):=hA.drew.setRow X;have hcl:=Lib.run_clear_slice (P:=Tryz.prog) (w.drew.setRow g X) 30 3 0 (.int .i64 0) Tryz.underlying30 (λ_=>by kernel_rfl) rfl rfl g (i+(l.length-j)) (l.length-(i+(l.length-j))) (c-(i+(l.length-j))) aj (λk hk=>by rw[Yg.cell,Array.getElem?_eq_getElem aj];rfl) (λk hk=>Yg.thaw _);rw[IB Yg _ _ jM (λv hv=>by rw[List.eq_of_mem_replicate hv];rfl),setRow_setRow]at hcl;obtain⟨Y,hY⟩:∃Y:Array Value,Y=(X.toList.take (i+(l.length-j))++List.replicate (l.length-(i+(l.length-j))) (Value.int .i64 0)++X.toList.drop (i+(l.length-j)+(List.replicate (l.length-(i+(l.length-j))) (Value.int .i64 0)).length)).toArray:=⟨_,rfl⟩;rw[<-hY]at hcl;have hYs:Hid (Y.size=c):=ah (by rw[hY];simp;omega)
 have hYt:Hid (Y.toList.take (l.take i++l.drop j).length=(l.take i++l.drop j).map (Value.int .i64)):=ah (by
  have e:(l.take i++l.drop j).length=i+(l.length-j):=by simp;omega
  rw[e,hY,hX,hti,hnews];simp only[List.map_append];have e1:((l.take i).map (Value.int .i64)++(l.drop j).map (Value.int .i64)).length=i+(l.length-j):=by simp;omega
  rw[List.append_assoc,List.take_append_of_le_length jM,List.take_take,Nat.min_self,List.take_append_of_le_length aj,List.take_of_length_le aj])
 have hQ:Hid (At (w.drew.setRow g Y) g (.cells Y 3)):=ah (hA.drew.setRow Y);have hO:Hid (Out (λb=>b=g) w (w.drew.setRow g Y)):=ah (Out.setRow (M:=λb=>b=g) (Out.drew (Out.refl _ _)) rfl Y);generalize hn:l.length=n at *;have HN:=ah hn;have ace:=ah happ;have HCL:=ah hcl;have hne:¬ (i:Int)=(j:Int):=by omega
 have hneb:((i:Int)==(j:Int))=false:=by simpa using hne
 have hcp:¬ c=i+(n-j):=by omega
 have hcut:Hid (cutAt g c (i+(n-j))=⟨g,i+(n-j),none⟩):=ah (by unfold cutAt;rw[if_neg hcp]);have hlen:Hid ((l.take i++l.drop j).length=i+(n-j)):=ah jM;clear happ hcl hX hY hXs Yg hget hnl hnews hti ht hA hs hn;go_enter Tryz.func84,Tryz.ntmps84
 go_upto_region 5 with(fail)
 refine lF (S:=(λ_=>True)) 8 ?_ ?_
 . trivial
 intro hS0;refine aW 0 ?_;refine aW 1 ?_;refine rO 2 rfl (ni aX rfl (λW=>Dz g n c i aj W)) ?_;refine aW 3 ?_;refine aW 4 ?_;refine rO 5 rfl (ni aX rfl (λW=>jX g n c j aj W)) ?_;refine tk1 6 ?_;refine ak.Step.value (Az (.tmp 22) (.tmp 25) 30 30 rfl rfl rfl ace.out) ?_;refine⟨λ_=>trivial,?_⟩
 (try simp only[bL,bM,bN,tks])
 refine aW 7 ?_;refine ko ?_;have hcl:=HCL.out;go_wp2
 go_ret
 exact⟨rfl,⟨Y,hQ.out,hYs.out,by rw[hlen.out];omega,by unfold maxLen;omega,hYt.out⟩,hO.out⟩
theorem Out.grown{M:Nat->Prop}{X Y:World}{row:Option Nat}(h:X.grownBy Y row)(hr:∀b,row=some b->M b):Out M X Y :=
 ⟨⟨h.os,h.tape,h.output,h.size,λ_ hb=>absurd hb (Nat.not_lt_zero _)⟩,λb hb hm=>h.block b hb (λe=>hm (hr b e.symm))⟩
theorem At.shape{W:World}{b:Nat}{cs:Array Value}{T:TypeId}(h:At W b (.cells cs T)):W.shape? b=some (T,cs.size):=by
 unfold At at h;simp[World.shape?,h]
theorem Cj:(Tryz.prog.info? 3).map (·.size)=some 1:=by kernel_rfl
theorem NI{v:Value}{l:List Int}{w:World}{vb:Nat}{x:Int}(h:KS w v l)(hl:l.length<=10000)(hv:At w vb (.cells #[.int .i64 x] 3)):Calls Tryz.prog 57 #[v,.int .i64 (l.length:Int),.slice (some ⟨vb,0,none⟩) 1 1] w λe w'=>∃v',e=.returned v'/\KS w' v' (l++[x])/\Out (λb=>v.ownBlock=some b) w w'/\(v'.ownBlock=v.ownBlock\/v'.ownBlock=some w.heap.size):=by
 obtain⟨i0,hi0,hz0,hz1,hz2⟩:=info_parts intZero
 obtain⟨v',w',hr,ho,hg,_,hloc⟩:=run_append_own_at (P:=Tryz.prog) w 0 30 30 3 i0 (.int .i64 0) 1 8 Tryz.underlying30 hi0 hz0 hz1 hz2 rfl aH v _ _ h ⟨vb,0,none⟩ 1 1 [.int .i64 x] rfl
  (λj u hu=>by
   have hj:j=0:=by have:=(List.getElem?_eq_some_iff.1 hu).1;simpa using this
   subst hj
   rw[addr_add,hv.cell];simpa using hu)
  JB Py aj sQ
 have hQ:Hid (KS w' v' (l++[x])):=ah (by
  have e1:(l++[x]).length=l.length+1:=by simp
  unfold KS
  rw[e1,List.map_append];exact ho)
 have hO:Hid (Out (λb=>v.ownBlock=some b) w w'):=ah (Out.grown hg λb e=>e);have HL:=ah hloc;obtain⟨A,c,rfl,hI,hc,hm,hnil⟩:=h.ints;have hcs:∀W:World,(Instr.sliceAt 30 (.slice A l.length c) (some (.int .i64 (l.length:Int))) none none).run Tryz.prog W=.ok (.slice (if c=l.length then A else A.map (·.add (l.length*1))) (l.length-l.length) (c-l.length)) W:=λW=>qo A l.length c l.length aD W;unfold maxLen at hm;clear h hI hloc hg ho hnil;generalize hn:l.length=n at *;have HN:=ah hn;have Hu:=ah hr;clear hr hn;by_cases hcn:c=n
 . exact Z3o
 . exact Z3o
theorem Kq{g c i vb:Nat}{l:List Int}{w:World}{x:Int}(h:Rw w g c l)(hi:i<l.length)(hr:l.length<c)(hv:At w vb (.cells #[.int .i64 x] 3))(hne:vb≠g):Calls Tryz.prog 57 #[.slice (some ⟨g,0,none⟩) l.length c,.int .i64 (i:Int),.slice (some ⟨vb,0,none⟩) 1 1] w λe w'=>e=.returned (.slice (some ⟨g,0,none⟩) (l.length+1) c)/\Rw w' g c (Tr.wi l i x)/\Out (λb=>b=g) w w':=by
 obtain⟨cur,hA,hs,hc,hm,ht⟩:=h;unfold maxLen at hm
 have hov:∀lb cb,(callFunc 81 #[.slice (some ⟨vb,0,none⟩) 1 1,.slice (some ⟨g,i+1,none⟩) lb cb]).run Tryz.prog w=.ok (.value (.bool false)) w:=λlb cb=>by
  rw[run_callFunc_extern Tryz.func81 jD jD jD (e:=Extern.SlicesOverlaps.overlaps #[30,30] #[4]) jD,
   Lib.run_overlaps_apart w 30 4 3 Tryz.underlying30 1 (λ_=>by kernel_rfl) ⟨vb,0,none⟩ ⟨g,i+1,none⟩ 1 1 lb cb hne _ _ _ _ hv.shape hA.shape aj (hv.thaw _) (hv.thaw _)]
  rfl
 have hti:∀k,k<=l.length->cur.toList.take k=(l.take k).map (Value.int .i64):=λk hk=>by
  rw[List.map_take,<-ht,List.take_take,Nat.min_eq_left hk]
 obtain⟨news,hnews⟩:∃news,news=(l.drop i).map (Value.int .i64):=⟨_,rfl⟩;have hnl:news.length=l.length-i:=by rw[hnews];simp
 have hcp1:=run_copy_row (P:=Tryz.prog) w.drew 30 30 3 3 g (i+1) (l.length+1-(i+1)) (c-(i+1)) ⟨g,i,none⟩ (l.length+1-i) (c-i) cur 3 news Tryz.underlying30 Cj hA.drew (by rw[hnl];simp only[Nat.min_def];split<;>omega)
  (λk u hu=>by
   have hk:k<l.length-i:=by rw[<-hnl];exact(List.getElem?_eq_some_iff.1 hu).1
   rw[addr_add,hA.drew.cell];have e:(cur.toList.take l.length)[i+k]? = (l.map (Value.int .i64))[i+k]? := by rw[ht]
   rw[List.getElem?_take,if_pos aj]at e;rw[hnews,List.getElem?_map,List.getElem?_drop]at hu;rw[<-hu,<-List.getElem?_map,<-e]
   simp) aj (by rw[hnews];exact DC _)
 obtain⟨X,hX⟩:∃X:Array Value,X=(cur.toList.take (i+1)++news++cur.toList.drop (i+1+news.length)).toArray:=⟨_,rfl⟩;rw[<-hX]at hcp1;have hXs:X.size=c:=by rw[hX];simp;omega
 have Yg:At (w.drew.setRow g X) g (.cells X 3):=hA.drew.setRow X;have hvX:At (w.drew.setRow g X) vb (.cells #[.int .i64 x] 3):=hv.drew.nG hne X
 have hcp2:=run_copy_row (P:=Tryz.prog) (w.drew.setRow g X) 30 30 3 3 g i (l.length+1-i) (c-i) ⟨vb,0,none⟩ 1 1 X 3 [.int .i64 x] Tryz.underlying30 Cj Yg (by simp only[Nat.min_def,List.length_singleton];split<;>omega)
  (λk u hu=>by
   have hk:k=0:=by have:=(List.getElem?_eq_some_iff.1 hu).1;simpa using this
   subst hk
   rw[addr_add,hvX.cell];simpa using hu) jM JB
 rw[setRow_setRow]at hcp2;obtain⟨Y,hY⟩:∃Y:Array Value,Y=(X.toList.take i++[Value.int .i64 x]++X.toList.drop (i+[Value.int .i64 x].length)).toArray:=⟨_,rfl⟩;rw[<-hY]at hcp2;have hYs:Hid (Y.size=c):=ah (by rw[hY];simp;omega)
 have hYt:Hid (Y.toList.take (Tr.wi l i x).length=(Tr.wi l i x).map (Value.int .i64)):=ah (by
  rw[Tr.mZ,hY,hX];simp only[Tr.wi,List.map_append,List.map_cons,List.length_singleton];have e0:(cur.toList.take (i+1)).length=i+1:=by simp;omega
  have e1:(cur.toList.take i).length=i:=by simp;omega
  have e2:List.take i (cur.toList.take (i+1)++news++cur.toList.drop (i+1+news.length))=cur.toList.take i:=by
   rw[List.append_assoc,List.take_append_of_le_length aj,List.take_take,Nat.min_eq_left aj]
  have e3:List.drop (i+1) (cur.toList.take (i+1)++news++cur.toList.drop (i+1+news.length))=news++cur.toList.drop (i+1+news.length):=by
   rw[List.append_assoc,List.drop_append_of_le_length aj,List.drop_of_length_le aj,List.nil_append]
  rw[e2,e3,<-hti i aj,<-hnews];have e4:(cur.toList.take i++[Value.int .i64 x]++news).length=l.length+1:=by simp[hnl];omega
  rw[<-List.append_assoc,List.take_append_of_le_length aj,List.take_of_length_le aj]
  simp)
 have hQ:Hid (At (w.drew.setRow g Y) g (.cells Y 3)):=ah (hA.drew.setRow Y);have hO:Hid (Out (λb=>b=g) w (w.drew.setRow g Y)):=ah (Out.setRow (M:=λb=>b=g) (Out.drew (Out.refl _ _)) rfl Y);have hwl:Hid ((Tr.wi l i x).length=l.length+1):=ah (Tr.mZ _ _ _);generalize hn:l.length=n at *;have HN:=ah hn;have hw1:IntKind.i64.wrap ((i:Int)+1)=(i:Int)+1:=by rw[IntWalk.i64_in _ aj]
 have hz2:¬ ((i:Int)=(n:Int)):=by omega
 have hz3:((i:Int)==(n:Int))=false:=by simpa using hz2
 have hb1:(0:Int)<=(i:Int)+1:=by omega
 have hb2:¬ (c=i+1):=by omega
 have hb3:(i:Int)<=(n:Int)+1:=by omega
 have hb4:¬ (c=i):=by omega
 have htn:((i:Int)+1).toNat=i+1:=by omega
 have TR:=ah hcp1;have HC2:=ah hcp2
 have HS1:Hid (∀W,(Instr.sliceAt 30 (.slice (some ⟨g,0,none⟩) (n+1) c) (some (.int .i64 ((i:Int)+1))) none none).run Tryz.prog W=.ok (.slice (some ⟨g,i+1,none⟩) (n+1-(i+1)) (c-(i+1))) W):=ah λW=>by
  have:=jX g (n+1) c (i+1) aj W;rw[cutAt,if_neg hb2]at this;rw[show(i:Int)+1=((i+1:Nat):Int)by omega];exact this
 have HS2:Hid (∀W,(Instr.sliceAt 30 (.slice (some ⟨g,0,none⟩) (n+1) c) (some (.int .i64 (i:Int))) none none).run Tryz.prog W=.ok (.slice (some ⟨g,i,none⟩) (n+1-i) (c-i)) W):=ah λW=>by
  have:=jX g (n+1) c i aj W;rw[cutAt,if_neg hb4]at this;exact this
 clear hcp1 hcp2 hX hY hXs Yg hvX hnl hnews hti ht hA hs hn hv;go_enter Tryz.func57,Tryz.ntmps57
 go_upto_region 15 with(simp only[hov])
 refine lF (S:=(λ_=>True)) 9 ?_ ?_
 . trivial
 intro hS0;refine aW 0 ?_;refine aW 1 ?_;refine aW 2 ?_;refine aW 3 ?_;refine rO 4 rfl (ni aX rfl (λW=>HS1.out W)) ?_;refine aW 5 ?_;refine aW 6 ?_;refine rO 7 rfl (ni aX rfl (λW=>HS2.out W)) ?_;refine tk1 8 ?_;refine ak.Step.value (Gu (.tmp 73) (.tmp 76) 30 30 rfl rfl rfl TR.out) ?_;refine⟨λ_=>trivial,?_⟩
 (try simp only[bL,bM,bN,tks])
 refine ko ?_;have hcp2:=HC2.out;go_wp2
 go_ret
 exact⟨rfl,⟨Y,hQ.out,hYs.out,by rw[hwl.out];omega,by unfold maxLen;omega,hYt.out⟩,hO.out⟩
theorem Kr{g i vb:Nat}{l:List Int}{w:World}{x:Int}(h:Rw w g l.length l)(hi:i<l.length)(hl:l.length<=10000)(hv:At w vb (.cells #[.int .i64 x] 3)):Calls Tryz.prog 57 #[.slice (some ⟨g,0,none⟩) l.length l.length,.int .i64 (i:Int),.slice (some ⟨vb,0,none⟩) 1 1] w λe w'=>(∃c,e=.returned (.slice (some ⟨w.heap.size,0,none⟩) (l.length+1) c)/\Rw w' w.heap.size c (Tr.wi l i x))/\Below w.heap.size w w':=by
 obtain⟨i0,hi0,hz0,hz1,hz2⟩:=info_parts intZero;have hgl:=h.lt;have hI:=h.ints;obtain⟨cur,hA,hs,hc,hm,ht⟩:=h;clear hm
 have hti:∀k,k<=l.length->cur.toList.take k=(l.take k).map (Value.int .i64):=λk hk=>by
  rw[List.map_take,<-ht,List.take_take,Nat.min_eq_left hk]
 have hcell:∀k u,(l.map (Value.int .i64))[k]? = some u->cur[k]? = some u:=λk u hu=>by
  have hk:k<l.length:=by have:=(List.getElem?_eq_some_iff.1 hu).1;simpa using this
  have e:(cur.toList.take l.length)[k]? = (l.map (Value.int .i64))[k]? := by rw[ht]
  rw[List.getElem?_take,if_pos hk,hu]at e;simpa using e
 have hold:(Builtin.firstCells i0.size i (.slice (some ⟨g,0,none⟩) i l.length)).run Tryz.prog w.drew=.ok (cur.toList.take i).toArray w.drew:=by
  rw[hz1]
  exact run_firstCells_some w.drew 1 i ⟨g,0,none⟩ i l.length (cur.toList.take i) (by rw[List.length_take];simp;omega) (λk u hu=>by
   rw[addr_add,hA.drew.cell];rw[List.getElem?_take]at hu;split at hu
   . simpa using hu
   . cases hu)
 have happ:=Lib.run_append_grow_zeros (P:=Tryz.prog) w 30 3 30 3 i0 (.int .i64 0) .i64 .i64 Tryz.underlying30 Tryz.underlying3 hi0 hz0 (some ⟨g,0,none⟩) i l.length _ hold (l.length+1-i) aj aj aj aj QS (by rw[hz2];exact growslice_fits aj aj);obtain⟨G,hG⟩:∃G,G=grownCap w (i+(l.length+1-i)) l.length 3:=⟨_,rfl⟩;have hGn:l.length+1<=G:=by have:=grownCap_ge w (i+(l.length+1-i)) l.length 3;omega
 have hGm:G<=maxLen:=by rw[hG];exact grownCap_le_maxLen _ _ _ _ Py
 rw[<-hG,show i+(l.length+1-i)=l.length+1 by omega]at happ;obtain⟨R,hR⟩:∃R:Array Value,R=(cur.toList.take i).toArray++Builtin.zeroCells (Value.int .i64 0).cells (l.length+1-i)++Builtin.zeroCells (Value.int .i64 0).cells (G-(l.length+1)):=⟨_,rfl⟩;rw[<-hR]at happ;have hRs:R.size=G:=by rw[hR];simp[size_zeroCells,Value.cells];omega
 have hRt:R.toList.take i=cur.toList.take i:=by
  rw[hR];simp only[Array.toList_append,List.append_assoc];rw[List.take_append_of_le_length jM,List.take_of_length_le jM]
 clear hR;obtain⟨b,hb⟩:∃b,b=w.heap.size:=⟨_,rfl⟩;obtain⟨W1,hW1⟩:∃W1,W1=w.drew.alloc (.cells R 3):=⟨_,rfl⟩;have hA1:At W1 b (.cells R 3):=by rw[hW1,hb];exact At.new _ _
 have hg1:At W1 g (.cells cur 3):=by rw[hW1];exact hA.drew.alloc _
 have hv1:At W1 vb (.cells #[.int .i64 x] 3):=by rw[hW1];exact hv.drew.alloc _
 have hB1:Below b w W1:=by rw[hW1,hb];exact(Below.refl _ _).drew.alloc eZ _
 have hvb:vb≠b:=by rw[hb];exact dB hv.lt
 have hgb:g≠b:=by rw[hb];exact dB hgl
 rw[<-hW1,<-hb]at happ
 have hcp1:=run_copy_row (P:=Tryz.prog) W1 30 30 3 3 b i (l.length+1-i) (G-i) ⟨vb,0,none⟩ 1 1 R 3 [.int .i64 x] Tryz.underlying30 Cj hA1 (by simp only[Nat.min_def,List.length_singleton];split<;>omega)
  (λk u hu=>by
   have hk:k=0:=by have:=(List.getElem?_eq_some_iff.1 hu).1;simpa using this
   subst hk
   rw[addr_add,hv1.cell];simpa using hu) jM JB
 obtain⟨X,hX⟩:∃X:Array Value,X=(R.toList.take i++[Value.int .i64 x]++R.toList.drop (i+[Value.int .i64 x].length)).toArray:=⟨_,rfl⟩;rw[<-hX]at hcp1;have hXs:X.size=G:=by rw[hX];simp;omega
 have Yg:At (W1.setRow b X).drew b (.cells X 3):=(hA1.setRow X).drew;have hgX:At (W1.setRow b X).drew g (.cells cur 3):=(hg1.nG hgb X).drew;obtain⟨news,hnews⟩:∃news,news=(l.drop i).map (Value.int .i64):=⟨_,rfl⟩;have hnl:news.length=l.length-i:=by rw[hnews];simp
 have hcp2:=run_copy_row (P:=Tryz.prog) (W1.setRow b X).drew 30 30 3 3 b (i+1) (l.length+1-(i+1)) (G-(i+1)) ⟨g,i,none⟩ (l.length-i) (l.length-i) X 3 news Tryz.underlying30 Cj Yg (by rw[hnl];simp only[Nat.min_def];split<;>omega)
  (λk u hu=>by
   rw[addr_add,hgX.cell];rw[hnews,List.getElem?_map,List.getElem?_drop,<-List.getElem?_map]at hu
   exact hcell _ _ hu) aj (by rw[hnews];exact DC _)
 obtain⟨Y,hY⟩:∃Y:Array Value,Y=(X.toList.take (i+1)++news++X.toList.drop (i+1+news.length)).toArray:=⟨_,rfl⟩;rw[<-hY,show((W1.setRow b X).drew).setRow b Y=(W1.setRow b Y).drew by rw[<-Ko,setRow_setRow]]at hcp2;have hYs:Hid (Y.size=G):=ah (by rw[hY];simp;omega)
 have hYt:Hid (Y.toList.take (Tr.wi l i x).length=(Tr.wi l i x).map (Value.int .i64)):=ah (by
  rw[Tr.mZ,hY,hX];simp only[Tr.wi,List.map_append,List.map_cons,List.length_singleton];have e1:(R.toList.take i).length=i:=by simp;omega
  have e2:List.take (i+1) (R.toList.take i++[Value.int .i64 x]++R.toList.drop (i+1))=R.toList.take i++[Value.int .i64 x]:=by
   rw[List.take_append_of_le_length jM,List.take_of_length_le jM]
  rw[e2,hRt,<-hti i aj,<-hnews];have e4:(cur.toList.take i++[Value.int .i64 x]++news).length=l.length+1:=by simp[hnl];omega
  rw[List.take_append_of_le_length aj,List.take_of_length_le aj]
  simp)
 have hQ:Hid (At (W1.setRow b Y).drew b (.cells Y 3)):=ah (hA1.setRow Y).drew;have hO:Hid (Below b w (W1.setRow b Y).drew):=ah (below_setRow hB1 aD Y).drew;have hwl:Hid ((Tr.wi l i x).length=l.length+1):=ah (Tr.mZ _ _ _);unfold maxLen at hGm;rw[<-hb];clear hG;generalize hn:l.length=n at *;have HN:=ah hn;have hw1:IntKind.i64.wrap ((i:Int)+1)=(i:Int)+1:=by rw[IntWalk.i64_in _ aj]
 have hw2:IntKind.i64.wrap ((n:Int)+1-(i:Int))=(n:Int)+1-(i:Int):=by rw[IntWalk.i64_in _ aj]
 have hz2:¬ ((i:Int)=(n:Int)):=by omega
 have hz3:((i:Int)==(n:Int))=false:=by simpa using hz2
 have hb1:(0:Int)<=(i:Int)+1:=by omega
 have hb2:¬ (G=i+1):=by omega
 have hb5:¬ (G=i):=by omega
 have hb4:¬ (n=i):=by omega
 have TR:=ah hcp1;have HC2:=ah hcp2
 have ace:Hid ((Builtin.append_ #[30,3] 30 #[.slice (some ⟨g,0,none⟩) i n,.int .i64 ((n:Int)+1-(i:Int))]).run Tryz.prog w=.ok (.slice (some ⟨b,0,none⟩) (n+1) G) W1):=ah (by
  rw[show(n:Int)+1-(i:Int)=((n+1-i:Nat):Int)by omega];exact happ)
 have HS1:Hid (∀W,(Instr.sliceAt 30 (.slice (some ⟨b,0,none⟩) (n+1) G) (some (.int .i64 ((i:Int)+1))) none none).run Tryz.prog W=.ok (.slice (some ⟨b,i+1,none⟩) (n+1-(i+1)) (G-(i+1))) W):=ah λW=>by
  have:=jX b (n+1) G (i+1) aj W;rw[cutAt,if_neg hb2]at this;rw[show(i:Int)+1=((i+1:Nat):Int)by omega];exact this
 have HS2:Hid (∀W,(Instr.sliceAt 30 (.slice (some ⟨g,0,none⟩) n n) (some (.int .i64 (i:Int))) none none).run Tryz.prog W=.ok (.slice (some ⟨g,i,none⟩) (n-i) (n-i)) W):=ah λW=>by
  have:=jX g n n i aj W;rw[cutAt,if_neg hb4]at this;exact this
 have HB:=ah hb;clear hcp1 hcp2 hX hY hXs Yg hgX hnl hnews hti ht hA hs hn hv happ hold hI hcell hA1 hg1 hv1 hB1 hvb hgb hRs hRt hW1 hb hc;go_enter Tryz.func57,Tryz.ntmps57
 go_upto_region 10 with(at_builtin;refine NG aX (Az (.tmp 34) (.tmp 39) 30 3 rfl rfl rfl ace.out) ?_)
 have hcp1:=TR.out
 go_upto_region 11 with(fail)
 refine lF (S:=(λ_=>True)) 9 ?_ ?_
 . trivial
 intro hS0;refine aW 0 ?_;refine aW 1 ?_;refine aW 2 ?_;refine aW 3 ?_;refine rO 4 rfl (ni aX rfl (λW=>HS1.out W)) ?_;refine aW 5 ?_;refine aW 6 ?_;refine rO 7 rfl (ni aX rfl (λW=>HS2.out W)) ?_;refine tk1 8 ?_;refine ak.Step.value (Gu (.tmp 50) (.tmp 53) 30 30 rfl rfl rfl HC2.out) ?_;refine⟨λ_=>trivial,?_⟩
 (try simp only[bL,bM,bN,tks])
 refine ko ?_;go_wp2
 go_ret
 exact⟨⟨G,rfl,⟨Y,hQ.out,hYs.out,by rw[hwl.out];omega,by unfold maxLen;omega,hYt.out⟩⟩,hO.out⟩
theorem NJ{v:Value}{l:List Int}{w:World}{i vb:Nat}{x:Int}(h:KS w v l)(hi:i<=l.length)(hl:l.length<=10000)(hv:At w vb (.cells #[.int .i64 x] 3))(hne:v.ownBlock≠some vb):Calls Tryz.prog 57 #[v,.int .i64 (i:Int),.slice (some ⟨vb,0,none⟩) 1 1] w λe w'=>∃v',e=.returned v'/\KS w' v' (Tr.wi l i x)/\Out (λb=>v.ownBlock=some b) w w'/\(v'.ownBlock=v.ownBlock\/v'.ownBlock=some w.heap.size):=by
 by_cases hin:i=l.length
 . subst hin
   refine(NI h hl hv).mono ?_;rintro e w' ⟨v',rfl,h1,h2,h3⟩;exact⟨v',rfl,by rw[Tr.wi,List.take_length,List.drop_length];exact h1,h2,h3⟩
 . rcases h.cases with⟨rfl,rfl⟩|⟨g,c,rfl,hr⟩
   . simp at hi;simp[hi]at hin
   . have Yh:vb≠g:=λe=>hne (by rw[e];rfl)
     by_cases hc:l.length<c
     . refine(Kq hr aj hc hv Yh).mono ?_
       rintro e w' ⟨rfl,h1,h2⟩;exact⟨_,rfl,by have:=h1.ks;rw[Tr.mZ]at this;exact this,h2.mono λb _ e=>by subst e;rfl,.inl rfl⟩
     . have hcl:c=l.length:=by obtain⟨_,_,_,h3,_⟩:=hr;omega
       subst hcl;refine(Kr hr aj hl hv).mono ?_;rintro e w' ⟨⟨c,rfl,h1⟩,h2⟩;exact⟨_,rfl,by have:=h1.ks;rw[Tr.mZ]at this;exact this,Out.of_below h2,.inr rfl⟩
def ptr:Option Nat->Value
 | none => .pointer none
 | some b => .pointer (some ⟨b,0,none⟩)
def ptD:Option Nat->DataW Nat
 | none => .nil
 | some b => .held b
def ptR:Value->Option (DataW Nat×List MemPlace)
 | .pointer none=>some (.nil,[])
 | .pointer (some a)=>if a=⟨a.block,0,none⟩then some (.held a.block,[])else none
 | _=>none
theorem PY(o:Option Nat):ptR (ptr o)=some (ptD o,[]):=by cases o<;>simp[ptr,ptR,ptD]
theorem ZJ{v:Value}{o:Option Nat}{ps:List MemPlace}(h:ptR v=some (ptD o,ps)):v=ptr o:=by
 cases v with
 | pointer p =>
   cases p with
   | none=>cases o<;>simp[ptR,ptD]at h;rfl
   | some a =>
     simp only[ptR]at h;split at h
     . rename_i ha
       cases o<;>simp[ptD]at h;rw[ha,h.1];rfl
     . cases h
 | _=>simp[ptR]at h
theorem mU:Maps.Keyed Tryz.prog 3:=Maps.int_keyed Tryz.underlying3
def Wf(z:Int):Prop:=(Lit.int .i64 z).wf=true
theorem iX(z:Int):Wf z ↔ -9223372036854775808<=z/\z<=9223372036854775807:=by
 unfold Wf;constructor
 . intro h;exact bounds_i64 h
 . intro h;exact WalkArith.wf_i64 h
theorem mJ{z:Int}(h:Wf z):keyOf Tryz.prog 3 (.int .i64 z)=some (.int .i64 z):=Maps.keyOf_int_mk Tryz.underlying3 h
theorem UZ(z:Int):WideAt.IsKeyLit (.int .i64 z):=trivial
theorem DF{y z:Int}(h:y≠z):Lit.int .i64 y≠Lit.int .i64 z:=λe=>by injection e with _ e;exact h e
def PM(W:World)(b n:Nat)(f:Int->Option Nat):Prop :=
 ∃D:DataW Nat,W.ownsMap Tryz.prog 3 ptR b n D/\Maps.size D=n/\∀z,Wf z->D.atKey (.int .i64 z) .nil=ptD (f z)/\Maps.has D (.int .i64 z)=(f z).isSome
theorem wU{P:Program}{k:TypeId}{R:Value->Option (DataW Nat×List MemPlace)}{W:World}{b n:Nat}{D:DataW Nat}(h:W.ownsMap P k R b n D):W.ownsMap P k R b (Maps.size D) D:=by
 obtain⟨es,clock,hb,F,hs,rfl⟩:=h;exact⟨es,clock,hb,F,by simp[Maps.size,length_sorted],rfl⟩
theorem PM.lt{W:World}{b n:Nat}{f:Int->Option Nat}(h:PM W b n f):b<W.heap.size:=by obtain⟨D,h,_⟩:=h;exact h.lt
theorem PM.out{M:Nat->Prop}{W W':World}{b n:Nat}{f:Int->Option Nat}(h:PM W b n f)(hm:¬ M b)(k:Out M W W'):PM W' b n f:=by
 have hl:=h.lt;obtain⟨D,⟨es,clock,hb,r⟩,r2⟩:=h;exact⟨D,⟨es,clock,(k.2 b hl hm).trans hb,r⟩,r2⟩
theorem PM.congr{W:World}{b n:Nat}{f g:Int->Option Nat}(h:PM W b n f)(e:∀z,Wf z->f z=g z):PM W b n g:=by
 obtain⟨D,h1,h2,h3⟩:=h;exact⟨D,h1,h2,λz hz=>by rw[<-e z hz];exact h3 z hz⟩
theorem PM.look{W:World}{b n:Nat}{f:Int->Option Nat}(h:PM W b n f){z:Int}(hz:Wf z):(Instr.lookup 92 (.map (some b)) (.int .i64 z) false).run Tryz.prog W=.ok (ptr (f z)) W:=by
 obtain⟨D,h1,_,h3⟩:=h;obtain⟨v,ps,hr,hv⟩:=h1.lookup (z:=ptr none) (zd:=.nil) (zp:=[]) mU Tryz.underlying92 jD (PY none) (mJ hz);rw[(h3 z hz).1]at hv;rw[hr,ZJ hv]
theorem PM.len{W:World}{b n:Nat}{f:Int->Option Nat}(h:PM W b n f)(ty:TypeId):(Builtin.len_ #[92] ty #[.map (some b)]).run Tryz.prog W=.ok (.int .i64 (n:Int)) W:=by
 obtain⟨D,h1,h2,h3⟩:=h;rw[h1.len Tryz.underlying92 ty,h2]
def NK(f:Int->Option Nat)(z:Int)(b:Nat):Int->Option Nat:=λy=>if y=z then some b else f y
def ZK(f:Int->Option Nat)(z:Int):Int->Option Nat:=λy=>if y=z then none else f y
theorem Out.turned{W W':World}{b:Nat}(h:W.mapTurned W' b):Out (λx=>x=b) W W':=by
 have hg:=h.grown;exact⟨⟨hg.os,hg.tape,hg.output,hg.size,λ_ hb=>absurd hb (Nat.not_lt_zero _)⟩,λx hx hm=>hg.block x hx (λe=>hm (by injection e))⟩
theorem PM.store{W:World}{b n:Nat}{f:Int->Option Nat}(h:PM W b n f)(hn:n<maxLen){z:Int}(hz:Wf z)(hf:f z=none)(c:Nat) :
  ∃W',(Instr.mapUpdate 92 (.map (some b)) (.int .i64 z) (.pointer (some ⟨c,0,none⟩))).run Tryz.prog W=.ok () W'/\PM W' b (n+1) (NK f z c)/\Out (λx=>x=b) W W':=by
 obtain⟨D,h1,h2,h3⟩:=h;obtain⟨W',hr,ho,ht⟩:=h1.store mU Tryz.underlying92 hn (mJ hz) (PY (some c));have hsz:Maps.size (D.put (.int .i64 z) (ptD (some c)))=n+1:=by
  rw[Maps.size_put (h1.tidy mU),(h3 z hz).2,hf,h2];rfl
 refine⟨W',hr,⟨_,hsz▸wU ho,hsz,λy hy => ?_⟩,Out.turned ht⟩;unfold NK;by_cases e:y=z
 . subst e
   rw[if_pos rfl,Maps.atKey_put_same h1.isMap (UZ y),Maps.has_put_same h1.isMap (UZ y)];exact⟨rfl,rfl⟩
 . rw[if_neg e,Maps.atKey_put_other (DF e),Maps.has_put_other (DF e)]
   exact h3 y hy
theorem PM.drop{W:World}{b n:Nat}{f:Int->Option Nat}(h:PM W b n f){z:Int}(hz:Wf z)(hf:(f z).isSome=true)(ty:TypeId) :
  ∃W',(Builtin.delete_ #[92,3] ty #[.map (some b),.int .i64 z]).run Tryz.prog W=.ok (.tuple #[]) W'/\PM W' b (n-1) (ZK f z)/\Out (λx=>x=b) W W'/\1<=n:=by
 obtain⟨D,h1,h2,h3⟩:=h;obtain⟨W',hr,ho,ht⟩:=h1.drop mU Tryz.underlying92 (mJ hz) ty;have hs:=Maps.size_del (k:=.int .i64 z) (h1.tidy mU);rw[(h3 z hz).2,hf,h2]at hs;have hsz:Maps.size (D.del (.int .i64 z))=n-1:=by simp at hs;omega
 refine⟨W',hr,⟨_,hsz▸wU ho,hsz,λy hy => ?_⟩,Out.turned ht,by simp at hs;omega⟩;unfold ZK;by_cases e:y=z
 . subst e
   rw[if_pos rfl,Maps.atKey_del_same,Maps.has_del_same];exact⟨rfl,rfl⟩
 . rw[if_neg e,Maps.atKey_del_other (DF e),Maps.has_del_other (DF e)]
   exact h3 y hy
theorem PM.made(W:World):PM (W.alloc (.map #[] 0)) W.heap.size 0 (λ_=>none) :=
 ⟨.map [],World.ownsMap_made _ _ _ _,rfl,λz hz=>⟨rfl,rfl⟩⟩
def uz(W:World)(b o:Nat)(s:Re.St):Prop:=∀j,j<55->W.cell? ⟨b,o+j,none⟩=some (cell s j)
theorem Kt{W:World}{b o:Nat}{s:Re.St}(h:uz W b o s):(loadVar 46 ⟨b,o,none⟩).run Tryz.prog W=.ok (.agg (cells s)) W:=by
 have hl:=run_loadCells_list (P:=Tryz.prog) W ⟨b,o,none⟩ (cells s).toList (λj v hj=>by
  have hj':j<55:=by have:=(List.getElem?_eq_some_iff.1 hj).1;simpa[bI]using this
  rw[addr_add,h j hj'];rw[Array.getElem?_toList,iC s hj']at hj
  exact hj)
 rw[Array.length_toList,bI]at hl;have hi:(isAgg 46).run Tryz.prog W=.ok true W:=by kernel_rfl
 have hz:(sizeOf 46).run Tryz.prog W=.ok 55 W:=by kernel_rfl
 simp only[loadVar,Sem.run_bind,hi,hz,hl,Result.andThen_ok,if_true,Sem.run_pure]
theorem Ku{W:World}{b o:Nat}{s:Re.St}(h:uz W b o s):(Instr.loadAt 46 (.pointer (some ⟨b,o,none⟩))).run Tryz.prog W=.ok (.agg (cells s)) W:=by
 simp only[Instr.loadAt,Instr.sureAddr,Sem.run_bind,Sem.run_pure,Result.andThen_ok,Kt h]
theorem fJ{ops:Array Oper}{rest:List Oper}{o:Oper}{a:Act}{w:World}{Q:Exit->Act->World->Prop}(hw:Region.wanted o (yielded ops a.tmps)=true)(x:Operand)(ho:o.op=.load 46 x){b k:Nat}(hx:a.eval x=.pointer (some ⟨b,k,none⟩)){s:Re.St}(hs:uz w b k s)
  (h:wpList Tryz.prog ops Q rest (a.put o.dst (.agg (cells s))) w):wpList Tryz.prog ops Q (o::rest) a w :=
 eu hw (by unfold execOp;simp only[ho,hx,Sem.run_bind,Ku hs,Result.andThen_ok,Sem.run_pure]) h
def cu(u:Int)(v:Value)(s:Re.St):Array Value:=#[.int .i64 u,v]++cells s
theorem AA(u:Int)(v:Value)(s:Re.St):(cu u v s).size=57:=by simp[cu,bI]
theorem NM(u:Int)(v:Value)(s:Re.St){j:Nat}(h:j<55):(cu u v s)[2+j]? = some (cell s j):=by
 unfold cu;rw[Array.getElem?_append_right eZ,show 2+j-(#[Value.int .i64 u,v]:Array Value).size=j by simp,iC s h]
theorem Rm(u:Int)(v:Value)(s:Re.St):(cu u v s)[0]? = some (.int .i64 u):=by
 unfold cu;rw[Array.getElem?_append_left eZ];rfl
theorem vC(u:Int)(v:Value)(s:Re.St):(cu u v s)[1]? = some v:=by
 unfold cu;rw[Array.getElem?_append_left eZ];rfl
theorem E9(u u':Int)(v:Value)(s:Re.St):(cu u v s).setIfInBounds 0 (.int .i64 u')=cu u' v s:=by
 unfold cu;rw[Array.setIfInBounds_append_left eZ];rfl
theorem BF(u:Int)(v v':Value)(s:Re.St):(cu u v s).setIfInBounds 1 v'=cu u v' s:=by
 unfold cu;rw[Array.setIfInBounds_append_left eZ];rfl
theorem IC(u:Int)(W:World):(Instr.build 90 #[(0,.int .i64 u)]).run Tryz.prog W=.ok (.agg (cu u (.slice none 0 0) Re.zero)) W:=by kernel_rfl
theorem DI(W:World):(Instr.build 90 #[]).run Tryz.prog W=.ok (.agg (cu 0 (.slice none 0 0) Re.zero)) W:=by kernel_rfl
theorem NP(b:Nat)(W:World):(Instr.build 94 #[(0,.map (some b))]).run Tryz.prog W=.ok (.agg #[.map (some b)]) W:=by kernel_rfl
theorem At.uniq{W:World}{b:Nat}{o o':Obj}(h:At W b o)(k:At W b o'):o=o':=Option.some.inj (h.symm.trans k)
theorem KS.rowAt{W:World}{v:Value}{l:List Int}(h:KS W v l){g:Nat}(hg:v.ownBlock=some g):∃cur:Array Value,At W g (.cells cur 3):=by
 rcases h.cases with⟨rfl,_⟩|⟨g',c,rfl,cur,h1,_⟩
 . simp[Value.ownBlock]at hg
 . simp[Value.ownBlock]at hg;subst hg;exact⟨cur,h1⟩
theorem PM.obj{W:World}{b n:Nat}{f:Int->Option Nat}(h:PM W b n f):∃es clock,At W b (.map es clock):=by obtain⟨D,⟨es,clock,hb,_⟩,_⟩:=h;exact⟨es,clock,hb⟩
structure Lay where
 mb:Nat
 bl:Int->Nat
 sl:Int->Value
structure fV(W:World)(t:Nat)(L:Lay)(T:Tr.T)(n:Nat):Prop where
 at_:At W t (.cells #[.map (some L.mb)] 94)
 map:PM W L.mb n (λz=>(T z).map λ_=>L.bl z)
 box:∀z nd,T z=some nd->At W (L.bl z) (.cells (cu nd.up (L.sl z) nd.sty) 90)
 row:∀z nd,T z=some nd->KS W (L.sl z) nd.kids
 inj:∀y z,T y≠none->T z≠none->L.bl y=L.bl z->y=z
 apart:∀y z g,T y≠none->T z≠none->(L.sl y).ownBlock=some g->(L.sl z).ownBlock=some g->y=z
 small:∀z nd,T z=some nd->0<=z/\z<4096/\-1<=nd.up/\nd.up<4096/\nd.kids.length<=4096
def owned(t:Nat)(L:Lay)(T:Tr.T)(b:Nat):Prop:=b=t\/b=L.mb\/∃z nd,T z=some nd/\(b=L.bl z\/(L.sl z).ownBlock=some b)
section
variable {W W':World} {t n:Nat} {L:Lay} {T:Tr.T}
theorem fV.out{M:Nat->Prop}(h:fV W t L T n)(hm:∀b,owned t L T b->¬ M b)(k:Out M W W'):fV W' t L T n where
 at_:=h.at_.out (hm _ (.inl rfl)) k
 map:=h.map.out (hm _ (.inr (.inl rfl))) k
 box:=λz nd hz=>(h.box z nd hz).out (hm _ (.inr (.inr ⟨z,nd,hz,.inl rfl⟩))) k
 row:=λz nd hz=>(h.row z nd hz).out (λg hg=>hm _ (.inr (.inr ⟨z,nd,hz,.inr hg⟩))) k
 inj:=h.inj
 apart:=h.apart
 small:=h.small
theorem fV.after(h:fV W t L T n)(hb:Below W.heap.size W W'):fV W' t L T n:=h.out (M:=λ_=>False) (λ_ _ q=>q) (Out.of_below hb)
theorem fV.alloc(h:fV W t L T n)(o:Obj):fV (W.alloc o) t L T n:=h.after (Below.alloc' aF o)
theorem fV.lt(h:fV W t L T n){b:Nat}(hb:owned t L T b):b<W.heap.size:=by
 rcases hb with rfl|rfl|⟨z,nd,hz,rfl|hg⟩
 . exact h.at_.lt
 . exact h.map.lt
 . exact(h.box z nd hz).lt
 . exact(h.row z nd hz).lt hg
theorem fV.aes(h:fV W t L T n):t≠L.mb:=λe=>by
 obtain⟨es,clock,h1⟩:=h.map.obj;have:=h.at_.uniq (e▸h1);cases this
theorem fV.acf(h:fV W t L T n){z:Int}{nd:Tr.Nd}(hz:T z=some nd):L.bl z≠t:=λe=>by
 have:=(h.box z nd hz).uniq (e▸h.at_);injection this with _ e2;exact absurd e2 aH
theorem fV.F7(h:fV W t L T n){z:Int}{nd:Tr.Nd}(hz:T z=some nd):L.bl z≠L.mb:=λe=>by
 obtain⟨es,clock,h1⟩:=h.map.obj;have:=(h.box z nd hz).uniq (e▸h1);cases this
theorem fV.ag2(h:fV W t L T n){z:Int}{nd:Tr.Nd}(hz:T z=some nd):(L.sl z).ownBlock≠some t:=λe=>by
 obtain⟨cur,h1⟩:=(h.row z nd hz).rowAt e;have:=h1.uniq h.at_;injection this with _ e2;exact absurd e2 aH
theorem fV.PZ(h:fV W t L T n){z:Int}{nd:Tr.Nd}(hz:T z=some nd):(L.sl z).ownBlock≠some L.mb:=λe=>by
 obtain⟨cur,h1⟩:=(h.row z nd hz).rowAt e;obtain⟨es,clock,h2⟩:=h.map.obj;have:=h1.uniq h2;cases this
theorem fV.DJ(h:fV W t L T n){z y:Int}{nd yd:Tr.Nd}(hz:T z=some nd)(hy:T y=some yd):(L.sl z).ownBlock≠some (L.bl y):=λe=>by
 obtain⟨cur,h1⟩:=(h.row z nd hz).rowAt e;have:=h1.uniq (h.box y yd hy);injection this with _ e2;exact absurd e2 aH
theorem fV.M7(h:fV W t L T n){z y:Int}{nd yd:Tr.Nd}(hz:T z=some nd)(hy:T y=some yd):∀g,(L.sl z).ownBlock=some g->¬ (λb=>b=L.bl y) g:=λg hg (q:g=L.bl y)=>h.DJ hz hy (by rw[hg,q])
theorem fV.U3(h:fV W t L T n){z:Int}{nd:Tr.Nd}(hz:T z=some nd):∀g,(L.sl z).ownBlock=some g->¬ (λb=>b=L.mb) g:=λg hg (q:g=L.mb)=>h.PZ hz (by rw[hg,q])
theorem fV.wf(h:fV W t L T n){z:Int}{nd:Tr.Nd}(hz:T z=some nd):Wf z:=by have:=h.small z nd hz;rw[iX];omega
theorem fV.look(h:fV W t L T n){z:Int}(hz:Wf z):(Instr.lookup 92 (.map (some L.mb)) (.int .i64 z) false).run Tryz.prog W=.ok (ptr ((T z).map λ_=>L.bl z)) W:=h.map.look hz
theorem fV.Rn(h:fV W t L T n){z:Int}(hz:Wf z)(hn:T z=none):(Instr.lookup 92 (.map (some L.mb)) (.int .i64 z) false).run Tryz.prog W=.ok (.pointer none) W:=by
 have:=h.look hz;rw[hn]at this;exact this
theorem fV.gN(h:fV W t L T n){z:Int}{nd:Tr.Nd}(hn:T z=some nd):(Instr.lookup 92 (.map (some L.mb)) (.int .i64 z) false).run Tryz.prog W=.ok (.pointer (some ⟨L.bl z,0,none⟩)) W:=by
 have:=h.look (h.wf hn);rw[hn]at this;exact this
theorem fV.cUp(h:fV W t L T n){z:Int}{nd:Tr.Nd}(hz:T z=some nd):W.cell? ⟨L.bl z,0,none⟩=some (.int .i64 nd.up):=by rw[(h.box z nd hz).cell,Rm]
theorem fV.lZ(h:fV W t L T n){z:Int}{nd:Tr.Nd}(hz:T z=some nd):W.cell? ⟨L.bl z,1,none⟩=some (L.sl z):=by rw[(h.box z nd hz).cell,vC]
theorem fV.sty(h:fV W t L T n){z:Int}{nd:Tr.Nd}(hz:T z=some nd):uz W (L.bl z) 2 nd.sty:=λj hj=>by rw[(h.box z nd hz).cell,NM _ _ _ hj]
theorem fV.cT(h:fV W t L T n):W.cell? ⟨t,0,none⟩=some (.map (some L.mb)):=by rw[h.at_.cell];rfl
def Grow(t:Nat)(L L':Lay)(T T':Tr.T)(W W':World):Prop:=Out (owned t L T) W W'/\∀b,owned t L' T' b->owned t L T b\/W.heap.size<=b
theorem Grow.refl(t:Nat)(L:Lay)(T:Tr.T)(W:World):Grow t L L T T W W:=⟨Out.refl _ _,λ_ h => .inl h⟩
theorem Grow.of_below(h:Below W.heap.size W W'):Grow t L L T T W W':=⟨Out.of_below h,λ_ h => .inl h⟩
theorem Grow.trans{W'':World}{L' L'':Lay}{T' T'':Tr.T}(h:Grow t L L' T T' W W')(k:Grow t L' L'' T' T'' W' W''):Grow t L L'' T T'' W W'':=by
 refine⟨⟨h.1.1.trans k.1.1,λb hb hm=>(k.1.2 b (aV hb h.1.size) λq => ?_).trans (h.1.2 b hb hm)⟩,λb hb => ?_⟩
 . rcases h.2 b q with q|q
   . exact hm q
   . omega
 . rcases k.2 b hb with q|q
   . exact h.2 b q
   . exact .inr (aJ h.1.size q)
theorem fV.U4(h:fV W t L T n){z u:Int}{nd:Tr.Nd}(hz:T z=some nd)(hu : -1<=u/\u<4096):fV (W.setCell ⟨L.bl z,0,none⟩ (.int .i64 u)) t L (Tr.set T z { nd with up:=u }) n/\Grow t L L T (Tr.set T z { nd with up:=u }) W (W.setCell ⟨L.bl z,0,none⟩ (.int .i64 u)):=by
 have hO:Out (λb=>b=L.bl z) W (W.setCell ⟨L.bl z,0,none⟩ (.int .i64 u)):=(Out.refl _ _).set (M:=λb=>b=L.bl z) rfl 0 _
 have hnn:∀y,(Tr.set T z { nd with up:=u } y≠none↔T y≠none):=λy=>by
  exact Z3w
 refine⟨⟨h.at_.out (λe=>h.acf hz e.symm) hO,(h.map.out (λe=>h.F7 hz e.symm) hO).congr λy _ => ?_,λy yd hy => ?_,λy yd hy => ?_,λx y hx hy=>h.inj x y ((hnn x).1 hx) ((hnn y).1 hy),λx y g hx hy=>h.apart x y g ((hnn x).1 hx) ((hnn y).1 hy),λy yd hy => ?_⟩,hO.mono λb _ e => .inr (.inr ⟨z,nd,hz,.inl e⟩),λb hb => .inl ?_⟩
 . exact Z3t
 . by_cases e:y=z
   . subst e;rw[Tr.aN]at hy;cases hy
     have:=(h.box y nd hz).set 0 (.int .i64 u);rw[E9]at this;exact this
   . rw[Tr.aK _ _ e]at hy
     exact(h.box y yd hy).off (λq=>e (h.inj y z (by simp[hy]) (by simp[hz]) q)) _ _
 . exact Z3g
 . by_cases e:y=z
   . subst e;rw[Tr.aN]at hy;cases hy
     have:=h.small y nd hz;exact⟨this.1,this.2.1,hu.1,hu.2,this.2.2.2.2⟩
   . exact Z40
 . exact Z2z
theorem fV.NQ(h:fV W t L T n){z:Int}{s:Re.St}{nd:Tr.Nd}(hz:T z=some nd):fV (W.setRow (L.bl z) (cu nd.up (L.sl z) s)) t L (Tr.set T z { nd with sty:=s }) n/\Grow t L L T (Tr.set T z { nd with sty:=s }) W (W.setRow (L.bl z) (cu nd.up (L.sl z) s)):=by
 have hO:Out (λb=>b=L.bl z) W (W.setRow (L.bl z) (cu nd.up (L.sl z) s)):=(Out.refl _ _).setRow (M:=λb=>b=L.bl z) rfl _
 have hnn:∀y,(Tr.set T z { nd with sty:=s } y≠none↔T y≠none):=λy=>by
  exact Z3w
 refine⟨⟨h.at_.out (λe=>h.acf hz e.symm) hO,(h.map.out (λe=>h.F7 hz e.symm) hO).congr λy _ => ?_,λy yd hy => ?_,λy yd hy => ?_,λx y hx hy=>h.inj x y ((hnn x).1 hx) ((hnn y).1 hy),λx y g hx hy=>h.apart x y g ((hnn x).1 hx) ((hnn y).1 hy),λy yd hy => ?_⟩,hO.mono λb _ e => .inr (.inr ⟨z,nd,hz,.inl e⟩),λb hb => .inl ?_⟩
 . exact Z3t
 . by_cases e:y=z
   . subst e;rw[Tr.aN]at hy;cases hy
     exact(h.box y nd hz).setRow _
   . rw[Tr.aK _ _ e]at hy
     exact(h.box y yd hy).nG (λq=>e (h.inj y z (by simp[hy]) (by simp[hz]) q)) _
 . exact Z3g
 . by_cases e:y=z
   . subst e;rw[Tr.aN]at hy;cases hy
     exact h.small y nd hz
   . exact Z40
 . exact Z2z
theorem fV.sU(h:fV W t L T n){z:Int}{nd:Tr.Nd}{l:List Int}{v:Value}(hz:T z=some nd)(iA:Out (λb=>(L.sl z).ownBlock=some b) W W')(hv:KS W' v l)(hloc:v.ownBlock=(L.sl z).ownBlock\/v.ownBlock=none\/∃b,v.ownBlock=some b/\W.heap.size<=b)(hl:l.length<=4096) :
  fV (W'.setCell ⟨L.bl z,1,none⟩ v) t { L with sl:=λy=>if y=z then v else L.sl y } (Tr.set T z { nd with kids:=l }) n/\Grow t L { L with sl:=λy=>if y=z then v else L.sl y } T (Tr.set T z { nd with kids:=l }) W (W'.setCell ⟨L.bl z,1,none⟩ v):=by
 have hO2:Out (λb=>b=L.bl z) W' (W'.setCell ⟨L.bl z,1,none⟩ v):=(Out.refl _ _).set (M:=λb=>b=L.bl z) rfl 1 _
 have hnn:∀y,(Tr.set T z { nd with kids:=l } y≠none↔T y≠none):=λy=>by
  exact Z3w
 have hrow:∀y yd,y≠z->T y=some yd->∀g,(L.sl y).ownBlock=some g->¬ (L.sl z).ownBlock=some g:=λy yd e hy g hg q=>e (h.apart y z g (by simp[hy]) (by simp[hz]) hg q);have hvz:v.ownBlock≠some (L.bl z):=by
  rcases hloc with e|e|⟨b,e,hb⟩
  . rw[e];exact h.DJ hz hz
  . rw[e];simp
  . rw[e];intro q;injection q with q;have:=(h.box z nd hz).lt;omega
 have hO3:Out (owned t L T) W (W'.setCell ⟨L.bl z,1,none⟩ v):=by
  refine Out.trans (iA.mono λb _ e => .inr (.inr ⟨z,nd,hz,.inr e⟩)) ?_;exact hO2.mono λb _ e => .inr (.inr ⟨z,nd,hz,.inl e⟩)
 refine⟨⟨(h.at_.out (λe=>h.ag2 hz e) iA).out (λe=>h.acf hz e.symm) hO2,((h.map.out (λe=>h.PZ hz e) iA).out (λe=>h.F7 hz e.symm) hO2).congr λy _ => ?_,λy yd hy => ?_,λy yd hy => ?_,λx y hx hy=>h.inj x y ((hnn x).1 hx) ((hnn y).1 hy),λx y g hx hy => ?_,λy yd hy => ?_⟩,hO3,λb hb => ?_⟩
 . exact Z3t
 . by_cases e:y=z
   . subst e;rw[Tr.aN]at hy;cases hy
     have:=((h.box y nd hz).out (λe=>h.DJ hz hz e) iA).set 1 v;rw[BF]at this;simp only[if_true];exact this
   . rw[Tr.aK _ _ e]at hy
     simp only[if_neg e];exact((h.box y yd hy).out (λe=>h.DJ hz hy e) iA).off (λq=>e (h.inj y z (by simp[hy]) (by simp[hz]) q)) _ _
 . by_cases e:y=z
   . subst e;rw[Tr.aN]at hy;cases hy
     simp only[if_true];exact hv.out (M:=λb=>b=L.bl y) (λg hg (q:g=L.bl y)=>hvz (by rw[hg,q])) hO2
   . rw[Tr.aK _ _ e]at hy
     simp only[if_neg e];exact((h.row y yd hy).out (hrow y yd e hy) iA).out (h.M7 hy hz) hO2
 . have new:∀y,T y≠none->y≠z->(L.sl y).ownBlock=some g->v.ownBlock=some g->False:=λy hy e h1 h2=>by
    obtain⟨yd,P6⟩:=Option.ne_none_iff_exists'.1 hy;rcases hloc with q|q|⟨b,q,hb⟩
    . exact hrow y yd e P6 g h1 (q▸h2)
    . rw[q]at h2;cases h2
    . rw[q]at h2;injection h2 with h2;have:=(h.row y yd P6).lt h1;omega
   by_cases e1:x=z
   . by_cases e2:y=z
     . intro _ _;rw[e1,e2]
     . intro h1 h2
       simp only[if_pos e1]at h1;simp only[if_neg e2]at h2;exact(new y ((hnn y).1 hy) e2 h2 h1).elim
   . by_cases e2:y=z
     . intro h1 h2
       simp only[if_neg e1]at h1;simp only[if_pos e2]at h2;exact(new x ((hnn x).1 hx) e1 h1 h2).elim
     . intro h1 h2
       simp only[if_neg e1]at h1;simp only[if_neg e2]at h2;exact h.apart x y g ((hnn x).1 hx) ((hnn y).1 hy) h1 h2
 . by_cases e:y=z
   . subst e;rw[Tr.aN]at hy;cases hy
     have:=h.small y nd hz;exact⟨this.1,this.2.1,this.2.2.1,this.2.2.2.1,hl⟩
   . exact Z40
 . rcases hb with e|e|⟨y,yd,hy,e⟩
   . exact .inl (.inl e)
   . exact .inl (.inr (.inl e))
   . by_cases e2:y=z
     . subst e2
       rcases e with e|e
       . exact .inl (.inr (.inr ⟨y,nd,hz,.inl e⟩))
       . simp only[if_true]at e
         rcases hloc with q|q|⟨c,q,hc⟩
         . exact .inl (.inr (.inr ⟨y,nd,hz,.inr (q▸e)⟩))
         . rw[q]at e;cases e
         . rw[q]at e;injection e with e;subst e;exact .inr hc
     . exact Z3e
theorem fV.add(h:fV W t L T n){z:Int}{b:Nat}{u:Int}{s:Re.St}(hz:T z=none)(hr:0<=z/\z<4096)(hu : -1<=u/\u<4096)(hb:At W b (.cells (cu u (.slice none 0 0) s) 90))(hnew:¬ owned t L T b){W':World}(hO:Out (λx=>x=L.mb) W W')(hm:PM W' L.mb (n+1) (NK (λz=>(T z).map λ_=>L.bl z) z b)) :
  fV W' t { L with bl:=λy=>if y=z then b else L.bl y,sl:=λy=>if y=z then .slice none 0 0 else L.sl y } (Tr.set T z ⟨u,[],s⟩) (n+1)/\Out (owned t L T) W W'/\∀x,owned t { L with bl:=λy=>if y=z then b else L.bl y,sl:=λy=>if y=z then .slice none 0 0 else L.sl y } (Tr.set T z ⟨u,[],s⟩) x->owned t L T x\/x=b:=by
 have hne:∀y yd,T y=some yd->y≠z:=λy yd hy e=>by rw[e,hz]at hy;cases hy
 have hbm:b≠L.mb:=λe=>hnew (.inr (.inl e));have old:∀y,y≠z->(Tr.set T z ⟨u,[],s⟩ y≠none->T y≠none):=λy e=>by rw[Tr.aK _ _ e];exact id
 refine⟨⟨h.at_.out (λe=>h.aes e) hO,hm.congr λy _ => ?_,λy yd hy => ?_,λy yd hy => ?_,λx y hx hy => ?_,λx y g hx hy => ?_,λy yd hy => ?_⟩,hO.mono λx _ e => .inr (.inl e),λx hx => ?_⟩
 . unfold NK
   by_cases e:y=z
   . subst e;simp[Tr.aN]
   . simp[e,Tr.aK _ _ e]
 . exact Z36
 . by_cases e:y=z
   . subst e;rw[Tr.aN]at hy;cases hy
     simp only[if_true];exact KS.nil _
   . rw[Tr.aK _ _ e]at hy
     simp only[if_neg e];exact(h.row y yd hy).out (h.U3 hy) hO
 . have new:∀y,T y≠none->L.bl y≠b:=λy hy q=>by
    obtain⟨yd,P6⟩:=Option.ne_none_iff_exists'.1 hy;exact hnew (.inr (.inr ⟨y,yd,P6,.inl q.symm⟩))
   by_cases e1:x=z
   . by_cases e2:y=z
     . intro _;rw[e1,e2]
     . intro q;simp only[if_pos e1,if_neg e2]at q;exact(new y (old y e2 hy) q.symm).elim
   . by_cases e2:y=z
     . intro q;simp only[if_neg e1,if_pos e2]at q;exact(new x (old x e1 hx) q).elim
     . intro q;simp only[if_neg e1,if_neg e2]at q;exact h.inj x y (old x e1 hx) (old y e2 hy) q
 . by_cases e1:x=z
   . intro q;simp only[if_pos e1]at q;cases q
   . by_cases e2:y=z
     . intro _ q;simp only[if_pos e2]at q;cases q
     . intro q r;simp only[if_neg e1]at q;simp only[if_neg e2]at r
       exact h.apart x y g (old x e1 hx) (old y e2 hy) q r
 . by_cases e:y=z
   . subst e;rw[Tr.aN]at hy;cases hy
     exact⟨hr.1,hr.2,hu.1,hu.2,by simp⟩
   . exact Z40
 . rcases hx with e|e|⟨y,yd,hy,e⟩
   . exact .inl (.inl e)
   . exact .inl (.inr (.inl e))
   . by_cases e2:y=z
     . simp only[if_pos e2]at e
       rcases e with e|e
       . exact .inr e
       . cases e
     . exact Z3e
theorem fV.drop(h:fV W t L T n){z:Int}{W':World}(hO:Out (λx=>x=L.mb) W W')(hm:PM W' L.mb (n-1) (ZK (λz=>(T z).map λ_=>L.bl z) z)) :
  fV W' t L (Tr.del T [z]) (n-1)/\Grow t L L T (Tr.del T [z]) W W':=by
 have sub:∀y yd,Tr.del T [z] y=some yd->T y=some yd/\y≠z:=λy yd hy=>by
  unfold Tr.del at hy;by_cases e:y=z
  . simp[e]at hy
  . simp[e]at hy;exact⟨hy,e⟩
 have nn:∀y,Tr.del T [z] y≠none->T y≠none:=λy hy=>by
  obtain⟨yd,P6⟩:=Option.ne_none_iff_exists'.1 hy;rw[(sub y yd P6).1];simp
 refine⟨⟨h.at_.out (λe=>h.aes e) hO,hm.congr λy _ => ?_,λy yd hy=>(h.box y yd (sub y yd hy).1).out (λq=>h.F7 (sub y yd hy).1 q) hO,λy yd hy=>(h.row y yd (sub y yd hy).1).out (h.U3 (sub y yd hy).1) hO,λx y hx hy=>h.inj x y (nn x hx) (nn y hy),λx y g hx hy=>h.apart x y g (nn x hx) (nn y hy),λy yd hy=>h.small y yd (sub y yd hy).1⟩,hO.mono λx _ e => .inr (.inl e),λx hx => .inl ?_⟩
 . unfold ZK Tr.del
   by_cases e:y=z
   . simp[e]
   . simp[e]
 . rcases hx with e|e|⟨y,yd,hy,e⟩
   . exact .inl e
   . exact .inr (.inl e)
   . exact .inr (.inr ⟨y,yd,(sub y yd hy).1,e⟩)
end
section
variable {w:World} {t n:Nat} {L:Lay} {T:Tr.T}
theorem JL{w:World}{t n:Nat}{L:Lay}{T:Tr.T}(h:fV w t L T n):Calls Tryz.prog 31 #[.pointer (some ⟨t,0,none⟩)] w λe w'=>e=.returned (.map (some L.mb))/\w=w':=by
 have c0:=h.cT;clear h;generalize L.mb=mb at *;go_enter Tryz.func31,Tryz.ntmps31
 go_wp2;exact EL
theorem gP(h:fV w t L T n){z:Int}(hz:Wf z):Calls Tryz.prog 12 #[.pointer (some ⟨t,0,none⟩),.int .i64 z] w λe w'=>e=.returned (.bool (T z).isSome)/\w=w':=by
 have HR:=ah h;cases hT:T z with
 | none =>
   have hl:=h.Rn hz hT;clear h;go_enter Tryz.func12,Tryz.ntmps12
   exact Z2w
 | some nd =>
   have hl:=h.gN hT;clear h;go_enter Tryz.func12,Tryz.ntmps12
   exact Z2w
def rY(T:Tr.T)(z:Int):Int:=match T z with
 | none => -1
 | some nd=>nd.up
theorem Ck(h:fV w t L T n){z:Int}(hz:Wf z):Calls Tryz.prog 30 #[.pointer (some ⟨t,0,none⟩),.int .i64 z] w λe w'=>e=.returned (.int .i64 (rY T z))/\w=w':=by
 have key:=gP h hz;unfold rY;cases hT:T z with
 | none =>
   rw[hT]at key;clear h;go_enter Tryz.func30,Tryz.ntmps30
   exact Z3d
 | some nd =>
   rw[hT]at key;have hl:=h.gN hT;have c0:=h.cT;have c1:=h.cUp hT;clear h;go_enter Tryz.func30,Tryz.ntmps30
   exact Z3d
theorem U5(h:fV w t L T n):Calls Tryz.prog 33 #[.pointer (some ⟨t,0,none⟩)] w λe w'=>e=.returned (.int .i64 (n:Int))/\w=w':=by
 have HR:=ah h;have hl:=λty=>h.map.len ty;clear h;go_enter Tryz.func33,Tryz.ntmps33
 exact Z2w
theorem Ro(h:fV w t L T n){z:Int}(hz:Wf z):Calls Tryz.prog 54 #[.pointer (some ⟨t,0,none⟩),.int .i64 z] w λe w'=>(∃v,e=.returned v/\w'.ownsRow w.heap.size 3 1 v ((T z).elim [] (·.kids)).length (((T z).elim [] (·.kids)).map (Value.int .i64)))/\Below w.heap.size w w':=by
 have key:=gP h hz;cases hT:T z with
 | none =>
   rw[hT]at key;clear h;go_enter Tryz.func54,Tryz.ntmps54
   go_wp2_with (go_at_call 12;(with_reducible refine key.mono ?_);rintro e w' ⟨rfl,rfl⟩)
   go_ret
   exact⟨⟨_,rfl,World.ownsRow_nil _ _ _ _⟩,Below.refl _ _⟩
 | some nd =>
   rw[hT]at key;have hl:=h.gN hT;have c0:=h.cT;have c1:=h.lZ hT;have key2:=Rk (h.row z nd hT) (by have:=(h.small z nd hT).2.2.2.2;omega);obtain⟨A,c,hs,_⟩:=(h.row z nd hT).ints;rw[hs]at key2 c1;show Calls _ _ _ _ λe w'=>(∃v,e=.returned v/\w'.ownsRow w.heap.size 3 1 v nd.kids.length (nd.kids.map (Value.int .i64)))/\Below w.heap.size w w';clear h;generalize nd.kids=l at *;generalize l.length=m at *;clear hs;go_enter Tryz.func54,Tryz.ntmps54
   go_wp2_with (first|(go_at_call 12;(with_reducible refine key.mono ?_);rintro e w' ⟨rfl,rfl⟩)|(go_at_call 79;(with_reducible refine key2.mono ?_);rintro e w' ⟨⟨v,rfl,ho⟩,hb⟩))
   go_ret
   exact⟨⟨_,rfl,ho⟩,hb⟩
theorem yM{fn:Func}{p:Tmp}(h:fn.results=#[.cell p 46])(tmps:Array Value){W:World}{b:Nat}{s:Re.St}(hp:tmps.getD p undef=.pointer (some ⟨b,0,none⟩))(ha:At W b (.cells (cells s) 46)) :
  (results fn tmps).run Tryz.prog W=.ok (.agg (cells s)) W:=by
 have hp':tmps[p]?.getD undef=.pointer (some ⟨b,0,none⟩):=by simpa using hp
 simp[results,h,hp',asAddr,EZ ha]
theorem oC(h:fV w t L T n){z:Int}(hz:Wf z):Calls Tryz.prog 9 #[.pointer (some ⟨t,0,none⟩),.int .i64 z] w λe w'=>e=.returned (.agg (cells ((T z).elim Re.zero (·.sty))))/\Below w.heap.size w w':=by
 have h1:=h.alloc (.cells (cells Re.zero) 46);have key:=gP h1 hz;have hA:At (w.alloc (.cells (cells Re.zero) 46)) w.heap.size (.cells (cells Re.zero) 46):=At.new _ _;have hB:Below w.heap.size w (w.alloc (.cells (cells Re.zero) 46)):=Below.alloc' aF _;cases hT:T z with
 | none =>
   rw[hT]at key;clear h h1;generalize hW:w.alloc (.cells (cells Re.zero) 46)=w1 at *;go_enter Tryz.func9,Tryz.ntmps9
   go_wp2_with (first|(refine dn aX rfl ?_;rw[hW];clear hW)|(refine dn aX rfl ?_)|(refine eP aX rfl ?_)|(refine bq aX _ rfl rfl xX ?_)|(refine eT aX _ _ rfl rfl rfl xX ?_)|(refine dJ aX _ _ rfl rfl rfl xX ?_)|(go_at_call 12;(with_reducible refine key.mono ?_);rintro e w' ⟨rfl,rfl⟩))
   refine bodyPost_ret (yM rfl _ aX hA) rfl ⟨rfl,hB⟩
 | some nd =>
   rw[hT]at key;have hl:=h1.gN hT;have c0:=h1.cT;have hS:=ah (h1.sty hT);show Calls _ _ _ _ λe w'=>e=.returned (.agg (cells nd.sty))/\_;clear h h1;generalize nd.sty=s at *;generalize hW:w.alloc (.cells (cells Re.zero) 46)=w1 at *;generalize hb:w.heap.size=b at *;go_enter Tryz.func9,Tryz.ntmps9
   go_wp2_with (first|(refine dn aX rfl ?_;rw[hW,hb];clear hW)|(refine fJ aX _ rfl rfl hS.out ?_)|(refine dJ aX _ _ rfl rfl rfl hA ?_)|(go_at_call 12;(with_reducible refine key.mono ?_);rintro e w' ⟨rfl,rfl⟩))
   refine bodyPost_ret (yM rfl _ aX (hA.setRow _)) rfl ⟨rfl,below_setRow hB aD _⟩
end
section
variable {w:World} {t n:Nat} {L:Lay} {T:Tr.T}
def acg(T:Tr.T)(z:Int):Prop:=0<=z/\T z=none/\∀y,0<=y->y<z->T y≠none
theorem Rp(h:fV w t L T n):Calls Tryz.prog 35 #[.pointer (some ⟨t,0,none⟩)] w λe w'=>(∃z,e=.returned (.int .i64 z)/\acg T z)/\w'=w:=by
 have hs:∀z,T z≠none->z<4096:=λz hz=>by obtain⟨nd,hn⟩:=Option.ne_none_iff_exists'.1 hz;exact(h.small z nd hn).2.1
 have HR:=ah h;clear h;go_enter Tryz.func35,Tryz.ntmps35
 go_wp2
 go_loop [3] (λp=>∃k:Nat,k<=4096/\p=.int .i64 k/\∀y:Int,0<=y->y<k->T y≠none) (λp=>4096-(intOf p).toNat)
 case atStart=>exact⟨0,by omega,rfl,λy h0 h1=>by omega⟩
 case round =>
  obtain⟨k,hk,rfl,hb⟩:=hrel;have key:=gP HR.out (z:=(k:Int)) Z51;have HB:=ah hb;clear hb;cases hT:T (k:Int)with
  | none =>
    rw[hT]at key
    go_wp2_with (go_at_call 12;(with_reducible refine key.mono ?_);rintro e w' ⟨rfl,rfl⟩)
    go_ret
    exact⟨⟨_,rfl,by omega,hT,HB.out⟩,rfl⟩
  | some nd =>
    rw[hT]at key;have hk4:=hs k (by simp[hT])
    go_wp2_with (go_at_call 12;(with_reducible refine key.mono ?_);rintro e w' ⟨rfl,rfl⟩)
    go_round
    case rel=>exact⟨k+1,by omega,by go_num,λy h0 h1=>by
     by_cases e:y=k
     . subst e;simp[hT]
     . exact HB.out y h0 aj⟩
    case measure=>simp[intOf];omega
theorem Kv(h:fV w t L T n){u x:Int}{p:Tr.Nd}(hu:T u=some p)(hx:Wf x):Calls Tryz.prog 61 #[.pointer (some ⟨t,0,none⟩),.int .i64 u,.int .i64 x] w λe w'=>e=.returned (.int .i64 (if rY T x=u then (p.kids.length:Int)-1 else p.kids.length))/\w=w':=by
 have key:=Ck h hx;have hl:=h.gN hu;have c0:=h.cT;have c1:=h.lZ hu;have hs:=(h.small u p hu).2.2.2.2;obtain⟨A,c,hv,_⟩:=(h.row u p hu).ints;rw[hv]at c1;clear h hv;generalize p.kids.length=m at *;generalize rY T x=y at *;have hw:IntKind.i64.wrap ((m:Int)-1)=(m:Int)-1:=by rw[IntWalk.i64_in _ aj]
 by_cases e:y=u
 . rw[if_pos e]
   have eb:(y==u)=true:=by simpa using e
   have HE:=ah e;clear e
   subst_eqs
   exact Z42
 . rw[if_neg e]
   have eb:(y==u)=false:=by simpa using e
   exact Z42
end
section
variable {w:World} {t n:Nat} {L:Lay} {T:Tr.T}
theorem AF(h:fV w t L T n)(hr:∀nd,T 0=some nd->nd.up = -1){z:Int}{d:Nat}(hd:Tr.Dp T z d)(ach:d<=1000):Calls Tryz.prog 34 #[.pointer (some ⟨t,0,none⟩),.int .i64 z] w λe w'=>e=.returned (.int .i64 (d:Int))/\w'=w:=by
 have hm:T (-1)=none:=by
  cases e:T (-1)with
  | none=>rfl
  | some nd=>have:=(h.small _ nd e).1;omega
 have HR:=ah h;have Px:=ah hr;have HD:=ah hd;clear h hr hd;go_enter Tryz.func34,Tryz.ntmps34
 go_wp2
 go_loop [1,5] (λi p=>(∃(y:Int) (m:Nat) (k:Int),i=.int .i64 y/\p=.int .i64 k/\m<=d/\k=(d:Int)-m-1/\Tr.Dp T y m)\/(i=.int .i64 (-1)/\p=.int .i64 (d:Int))) (λ_ p=>(d-intOf p).toNat)
 case atStart=>exact .inl ⟨z,d,-1,rfl,rfl,aG _,by omega,HD.out⟩
 case round =>
  rcases hrel with⟨y,m,k,rfl,rfl,hmd,hk,hD⟩|⟨rfl,rfl⟩
  . obtain⟨nd,hT⟩:=hD.live
    have key:=gP HR.out (HR.out.wf hT);have key2:=Ck HR.out (HR.out.wf hT);rw[hT]at key;have hu:Hid (rY T y=nd.up):=ah (by unfold rY;rw[hT]);generalize rY T y=u at *;have hw:IntKind.i64.wrap (k+1)=k+1:=by rw[IntWalk.i64_in _ aj]
    have HK:=ah hk;have Tn:=ah hD;clear hk hD
    go_wp2_with (first|(go_at_call 12;(with_reducible refine key.mono ?_);rintro e w' ⟨rfl,rfl⟩)|(go_at_call 30;(with_reducible refine key2.mono ?_);rintro e w' ⟨rfl,rfl⟩))
    go_round
    case rel =>
     have hk:=HK.out;rw[hu.out];exact Z35
    case measure=>have hk:=HK.out;simp[intOf];omega
  . have key:=gP HR.out (z := -1) Z51
    rw[hm]at key;exact Z3d
theorem U6{T:Tr.T}{f:Nat}{x:Int}(h:Tr.Fit T f x):Tr.hgt T f x<f:=by
 induction f generalizing x with
 | zero=>exact h.elim
 | succ f ih =>
   obtain⟨nd,h1,hk⟩:=h;rw[Tr.oO h1];have:=(Tr.kC (f:=Tr.hgt T f) (ks:=nd.kids) (m:=0) (B:=f)).2 ⟨fC _,λk hkm=>by have:=ih (hk k hkm);omega⟩;omega
def hpart(T:Tr.T)(f:Nat)(l:List Int)(j:Nat):Nat:=(l.take j).foldl (λm k=>max m (1+Tr.hgt T f k)) 0
theorem Kw(f:Nat):∀{w:World} {t n:Nat} {L:Lay} {T:Tr.T} (x:Int),f<=100->fV w t L T n->Tr.Fit T f x->Calls Tryz.prog 62 #[.pointer (some ⟨t,0,none⟩),.int .i64 x] w λe w'=>e=.returned (.int .i64 (Tr.hgt T f x:Int))/\w'=w:=by
 induction f with
 | zero=>intro _ _ _ _ _ _ _ _ h;exact h.elim
 | succ f ih =>
   intro w t n L T x hf h hfit;obtain⟨nd,hT,hk⟩:=hfit;have hl:=h.gN hT;have c0:=h.cT;have c1:=h.lZ hT;obtain⟨A,c,hs,hI,_⟩:=(h.row x nd hT).ints;rw[hs]at c1;rw[Tr.oO hT];have hp:Hid (nd.kids.foldl (λm k=>max m (1+Tr.hgt T f k)) 0=hpart T f nd.kids nd.kids.length):=ah (by unfold hpart;rw[List.take_length]);rw[hp.out];have hlen:=(h.small x nd hT).2.2.2.2;generalize hls:nd.kids=l at *;generalize hm:l.length=m at *;have HM:=ah hm;have HR:=ah h;have HI:=ah hI;have HK:=ah hk;clear h hI hk hm hs hls hp;go_enter Tryz.func62,Tryz.ntmps62
   go_wp2
   go_loop [5,18] (λp i=>∃k q:Nat,k<=m/\i=.int .i64 k/\p=.int .i64 q/\q=hpart T f l k) (λ_ i=>m-(intOf i).toNat)
   case atStart=>exact⟨0,0,by omega,rfl,rfl,rfl⟩
   case round =>
    obtain⟨k,q,hkm,rfl,rfl,hq⟩:=hrel;have HQ:=ah hq;clear hq;by_cases hlt:k<m
    . obtain⟨b,o,rfl,lb,hcell⟩:=HI.out.at_ (k:=k) YK
      have hmem:l.getD k 0∈l:=by
       rw[List.getD,List.getElem?_eq_getElem YK];exact List.getElem_mem _
      have hfk:=HK.out _ hmem;have key:=ih _ aj HR.out hfk;have hh:=U6 hfk
      have hstep:Hid (hpart T f l (k+1)=max (hpart T f l k) (1+Tr.hgt T f (l.getD k 0))):=ah (by
       unfold hpart
       rw[eO l k YK,List.foldl_append];rfl)
      generalize l.getD k 0=z at *;generalize Tr.hgt T f z=hz at *;have hw:IntKind.i64.wrap (1+(hz:Int))=1+(hz:Int):=by rw[IntWalk.i64_in _ aj]
      clear hfk hmem
      go_wp2_with (go_at_call 62;(with_reducible refine key.mono ?_);rintro e w' ⟨rfl,rfl⟩)
      go_round
      case rel=>exact⟨k+1,max q (1+hz),by omega,by go_num,by congr 1;omega,by rw[hstep.out,HQ.out]⟩
      case measure=>simp[intOf];omega
    . obtain rfl:k=m:=by omega
      go_wp2
      go_ret
      exact⟨by rw[HQ.out];rfl,rfl⟩
end
end Go.Proofs.YtmidaiklolmkcaaGreat.Fix
