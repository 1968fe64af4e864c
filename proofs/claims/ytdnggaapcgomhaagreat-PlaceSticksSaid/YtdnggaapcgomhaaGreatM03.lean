/- Steps of the program (3); no conditions. -/
import Derived.Test.YtdnggaapcgomhaaGreatM02
set_option linter.all false
set_option maxRecDepth 100000
set_option maxHeartbeats 400000
namespace Go.Proofs.YtdnggaapcgomhaaGreat.Fix
open Go.ChangeShapes Go.WideShapes Go.ChangeAt Go.RowKit
open Go.Proofs.Tryz renaming prog → ja0
open List renaming getElem?_eq_getElem → ja6,take_append_of_le_length → ja',take_of_length_le → jb6,getElem?_map → jc1,length_take → jc9
variable {l:List Int}{W w:World}{z x:Int}{nd:Tr.Nd}{v:Value}{f:Int->Option Nat}{b n g c:Nat}{M:Nat->Prop}{Q:Exit->Act->World->Prop}{ops:Array Oper}{s:Re.St}{P:Program}{o:Oper}{a:Act}{rest:List Oper}
theorem addr_add(b off k:Nat):(⟨b,off,none⟩:Addr).add k=⟨b,off+k,none⟩:=by
 unfold Addr.add;split
 . subst k;rfl
 . rfl
theorem Ints.from_{A:Option Addr}(h:Ints w A l)(k cap:Nat)(hk:k<=l.length)(hc:l.length<=cap):Ints w (if cap=k then A else A.map (·.add (k*1))) (l.drop k):=by
 refine⟨by rw[List.length_drop];have:=h.1;omega,λh0 => ?_⟩;rw[List.length_drop]at h0;obtain⟨b,off,rfl,hcell⟩:=h.2 ak;rw[if_neg ak];refine⟨b,off+k,by simp[addr_add],λj hj => ?_⟩;rw[List.length_drop]at hj;have:=hcell (k+j) ak;rw[Nat.add_assoc,this];simp[List.getD]
theorem Ints.upto{A:Option Addr}(h:Ints w A l)(k cap:Nat)(hk:k<=l.length)(hc:l.length<=cap):Ints w (if cap=0 then A else A.map (·.add (0*1))) (l.take k):=by
 refine⟨by rw[jc9];have:=h.1;omega,λh0 => ?_⟩;rw[jc9]at h0;obtain⟨b,off,rfl,hcell⟩:=h.2 ak;rw[if_neg ak];refine⟨b,off,by simp[addr_add],λj hj => ?_⟩;rw[jc9]at hj;rw[hcell j ak];simp[List.getD,show j<k by omega]
theorem qy{t:TypeId}{x:Operand}{lo hi mx:Option Operand}(ho:o.op=.slice t x lo hi mx)(hw:Region.wanted o (yielded ops a.tmps)=true)
  (hrun:(Instr.sliceAt t (a.eval x) (lo.map a.eval) (hi.map a.eval) (mx.map a.eval)).run P w=.ok v w) (h:wpList P ops Q rest (a.put o.dst v) w):wpList P ops Q (o::rest) a w:=by
 unfold wpList;rw[if_pos hw];refine .inl ?_;unfold Oper.wp execOp;simp only[ho,Sem.run_bind,Sem.run_pure,hrun,Result.andThen_ok];exact h
theorem oV(A:Option Addr)(n c k:Nat)(hk:k<=n)(W:World):(Instr.sliceAt 37 (.slice A n c) (some (.int .i64 (k:Int))) none none).run ja0 W=.ok (.slice (if c=k then A else A.map (·.add (k*1))) (n-k) (c-k)) W:=by
 have he:Tryz.prog.elem 37=3:=by kernel_rfl
 have hu:Tryz.prog.underlying 37=some (.slice (Tryz.prog.elem 37)):=by rw[he];exact Tryz.underlying37
 obtain⟨i0,hi0,hz0,hz1,hz2⟩:=info_parts intZero;rw[run_sliceAt_slice (h:=hu),run_slice_l (ht:=hu) (h0:=by omega) (h1:=by omega),he];simp[sizeOf,typeInfo,hi0,hz1,sliced,go_sem]
theorem DN(A:Option Addr)(n c k:Nat)(hk:k<=c)(W:World):(Instr.sliceAt 37 (.slice A n c) none (some (.int .i64 (k:Int))) none).run ja0 W=.ok (.slice (if c=0 then A else A.map (·.add (0*1))) k c) W:=by
 have he:Tryz.prog.elem 37=3:=by kernel_rfl
 have hu:Tryz.prog.underlying 37=some (.slice (Tryz.prog.elem 37)):=by rw[he];exact Tryz.underlying37
 obtain⟨i0,hi0,hz0,hz1,hz2⟩:=info_parts intZero;rw[run_sliceAt_slice (h:=hu),run_slice_h (ht:=hu) (h0:=by omega) (h2:=by omega),he];simp[sizeOf,typeInfo,hi0,hz1,sliced,go_sem]
def KS(W:World)(v:Value)(l:List Int):Prop:=W.ownsRow 0 3 1 v l.length (l.map (Value.int .i64))
def Rw(W:World)(g c:Nat)(l:List Int):Prop:=∃cur:Array Value,At W g (.cells cur 3)/\cur.size=c/\l.length<=c/\c<=maxLen/\cur.toList.take l.length=l.map (Value.int .i64)
theorem KS.nil(W:World):KS W (.slice none 0 0) []:=World.ownsRow_nil _ _ _ _
theorem KS.cases(h:KS W v l):(v=.slice none 0 0/\l=[])\/∃g c,v=.slice (some ⟨g,0,none⟩) l.length c/\Rw W g c l:=by
 rcases h.2 with⟨rfl,h0⟩|⟨g,cap,cur,rfl,_,hg,h1,h2,h3,h4⟩
 . exact .inl ⟨rfl,List.eq_nil_of_length_eq_zero h0⟩
 . exact .inr ⟨g,cap,rfl,cur,hg,by simpa using h3,h1,h2,by simpa using h4⟩
theorem Rw.ks(h:Rw W g c l):KS W (.slice g l.length c) l:=by
 obtain⟨cur,h1,h2,h3,h4,h5⟩:=h;exact⟨by simp,.inr ⟨g,c,cur,rfl,eX _,h1,h3,h4,by simpa using h2,by simpa using h5⟩⟩
theorem Rw.lt(h:Rw W g c l):g<W.heap.size:=by obtain⟨cur,h1,_⟩:=h;exact h1.lt
theorem Rw.out{W W':World}(h:Rw W g c l)(hm:¬ M g)(k:Out M W W'):Rw W' g c l:=by
 obtain⟨cur,h1,r⟩:=h;exact⟨cur,h1.out hm k,r⟩
theorem KS.lt(h:KS W v l){g:Nat}(hg:v.ownBlock=some g):g<W.heap.size:=(World.ownsRow.lt h g hg).2
theorem KS.out{W W':World}(h:KS W v l)(hm:∀g,v.ownBlock=some g->¬ M g)(k:Out M W W'):KS W' v l:=by
 rcases h.cases with⟨rfl,rfl⟩|⟨g,c,rfl,hr⟩
 . exact KS.nil _
 . exact(hr.out (hm g rfl) k).ks
theorem KS.after{W W':World}(h:KS W v l)(hb:Below W W W'):KS W' v l:=h.out (M:=λ_=>False) (λ_ _ q=>q) (Out.of_below hb)
theorem Rw.ints(h:Rw W g c l):Ints W (some ⟨g,0,none⟩) l:=by
 obtain⟨cur,h1,h2,h3,h4,h5⟩:=h;refine⟨by omega,λh0=>⟨g,0,rfl,λk hk => ?_⟩⟩;rw[h1.cell,Nat.zero_add];have:(cur.toList.take l.length)[k]? = (l.map (Value.int .i64))[k]? := by rw[h5]
 rw[List.getElem?_take,if_pos hk]at this;simpa[ja6 hk]using this
theorem KS.ints(h:KS W v l):∃A c,v=.slice A l.length c/\Ints W A l/\l.length<=c/\c<=maxLen/\(A=none->c=0):=by
 rcases h.cases with⟨rfl,rfl⟩|⟨g,c,rfl,hr⟩
 . exact⟨none,0,rfl,⟨by simp,λh=>absurd h aW⟩,by simp,by simp[maxLen],λ_=>rfl⟩
 . have hr':=hr
   obtain⟨cur,h1,h2,h3,h4,h5⟩:=hr;exact⟨_,c,rfl,hr'.ints,h3,h4,λh=>by cases h⟩
theorem Jr{g:Nat}{cur:Array Value}{T:TypeId}(h:At W g (.cells cur T))(o:Nat)(vs:List Value)(hfit:o+vs.length<=cur.size)(h1:∀v∈vs,v.oneCell'=true):W.setCells g o vs=W.setRow g (cur.toList.take o++vs++cur.toList.drop (o+vs.length)).toArray:=by
 have a:=run_storeCells_at ja0 g o T vs 0 cur W h (by simpa using hfit) h1;have b:=run_storeCells_cells (P:=ja0) g o vs 0 W (λj hj=>by rw[h.cell,Array.getElem?_eq_getElem ak];rfl) (λj hj=>by rw[h.thaw]) h1;simp only[Nat.add_zero]at a b;rw[a]at b;injection b with _ b;exact b.symm
theorem LJ(W:World)(g:Nat)(cs:Array Value):(W.setRow g cs).drew=W.drew.setRow g cs:=rfl
theorem vC{w w':World}(s x:Operand)(t tn:TypeId)(ho:o.op=.call { callee:=.builtin .append,args:=#[s,x],argTypes:=#[t,tn] }){v u v':Value}(hs:a.eval s=v)(hx:a.eval x=u)
  (hrun:(Builtin.append_ #[t,tn] o.type #[v,u]).run P w=.ok v' w'):(execOp a.eval o).run P w=.ok (.value v') w':=by
 exact Z1a
theorem Hf{w w':World}(s x:Operand)(t tn:TypeId)(ho:o.op=.call { callee:=.builtin .copy,args:=#[s,x],argTypes:=#[t,tn] }){v u v':Value}(hs:a.eval s=v)(hx:a.eval x=u)
  (hrun:(Builtin.copy_ #[t,tn] o.type #[v,u]).run P w=.ok v' w'):(execOp a.eval o).run P w=.ok (.value v') w':=by
 exact Z1a
theorem O7{w w':World}(hw:Region.wanted o (yielded ops a.tmps)=true){v':Value}
  (hrun:(execOp a.eval o).run P w=.ok (.value v') w') (h:wpList P ops Q rest (a.put o.dst v') w'):wpList P ops Q (o::rest) a w:=by
 exact Z2l
theorem TW(h:KS w v l)(hl:l.length<=10000):Calls ja0 64 #[v] w λe w'=>(∃v',e=.returned v'/\w'.ownsRow w.heap.size 3 1 v' l.length (l.map (Value.int .i64)))/\Below w w w':=by
 have q22:∀(w:World) (a:Option Addr) (n c n' c':Nat),(binOp .eql 37 (.slice a n c) (.slice none n' c')).run ja0 w=.ok (.bool a.isNone) w:=λw a n c n' c'=>Lib.run_eql_slice_nil w _ _ a n c n' c' Tryz.underlying37;rcases h.cases with⟨rfl,rfl⟩|⟨g,c,rfl,hr⟩
 . go_enter Tryz.func64,Tryz.ntmps64
   go_wp2
   go_ret
   exact⟨⟨_,rfl,World.ownsRow_nil _ _ _ _⟩,Below.refl _ _⟩
 . have hown:(w.alloc (.cells #[] 3)).ownsRow w.heap.size 3 1 (.slice w 0 0) 0 (([]:List Int).map (Value.int .i64)):=World.ownsRow_made w #[] 0 aC (by simp[maxLen]) rfl
   obtain⟨v',w',hrun,hown',hB,_⟩:=jl (m:=l.length) (c:=c) hown (aB (Below.refl w.heap.size w) _) aW (hr.ints.after (aB aD _)) rfl (λh=>by cases h) ak;have zF:=ah hrun;clear hrun hown;go_enter Tryz.func64,Tryz.ntmps64
   go_wp2_with (at_builtin;refine wpList_append_run aR _ _ 37 rfl rfl rfl zF.out ?_)
   go_ret
   exact⟨⟨_,rfl,by simpa using hown'⟩,hB⟩
theorem TY(h:KS w v l){i:Nat}(hi:l[i]? = some x)(hf:∀j,j<i->l[j]? ≠ some x):Calls ja0 136 #[v,x] w λe w'=>e=.returned (.int .i64 (i:Int))/\w'=w:=by
 obtain⟨A,c,rfl,hI,hc,hm,_⟩:=h.ints;have hlt:=(List.getElem?_eq_some_iff.1 hi).1;clear h;unfold maxLen at hm;generalize hn:l.length=n at *;have HN:=ah hn;clear hn;have HA:=ah hI;clear hI;have HF:=ah hf;clear hf;have HE:=ah hi;clear hi;go_enter Tryz.func136,Tryz.ntmps136
 go_wp2
 go_loop [8] (λp=>∃k:Nat,k<=i/\p=.int .i64 k) (λp=>n-(intOf p).toNat)
 case atStart=>exact⟨0,by omega,rfl⟩
 case round =>
  obtain⟨k,hk,rfl⟩:=hrel;obtain⟨b,o,rfl,lb,hcell⟩:=HA.out.at_ (k:=k) (by rw[HN.out];omega);have hkn:k<n:=by omega
  by_cases hki:k=i
  . have hz:l.getD k 0=x:=by rw[hki];simp[List.getD,HE.out]
    rw[hz]at hcell;clear hz;subst hki;go_wp2;exact Zv
  . have hz:¬ l.getD k 0=x:=λe=>HF.out k ak (by rw[<-e];simp[List.getD,show k<l.length by rw[HN.out];omega])
    have hz':¬ x=l.getD k 0:=λe=>hz e.symm;generalize l.getD k 0=z at *;have hzb:(x==z)=false:=by simpa using hz'
    go_wp2
    go_round
    case rel=>exact⟨k+1,by omega,by go_num⟩
    case measure=>simp[intOf];omega
def cutAt(g c j:Nat):Addr:=if c=j then ⟨g,0,none⟩else ⟨g,j,none⟩
theorem jm(g n c j:Nat)(hj:j<=n)(W:World):(Instr.sliceAt 37 (.slice g n c) (some (.int .i64 (j:Int))) none none).run ja0 W=.ok (.slice (some (cutAt g c j)) (n-j) (c-j)) W:=by
 rw[oV _ n c j hj W];unfold cutAt;by_cases h:c=j
 . rw[if_pos h,if_pos h]
 . rw[if_neg h,if_neg h];simp[addr_add]
theorem DR(g n c i:Nat)(hi:i<=c)(W:World):(Instr.sliceAt 37 (.slice g n c) none (some (.int .i64 (i:Int))) none).run ja0 W=.ok (.slice g i c) W:=by
 rw[DN _ n c i hi W];by_cases h:c=0
 . rw[if_pos h]
 . rw[if_neg h];simp[addr_add]
theorem lF{S:World->Prop}{t:TypeId}{x:Operand}{lo hi mx:Option Operand}(hw:Region.wanted o (yielded ops a.tmps)=true)(ho:o.op=.slice t x lo hi mx)
  (hrun:∀W,(Instr.sliceAt t (a.eval x) (lo.map a.eval) (hi.map a.eval) (mx.map a.eval)).run ja0 W=.ok v W):aj.Reads ja0 ops S o v a :=
 .inl ⟨hw,λW _=>by unfold execOp;simp only[ho,Sem.run_bind,Sem.run_pure,hrun,Result.andThen_ok]⟩
theorem At.drew{b:Nat}{o:Obj}(h:At W b o):At W.drew b o:=h
theorem Out.drew{X Y:World}(h:Out M X Y):Out M X Y.drew:=⟨h.1.drew,h.2⟩
theorem DT(l:List Int):∀v∈l.map (Value.int .i64),v.oneCell'=true:=λv hv=>by obtain⟨z,_,rfl⟩:=List.mem_map.1 hv;rfl
theorem O8{g c i j:Nat}(h:Rw w g c l)(hij:i<j)(hj:j<=l.length):Calls ja0 137 #[.slice g l.length c,.int .i64 (i:Int),.int .i64 (j:Int)] w λe w'=>e=.returned (.slice g (i+(l.length-j)) c)/\Rw w' g c (l.take i++l.drop j)/\Out (λb=>b=g) w w':=by
 obtain⟨i0,hi0,hz0,hz1,hz2⟩:=info_parts intZero;obtain⟨cur,hA,hs,hc,hm,ht⟩:=h;unfold maxLen at hm;have hti:cur.toList.take i=(l.take i).map (Value.int .i64):=by
  rw[List.map_take,<-ht,List.take_take,Nat.min_eq_left ak]
 obtain⟨news,hnews⟩:∃news,news=(l.drop j).map (Value.int .i64):=⟨_,rfl⟩;have hnl:news.length=l.length-j:=by rw[hnews];simp
 have hget:∀k u,news[k]? = some u->w.drew.cell? ((cutAt g c j).add k)=some u:=λk u hu=>by
  have hk:k<l.length-j:=by rw[<-hnl];exact(List.getElem?_eq_some_iff.1 hu).1
  unfold cutAt;rw[if_neg ak,addr_add,hA.drew.cell];have e:(cur.toList.take l.length)[j+k]? = (l.map (Value.int .i64))[j+k]? := by rw[ht]
  rw[List.getElem?_take,if_pos ak]at e;rw[hnews,jc1,List.getElem?_drop]at hu;rw[<-hu,<-jc1,<-e];simp
 have happ:=run_append_room (P:=ja0) w.drew 37 37 3 i0 Tryz.underlying37 hi0 g i c cur hA.drew (cutAt g c j) (l.length-j) (c-j) news (by rw[hnl,hz1];omega) hget (by rw[hnews];exact DT _) ak (by rw[hz1,hnl];omega);rw[hz1,Nat.mul_one]at happ;obtain⟨X,hX⟩:∃X:Array Value,X=(cur.toList.take i++news++cur.toList.drop (i+news.length)).toArray:=⟨_,rfl⟩;rw[<-hX]at happ;have hXs:X.size=c:=by rw[hX];simp;omega
 have hAX:At (w.drew.setRow g X) g (.cells X 3):=hA.drew.setRow X;have hcl:=Lib.run_clear_slice (P:=ja0) (w.drew.setRow g X) 37 3 0 (.int .i64 0) Tryz.underlying37 (λ_=>by kernel_rfl) rfl rfl g (i+(l.length-j)) (l.length-(i+(l.length-j))) (c-(i+(l.length-j))) ak (λk hk=>by rw[hAX.cell,Array.getElem?_eq_getElem ak];rfl) (λk hk=>hAX.thaw _);rw[Jr hAX _ _ iJ (λv hv=>by rw[List.eq_of_mem_replicate hv];rfl),setRow_setRow]at hcl;obtain⟨Y,hY⟩:∃Y:Array Value,Y=(X.toList.take (i+(l.length-j))++List.replicate (l.length-(i+(l.length-j))) (Value.int .i64 0)++X.toList.drop (i+(l.length-j)+(List.replicate (l.length-(i+(l.length-j))) (Value.int .i64 0)).length)).toArray:=⟨_,rfl⟩;rw[<-hY]at hcl;have hYs:Hid (Y.size=c):=ah (by rw[hY];simp;omega)
 have hYt:Hid (Y.toList.take (l.take i++l.drop j).length=(l.take i++l.drop j).map (Value.int .i64)):=ah (by
  have e:(l.take i++l.drop j).length=i+(l.length-j):=by simp;omega
  rw[e,hY,hX,hti,hnews];simp only[List.map_append];have e1:((l.take i).map (Value.int .i64)++(l.drop j).map (Value.int .i64)).length=i+(l.length-j):=by simp;omega
  rw[List.append_assoc,ja' iJ,List.take_take,Nat.min_self,ja' ak,jb6 ak])
 have hQ:Hid (At (w.drew.setRow g Y) g (.cells Y 3)):=ah (hA.drew.setRow Y);have hO:Hid (Out (λb=>b=g) w (w.drew.setRow g Y)):=ah (Out.setRow (M:=λb=>b=g) (Out.drew (Out.refl _ _)) rfl Y);generalize hn:l.length=n at *;have HN:=ah hn;have adN:=ah happ;have Rz:=ah hcl;have hne:¬ (i:Int)=(j:Int):=by omega
 have hneb:((i:Int)==(j:Int))=false:=by simpa using hne
 have hcp:¬ c=i+(n-j):=by omega
 have hcut:Hid (cutAt g c (i+(n-j))=⟨g,i+(n-j),none⟩):=ah (by unfold cutAt;rw[if_neg hcp]);have hlen:Hid ((l.take i++l.drop j).length=i+(n-j)):=ah iJ;clear happ hcl hX hY hXs hAX hget hnl hnews hti ht hA hs hn;go_enter Tryz.func137,Tryz.ntmps137
 go_upto_region 5 with(fail)
 refine iC (S:=(λ_=>True)) 8 ?_ ?_
 . trivial
 intro hS0;refine aO 0 ?_;refine aO 1 ?_;refine jh 2 rfl (lF aR rfl (λW=>DR g n c i ak W)) ?_;refine aO 3 ?_;refine aO 4 ?_;refine jh 5 rfl (lF aR rfl (λW=>jm g n c j ak W)) ?_;refine tk1 6 ?_;refine aj.Step.value (vC (.tmp 22) (.tmp 25) 37 37 rfl rfl rfl adN.out) ?_;refine⟨λ_=>trivial,?_⟩
 (try simp only[bM,bN,bO,tks])
 refine aO 7 ?_;refine gZ ?_;have hcl:=Rz.out;go_wp2
 go_ret
 exact⟨rfl,⟨Y,hQ.out,hYs.out,by rw[hlen.out];omega,by unfold maxLen;omega,hYt.out⟩,hO.out⟩
theorem Out.grown{X Y:World}{row:Option Nat}(h:X.grownBy Y row)(hr:∀b,row=some b->M b):Out M X Y :=
 ⟨⟨h.os,h.tape,h.output,h.size,λ_ hb=>absurd hb (Nat.not_lt_zero _)⟩,λb hb hm=>h.block b hb (λe=>hm (hr b e.symm))⟩
theorem At.shape{b:Nat}{cs:Array Value}{T:TypeId}(h:At W b (.cells cs T)):W.shape? b=some (T,cs.size):=by
 unfold At at h;simp[World.shape?,h]
theorem Cz:(Tryz.prog.info? 3).map (·.size)=some 1:=by kernel_rfl
theorem O9{vb:Nat}(h:KS w v l)(hl:l.length<=10000)(hv:At w vb (.cells #[x] 3)):Calls ja0 102 #[v,.int .i64 (l.length:Int),.slice vb 1 1] w λe w'=>∃v',e=.returned v'/\KS w' v' (l++[x])/\Out (λb=>v.ownBlock=some b) w w'/\(v'.ownBlock=v.ownBlock\/v'.ownBlock=some w.heap.size):=by
 obtain⟨i0,hi0,hz0,hz1,hz2⟩:=info_parts intZero
 obtain⟨v',w',hr,ho,hg,_,hloc⟩:=run_append_own_at (P:=ja0) w 0 37 37 3 i0 (.int .i64 0) 1 8 Tryz.underlying37 hi0 hz0 hz1 hz2 rfl aG v _ _ h ⟨vb,0,none⟩ 1 1 [.int .i64 x] rfl
  (λj u hu=>by
   have hj:j=0:=by have:=(List.getElem?_eq_some_iff.1 hu).1;simpa using this
   subst hj
   rw[addr_add,hv.cell];simpa using hu)
  Kv Oi ak oI
 have hQ:Hid (KS w' v' (l++[x])):=ah (by
  have e1:(l++[x]).length=l.length+1:=by simp
  unfold KS
  rw[e1,List.map_append];exact ho)
 have hO:Hid (Out (λb=>v.ownBlock=some b) w w'):=ah (Out.grown hg λb e=>e);have HL:=ah hloc;obtain⟨A,c,rfl,hI,hc,hm,hnil⟩:=h.ints;have hcs:∀W:World,(Instr.sliceAt 37 (.slice A l.length c) (some (.int .i64 (l.length:Int))) none none).run ja0 W=.ok (.slice (if c=l.length then A else A.map (·.add (l.length*1))) (l.length-l.length) (c-l.length)) W:=λW=>oV A l.length c l.length aC W;unfold maxLen at hm;clear h hI hloc hg ho hnil;generalize hn:l.length=n at *;have HN:=ah hn;have zF:=ah hr;clear hr hn;by_cases hcn:c=n
 . exact Z2v
 . exact Z2v
theorem LK{g c i vb:Nat}(h:Rw w g c l)(hi:i<l.length)(hr:l.length<c)(hv:At w vb (.cells #[x] 3))(hne:vb≠g):Calls ja0 102 #[.slice g l.length c,.int .i64 (i:Int),.slice vb 1 1] w λe w'=>e=.returned (.slice g (l.length+1) c)/\Rw w' g c (Tr.wi l i x)/\Out (λb=>b=g) w w':=by
 obtain⟨cur,hA,hs,hc,hm,ht⟩:=h;unfold maxLen at hm
 have hov:∀lb cb,(callFunc 134 #[.slice vb 1 1,.slice (some ⟨g,i+1,none⟩) lb cb]).run ja0 w=.ok (.value (.bool false)) w:=λlb cb=>by
  rw[run_callFunc_extern Tryz.func134 aV aV aV (e:=Extern.SlicesOverlaps.overlaps #[37,37] #[4]) aV,
   Lib.run_overlaps_apart w 37 4 3 Tryz.underlying37 1 (λ_=>by kernel_rfl) ⟨vb,0,none⟩ ⟨g,i+1,none⟩ 1 1 lb cb hne _ _ _ _ hv.shape hA.shape ak (hv.thaw _) (hv.thaw _)]
  rfl
 have hti:∀k,k<=l.length->cur.toList.take k=(l.take k).map (Value.int .i64):=λk hk=>by
  rw[List.map_take,<-ht,List.take_take,Nat.min_eq_left hk]
 obtain⟨news,hnews⟩:∃news,news=(l.drop i).map (Value.int .i64):=⟨_,rfl⟩;have hnl:news.length=l.length-i:=by rw[hnews];simp
 have hcp1:=run_copy_row (P:=ja0) w.drew 37 37 3 3 g (i+1) (l.length+1-(i+1)) (c-(i+1)) ⟨g,i,none⟩ (l.length+1-i) (c-i) cur 3 news Tryz.underlying37 Cz hA.drew (by rw[hnl];simp only[Nat.min_def];split<;>omega)
  (λk u hu=>by
   have hk:k<l.length-i:=by rw[<-hnl];exact(List.getElem?_eq_some_iff.1 hu).1
   rw[addr_add,hA.drew.cell];have e:(cur.toList.take l.length)[i+k]? = (l.map (Value.int .i64))[i+k]? := by rw[ht]
   rw[List.getElem?_take,if_pos ak]at e;rw[hnews,jc1,List.getElem?_drop]at hu;rw[<-hu,<-jc1,<-e]
   simp) ak (by rw[hnews];exact DT _)
 obtain⟨X,hX⟩:∃X:Array Value,X=(cur.toList.take (i+1)++news++cur.toList.drop (i+1+news.length)).toArray:=⟨_,rfl⟩;rw[<-hX]at hcp1;have hXs:X.size=c:=by rw[hX];simp;omega
 have hAX:At (w.drew.setRow g X) g (.cells X 3):=hA.drew.setRow X;have hvX:At (w.drew.setRow g X) vb (.cells #[x] 3):=hv.drew.gF hne X
 have hcp2:=run_copy_row (P:=ja0) (w.drew.setRow g X) 37 37 3 3 g i (l.length+1-i) (c-i) ⟨vb,0,none⟩ 1 1 X 3 [.int .i64 x] Tryz.underlying37 Cz hAX (by simp only[Nat.min_def,List.length_singleton];split<;>omega)
  (λk u hu=>by
   have hk:k=0:=by have:=(List.getElem?_eq_some_iff.1 hu).1;simpa using this
   subst hk
   rw[addr_add,hvX.cell];simpa using hu) iJ Kv
 rw[setRow_setRow]at hcp2;obtain⟨Y,hY⟩:∃Y:Array Value,Y=(X.toList.take i++[Value.int .i64 x]++X.toList.drop (i+[Value.int .i64 x].length)).toArray:=⟨_,rfl⟩;rw[<-hY]at hcp2;have hYs:Hid (Y.size=c):=ah (by rw[hY];simp;omega)
 have hYt:Hid (Y.toList.take (Tr.wi l i x).length=(Tr.wi l i x).map (Value.int .i64)):=ah (by
  rw[Tr.lD,hY,hX];simp only[Tr.wi,List.map_append,List.map_cons,List.length_singleton];have e0:(cur.toList.take (i+1)).length=i+1:=by simp;omega
  have e1:(cur.toList.take i).length=i:=by simp;omega
  have e2:List.take i (cur.toList.take (i+1)++news++cur.toList.drop (i+1+news.length))=cur.toList.take i:=by
   rw[List.append_assoc,ja' ak,List.take_take,Nat.min_eq_left ak]
  have e3:List.drop (i+1) (cur.toList.take (i+1)++news++cur.toList.drop (i+1+news.length))=news++cur.toList.drop (i+1+news.length):=by
   rw[List.append_assoc,List.drop_append_of_le_length ak,List.drop_of_length_le ak,List.nil_append]
  rw[e2,e3,<-hti i ak,<-hnews];have e4:(cur.toList.take i++[Value.int .i64 x]++news).length=l.length+1:=by simp[hnl];omega
  rw[<-List.append_assoc,ja' ak,jb6 ak]
  simp)
 have hQ:Hid (At (w.drew.setRow g Y) g (.cells Y 3)):=ah (hA.drew.setRow Y);have hO:Hid (Out (λb=>b=g) w (w.drew.setRow g Y)):=ah (Out.setRow (M:=λb=>b=g) (Out.drew (Out.refl _ _)) rfl Y);have hwl:Hid ((Tr.wi l i x).length=l.length+1):=ah (Tr.lD _ _ _);generalize hn:l.length=n at *;have HN:=ah hn;have hw1:IntKind.i64.wrap ((i:Int)+1)=(i:Int)+1:=by rw[IntWalk.i64_in _ ak]
 have hz2:¬ ((i:Int)=(n:Int)):=by omega
 have hz3:((i:Int)==(n:Int))=false:=by simpa using hz2
 have hb1:(0:Int)<=(i:Int)+1:=by omega
 have hb2:¬ (c=i+1):=by omega
 have hb3:(i:Int)<=(n:Int)+1:=by omega
 have hb4:¬ (c=i):=by omega
 have htn:((i:Int)+1).toNat=i+1:=by omega
 have Ww:=ah hcp1;have HC2:=ah hcp2
 have HS1:Hid (∀W,(Instr.sliceAt 37 (.slice g (n+1) c) (some (.int .i64 ((i:Int)+1))) none none).run ja0 W=.ok (.slice (some ⟨g,i+1,none⟩) (n+1-(i+1)) (c-(i+1))) W):=ah λW=>by
  have:=jm g (n+1) c (i+1) ak W;rw[cutAt,if_neg hb2]at this;rw[show(i:Int)+1=((i+1:Nat):Int)by omega];exact this
 have HS2:Hid (∀W,(Instr.sliceAt 37 (.slice g (n+1) c) (some (.int .i64 (i:Int))) none none).run ja0 W=.ok (.slice (some ⟨g,i,none⟩) (n+1-i) (c-i)) W):=ah λW=>by
  have:=jm g (n+1) c i ak W;rw[cutAt,if_neg hb4]at this;exact this
 clear hcp1 hcp2 hX hY hXs hAX hvX hnl hnews hti ht hA hs hn hv;go_enter Tryz.func102,Tryz.ntmps102
 go_upto_region 15 with(simp only[hov])
 refine iC (S:=(λ_=>True)) 9 ?_ ?_
 . trivial
 intro hS0;refine aO 0 ?_;refine aO 1 ?_;refine aO 2 ?_;refine aO 3 ?_;refine jh 4 rfl (lF aR rfl (λW=>HS1.out W)) ?_;refine aO 5 ?_;refine aO 6 ?_;refine jh 7 rfl (lF aR rfl (λW=>HS2.out W)) ?_;refine tk1 8 ?_;refine aj.Step.value (Hf (.tmp 73) (.tmp 76) 37 37 rfl rfl rfl Ww.out) ?_;refine⟨λ_=>trivial,?_⟩
 (try simp only[bM,bN,bO,tks])
 refine gZ ?_;have hcp2:=HC2.out;go_wp2
 go_ret
 exact⟨rfl,⟨Y,hQ.out,hYs.out,by rw[hwl.out];omega,by unfold maxLen;omega,hYt.out⟩,hO.out⟩
theorem LM{g i vb:Nat}(h:Rw w g l.length l)(hi:i<l.length)(hl:l.length<=10000)(hv:At w vb (.cells #[x] 3)):Calls ja0 102 #[.slice g l.length l.length,.int .i64 (i:Int),.slice vb 1 1] w λe w'=>(∃c,e=.returned (.slice w (l.length+1) c)/\Rw w' w.heap.size c (Tr.wi l i x))/\Below w w w':=by
 obtain⟨i0,hi0,hz0,hz1,hz2⟩:=info_parts intZero;have hgl:=h.lt;have hI:=h.ints;obtain⟨cur,hA,hs,hc,hm,ht⟩:=h;clear hm
 have hti:∀k,k<=l.length->cur.toList.take k=(l.take k).map (Value.int .i64):=λk hk=>by
  rw[List.map_take,<-ht,List.take_take,Nat.min_eq_left hk]
 have hcell:∀k u,(l.map (Value.int .i64))[k]? = some u->cur[k]? = some u:=λk u hu=>by
  have hk:k<l.length:=by have:=(List.getElem?_eq_some_iff.1 hu).1;simpa using this
  have e:(cur.toList.take l.length)[k]? = (l.map (Value.int .i64))[k]? := by rw[ht]
  rw[List.getElem?_take,if_pos hk,hu]at e;simpa using e
 have hold:(Builtin.firstCells i0.size i (.slice g i l.length)).run ja0 w.drew=.ok (cur.toList.take i).toArray w.drew:=by
  rw[hz1]
  exact run_firstCells_some w.drew 1 i ⟨g,0,none⟩ i l.length (cur.toList.take i) (by rw[jc9];simp;omega) (λk u hu=>by
   rw[addr_add,hA.drew.cell];rw[List.getElem?_take]at hu;split at hu
   . simpa using hu
   . cases hu)
 have happ:=Lib.run_append_grow_zeros (P:=ja0) w 37 3 37 3 i0 (.int .i64 0) .i64 .i64 Tryz.underlying37 Tryz.underlying3 hi0 hz0 (some ⟨g,0,none⟩) i l.length _ hold (l.length+1-i) ak ak ak ak Te (by rw[hz2];exact growslice_fits ak ak);obtain⟨G,hG⟩:∃G,G=grownCap w (i+(l.length+1-i)) l.length 3:=⟨_,rfl⟩;have hGn:l.length+1<=G:=by have:=grownCap_ge w (i+(l.length+1-i)) l.length 3;omega
 have hGm:G<=maxLen:=by rw[hG];exact grownCap_le_maxLen _ _ _ _ Oi
 rw[<-hG,show i+(l.length+1-i)=l.length+1 by omega]at happ;obtain⟨R,hR⟩:∃R:Array Value,R=(cur.toList.take i).toArray++Builtin.zeroCells (Value.int .i64 0).cells (l.length+1-i)++Builtin.zeroCells (Value.int .i64 0).cells (G-(l.length+1)):=⟨_,rfl⟩;rw[<-hR]at happ;have hRs:R.size=G:=by rw[hR];simp[size_zeroCells,Value.cells];omega
 have hRt:R.toList.take i=cur.toList.take i:=by
  rw[hR];simp only[Array.toList_append,List.append_assoc];rw[ja' iJ,jb6 iJ]
 clear hR;obtain⟨b,hb⟩:∃b,b=w.heap.size:=⟨_,rfl⟩;obtain⟨W1,hW1⟩:∃W1,W1=w.drew.alloc (.cells R 3):=⟨_,rfl⟩;have hA1:At W1 b (.cells R 3):=by rw[hW1,hb];exact At.new _ _
 have hg1:At W1 g (.cells cur 3):=by rw[hW1];exact hA.drew.alloc _
 have hv1:At W1 vb (.cells #[x] 3):=by rw[hW1];exact hv.drew.alloc _
 have hB1:Below b w W1:=by rw[hW1,hb];exact(Below.refl _ _).drew.alloc aW _
 have hvb:vb≠b:=by rw[hb];exact dX hv.lt
 have hgb:g≠b:=by rw[hb];exact dX hgl
 rw[<-hW1,<-hb]at happ
 have hcp1:=run_copy_row (P:=ja0) W1 37 37 3 3 b i (l.length+1-i) (G-i) ⟨vb,0,none⟩ 1 1 R 3 [.int .i64 x] Tryz.underlying37 Cz hA1 (by simp only[Nat.min_def,List.length_singleton];split<;>omega)
  (λk u hu=>by
   have hk:k=0:=by have:=(List.getElem?_eq_some_iff.1 hu).1;simpa using this
   subst hk
   rw[addr_add,hv1.cell];simpa using hu) iJ Kv
 obtain⟨X,hX⟩:∃X:Array Value,X=(R.toList.take i++[Value.int .i64 x]++R.toList.drop (i+[Value.int .i64 x].length)).toArray:=⟨_,rfl⟩;rw[<-hX]at hcp1;have hXs:X.size=G:=by rw[hX];simp;omega
 have hAX:At (W1.setRow b X).drew b (.cells X 3):=(hA1.setRow X).drew;have hgX:At (W1.setRow b X).drew g (.cells cur 3):=(hg1.gF hgb X).drew;obtain⟨news,hnews⟩:∃news,news=(l.drop i).map (Value.int .i64):=⟨_,rfl⟩;have hnl:news.length=l.length-i:=by rw[hnews];simp
 have hcp2:=run_copy_row (P:=ja0) (W1.setRow b X).drew 37 37 3 3 b (i+1) (l.length+1-(i+1)) (G-(i+1)) ⟨g,i,none⟩ (l.length-i) (l.length-i) X 3 news Tryz.underlying37 Cz hAX (by rw[hnl];simp only[Nat.min_def];split<;>omega)
  (λk u hu=>by
   rw[addr_add,hgX.cell];rw[hnews,jc1,List.getElem?_drop,<-jc1]at hu
   exact hcell _ _ hu) ak (by rw[hnews];exact DT _)
 obtain⟨Y,hY⟩:∃Y:Array Value,Y=(X.toList.take (i+1)++news++X.toList.drop (i+1+news.length)).toArray:=⟨_,rfl⟩;rw[<-hY,show((W1.setRow b X).drew).setRow b Y=(W1.setRow b Y).drew by rw[<-LJ,setRow_setRow]]at hcp2;have hYs:Hid (Y.size=G):=ah (by rw[hY];simp;omega)
 have hYt:Hid (Y.toList.take (Tr.wi l i x).length=(Tr.wi l i x).map (Value.int .i64)):=ah (by
  rw[Tr.lD,hY,hX];simp only[Tr.wi,List.map_append,List.map_cons,List.length_singleton];have e1:(R.toList.take i).length=i:=by simp;omega
  have e2:List.take (i+1) (R.toList.take i++[Value.int .i64 x]++R.toList.drop (i+1))=R.toList.take i++[Value.int .i64 x]:=by
   rw[ja' iJ,jb6 iJ]
  rw[e2,hRt,<-hti i ak,<-hnews];have e4:(cur.toList.take i++[Value.int .i64 x]++news).length=l.length+1:=by simp[hnl];omega
  rw[ja' ak,jb6 ak]
  simp)
 have hQ:Hid (At (W1.setRow b Y).drew b (.cells Y 3)):=ah (hA1.setRow Y).drew;have hO:Hid (Below b w (W1.setRow b Y).drew):=ah (below_setRow hB1 aC Y).drew;have hwl:Hid ((Tr.wi l i x).length=l.length+1):=ah (Tr.lD _ _ _);unfold maxLen at hGm;rw[<-hb];clear hG;generalize hn:l.length=n at *;have HN:=ah hn;have hw1:IntKind.i64.wrap ((i:Int)+1)=(i:Int)+1:=by rw[IntWalk.i64_in _ ak]
 have hw2:IntKind.i64.wrap ((n:Int)+1-(i:Int))=(n:Int)+1-(i:Int):=by rw[IntWalk.i64_in _ ak]
 have hz2:¬ ((i:Int)=(n:Int)):=by omega
 have hz3:((i:Int)==(n:Int))=false:=by simpa using hz2
 have hb1:(0:Int)<=(i:Int)+1:=by omega
 have hb2:¬ (G=i+1):=by omega
 have hb5:¬ (G=i):=by omega
 have hb4:¬ (n=i):=by omega
 have Ww:=ah hcp1;have HC2:=ah hcp2
 have adN:Hid ((Builtin.append_ #[37,3] 37 #[.slice g i n,.int .i64 ((n:Int)+1-(i:Int))]).run ja0 w=.ok (.slice b (n+1) G) W1):=ah (by
  rw[show(n:Int)+1-(i:Int)=((n+1-i:Nat):Int)by omega];exact happ)
 have HS1:Hid (∀W,(Instr.sliceAt 37 (.slice b (n+1) G) (some (.int .i64 ((i:Int)+1))) none none).run ja0 W=.ok (.slice (some ⟨b,i+1,none⟩) (n+1-(i+1)) (G-(i+1))) W):=ah λW=>by
  have:=jm b (n+1) G (i+1) ak W;rw[cutAt,if_neg hb2]at this;rw[show(i:Int)+1=((i+1:Nat):Int)by omega];exact this
 have HS2:Hid (∀W,(Instr.sliceAt 37 (.slice g n n) (some (.int .i64 (i:Int))) none none).run ja0 W=.ok (.slice (some ⟨g,i,none⟩) (n-i) (n-i)) W):=ah λW=>by
  have:=jm g n n i ak W;rw[cutAt,if_neg hb4]at this;exact this
 have HB:=ah hb;clear hcp1 hcp2 hX hY hXs hAX hgX hnl hnews hti ht hA hs hn hv happ hold hI hcell hA1 hg1 hv1 hB1 hvb hgb hRs hRt hW1 hb hc;go_enter Tryz.func102,Tryz.ntmps102
 go_upto_region 10 with(at_builtin;refine O7 aR (vC (.tmp 34) (.tmp 39) 37 3 rfl rfl rfl adN.out) ?_)
 have hcp1:=Ww.out
 go_upto_region 11 with(fail)
 refine iC (S:=(λ_=>True)) 9 ?_ ?_
 . trivial
 intro hS0;refine aO 0 ?_;refine aO 1 ?_;refine aO 2 ?_;refine aO 3 ?_;refine jh 4 rfl (lF aR rfl (λW=>HS1.out W)) ?_;refine aO 5 ?_;refine aO 6 ?_;refine jh 7 rfl (lF aR rfl (λW=>HS2.out W)) ?_;refine tk1 8 ?_;refine aj.Step.value (Hf (.tmp 50) (.tmp 53) 37 37 rfl rfl rfl HC2.out) ?_;refine⟨λ_=>trivial,?_⟩
 (try simp only[bM,bN,bO,tks])
 refine gZ ?_;go_wp2
 go_ret
 exact⟨⟨G,rfl,⟨Y,hQ.out,hYs.out,by rw[hwl.out];omega,by unfold maxLen;omega,hYt.out⟩⟩,hO.out⟩
theorem Pb{i vb:Nat}(h:KS w v l)(hi:i<=l.length)(hl:l.length<=10000)(hv:At w vb (.cells #[x] 3))(hne:v.ownBlock≠some vb):Calls ja0 102 #[v,.int .i64 (i:Int),.slice vb 1 1] w λe w'=>∃v',e=.returned v'/\KS w' v' (Tr.wi l i x)/\Out (λb=>v.ownBlock=some b) w w'/\(v'.ownBlock=v.ownBlock\/v'.ownBlock=some w.heap.size):=by
 by_cases hin:i=l.length
 . subst hin
   refine(O9 h hl hv).mono ?_;rintro e w' ⟨v',rfl,h1,h2,h3⟩;exact⟨v',rfl,by rw[Tr.wi,List.take_length,List.drop_length];exact h1,h2,h3⟩
 . rcases h.cases with⟨rfl,rfl⟩|⟨g,c,rfl,hr⟩
   . simp at hi;simp[hi]at hin
   . have hvg:vb≠g:=λe=>hne (by rw[e];rfl)
     by_cases hc:l.length<c
     . refine(LK hr ak hc hv hvg).mono ?_
       rintro e w' ⟨rfl,h1,h2⟩;exact⟨_,rfl,by have:=h1.ks;rw[Tr.lD]at this;exact this,h2.mono λb _ e=>by subst e;rfl,.inl rfl⟩
     . have hcl:c=l.length:=by obtain⟨_,_,_,h3,_⟩:=hr;omega
       subst hcl;refine(LM hr ak hl hv).mono ?_;rintro e w' ⟨⟨c,rfl,h1⟩,h2⟩;exact⟨_,rfl,by have:=h1.ks;rw[Tr.lD]at this;exact this,Out.of_below h2,.inr rfl⟩
def ptr:Option Nat->Value
 | none => .pointer none
 | some b => .pointer b
def ptD:Option Nat->DataW Nat
 | none => .nil
 | some b => .held b
def ptR:Value->Option (DataW Nat×List MemPlace)
 | .pointer none=>some (.nil,[])
 | .pointer (some a)=>if a=⟨a.block,0,none⟩then some (.held a.block,[])else none
 | _=>none
theorem RA(o:Option Nat):ptR (ptr o)=some (ptD o,[]):=by cases o<;>simp[ptr,ptR,ptD]
theorem abn{o:Option Nat}{ps:List MemPlace}(h:ptR v=some (ptD o,ps)):v=ptr o:=by
 cases v with
 | pointer p =>
   cases p with
   | none=>cases o<;>simp[ptR,ptD]at h;rfl
   | some a =>
     simp only[ptR]at h;split at h
     . rename_i ha
       cases o<;>simp[ptD]at h;rw[ha,h.1];rfl
     . cases h
 | _=>simp[ptR]at h
theorem iT:Maps.Keyed ja0 3:=Maps.int_keyed Tryz.underlying3
def Wf(z:Int):Prop:=(Lit.int .i64 z).wf=true
theorem iQ(z:Int):Wf z ↔ -9223372036854775808<=z/\z<=9223372036854775807:=by
 unfold Wf;constructor
 . intro h;exact bounds_i64 h
 . intro h;exact WalkArith.wf_i64 h
theorem iA(h:Wf z):keyOf ja0 3 (.int .i64 z)=some (.int .i64 z):=Maps.keyOf_int_mk Tryz.underlying3 h
theorem Xq(z:Int):WideAt.IsKeyLit (.int .i64 z):=trivial
theorem DU{y z:Int}(h:y≠z):Lit.int .i64 y≠Lit.int .i64 z:=λe=>by injection e with _ e;exact h e
def PM(W:World)(b n:Nat)(f:Int->Option Nat):Prop :=
 ∃D:DataW Nat,W.ownsMap ja0 3 ptR b n D/\Maps.size D=n/\∀z,Wf z->D.atKey (.int .i64 z) .nil=ptD (f z)/\Maps.has D (.int .i64 z)=(f z).isSome
theorem wY{k:TypeId}{R:Value->Option (DataW Nat×List MemPlace)}{D:DataW Nat}(h:W.ownsMap P k R b n D):W.ownsMap P k R b (Maps.size D) D:=by
 obtain⟨es,clock,hb,F,hs,rfl⟩:=h;exact⟨es,clock,hb,F,by simp[Maps.size,length_sorted],rfl⟩
theorem PM.lt(h:PM W b n f):b<W.heap.size:=by obtain⟨D,h,_⟩:=h;exact h.lt
theorem PM.out{W W':World}(h:PM W b n f)(hm:¬ M b)(k:Out M W W'):PM W' b n f:=by
 have hl:=h.lt;obtain⟨D,⟨es,clock,hb,r⟩,r2⟩:=h;exact⟨D,⟨es,clock,(k.2 b hl hm).trans hb,r⟩,r2⟩
theorem PM.congr{f g:Int->Option Nat}(h:PM W b n f)(e:∀z,Wf z->f z=g z):PM W b n g:=by
 obtain⟨D,h1,h2,h3⟩:=h;exact⟨D,h1,h2,λz hz=>by rw[<-e z hz];exact h3 z hz⟩
theorem PM.look(h:PM W b n f)(hz:Wf z):(Instr.lookup 134 (.map (some b)) (.int .i64 z) false).run ja0 W=.ok (ptr (f z)) W:=by
 obtain⟨D,h1,_,h3⟩:=h;obtain⟨v,ps,hr,hv⟩:=h1.lookup (z:=ptr none) (zd:=.nil) (zp:=[]) iT Tryz.underlying134 aV (RA none) (iA hz);rw[(h3 z hz).1]at hv;rw[hr,abn hv]
theorem PM.len(h:PM W b n f)(ty:TypeId):(Builtin.len_ #[134] ty #[.map (some b)]).run ja0 W=.ok (.int .i64 (n:Int)) W:=by
 obtain⟨D,h1,h2,h3⟩:=h;rw[h1.len Tryz.underlying134 ty,h2]
def Pf(f:Int->Option Nat)(z:Int)(b:Nat):Int->Option Nat:=λy=>if y=z then some b else f y
def abo(f:Int->Option Nat)(z:Int):Int->Option Nat:=λy=>if y=z then none else f y
theorem Out.turned{W W':World}{b:Nat}(h:W.mapTurned W' b):Out (λx=>x=b) W W':=by
 have hg:=h.grown;exact⟨⟨hg.os,hg.tape,hg.output,hg.size,λ_ hb=>absurd hb (Nat.not_lt_zero _)⟩,λx hx hm=>hg.block x hx (λe=>hm (by injection e))⟩
theorem PM.store(h:PM W b n f)(hn:n<maxLen)(hz:Wf z)(hf:f z=none)(c:Nat) :
  ∃W',(Instr.mapUpdate 134 (.map (some b)) (.int .i64 z) (.pointer c)).run ja0 W=.ok () W'/\PM W' b (n+1) (Pf f z c)/\Out (λx=>x=b) W W':=by
 obtain⟨D,h1,h2,h3⟩:=h;obtain⟨W',hr,ho,ht⟩:=h1.store iT Tryz.underlying134 hn (iA hz) (RA (some c));have hsz:Maps.size (D.put (.int .i64 z) (ptD (some c)))=n+1:=by
  rw[Maps.size_put (h1.tidy iT),(h3 z hz).2,hf,h2];rfl
 refine⟨W',hr,⟨_,hsz▸wY ho,hsz,λy hy => ?_⟩,Out.turned ht⟩;unfold Pf;by_cases e:y=z
 . subst e
   rw[if_pos rfl,Maps.atKey_put_same h1.isMap (Xq y),Maps.has_put_same h1.isMap (Xq y)];exact⟨rfl,rfl⟩
 . rw[if_neg e,Maps.atKey_put_other (DU e),Maps.has_put_other (DU e)]
   exact h3 y hy
theorem PM.drop(h:PM W b n f)(hz:Wf z)(hf:(f z).isSome=true)(ty:TypeId) :
  ∃W',(Builtin.delete_ #[134,3] ty #[.map (some b),.int .i64 z]).run ja0 W=.ok (.tuple #[]) W'/\PM W' b (n-1) (abo f z)/\Out (λx=>x=b) W W'/\1<=n:=by
 obtain⟨D,h1,h2,h3⟩:=h;obtain⟨W',hr,ho,ht⟩:=h1.drop iT Tryz.underlying134 (iA hz) ty;have hs:=Maps.size_del (k:=.int .i64 z) (h1.tidy iT);rw[(h3 z hz).2,hf,h2]at hs;have hsz:Maps.size (D.del (.int .i64 z))=n-1:=by simp at hs;omega
 refine⟨W',hr,⟨_,hsz▸wY ho,hsz,λy hy => ?_⟩,Out.turned ht,by simp at hs;omega⟩;unfold abo;by_cases e:y=z
 . subst e
   rw[if_pos rfl,Maps.atKey_del_same,Maps.has_del_same];exact⟨rfl,rfl⟩
 . rw[if_neg e,Maps.atKey_del_other (DU e),Maps.has_del_other (DU e)]
   exact h3 y hy
theorem PM.made(W:World):PM (W.alloc (.map #[] 0)) W.heap.size 0 (λ_=>none) :=
 ⟨.map [],World.ownsMap_made _ _ _ _,rfl,λz hz=>⟨rfl,rfl⟩⟩
def uy(W:World)(b o:Nat)(s:Re.St):Prop:=∀j,j<55->W.cell? ⟨b,o+j,none⟩=some (cell s j)
theorem LP{b o:Nat}(h:uy W b o s):(loadVar 68 ⟨b,o,none⟩).run ja0 W=.ok (.agg (cells s)) W:=by
 have hl:=run_loadCells_list (P:=ja0) W ⟨b,o,none⟩ (cells s).toList (λj v hj=>by
  have hj':j<55:=by have:=(List.getElem?_eq_some_iff.1 hj).1;simpa[bI]using this
  rw[addr_add,h j hj'];rw[Array.getElem?_toList,gM s hj']at hj
  exact hj)
 rw[Array.length_toList,bI]at hl;have hi:(isAgg 68).run ja0 W=.ok true W:=by kernel_rfl
 have hz:(sizeOf 68).run ja0 W=.ok 55 W:=by kernel_rfl
 simp only[loadVar,Sem.run_bind,hi,hz,hl,Result.andThen_ok,if_true,Sem.run_pure]
theorem LQ{b o:Nat}(h:uy W b o s):(Instr.loadAt 68 (.pointer (some ⟨b,o,none⟩))).run ja0 W=.ok (.agg (cells s)) W:=by
 simp only[Instr.loadAt,Instr.sureAddr,Sem.run_bind,Sem.run_pure,Result.andThen_ok,LP h]
theorem fD(hw:Region.wanted o (yielded ops a.tmps)=true)(x:Operand)(ho:o.op=.load 68 x){b k:Nat}(hx:a.eval x=.pointer (some ⟨b,k,none⟩))(hs:uy w b k s)
  (h:wpList ja0 ops Q rest (a.put o.dst (.agg (cells s))) w):wpList ja0 ops Q (o::rest) a w :=
 dL hw (by unfold execOp;simp only[ho,hx,Sem.run_bind,LQ hs,Result.andThen_ok,Sem.run_pure]) h
def cZ(u:Int)(v:Value)(s:Re.St):Array Value:=#[.int .i64 u,v]++cells s
theorem AF(u:Int)(v:Value)(s:Re.St):(cZ u v s).size=57:=by simp[cZ,bI]
theorem Pg(u:Int)(v:Value)(s:Re.St){j:Nat}(h:j<55):(cZ u v s)[2+j]? = some (cell s j):=by
 unfold cZ;rw[Array.getElem?_append_right aW,show 2+j-(#[u,v]:Array Value).size=j by simp,gM s h]
theorem Ua(u:Int)(v:Value)(s:Re.St):(cZ u v s)[0]? = some (.int .i64 u):=by
 unfold cZ;rw[Array.getElem?_append_left aW];rfl
theorem vD(u:Int)(v:Value)(s:Re.St):(cZ u v s)[1]? = some v:=by
 unfold cZ;rw[Array.getElem?_append_left aW];rfl
theorem FY(u u':Int)(v:Value)(s:Re.St):(cZ u v s).setIfInBounds 0 (.int .i64 u')=cZ u' v s:=by
 unfold cZ;rw[Array.setIfInBounds_append_left aW];rfl
theorem BN(u:Int)(v v':Value)(s:Re.St):(cZ u v s).setIfInBounds 1 v'=cZ u v' s:=by
 unfold cZ;rw[Array.setIfInBounds_append_left aW];rfl
theorem Js(u:Int)(W:World):(Instr.build 132 #[(0,.int .i64 u)]).run ja0 W=.ok (.agg (cZ u (.slice none 0 0) Re.zero)) W:=by kernel_rfl
theorem DV(W:World):(Instr.build 132 #[]).run ja0 W=.ok (.agg (cZ 0 (.slice none 0 0) Re.zero)) W:=by kernel_rfl
theorem Ph(b:Nat)(W:World):(Instr.build 136 #[(0,.map (some b))]).run ja0 W=.ok (.agg #[.map (some b)]) W:=by kernel_rfl
theorem At.uniq{b:Nat}{o o':Obj}(h:At W b o)(k:At W b o'):o=o':=Option.some.inj (h.symm.trans k)
theorem KS.rowAt(h:KS W v l){g:Nat}(hg:v.ownBlock=some g):∃cur:Array Value,At W g (.cells cur 3):=by
 rcases h.cases with⟨rfl,_⟩|⟨g',c,rfl,cur,h1,_⟩
 . simp[Value.ownBlock]at hg
 . simp[Value.ownBlock]at hg;subst hg;exact⟨cur,h1⟩
theorem PM.obj(h:PM W b n f):∃es clock,At W b (.map es clock):=by obtain⟨D,⟨es,clock,hb,_⟩,_⟩:=h;exact⟨es,clock,hb⟩
structure Lay where
 mb:Nat
 bl:Int->Nat
 sl:Int->Value
structure dQ(W:World)(t:Nat)(L:Lay)(T:Tr.T)(n:Nat):Prop where
 at_:At W t (.cells #[.map (some L.mb)] 136)
 map:PM W L.mb n (λz=>(T z).map λ_=>L.bl z)
 box:∀z nd,T z=some nd->At W (L.bl z) (.cells (cZ nd.up (L.sl z) nd.sty) 132)
 row:∀z nd,T z=some nd->KS W (L.sl z) nd.kids
 inj:∀y z,T y≠none->T z≠none->L.bl y=L.bl z->y=z
 apart:∀y z g,T y≠none->T z≠none->(L.sl y).ownBlock=some g->(L.sl z).ownBlock=some g->y=z
 small:∀z nd,T z=some nd->0<=z/\z<4096/\-1<=nd.up/\nd.up<4096/\nd.kids.length<=4096
def owned(t:Nat)(L:Lay)(T:Tr.T)(b:Nat):Prop:=b=t\/b=L.mb\/∃z nd,T z=some nd/\(b=L.bl z\/(L.sl z).ownBlock=some b)
section
variable {W W':World} {t n:Nat} {L:Lay} {T:Tr.T}
theorem dQ.out(h:dQ W t L T n)(hm:∀b,owned t L T b->¬ M b)(k:Out M W W'):dQ W' t L T n where
 at_:=h.at_.out (hm _ (.inl rfl)) k
 map:=h.map.out (hm _ (.inr (.inl rfl))) k
 box:=λz nd hz=>(h.box z nd hz).out (hm _ (.inr (.inr ⟨z,nd,hz,.inl rfl⟩))) k
 row:=λz nd hz=>(h.row z nd hz).out (λg hg=>hm _ (.inr (.inr ⟨z,nd,hz,.inr hg⟩))) k
 inj:=h.inj
 apart:=h.apart
 small:=h.small
theorem dQ.after(h:dQ W t L T n)(hb:Below W W W'):dQ W' t L T n:=h.out (M:=λ_=>False) (λ_ _ q=>q) (Out.of_below hb)
theorem dQ.alloc(h:dQ W t L T n)(o:Obj):dQ (W.alloc o) t L T n:=h.after (aB aD o)
theorem dQ.lt(h:dQ W t L T n){b:Nat}(hb:owned t L T b):b<W.heap.size:=by
 rcases hb with rfl|rfl|⟨z,nd,hz,rfl|hg⟩
 . exact h.at_.lt
 . exact h.map.lt
 . exact(h.box z nd hz).lt
 . exact(h.row z nd hz).lt hg
theorem dQ.afW(h:dQ W t L T n):t≠L.mb:=λe=>by
 obtain⟨es,clock,h1⟩:=h.map.obj;have:=h.at_.uniq (e▸h1);cases this
theorem dQ.adO(h:dQ W t L T n)(hz:T z=some nd):L.bl z≠t:=λe=>by
 have:=(h.box z nd hz).uniq (e▸h.at_);injection this with _ e2;exact absurd e2 aG
theorem dQ.GL(h:dQ W t L T n)(hz:T z=some nd):L.bl z≠L.mb:=λe=>by
 obtain⟨es,clock,h1⟩:=h.map.obj;have:=(h.box z nd hz).uniq (e▸h1);cases this
theorem dQ.aiD(h:dQ W t L T n)(hz:T z=some nd):(L.sl z).ownBlock≠some t:=λe=>by
 obtain⟨cur,h1⟩:=(h.row z nd hz).rowAt e;have:=h1.uniq h.at_;injection this with _ e2;exact absurd e2 aG
theorem dQ.RB(h:dQ W t L T n)(hz:T z=some nd):(L.sl z).ownBlock≠some L.mb:=λe=>by
 obtain⟨cur,h1⟩:=(h.row z nd hz).rowAt e;obtain⟨es,clock,h2⟩:=h.map.obj;have:=h1.uniq h2;cases this
theorem dQ.DW(h:dQ W t L T n){z y:Int}{nd yd:Tr.Nd}(hz:T z=some nd)(hy:T y=some yd):(L.sl z).ownBlock≠some (L.bl y):=λe=>by
 obtain⟨cur,h1⟩:=(h.row z nd hz).rowAt e;have:=h1.uniq (h.box y yd hy);injection this with _ e2;exact absurd e2 aG
theorem dQ.OA(h:dQ W t L T n){z y:Int}{nd yd:Tr.Nd}(hz:T z=some nd)(hy:T y=some yd):∀g,(L.sl z).ownBlock=some g->¬ (λb=>b=L.bl y) g:=λg hg (q:g=L.bl y)=>h.DW hz hy (by rw[hg,q])
theorem dQ.Xr(h:dQ W t L T n)(hz:T z=some nd):∀g,(L.sl z).ownBlock=some g->¬ (λb=>b=L.mb) g:=λg hg (q:g=L.mb)=>h.RB hz (by rw[hg,q])
theorem dQ.wf(h:dQ W t L T n)(hz:T z=some nd):Wf z:=by have:=h.small z nd hz;rw[iQ];omega
theorem dQ.look(h:dQ W t L T n)(hz:Wf z):(Instr.lookup 134 (.map (some L.mb)) (.int .i64 z) false).run ja0 W=.ok (ptr ((T z).map λ_=>L.bl z)) W:=h.map.look hz
theorem dQ.zQ(h:dQ W t L T n)(hz:Wf z)(hn:T z=none):(Instr.lookup 134 (.map (some L.mb)) (.int .i64 z) false).run ja0 W=.ok (.pointer none) W:=by
 have:=h.look hz;rw[hn]at this;exact this
theorem dQ.fT(h:dQ W t L T n)(hn:T z=some nd):(Instr.lookup 134 (.map (some L.mb)) (.int .i64 z) false).run ja0 W=.ok (.pointer (some ⟨L.bl z,0,none⟩)) W:=by
 have:=h.look (h.wf hn);rw[hn]at this;exact this
theorem dQ.cUp(h:dQ W t L T n)(hz:T z=some nd):W.cell? ⟨L.bl z,0,none⟩=some (.int .i64 nd.up):=by rw[(h.box z nd hz).cell,Ua]
theorem dQ.jX(h:dQ W t L T n)(hz:T z=some nd):W.cell? ⟨L.bl z,1,none⟩=some (L.sl z):=by rw[(h.box z nd hz).cell,vD]
theorem dQ.sty(h:dQ W t L T n)(hz:T z=some nd):uy W (L.bl z) 2 nd.sty:=λj hj=>by rw[(h.box z nd hz).cell,Pg _ _ _ hj]
theorem dQ.cT(h:dQ W t L T n):W.cell? ⟨t,0,none⟩=some (.map (some L.mb)):=by rw[h.at_.cell];rfl
def Grow(t:Nat)(L L':Lay)(T T':Tr.T)(W W':World):Prop:=Out (owned t L T) W W'/\∀b,owned t L' T' b->owned t L T b\/W.heap.size<=b
theorem Grow.refl(t:Nat)(L:Lay)(T:Tr.T)(W:World):Grow t L L T T W W:=⟨Out.refl _ _,λ_ h => .inl h⟩
theorem Grow.of_below(h:Below W W W'):Grow t L L T T W W':=⟨Out.of_below h,λ_ h => .inl h⟩
theorem Grow.trans{W'':World}{L' L'':Lay}{T' T'':Tr.T}(h:Grow t L L' T T' W W')(k:Grow t L' L'' T' T'' W' W''):Grow t L L'' T T'' W W'':=by
 refine⟨⟨h.1.1.trans k.1.1,λb hb hm=>(k.1.2 b (aT hb h.1.size) λq => ?_).trans (h.1.2 b hb hm)⟩,λb hb => ?_⟩
 . rcases h.2 b q with q|q
   . exact hm q
   . omega
 . rcases k.2 b hb with q|q
   . exact h.2 b q
   . exact .inr (aJ h.1.size q)
theorem dQ.Xt(h:dQ W t L T n){z u:Int}(hz:T z=some nd)(hu : -1<=u/\u<4096):dQ (W.setCell ⟨L.bl z,0,none⟩ (.int .i64 u)) t L (Tr.set T z { nd with up:=u }) n/\Grow t L L T (Tr.set T z { nd with up:=u }) W (W.setCell ⟨L.bl z,0,none⟩ (.int .i64 u)):=by
 have hO:Out (λb=>b=L.bl z) W (W.setCell ⟨L.bl z,0,none⟩ (.int .i64 u)):=(Out.refl _ _).set (M:=λb=>b=L.bl z) rfl 0 _
 have hnn:∀y,(Tr.set T z { nd with up:=u } y≠none↔T y≠none):=λy=>by
  exact Z33
 refine⟨⟨h.at_.out (λe=>h.adO hz e.symm) hO,(h.map.out (λe=>h.GL hz e.symm) hO).congr λy _ => ?_,λy yd hy => ?_,λy yd hy => ?_,λx y hx hy=>h.inj x y ((hnn x).1 hx) ((hnn y).1 hy),λx y g hx hy=>h.apart x y g ((hnn x).1 hx) ((hnn y).1 hy),λy yd hy => ?_⟩,hO.mono λb _ e => .inr (.inr ⟨z,nd,hz,.inl e⟩),λb hb => .inl ?_⟩
 . exact Z2z
 . by_cases e:y=z
   . subst e;rw[Tr.aP]at hy;cases hy
     have:=(h.box y nd hz).set 0 (.int .i64 u);rw[FY]at this;exact this
   . rw[Tr.aK _ _ e]at hy
     exact(h.box y yd hy).off (λq=>e (h.inj y z (by simp[hy]) (by simp[hz]) q)) _ _
 . exact Z2q
 . by_cases e:y=z
   . subst e;rw[Tr.aP]at hy;cases hy
     have:=h.small y nd hz;exact⟨this.1,this.2.1,hu.1,hu.2,this.2.2.2.2⟩
   . exact Z38
 . exact Z28
theorem dQ.Pj(h:dQ W t L T n)(hz:T z=some nd):dQ (W.setRow (L.bl z) (cZ nd.up (L.sl z) s)) t L (Tr.set T z { nd with sty:=s }) n/\Grow t L L T (Tr.set T z { nd with sty:=s }) W (W.setRow (L.bl z) (cZ nd.up (L.sl z) s)):=by
 have hO:Out (λb=>b=L.bl z) W (W.setRow (L.bl z) (cZ nd.up (L.sl z) s)):=(Out.refl _ _).setRow (M:=λb=>b=L.bl z) rfl _
 have hnn:∀y,(Tr.set T z { nd with sty:=s } y≠none↔T y≠none):=λy=>by
  exact Z33
 refine⟨⟨h.at_.out (λe=>h.adO hz e.symm) hO,(h.map.out (λe=>h.GL hz e.symm) hO).congr λy _ => ?_,λy yd hy => ?_,λy yd hy => ?_,λx y hx hy=>h.inj x y ((hnn x).1 hx) ((hnn y).1 hy),λx y g hx hy=>h.apart x y g ((hnn x).1 hx) ((hnn y).1 hy),λy yd hy => ?_⟩,hO.mono λb _ e => .inr (.inr ⟨z,nd,hz,.inl e⟩),λb hb => .inl ?_⟩
 . exact Z2z
 . by_cases e:y=z
   . subst e;rw[Tr.aP]at hy;cases hy
     exact(h.box y nd hz).setRow _
   . rw[Tr.aK _ _ e]at hy
     exact(h.box y yd hy).gF (λq=>e (h.inj y z (by simp[hy]) (by simp[hz]) q)) _
 . exact Z2q
 . by_cases e:y=z
   . subst e;rw[Tr.aP]at hy;cases hy
     exact h.small y nd hz
   . exact Z38
 . exact Z28
theorem dQ.sw(h:dQ W t L T n)(hz:T z=some nd)(gJ:Out (λb=>(L.sl z).ownBlock=some b) W W')(hv:KS W' v l)(hloc:v.ownBlock=(L.sl z).ownBlock\/v.ownBlock=none\/∃b,v.ownBlock=some b/\W.heap.size<=b)(hl:l.length<=4096) :
  dQ (W'.setCell ⟨L.bl z,1,none⟩ v) t { L with sl:=λy=>if y=z then v else L.sl y } (Tr.set T z { nd with kids:=l }) n/\Grow t L { L with sl:=λy=>if y=z then v else L.sl y } T (Tr.set T z { nd with kids:=l }) W (W'.setCell ⟨L.bl z,1,none⟩ v):=by
 have hO2:Out (λb=>b=L.bl z) W' (W'.setCell ⟨L.bl z,1,none⟩ v):=(Out.refl _ _).set (M:=λb=>b=L.bl z) rfl 1 _
 have hnn:∀y,(Tr.set T z { nd with kids:=l } y≠none↔T y≠none):=λy=>by
  exact Z33
 have hrow:∀y yd,y≠z->T y=some yd->∀g,(L.sl y).ownBlock=some g->¬ (L.sl z).ownBlock=some g:=λy yd e hy g hg q=>e (h.apart y z g (by simp[hy]) (by simp[hz]) hg q);have hvz:v.ownBlock≠some (L.bl z):=by
  rcases hloc with e|e|⟨b,e,hb⟩
  . rw[e];exact h.DW hz hz
  . rw[e];simp
  . rw[e];intro q;injection q with q;have:=(h.box z nd hz).lt;omega
 have hO3:Out (owned t L T) W (W'.setCell ⟨L.bl z,1,none⟩ v):=by
  refine Out.trans (gJ.mono λb _ e => .inr (.inr ⟨z,nd,hz,.inr e⟩)) ?_;exact hO2.mono λb _ e => .inr (.inr ⟨z,nd,hz,.inl e⟩)
 refine⟨⟨(h.at_.out (λe=>h.aiD hz e) gJ).out (λe=>h.adO hz e.symm) hO2,((h.map.out (λe=>h.RB hz e) gJ).out (λe=>h.GL hz e.symm) hO2).congr λy _ => ?_,λy yd hy => ?_,λy yd hy => ?_,λx y hx hy=>h.inj x y ((hnn x).1 hx) ((hnn y).1 hy),λx y g hx hy => ?_,λy yd hy => ?_⟩,hO3,λb hb => ?_⟩
 . exact Z2z
 . by_cases e:y=z
   . subst e;rw[Tr.aP]at hy;cases hy
     have:=((h.box y nd hz).out (λe=>h.DW hz hz e) gJ).set 1 v;rw[BN]at this;simp only[if_true];exact this
   . rw[Tr.aK _ _ e]at hy
     simp only[if_neg e];exact((h.box y yd hy).out (λe=>h.DW hz hy e) gJ).off (λq=>e (h.inj y z (by simp[hy]) (by simp[hz]) q)) _ _
 . by_cases e:y=z
   . subst e;rw[Tr.aP]at hy;cases hy
     simp only[if_true];exact hv.out (M:=λb=>b=L.bl y) (λg hg (q:g=L.bl y)=>hvz (by rw[hg,q])) hO2
   . rw[Tr.aK _ _ e]at hy
     simp only[if_neg e];exact((h.row y yd hy).out (hrow y yd e hy) gJ).out (h.OA hy hz) hO2
 . have new:∀y,T y≠none->y≠z->(L.sl y).ownBlock=some g->v.ownBlock=some g->False:=λy hy e h1 h2=>by
    obtain⟨yd,RD⟩:=Option.ne_none_iff_exists'.1 hy;rcases hloc with q|q|⟨b,q,hb⟩
    . exact hrow y yd e RD g h1 (q▸h2)
    . rw[q]at h2;cases h2
    . rw[q]at h2;injection h2 with h2;have:=(h.row y yd RD).lt h1;omega
   by_cases e1:x=z
   . by_cases e2:y=z
     . intro _ _;rw[e1,e2]
     . intro h1 h2
       simp only[if_pos e1]at h1;simp only[if_neg e2]at h2;exact(new y ((hnn y).1 hy) e2 h2 h1).elim
   . by_cases e2:y=z
     . intro h1 h2
       simp only[if_neg e1]at h1;simp only[if_pos e2]at h2;exact(new x ((hnn x).1 hx) e1 h1 h2).elim
     . intro h1 h2
       simp only[if_neg e1]at h1;simp only[if_neg e2]at h2;exact h.apart x y g ((hnn x).1 hx) ((hnn y).1 hy) h1 h2
 . by_cases e:y=z
   . subst e;rw[Tr.aP]at hy;cases hy
     have:=h.small y nd hz;exact⟨this.1,this.2.1,this.2.2.1,this.2.2.2.1,hl⟩
   . exact Z38
 . rcases hb with e|e|⟨y,yd,hy,e⟩
   . exact .inl (.inl e)
   . exact .inl (.inr (.inl e))
   . by_cases e2:y=z
     . subst e2
       rcases e with e|e
       . exact .inl (.inr (.inr ⟨y,nd,hz,.inl e⟩))
       . simp only[if_true]at e
         rcases hloc with q|q|⟨c,q,hc⟩
         . exact .inl (.inr (.inr ⟨y,nd,hz,.inr (q▸e)⟩))
         . rw[q]at e;cases e
         . rw[q]at e;injection e with e;subst e;exact .inr hc
     . exact Z2o
theorem dQ.add(h:dQ W t L T n){b:Nat}{u:Int}(hz:T z=none)(hr:0<=z/\z<4096)(hu : -1<=u/\u<4096)(hb:At W b (.cells (cZ u (.slice none 0 0) s) 132))(hnew:¬ owned t L T b){W':World}(hO:Out (λx=>x=L.mb) W W')(hm:PM W' L.mb (n+1) (Pf (λz=>(T z).map λ_=>L.bl z) z b)) :
  dQ W' t { L with bl:=λy=>if y=z then b else L.bl y,sl:=λy=>if y=z then .slice none 0 0 else L.sl y } (Tr.set T z ⟨u,[],s⟩) (n+1)/\Out (owned t L T) W W'/\∀x,owned t { L with bl:=λy=>if y=z then b else L.bl y,sl:=λy=>if y=z then .slice none 0 0 else L.sl y } (Tr.set T z ⟨u,[],s⟩) x->owned t L T x\/x=b:=by
 have hne:∀y yd,T y=some yd->y≠z:=λy yd hy e=>by rw[e,hz]at hy;cases hy
 have hbm:b≠L.mb:=λe=>hnew (.inr (.inl e));have old:∀y,y≠z->(Tr.set T z ⟨u,[],s⟩ y≠none->T y≠none):=λy e=>by rw[Tr.aK _ _ e];exact id
 refine⟨⟨h.at_.out (λe=>h.afW e) hO,hm.congr λy _ => ?_,λy yd hy => ?_,λy yd hy => ?_,λx y hx hy => ?_,λx y g hx hy => ?_,λy yd hy => ?_⟩,hO.mono λx _ e => .inr (.inl e),λx hx => ?_⟩
 . unfold Pf
   by_cases e:y=z
   . subst e;simp[Tr.aP]
   . simp[e,Tr.aK _ _ e]
 . exact Z2h
 . by_cases e:y=z
   . subst e;rw[Tr.aP]at hy;cases hy
     simp only[if_true];exact KS.nil _
   . rw[Tr.aK _ _ e]at hy
     simp only[if_neg e];exact(h.row y yd hy).out (h.Xr hy) hO
 . have new:∀y,T y≠none->L.bl y≠b:=λy hy q=>by
    obtain⟨yd,RD⟩:=Option.ne_none_iff_exists'.1 hy;exact hnew (.inr (.inr ⟨y,yd,RD,.inl q.symm⟩))
   by_cases e1:x=z
   . by_cases e2:y=z
     . intro _;rw[e1,e2]
     . intro q;simp only[if_pos e1,if_neg e2]at q;exact(new y (old y e2 hy) q.symm).elim
   . by_cases e2:y=z
     . intro q;simp only[if_neg e1,if_pos e2]at q;exact(new x (old x e1 hx) q).elim
     . intro q;simp only[if_neg e1,if_neg e2]at q;exact h.inj x y (old x e1 hx) (old y e2 hy) q
 . by_cases e1:x=z
   . intro q;simp only[if_pos e1]at q;cases q
   . by_cases e2:y=z
     . intro _ q;simp only[if_pos e2]at q;cases q
     . intro q r;simp only[if_neg e1]at q;simp only[if_neg e2]at r
       exact h.apart x y g (old x e1 hx) (old y e2 hy) q r
 . by_cases e:y=z
   . subst e;rw[Tr.aP]at hy;cases hy
     exact⟨hr.1,hr.2,hu.1,hu.2,by simp⟩
   . exact Z38
 . rcases hx with e|e|⟨y,yd,hy,e⟩
   . exact .inl (.inl e)
   . exact .inl (.inr (.inl e))
   . by_cases e2:y=z
     . simp only[if_pos e2]at e
       rcases e with e|e
       . exact .inr e
       . cases e
     . exact Z2o
theorem dQ.drop(h:dQ W t L T n){W':World}(hO:Out (λx=>x=L.mb) W W')(hm:PM W' L.mb (n-1) (abo (λz=>(T z).map λ_=>L.bl z) z)) :
  dQ W' t L (Tr.del T [z]) (n-1)/\Grow t L L T (Tr.del T [z]) W W':=by
 have sub:∀y yd,Tr.del T [z] y=some yd->T y=some yd/\y≠z:=λy yd hy=>by
  unfold Tr.del at hy;by_cases e:y=z
  . simp[e]at hy
  . simp[e]at hy;exact⟨hy,e⟩
 have nn:∀y,Tr.del T [z] y≠none->T y≠none:=λy hy=>by
  obtain⟨yd,RD⟩:=Option.ne_none_iff_exists'.1 hy;rw[(sub y yd RD).1];simp
 refine⟨⟨h.at_.out (λe=>h.afW e) hO,hm.congr λy _ => ?_,λy yd hy=>(h.box y yd (sub y yd hy).1).out (λq=>h.GL (sub y yd hy).1 q) hO,λy yd hy=>(h.row y yd (sub y yd hy).1).out (h.Xr (sub y yd hy).1) hO,λx y hx hy=>h.inj x y (nn x hx) (nn y hy),λx y g hx hy=>h.apart x y g (nn x hx) (nn y hy),λy yd hy=>h.small y yd (sub y yd hy).1⟩,hO.mono λx _ e => .inr (.inl e),λx hx => .inl ?_⟩
 . unfold abo Tr.del
   by_cases e:y=z
   . simp[e]
   . simp[e]
 . rcases hx with e|e|⟨y,yd,hy,e⟩
   . exact .inl e
   . exact .inr (.inl e)
   . exact .inr (.inr ⟨y,yd,(sub y yd hy).1,e⟩)
end
section
variable {w:World} {t n:Nat} {L:Lay} {T:Tr.T}
theorem KT{t n:Nat}{L:Lay}{T:Tr.T}(h:dQ w t L T n):Calls ja0 96 #[t] w λe w'=>e=.returned (.map (some L.mb))/\w=w':=by
 have c0:=h.cT;clear h;generalize L.mb=mb at *;go_enter Tryz.func96,Tryz.ntmps96
 go_wp2;exact Zv
theorem eZ(h:dQ w t L T n)(hz:Wf z):Calls ja0 59 #[t,z] w λe w'=>e=.returned (.bool (T z).isSome)/\w=w':=by
 have HR:=ah h;cases hT:T z with
 | none =>
   have hl:=h.zQ hz hT;clear h;go_enter Tryz.func59,Tryz.ntmps59
   exact Z25
 | some nd =>
   have hl:=h.fT hT;clear h;go_enter Tryz.func59,Tryz.ntmps59
   exact Z25
def iX(T:Tr.T)(z:Int):Int:=match T z with
 | none => -1
 | some nd=>nd.up
theorem nZ(h:dQ w t L T n)(hz:Wf z):Calls ja0 21 #[t,z] w λe w'=>e=.returned (.int .i64 (iX T z))/\w=w':=by
 have key:=eZ h hz;unfold iX;cases hT:T z with
 | none =>
   rw[hT]at key;clear h;go_enter Tryz.func21,Tryz.ntmps21
   exact Z1t
 | some nd =>
   rw[hT]at key;have hl:=h.fT hT;have c0:=h.cT;have c1:=h.cUp hT;clear h;go_enter Tryz.func21,Tryz.ntmps21
   exact Z1t
theorem Xu(h:dQ w t L T n):Calls ja0 69 #[t] w λe w'=>e=.returned (.int .i64 (n:Int))/\w=w':=by
 have HR:=ah h;have hl:=λty=>h.map.len ty;clear h;go_enter Tryz.func69,Tryz.ntmps69
 exact Z25
theorem Hg(h:dQ w t L T n)(hz:Wf z):Calls ja0 28 #[t,z] w λe w'=>(∃v,e=.returned v/\w'.ownsRow w.heap.size 3 1 v ((T z).elim [] (·.kids)).length (((T z).elim [] (·.kids)).map (Value.int .i64)))/\Below w w w':=by
 have key:=eZ h hz;cases hT:T z with
 | none =>
   rw[hT]at key;clear h;go_enter Tryz.func28,Tryz.ntmps28
   go_wp2_with (go_at_call 59;(with_reducible refine key.mono ?_);rintro e w' ⟨rfl,rfl⟩)
   go_ret
   exact⟨⟨_,rfl,World.ownsRow_nil _ _ _ _⟩,Below.refl _ _⟩
 | some nd =>
   rw[hT]at key;have hl:=h.fT hT;have c0:=h.cT;have c1:=h.jX hT;have key2:=TW (h.row z nd hT) (by have:=(h.small z nd hT).2.2.2.2;omega);obtain⟨A,c,hs,_⟩:=(h.row z nd hT).ints;rw[hs]at key2 c1;show Calls _ _ _ _ λe w'=>(∃v,e=.returned v/\w'.ownsRow w.heap.size 3 1 v nd.kids.length (nd.kids.map (Value.int .i64)))/\Below w w w';clear h;generalize nd.kids=l at *;generalize l.length=m at *;clear hs;go_enter Tryz.func28,Tryz.ntmps28
   go_wp2_with (first|(go_at_call 59;(with_reducible refine key.mono ?_);rintro e w' ⟨rfl,rfl⟩)|(go_at_call 64;(with_reducible refine key2.mono ?_);rintro e w' ⟨⟨v,rfl,ho⟩,hb⟩))
   go_ret
   exact⟨⟨_,rfl,ho⟩,hb⟩
theorem yF{fn:Func}{p:Tmp}(h:fn.results=#[.cell p 68])(tmps:Array Value){b:Nat}(hp:tmps.getD p undef=.pointer b)(ha:At W b (.cells (cells s) 68)) :
  (results fn tmps).run ja0 W=.ok (.agg (cells s)) W:=by
 have hp':tmps[p]?.getD undef=.pointer b:=by simpa using hp
 simp[results,h,hp',asAddr,FV ha]
theorem dH(h:dQ w t L T n)(hz:Wf z):Calls ja0 22 #[t,z] w λe w'=>e=.returned (.agg (cells ((T z).elim Re.zero (·.sty))))/\Below w w w':=by
 have h1:=h.alloc (.cells (cells Re.zero) 68);have key:=eZ h1 hz;have hA:At (w.alloc (.cells (cells Re.zero) 68)) w.heap.size (.cells (cells Re.zero) 68):=At.new _ _;have hB:Below w w (w.alloc (.cells (cells Re.zero) 68)):=aB aD _;cases hT:T z with
 | none =>
   rw[hT]at key;clear h h1;generalize hW:w.alloc (.cells (cells Re.zero) 68)=w1 at *;go_enter Tryz.func22,Tryz.ntmps22
   go_wp2_with (first|(refine aS aR rfl ?_;rw[hW];clear hW)|(refine aS aR rfl ?_)|(refine bE aR rfl ?_)|(refine aQ aR _ rfl rfl oC ?_)|(refine bF aR _ _ rfl rfl rfl oC ?_)|(refine aU aR _ _ rfl rfl rfl oC ?_)|(go_at_call 59;(with_reducible refine key.mono ?_);rintro e w' ⟨rfl,rfl⟩))
   refine bodyPost_ret (yF rfl _ aR hA) rfl ⟨rfl,hB⟩
 | some nd =>
   rw[hT]at key;have hl:=h1.fT hT;have c0:=h1.cT;have hS:=ah (h1.sty hT);show Calls _ _ _ _ λe w'=>e=.returned (.agg (cells nd.sty))/\_;clear h h1;generalize nd.sty=s at *;generalize hW:w.alloc (.cells (cells Re.zero) 68)=w1 at *;generalize hb:w.heap.size=b at *;go_enter Tryz.func22,Tryz.ntmps22
   go_wp2_with (first|(refine aS aR rfl ?_;rw[hW,hb];clear hW)|(refine fD aR _ rfl rfl hS.out ?_)|(refine aU aR _ _ rfl rfl rfl hA ?_)|(go_at_call 59;(with_reducible refine key.mono ?_);rintro e w' ⟨rfl,rfl⟩))
   refine bodyPost_ret (yF rfl _ aR (hA.setRow _)) rfl ⟨rfl,below_setRow hB aC _⟩
end
section
variable {w:World} {t n:Nat} {L:Lay} {T:Tr.T}
def adP(T:Tr.T)(z:Int):Prop:=0<=z/\T z=none/\∀y,0<=y->y<z->T y≠none
theorem Ub(h:dQ w t L T n):Calls ja0 71 #[t] w λe w'=>(∃z,e=.returned (.int .i64 z)/\adP T z)/\w'=w:=by
 have hs:∀z,T z≠none->z<4096:=λz hz=>by obtain⟨nd,hn⟩:=Option.ne_none_iff_exists'.1 hz;exact(h.small z nd hn).2.1
 have HR:=ah h;clear h;go_enter Tryz.func71,Tryz.ntmps71
 go_wp2
 go_loop [3] (λp=>∃k:Nat,k<=4096/\p=.int .i64 k/\∀y:Int,0<=y->y<k->T y≠none) (λp=>4096-(intOf p).toNat)
 case atStart=>exact⟨0,by omega,rfl,λy h0 h1=>by omega⟩
 case round =>
  obtain⟨k,hk,rfl,hb⟩:=hrel;have key:=eZ HR.out (z:=(k:Int)) Z4e;have HB:=ah hb;clear hb;cases hT:T (k:Int)with
  | none =>
    rw[hT]at key
    go_wp2_with (go_at_call 59;(with_reducible refine key.mono ?_);rintro e w' ⟨rfl,rfl⟩)
    go_ret
    exact⟨⟨_,rfl,by omega,hT,HB.out⟩,rfl⟩
  | some nd =>
    rw[hT]at key;have hk4:=hs k (by simp[hT])
    go_wp2_with (go_at_call 59;(with_reducible refine key.mono ?_);rintro e w' ⟨rfl,rfl⟩)
    go_round
    case rel=>exact⟨k+1,by omega,by go_num,λy h0 h1=>by
     by_cases e:y=k
     . subst e;simp[hT]
     . exact HB.out y h0 ak⟩
    case measure=>simp[intOf];omega
theorem LV(h:dQ w t L T n){u x:Int}{p:Tr.Nd}(hu:T u=some p)(hx:Wf x):Calls ja0 106 #[t,u,x] w λe w'=>e=.returned (.int .i64 (if iX T x=u then (p.kids.length:Int)-1 else p.kids.length))/\w=w':=by
 have key:=nZ h hx;have hl:=h.fT hu;have c0:=h.cT;have c1:=h.jX hu;have hs:=(h.small u p hu).2.2.2.2;obtain⟨A,c,hv,_⟩:=(h.row u p hu).ints;rw[hv]at c1;clear h hv;generalize p.kids.length=m at *;generalize iX T x=y at *;have hw:IntKind.i64.wrap ((m:Int)-1)=(m:Int)-1:=by rw[IntWalk.i64_in _ ak]
 by_cases e:y=u
 . rw[if_pos e]
   have eb:(y==u)=true:=by simpa using e
   have HE:=ah e;clear e
   subst_eqs
   exact Z39
 . rw[if_neg e]
   have eb:(y==u)=false:=by simpa using e
   exact Z39
end
section
variable {w:World} {t n:Nat} {L:Lay} {T:Tr.T}
theorem AJ(h:dQ w t L T n)(hr:∀nd,T 0=some nd->nd.up = -1){d:Nat}(hd:Tr.Dp T z d)(Pk:d<=1000):Calls ja0 70 #[t,z] w λe w'=>e=.returned (.int .i64 (d:Int))/\w'=w:=by
 have hm:T (-1)=none:=by
  exact Z29
 have HR:=ah h;have GH:=ah hr;have HD:=ah hd;clear h hr hd;go_enter Tryz.func70,Tryz.ntmps70
 go_wp2
 go_loop [1,5] (λi p=>(∃(y:Int) (m:Nat) (k:Int),i=.int .i64 y/\p=.int .i64 k/\m<=d/\k=(d:Int)-m-1/\Tr.Dp T y m)\/(i=.int .i64 (-1)/\p=.int .i64 (d:Int))) (λ_ p=>(d-intOf p).toNat)
 case atStart=>exact .inl ⟨z,d,-1,rfl,rfl,aH _,by omega,HD.out⟩
 case round =>
  rcases hrel with⟨y,m,k,rfl,rfl,hmd,hk,hD⟩|⟨rfl,rfl⟩
  . obtain⟨nd,hT⟩:=hD.live
    have key:=eZ HR.out (HR.out.wf hT);have key2:=nZ HR.out (HR.out.wf hT);rw[hT]at key;have hu:Hid (iX T y=nd.up):=ah (by unfold iX;rw[hT]);generalize iX T y=u at *;have hw:IntKind.i64.wrap (k+1)=k+1:=by rw[IntWalk.i64_in _ ak]
    have HK:=ah hk;have Rc:=ah hD;clear hk hD
    go_wp2_with (first|(go_at_call 59;(with_reducible refine key.mono ?_);rintro e w' ⟨rfl,rfl⟩)|(go_at_call 21;(with_reducible refine key2.mono ?_);rintro e w' ⟨rfl,rfl⟩))
    go_round
    case rel =>
     have hk:=HK.out;rw[hu.out];exact Z2g
    case measure=>have hk:=HK.out;simp[intOf];omega
  . have key:=eZ HR.out (z := -1) Z4e
    rw[hm]at key;exact Z1t
theorem Xv{T:Tr.T}{f:Nat}(h:Tr.Fit T f x):Tr.hgt T f x<f:=by
 induction f generalizing x with
 | zero=>exact h.elim
 | succ f ih =>
   obtain⟨nd,h1,hk⟩:=h;rw[Tr.ny h1];have:=(Tr.sI (f:=Tr.hgt T f) (ks:=nd.kids) (m:=0) (B:=f)).2 ⟨eX _,λk hkm=>by have:=ih (hk k hkm);omega⟩;omega
def hpart(T:Tr.T)(f:Nat)(l:List Int)(j:Nat):Nat:=(l.take j).foldl (λm k=>max m (1+Tr.hgt T f k)) 0
theorem LW(f:Nat):∀{w:World} {t n:Nat} {L:Lay} {T:Tr.T} (x:Int),f<=100->dQ w t L T n->Tr.Fit T f x->Calls ja0 107 #[t,x] w λe w'=>e=.returned (.int .i64 (Tr.hgt T f x:Int))/\w'=w:=by
 induction f with
 | zero=>intro _ _ _ _ _ _ _ _ h;exact h.elim
 | succ f ih =>
   intro w t n L T x hf h hfit;obtain⟨nd,hT,hk⟩:=hfit;have hl:=h.fT hT;have c0:=h.cT;have c1:=h.jX hT;obtain⟨A,c,hs,hI,_⟩:=(h.row x nd hT).ints;rw[hs]at c1;rw[Tr.ny hT];have hp:Hid (nd.kids.foldl (λm k=>max m (1+Tr.hgt T f k)) 0=hpart T f nd.kids nd.kids.length):=ah (by unfold hpart;rw[List.take_length]);rw[hp.out];have hlen:=(h.small x nd hT).2.2.2.2;generalize hls:nd.kids=l at *;generalize hm:l.length=m at *;have HM:=ah hm;have HR:=ah h;have HI:=ah hI;have HK:=ah hk;clear h hI hk hm hs hls hp;go_enter Tryz.func107,Tryz.ntmps107
   go_wp2
   go_loop [5,18] (λp i=>∃k q:Nat,k<=m/\i=.int .i64 k/\p=.int .i64 q/\q=hpart T f l k) (λ_ i=>m-(intOf i).toNat)
   case atStart=>exact⟨0,0,by omega,rfl,rfl,rfl⟩
   case round =>
    obtain⟨k,q,hkm,rfl,rfl,hq⟩:=hrel;have HQ:=ah hq;clear hq;by_cases hlt:k<m
    . obtain⟨b,o,rfl,lb,hcell⟩:=HI.out.at_ (k:=k) Z4a
      have hmem:l.getD k 0∈l:=by
       rw[List.getD,ja6 Z4a];exact List.getElem_mem _
      have Wi:=HK.out _ hmem;have key:=ih _ ak HR.out Wi;have hh:=Xv Wi
      have hstep:Hid (hpart T f l (k+1)=max (hpart T f l k) (1+Tr.hgt T f (l.getD k 0))):=ah (by
       unfold hpart
       rw[dW l k Z4a,List.foldl_append];rfl)
      generalize l.getD k 0=z at *;generalize Tr.hgt T f z=hz at *;have hw:IntKind.i64.wrap (1+(hz:Int))=1+(hz:Int):=by rw[IntWalk.i64_in _ ak]
      clear Wi hmem
      go_wp2_with (go_at_call 107;(with_reducible refine key.mono ?_);rintro e w' ⟨rfl,rfl⟩)
      go_round
      case rel=>exact⟨k+1,max q (1+hz),by omega,by go_num,by congr 1;omega,by rw[hstep.out,HQ.out]⟩
      case measure=>simp[intOf];omega
    . obtain rfl:k=m:=by omega
      go_wp2
      go_ret
      exact⟨by rw[HQ.out];rfl,rfl⟩
end
end Go.Proofs.YtdnggaapcgomhaaGreat.Fix
