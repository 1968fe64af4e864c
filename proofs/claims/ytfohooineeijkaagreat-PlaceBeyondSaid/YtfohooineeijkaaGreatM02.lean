/- Steps of the program (2); no conditions. -/
import Derived.Test.YtfohooineeijkaaGreatM01
set_option linter.all false
set_option maxRecDepth 100000
set_option maxHeartbeats 400000
namespace Go.Proofs.YtfohooineeijkaaGreat.Fw
open List renaming ext_getElem → jb5
section
variable (B:Int->Bx) (f:Nat)
theorem Er(z r0 r1 t0 t1:Int):(lay B f z r0 r1 t0 t1).id=z:=rfl
theorem Pp(z i0 i1:Int):(Bp B (lay B f) f z i0 i1).1.map (·.id)=(B z).fl:=by
 unfold Bp;simp only[];exact jb5 (by simp) λi h1 h2=>by simp[Eo,Er]
theorem Mj(z i0 i1:Int):(uI B (lay B f) z i0 i1).1.map (·.id)=(B z).fl:=by
 unfold uI;simp only[];exact jb5 (by simp) λi h1 h2=>by simp[Er]
theorem Mk(z i0 i1 high:Int)(ks:List Int):(pV B (lay B f) z i0 i1 high ks).1.map (·.id)=ks:=by
 unfold pV;simp only[];split
 . exact jb5 (by simp) λi h1 h2=>by
    simp only[List.getElem_map,List.getElem_mapIdx];split<;>simp[Er]
 . exact jb5 (by simp) λi h1 h2=>by simp[Er]
theorem J6(z i0 i1 high:Int)(fl:List Int)(room gap:Int)(wrap:Bool)(l:List Int)(hl:l.length=fl.length):∀(n at_:Nat) (fst:Bool) (y:Int),l.length-at_<=n->at_<=l.length->(fC B (lay B f) z i0 i1 high fl fst y (Li.tail room gap wrap l at_)).1.map (·.id)=fl.drop at_:=by
 intro n
 induction n with
 | zero =>
   intro at_ fst y h1 h2;rw[Li.sZ _ _ _ _ (by omega),List.drop_of_length_le (by omega)];rfl
 | succ n ih =>
   intro at_ fst y h1 h2;by_cases h:at_<l.length
   . have hg:=Li.zG room gap wrap l at_
     have hs:=Li.J4 room gap wrap l h;rw[Li.tq _ _ _ _ h];simp only[fC,List.map_append,List.map_map];rw[ih _ _ _ (by omega) hs];have e:((λx=>x.id)∘λx:Ld=>{ x with a1:=wr (x.a1+if fst=true then y else wr (y+(B z).sty.c 46)) })=(λx:Ld=>x.id):=rfl;rw[e,Mk]
     conv=>rhs;rw[<-List.take_append_drop (Li.stop room gap wrap l at_-at_) (fl.drop at_)]
     rw[List.drop_drop,show at_+(Li.stop room gap wrap l at_-at_)=Li.stop room gap wrap l at_ by omega]
   . rw[Li.sZ _ _ _ _ (by omega),List.drop_of_length_le (by omega)]
     rfl
theorem Xm(z i0 i1:Int):(Ui B (lay B f) z i0 i1).1.map (·.id)=(B z).fl:=by
 unfold Ui;simp only[];unfold Li.brk;rw[J6 B f z i0 i1 _ (B z).fl _ _ _ _ (by simp) _ 0 _ _ (Nat.le_refl _) (Nat.zero_le _)];rfl
theorem Ml(z i0 i1:Int):(kind B (lay B f) f z i0 i1).1.map (·.id)=(B z).fl:=by
 unfold kind;split
 . exact Xm B f z i0 i1
 . split
   . exact Mj B f z i0 i1
   . exact Pp B f z i0 i1
end
theorem afG(x:Int) : -9223372036854775808<=wr x:=by unfold wr;omega
theorem afH(x:Int):wr x<=9223372036854775807:=by unfold wr;omega
theorem ady(s:Re.St)(y:Nat)(n base:Int):0<=lim s y n base:=Fx.II _ _ _ _ _ _
theorem adz(s:Re.St)(y:Nat)(n base:Int):lim s y n base<=1099511627776:=by
 unfold lim;rw[<-Fx.TU];exact Fx.gY _
theorem Es(s:Re.St)(y:Nat)(r0 r t:Int) : -1<=GI s y r0 r t/\GI s y r0 r t<=9223372036854775807:=by
 unfold GI;have h1:=afG (t-xJ s y);have h2:=afH (t-xJ s y);have h3:=λn base=>ady s y n base;have h4:=λn base=>adz s y n base;split
 . omega
 . split
   . have a:=h3 (lng s y r 0) r;have b:=h4 (lng s y r 0) r;omega
   . split
     . have a:=h3 (max (wr (wr (r-mgs s y r0)-xJ s y)) 0) r;have b:=h4 (max (wr (wr (r-mgs s y r0)-xJ s y)) 0) r;omega
     . omega
end Go.Proofs.YtfohooineeijkaaGreat.Fw
namespace Go.Proofs.YtfohooineeijkaaGreat
namespace St
def over(a b:Int):Int:=if Fx.sub a b<=0 then 0 else Fx.sub a b
def least(a b:Int):Int:=if b<a then b else a
def down(qb ru:Int)(tu:Bool)(rz:Int):Int:=if tu then over (Fx.add ru rz) qb else 0
def up(qb vM ru phi:Int)(tu:Bool)(rz:Int)(zn:Bool)(xK:Int):Int :=
 if zn then (if tu then least (over vM (Fx.sub phi xK)) (over qb (Fx.add ru rz))else over vM (Fx.sub phi xK))else 0
def shift(qb vM ilo ihi ru phi:Int)(tu:Bool)(rz:Int)(zn:Bool)(xK:Int):Int :=
 if 0<down qb ru tu rz then least (down qb ru tu rz) (over ihi vM)
 else if 0<up qb vM ru phi tu rz zn xK then -least (up qb vM ru phi tu rz zn xK) (over qb ilo)
 else 0
theorem DI(a b:Int):0<=over a b:=by unfold over;split<;>omega
theorem J7(a b:Int):over a b<=1099511627776:=by
 have:=Fx.gY (Fx.cut a-Fx.cut b);unfold over Fx.sub;split<;>omega
theorem acR(qb vM ru phi:Int)(tu:Bool)(rz:Int)(zn:Bool)(xK:Int):0<=up qb vM ru phi tu rz zn xK/\up qb vM ru phi tu rz zn xK<=1099511627776:=by
 have h1:=DI vM (Fx.sub phi xK);have h2:=J7 vM (Fx.sub phi xK);have h3:=DI qb (Fx.add ru rz);have h4:=J7 qb (Fx.add ru rz);unfold up least
 (repeat' split)<;>omega
section
variable {qb vM ilo ihi ru phi rz xK:Int} (tu zn:Bool)
end
end St
end Go.Proofs.YtfohooineeijkaaGreat
namespace Go.Proofs.YtfohooineeijkaaGreat.Fe
end Go.Proofs.YtfohooineeijkaaGreat.Fe
