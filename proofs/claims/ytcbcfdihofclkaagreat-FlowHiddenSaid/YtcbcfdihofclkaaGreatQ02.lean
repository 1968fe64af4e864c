/- Proved here: what functions of the program do, in plain numbers (part 2); no conditions but those in sight. -/
import Derived.Test.YtcbcfdihofclkaaGreatQ01
set_option linter.unusedVariables false
set_option linter.unusedSimpArgs false
set_option linter.unusedSectionVars false
set_option maxRecDepth 100000
namespace Go.Proofs.YtcbcfdihofclkaaGreat.Fw
section
variable (B:Int->Bx) (f:Nat)
theorem CB(z r0 r1 t0 t1:Int):(lay B f z r0 r1 t0 t1).id=z:=rfl
theorem MP(z i0 i1:Int):(pV B (lay B f) f z i0 i1).1.map (·.id)=(B z).fl:=by
 unfold pV;simp only[];exact List.ext_getElem (by simp) λi h1 h2=>by simp[uP,CB]
theorem JE(z i0 i1:Int):(mo B (lay B f) z i0 i1).1.map (·.id)=(B z).fl:=by
 unfold mo;simp only[];exact List.ext_getElem (by simp) λi h1 h2=>by simp[CB]
theorem JF(z i0 i1 high:Int)(ks:List Int):(jw B (lay B f) z i0 i1 high ks).1.map (·.id)=ks:=by
 unfold jw;simp only[];split
 . exact List.ext_getElem (by simp) λi h1 h2=>by
    simp only[List.getElem_map,List.getElem_mapIdx];split<;>simp[CB]
 . exact List.ext_getElem (by simp) λi h1 h2=>by simp[CB]
theorem Hq(z i0 i1 high:Int)(fl:List Int)(room gap:Int)(wrap:Bool)(l:List Int)(hl:l.length=fl.length):∀(n at_:Nat) (fst:Bool) (y:Int),l.length-at_<=n->at_<=l.length->(cu B (lay B f) z i0 i1 high fl fst y (Li.tail room gap wrap l at_)).1.map (·.id)=fl.drop at_:=by
 intro n
 induction n with
 | zero =>
   intro at_ fst y h1 h2;rw[Li.rF _ _ _ _ (by omega),List.drop_of_length_le (by omega)];rfl
 | succ n ih =>
   intro at_ fst y h1 h2;by_cases h:at_<l.length
   . have hg:=Li.xZ room gap wrap l at_
     have hs:=Li.G6 room gap wrap l h;rw[Li.rG _ _ _ _ h];simp only[cu,List.map_append,List.map_map];rw[ih _ _ _ (by omega) hs];have e:((λx=>x.id)∘λx:Ld=>{ x with a1:=wr (x.a1+if fst=true then y else wr (y+(B z).sty.c 46)) })=(λx:Ld=>x.id):=rfl;rw[e,JF]
     conv=>rhs;rw[<-List.take_append_drop (Li.stop room gap wrap l at_-at_) (fl.drop at_)]
     rw[List.drop_drop,show at_+(Li.stop room gap wrap l at_-at_)=Li.stop room gap wrap l at_ by omega]
   . rw[Li.rF _ _ _ _ (by omega),List.drop_of_length_le (by omega)]
     rfl
theorem TM(z i0 i1:Int):(Ho B (lay B f) z i0 i1).1.map (·.id)=(B z).fl:=by
 unfold Ho;simp only[];unfold Li.brk;rw[Hq B f z i0 i1 _ (B z).fl _ _ _ _ (by simp) _ 0 _ _ (Nat.le_refl _) (Nat.zero_le _)];rfl
theorem JG(z i0 i1:Int):(kind B (lay B f) f z i0 i1).1.map (·.id)=(B z).fl:=by
 unfold kind;split
 . exact TM B f z i0 i1
 . split
   . exact JE B f z i0 i1
   . exact MP B f z i0 i1
end
theorem ady(x:Int) : -9223372036854775808<=wr x:=by unfold wr;omega
theorem adz(x:Int):wr x<=9223372036854775807:=by unfold wr;omega
theorem abu(s:Re.St)(y:Nat)(n base:Int):0<=lim s y n base:=Fx.FR _ _ _ _ _ _
theorem abv(s:Re.St)(y:Nat)(n base:Int):lim s y n base<=1099511627776:=by
 unfold lim;rw[<-Fx.Qs];exact Fx.mJ _
theorem CF(s:Re.St)(y:Nat)(r0 r t:Int) : -1<=rz s y r0 r t/\rz s y r0 r t<=9223372036854775807:=by
 unfold rz;have h1:=ady (t-nR s y);have h2:=adz (t-nR s y);have h3:=λn base=>abu s y n base;have h4:=λn base=>abv s y n base;split
 . omega
 . split
   . have a:=h3 (lng s y r 0) r;have b:=h4 (lng s y r 0) r;omega
   . split
     . have a:=h3 (max (wr (wr (r-X8 s y r0)-nR s y)) 0) r;have b:=h4 (max (wr (wr (r-X8 s y r0)-nR s y)) 0) r;omega
     . omega
end Go.Proofs.YtcbcfdihofclkaaGreat.Fw
