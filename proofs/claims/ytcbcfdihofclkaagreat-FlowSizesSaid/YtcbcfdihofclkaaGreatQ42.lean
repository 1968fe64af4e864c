/- Proved here: what functions of the program do, in plain numbers (part 42); no conditions but those in sight. -/
import Derived.Test.YtcbcfdihofclkaaGreatQ01
set_option linter.unusedVariables false
set_option linter.unusedSimpArgs false
set_option linter.unusedSectionVars false
set_option maxRecDepth 100000
namespace Go.Proofs.YtcbcfdihofclkaaGreat.Fe
theorem Xd{gr:Bool}{room:Int}{n:Nat}{S:Nat->St}(k:Nat)(i:Nat):(rounds gr room n S k i).x=(S i).x:=by
 induction k with
 | zero=>rfl
 | succ k ih =>
   show(round gr room n (rounds gr room n S k) i).x=_;rw[<-ih];unfold round froze shared fO;cases h:(rounds gr room n S k i).f<;>simp[h]
theorem aaG{gr:Bool}{room:Int}{n:Nat}{S:Nat->St}{i:Nat}(h:(S i).f=false):(round gr room n S i).z=clamp (S i).x (want gr (parts gr room S n) S i):=by
 unfold round froze shared fO;simp[h]
theorem OP(l:Nat->It)(n:Nat)(room:Int)(i:Nat):clamp (l i) (fin l n room i).z=(fin l n room i).z:=by
 have h:∀k,clamp (l i) (rounds (x9 l n room) room n (begun (x9 l n room) l) k i).z=(rounds (x9 l n room) room n (begun (x9 l n room) l) k i).z:=by
  intro k
  induction k with
  | zero=>exact zY _ _
  | succ k ih =>
    show clamp (l i) (round _ room n (rounds _ room n _ k) i).z=(round _ room n (rounds _ room n _ k) i).z;cases hf:(rounds (x9 l n room) room n (begun (x9 l n room) l) k i).f with
    | true=>rw[zZ hf];exact ih
    | false =>
      rw[aaG hf,Xd];show clamp (l i) (clamp (cnt (l i)) _)=clamp (cnt (l i)) _;rw[FV,zY]
 exact h n
end Go.Proofs.YtcbcfdihofclkaaGreat.Fe
