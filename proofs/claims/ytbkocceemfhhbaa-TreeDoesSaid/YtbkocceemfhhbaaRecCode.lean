/- The contracts of record: through, those who answer, Valid, Put, Get. -/
import Derived.Test.YtbkocceemfhhbaaRecStyle
import Derived.Test.YtbkocceemfhhbaaMarStackR
import Derived.ArgAppend
import Derived.Laws.EntriesVeiled
namespace Go.Proofs.Ytbkocceemfhhbaa.Fix
open Go.ChangeShapes Go.WideShapes Go.ChangeAt Go.RowKit
set_option linter.unusedVariables false

theorem through_any {F : FuncId} {caps : Array Value} {f : Nat → Int → Int} {mine : Nat → Prop} {I : List Int → World → Prop} (hA : Asks F caps f mine I) {bs : Nat} {t : Re.St} {w : World} (hI : I [] w) (a : At w bs (.cells (cells t) 43)) (hb : ¬ mine bs) (hm : ∀ b, w.heap.size ≤ b → ¬ mine b) :
    Calls Try.prog 58 #[.pointer (some ⟨bs, 0, none⟩), .func (.func F) #[] caps] w fun e w' => e = .returned (.bool (!wrongs fun i => f i (Re.num t i))) ∧ I (ins t 55) w' ∧ At w' bs (.cells (cells (mix f t 55)) 43) ∧ Out (fun c => mine c ∨ c = bs) w w' := by
  have lb := a.lt
  have hp : Apart3 mine bs w.heap.size := ⟨hb, hm _ (Nat.le_refl _), by omega⟩
  have hS0 : On F caps f I w.heap.size bs t 0 false (w.alloc (.cells #[.func (.func F) #[] caps, .bool false] 101)) := ⟨hA.keep _ _ _ hI (Below.alloc' (Below.refl _ _) _), by rw [mix_zero]; exact a.alloc _, At.new _ _⟩
  generalize hr : (wrongs fun i => f i (Re.num t i)) = r
  go_enter Try.func58, Try.ntmps58
  go_wp2_with (go_at_call 64; (with_reducible refine (walkstyle_any hA hS0 hp (fun b hb => hm b (by simp at hb; omega))).mono ?_); rintro e w2 ⟨rfl, hS, hO⟩; rw [hr] at hS; have c1 := hS.w.cell 1; simp at c1)
  go_ret
  exact ⟨rfl, hS.i, hS.a, Out.trans' (Out.of_below (Below.alloc' (Below.refl _ _) _)) hO fun b hb q => q.elim .inl fun q => q.elim .inr fun q => absurd q (Nat.ne_of_lt hb)⟩

theorem asks_valid : Asks 59 #[] (fun _ x => x) (fun _ => False) (fun _ _ => True) where
  keep := fun _ _ _ _ _ => trivial
  set := fun _ _ _ _ _ _ _ => trivial
  enters := fun _ _ => rfl
  call := fun xs x W _ _ => by
    show Calls Try.prog 59 #[.int .i64 x] W _
    go_enter Try.func59, Try.ntmps59
    go_wp2
    go_ret
    exact ⟨rfl, trivial, Out.refl _ _⟩

/-- the row that Put makes -/
def putRow (xs : List Int) : Array Value := stRow (fun j => xs.getD j 0) 55 xs.length

theorem putRow_snoc (xs : List Int) (x : Int) (h : xs.length < 55) : (putRow xs).setIfInBounds xs.length (.int .i64 x) = putRow (xs ++ [x]) := by
  have e : stRow (fun j => xs.getD j 0) 55 xs.length = stRow (fun j => (xs ++ [x]).getD j 0) 55 xs.length := by
    unfold stRow
    congr 1
    apply List.map_congr_left
    intro j _
    by_cases hj : j < xs.length
    · simp [hj, List.getElem?_append_left hj]
    · simp [hj]
  have hx : x = (xs ++ [x]).getD xs.length 0 := by simp
  unfold putRow
  rw [e, List.length_append]
  show _ = stRow (fun j => (xs ++ [x]).getD j 0) 55 (xs.length + 1)
  rw [← stRow_set (fun j => (xs ++ [x]).getD j 0) h]
  congr 2

theorem setCells_one (w : World) (b o : Nat) (v : Value) : w.setCells b o [v] = w.setCell ⟨b, o, none⟩ v := rfl

end Go.Proofs.Ytbkocceemfhhbaa.Fix
