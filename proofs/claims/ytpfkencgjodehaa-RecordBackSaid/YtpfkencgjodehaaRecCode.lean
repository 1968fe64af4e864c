/- The contracts of record: through, those who answer, Valid, Put, Get. -/
import Derived.Test.YtpfkencgjodehaaRecStyle
import Derived.Test.YtpfkencgjodehaaMarStackR
import Derived.ArgAppend
import Derived.Laws.EntriesVeiled
namespace Go.Proofs.Ytpfkencgjodehaa.Fix
open Go.ChangeShapes Go.WideShapes Go.ChangeAt Go.RowKit
set_option linter.unusedVariables false

theorem through_any {F : FuncId} {caps : Array Value} {f : Nat → Int → Int} {mine : Nat → Prop} {I : List Int → World → Prop} (hA : Asks F caps f mine I) {bs : Nat} {t : Re.St} {w : World} (hI : I [] w) (a : At w bs (.cells (cells t) 36)) (hb : ¬ mine bs) (hm : ∀ b, w.heap.size ≤ b → ¬ mine b) :
    Calls Try.prog 18 #[.pointer (some ⟨bs, 0, none⟩), .func (.func F) #[] caps] w fun e w' => e = .returned (.bool (!wrongs fun i => f i (Re.num t i))) ∧ I (ins t 55) w' ∧ At w' bs (.cells (cells (mix f t 55)) 36) ∧ Out (fun c => mine c ∨ c = bs) w w' := by
  have lb := a.lt
  have hp : Apart3 mine bs w.heap.size := ⟨hb, hm _ (Nat.le_refl _), by omega⟩
  have hS0 : On F caps f I w.heap.size bs t 0 false (w.alloc (.cells #[.func (.func F) #[] caps, .bool false] 57)) := ⟨hA.keep _ _ _ hI (Below.alloc' (Below.refl _ _) _), by rw [mix_zero]; exact a.alloc _, At.new _ _⟩
  generalize hr : (wrongs fun i => f i (Re.num t i)) = r
  go_enter Try.func18, Try.ntmps18
  go_wp2_with (go_at_call 24; (with_reducible refine (walkstyle_any hA hS0 hp (fun b hb => hm b (by simp at hb; omega))).mono ?_); rintro e w2 ⟨rfl, hS, hO⟩; rw [hr] at hS; have c1 := hS.w.cell 1; simp at c1)
  go_ret
  exact ⟨rfl, hS.i, hS.a, Out.trans' (Out.of_below (Below.alloc' (Below.refl _ _) _)) hO fun b hb q => q.elim .inl fun q => q.elim .inr fun q => absurd q (Nat.ne_of_lt hb)⟩

theorem asks_valid : Asks 19 #[] (fun _ x => x) (fun _ => False) (fun _ _ => True) where
  keep := fun _ _ _ _ _ => trivial
  set := fun _ _ _ _ _ _ _ => trivial
  enters := fun _ _ => rfl
  call := fun xs x W _ _ => by
    show Calls Try.prog 19 #[.int .i64 x] W _
    go_enter Try.func19, Try.ntmps19
    go_wp2
    go_ret
    exact ⟨rfl, trivial, Out.refl _ _⟩

/-- the row that Put makes -/
def putRow (xs : List Int) : Array Value := stRow (fun j => xs.getD j 0) 55 xs.length

theorem putRow_snoc (xs : List Int) (x : Int) (h : xs.length < 55) : (putRow xs).setIfInBounds xs.length (.int .i64 x) = putRow (xs ++ [x]) := by
  have e : stRow (fun j => xs.getD j 0) 55 xs.length = stRow (fun j => (xs ++ [x]).getD j 0) 55 xs.length := by
    unfold stRow
    congr 1
    apply List.map_congr_left
    intro j _
    by_cases hj : j < xs.length
    · simp [hj, List.getElem?_append_left hj]
    · simp [hj]
  have hx : x = (xs ++ [x]).getD xs.length 0 := by simp
  unfold putRow
  rw [e, List.length_append]
  show _ = stRow (fun j => (xs ++ [x]).getD j 0) 55 (xs.length + 1)
  rw [← stRow_set (fun j => (xs ++ [x]).getD j 0) h]
  congr 2

theorem setCells_one (w : World) (b o : Nat) (v : Value) : w.setCells b o [v] = w.setCell ⟨b, o, none⟩ v := rfl

theorem asks_put (b1 b2 : Nat) (hne : b1 ≠ b2) : Asks 20 #[.pointer (some ⟨b1, 0, none⟩)] (fun _ x => x) (fun c => c = b1 ∨ c = b2) (fun xs W => At W b1 (.cells #[.slice (some ⟨b2, 0, none⟩) xs.length 55] 40) ∧ At W b2 (.cells (putRow xs) 3)) where
  keep := fun _ _ _ h hb => ⟨h.1.keep hb, h.2.keep hb⟩
  set := fun _ _ b _ _ h hb => ⟨h.1.off (fun e => hb (.inl e.symm)) _ _, h.2.off (fun e => hb (.inr e.symm)) _ _⟩
  enters := fun _ _ => rfl
  call := fun xs x W h hlen => by
    obtain ⟨h1, h2⟩ := h
    obtain ⟨i0, hi0, hz0, hz1, hz2⟩ := info_parts intZero
    obtain ⟨l1, c1⟩ := At.one h1
    have z1 := h1.thaw 0
    have l2 := h2.lt
    generalize hn : xs.length = n at *
    have hrun : (Builtin.append_ #[40, 40] 40 #[.slice (some ⟨b2, 0, none⟩) n 55, .slice (some ⟨W.heap.size, 0, none⟩) 1 1]).run Try.prog (W.alloc (.cells #[.int .i64 x] 3)) = .ok (.slice (some ⟨b2, 0, none⟩) (n + 1) 55) ((W.alloc (.cells #[.int .i64 x] 3)).setCell ⟨b2, n, none⟩ (.int .i64 x)) := by
      have := run_append_room_cells (P := Try.prog) (W.alloc (.cells #[.int .i64 x] 3)) 40 40 3 i0 Try.underlying40 hi0 b2 0 n 55 ⟨W.heap.size, 0, none⟩ 1 1 [.int .i64 x] (by simp [hz1]) (by
        intro j u hu
        cases j with
        | zero => injection hu with hu; subst hu; exact (At.new W _).cell 0
        | succ j => simp at hu) (by intro u hu; simp at hu; subst hu; rfl) (by omega) (by
        intro j hj
        have : j = 0 := by simpa using hj
        subst this
        rw [(h2.alloc _).cell]
        simp [hz1, putRow, stRow_size, hlen]) (by
        intro j hj
        exact (h2.alloc _).thaw _)
      rw [setCells_one] at this
      simpa [hz1] using this
    have HRUN := Lib.hid hrun
    have HN := Lib.hid hn
    have H2 := Lib.hid h2
    have H1 := Lib.hid h1
    clear hrun hn h2 h1
    show Calls Try.prog 20 #[.int .i64 x, .pointer (some ⟨b1, 0, none⟩)] W _
    have c1' : ((W.alloc (.cells #[.int .i64 x] 3)).setCell ⟨b2, n, none⟩ (.int .i64 x)).cell? ⟨b1, 0, none⟩ = some (.slice (some ⟨b2, 0, none⟩) n 55) := ((H1.out.alloc _).off hne _ _).cell 0
    have z1' := ((H1.out.alloc (.cells #[.int .i64 x] 3)).off hne n (.int .i64 x)).thaw 0
    go_enter Try.func20, Try.ntmps20
    go_wp2_with (at_builtin; refine wpList_append_run (by rfl) _ _ 40 rfl rfl rfl HRUN.out ?_; generalize hW : World.setCell _ _ _ = W2 at *)
    go_ret
    subst hW
    refine ⟨rfl, ⟨?_, ?_⟩, ?_⟩
    · have := ((H1.out.alloc (.cells #[.int .i64 x] 3)).off hne n (.int .i64 x)).set 0 (.slice (some ⟨b2, 0, none⟩) (n + 1) 55)
      rw [List.length_append, HN.out]
      exact this
    · have := ((H2.out.alloc (.cells #[.int .i64 x] 3)).set n (.int .i64 x)).off (Ne.symm hne) 0 (.slice (some ⟨b2, 0, none⟩) (n + 1) 55)
      rw [← HN.out, putRow_snoc xs x (by rw [HN.out]; exact hlen)] at this
      rw [← HN.out]
      exact this
    · exact Out.set (Out.set (Out.of_below (Below.alloc' (Below.refl _ _) _)) (.inr rfl) _ _) (.inl rfl) _ _

end Go.Proofs.Ytpfkencgjodehaa.Fix
