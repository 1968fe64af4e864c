/- The contract of Break of the layer lines. -/
import Derived.Test.YtabmlohobbbnbaaBreak
import Derived.Shelf.Abstract
namespace Go.Proofs.Ytabmlohobbbnbaa.Fix
open Go.ChangeShapes Go.WideShapes Go.ChangeAt Go.RowKit Go.Shelf
set_option linter.unusedVariables false
attribute [local go_sem] Oper.semAt_some

theorem pairInfo : (Try.prog.info? 31).map (fun i => (i.zero, i.size, i.bytes)) = some (some (.agg #[.int .i64 0, .int .i64 0]), 2, 16) := by kernel_rfl

theorem cell_two_new (w : World) (x y : Value) (t : TypeId) : ∀ j u, [x, y][j]? = some u → (w.alloc (.cells #[x, y] t)).cell? ((⟨w.heap.size, 0, none⟩ : Addr).add j) = some u := by
  intro j u hj
  match j, hj with
  | 0, hj => simp at hj; subst hj; simp [Addr.add]
  | 1, hj => simp at hj; subst hj; simp [Addr.add]

theorem KpB.appended {n₀ B : Nat} {W w1 : World} {v v' : Value} {k : Nat} {xs : List Value} {tmp : Obj} (hrow : W.ownsRow n₀ 31 2 v k xs) (hgrow : (W.alloc tmp).grownBy w1 v.ownBlock) (hb : Below n₀ W (w1.setCell ⟨B, 0, none⟩ v')) : KpB n₀ B W (w1.setCell ⟨B, 0, none⟩ v') :=
  ⟨hb, fun i t u h1 h2 h3 h4 => ((h4.alloc tmp).kept hgrow (h4.not_row h3 hrow)).kept (grownBy_setCell' w1 B v') (fun e => by injection e with e; omega)⟩

set_option maxRecDepth 100000 in
set_option maxHeartbeats 4000000 in
theorem break_any (A : Option Addr) (l : List Int) (m c : Nat) (room gap : Int) (wrap : Bool) (w : World) (hI : Ints w A l) (hl : l.length = m) (hm : m ≤ 10000) (hcap : m ≤ c) :
    Calls Try.prog 11 #[.slice A m c, .int .i64 room, .int .i64 gap, .bool wrap] w fun e w' => ∃ v, e = .returned v ∧ w'.ownsRow w.heap.size 31 2 v (Li.brk room gap wrap l).length ((Li.flat (Li.brk room gap wrap l)).map (Value.int .i64)) ∧ Below w.heap.size w w' := by
  obtain ⟨i0, hi, hz0, hz1, hz2⟩ := info_parts pairInfo
  have HI := Lib.hid hI
  have HL := Lib.hid hl
  have HA := Lib.hid hI.lt
  clear hI hl
  refine (callsIn_wide (n := 5)).1 ?_
  refine callsIn_of_wp_marks Try.func11 rfl trivial ?_ rfl
  simp only [Try.ntmps11, List.size_toArray, List.length_cons, List.length_nil, Nat.reduceAdd, Nat.reduceSub, Array.replicate_succ, Array.replicate_zero, List.push_toArray, List.append_toArray, List.nil_append, List.cons_append]
  gi_wp2_with (refine ⟨trivial, ?_⟩; gi_at_call 18; refine (callsIn_wide.2 (each_any _ _ _ _ _ _ _)).mono ?_; rintro e w' ⟨rfl, rfl⟩)
  have bT : At _ (w.heap.size + 1) _ := At.new' (W := w.alloc (.cells #[] 31)) (.cells #[.slice (some ⟨w.heap.size, 0, none⟩) 0 0] 25) (by simp)
  have bR : At _ w.heap.size _ := At.new w (.cells #[] 31)
  have b1 : At _ (w.heap.size + 1 + 1) _ := At.new' (W := (w.alloc (.cells #[] 31)).alloc (.cells #[.slice (some ⟨w.heap.size, 0, none⟩) 0 0] 25)) (.cells #[.slice A m c] 22) (by simp)
  have b2 : At _ (w.heap.size + 1 + 2) _ := At.new' (W := ((w.alloc (.cells #[] 31)).alloc (.cells #[.slice (some ⟨w.heap.size, 0, none⟩) 0 0] 25)).alloc (.cells #[.slice A m c] 22)) (.cells #[.int .i64 room] 3) (by simp)
  have b3 : At _ (w.heap.size + 1 + 3) _ := At.new' (W := (((w.alloc (.cells #[] 31)).alloc (.cells #[.slice (some ⟨w.heap.size, 0, none⟩) 0 0] 25)).alloc (.cells #[.slice A m c] 22)).alloc (.cells #[.int .i64 room] 3)) (.cells #[.int .i64 gap] 3) (by simp)
  have b4 : At _ (w.heap.size + 1 + 4) _ := At.new' (W := ((((w.alloc (.cells #[] 31)).alloc (.cells #[.slice (some ⟨w.heap.size, 0, none⟩) 0 0] 25)).alloc (.cells #[.slice A m c] 22)).alloc (.cells #[.int .i64 room] 3)).alloc (.cells #[.int .i64 gap] 3)) (.cells #[.bool wrap] 4) (by simp)
  replace bT := ((((bT.alloc (.cells #[.slice A m c] 22)).alloc (.cells #[.int .i64 room] 3)).alloc (.cells #[.int .i64 gap] 3)).alloc (.cells #[.bool wrap] 4))
  replace bR := (((((bR.alloc (.cells #[.slice (some ⟨w.heap.size, 0, none⟩) 0 0] 25)).alloc (.cells #[.slice A m c] 22)).alloc (.cells #[.int .i64 room] 3)).alloc (.cells #[.int .i64 gap] 3)).alloc (.cells #[.bool wrap] 4))
  replace b1 := (((b1.alloc (.cells #[.int .i64 room] 3)).alloc (.cells #[.int .i64 gap] 3)).alloc (.cells #[.bool wrap] 4))
  replace b2 := ((b2.alloc (.cells #[.int .i64 gap] 3)).alloc (.cells #[.bool wrap] 4))
  replace b3 := (b3.alloc (.cells #[.bool wrap] 4))
  have hB0 : Below w.heap.size w _ := Below.alloc' (Below.alloc' (Below.alloc' (Below.alloc' (Below.alloc' (Below.alloc' (Below.refl _ w) (.cells #[] 31)) (.cells #[.slice (some ⟨w.heap.size, 0, none⟩) 0 0] 25)) (.cells #[.slice A m c] 22)) (.cells #[.int .i64 room] 3)) (.cells #[.int .i64 gap] 3)) (.cells #[.bool wrap] 4)
  have hsz : (((((( w.alloc (.cells #[] 31)).alloc (.cells #[.slice (some ⟨w.heap.size, 0, none⟩) 0 0] 25)).alloc (.cells #[.slice A m c] 22)).alloc (.cells #[.int .i64 room] 3)).alloc (.cells #[.int .i64 gap] 3)).alloc (.cells #[.bool wrap] 4)).heap.size = w.heap.size + 6 := by simp
  generalize (((((( w.alloc (.cells #[] 31)).alloc (.cells #[.slice (some ⟨w.heap.size, 0, none⟩) 0 0] 25)).alloc (.cells #[.slice A m c] 22)).alloc (.cells #[.int .i64 room] 3)).alloc (.cells #[.int .i64 gap] 3)).alloc (.cells #[.bool wrap] 4)) = W0 at *
  have hrow0 : W0.ownsRow w.heap.size 31 2 (.slice (some ⟨w.heap.size, 0, none⟩) 0 0) 0 [] := ⟨by simp, .inr ⟨w.heap.size, 0, #[], rfl, Nat.le_refl _, bR, Nat.le_refl _, by simp [maxLen], by simp, by simp⟩⟩
  have hIW := HI.out.after hB0
  have hN := Li.brk_length room gap wrap l
  rw [HL.out] at hN
  refine wpIn_rangeFunc_ownG (α := Nat × Nat) rfl (by omega) (gf := 25) (lb := #[.pointer (some ⟨w.heap.size + 1 + 1, 0, none⟩), .pointer (some ⟨w.heap.size + 1 + 2, 0, none⟩), .pointer (some ⟨w.heap.size + 1 + 3, 0, none⟩), .pointer (some ⟨w.heap.size + 1 + 4, 0, none⟩)]) rfl trivial (enters_of Try.func25 (by kernel_rfl) rfl)
    (encs := fun x : Nat × Nat => #[.int .i64 (x.1 : Int), .int .i64 (x.2 : Int)]) (Kp := KpB w.heap.size (w.heap.size + 1)) (S := fun ys => ys = Li.brk room gap wrap l) (Sp := fun _ => True) (N := (Li.brk room gap wrap l).length) (w0 := W0)
    (fun lp J Jx W hW hJ hJx hY h0 => iter_in 4 (by omega) lp w.heap.size (w.heap.size + 1) A l m c room gap wrap HL.out hm hcap J Jx hY W hJ (by have := hW.size; omega)
      ((hW.block _ (by omega)).trans b1) ((hW.block _ (by omega)).trans b2) ((hW.block _ (by omega)).trans b3) ((hW.block _ (by omega)).trans b4)
      (hIW.keep (hW.mono (by omega)) HA.out) HA.out h0)
    KpB.trans (KpB.putObj (by omega) (by omega)) (Below.refl _ _) (fun _ => rfl)
    (fun pre W => (∃ v, Boxed W (w.heap.size + 1) 25 v ∧ W.ownsRow w.heap.size 31 2 v pre.length ((Li.flat pre).map (Value.int .i64)) ∧ True) ∧ Below w.heap.size w W)
    (fun _ _ _ => False)
    (OwnFrom.and (Own.from (holdsRow_own w.heap.size (w.heap.size + 1) 25 31 2 (fun pre : List (Nat × Nat) => pre.length) (fun pre => (Li.flat pre).map (Value.int .i64)) (fun _ _ => True)) _) (ownFrom_below (Nat.le_refl _) (by omega)))
    (fun _ _ _ _ _ hs _ _ => hs)
    ⟨⟨_, bT, hrow0, trivial⟩, hB0⟩
    (fun x => { tmps := #[.slice A m c, .int .i64 room, .int .i64 gap, .bool wrap, undef, undef, undef, undef, .slice none 0 0, .pointer (some ⟨w.heap.size + 1, 0, none⟩), .int .i64 (x.1 : Int), .int .i64 (x.2 : Int), .slice (some ⟨w.heap.size, 0, none⟩) 0 0, .slice A m c, .int .i64 room, .int .i64 gap, .bool wrap, .func (.func 25) #[] #[.pointer (some ⟨w.heap.size + 1 + 1, 0, none⟩), .pointer (some ⟨w.heap.size + 1 + 1 + 1, 0, none⟩), .pointer (some ⟨w.heap.size + 1 + 1 + 2, 0, none⟩), .pointer (some ⟨w.heap.size + 1 + 1 + 3, 0, none⟩)], .int .i64 (x.1 : Int), .int .i64 (x.2 : Int), undef, undef, undef, undef, undef, undef, undef], defers := [] }) ?assign ?body ?done ?stop
  case assign =>
    intro lp x W K hK
    gi_wp2
    exact hK
  case body =>
    rintro lp pre x W ⟨⟨v, hv, hrow, _⟩, hB⟩ hlt
    have hc := hv.cell
    gi_wp2_with (gi_at_builtin; refine wpListIn_append_own _ rfl _ _ 25 rfl w.heap.size 31 i0 (.agg #[.int .i64 0, .int .i64 0]) 2 16 Try.underlying25 hi hz0 hz1 hz2 rfl (by decide) _ _ _ rfl (hrow.alloc _) ⟨W.heap.size, 0, none⟩ 1 1 [.int .i64 (x.1 : Int), .int .i64 (x.2 : Int)] rfl rfl (cell_two_new _ _ _ _) (by simp [Value.oneCell']) (by simp only [maxLen]; omega) (by omega) (by have := hB.size; simp; omega) ?_; intro v' w1 hown' hgrow _; obtain ⟨g', cap', rfl⟩ := ownsRow_succ hown'; obtain ⟨hv1, hv2, hr2, hk2, hb2⟩ := hv.appended (by decide) hrow hB.size (by omega) hown' hgrow; have hc1 := hv1.cell; have hf1 := hv1.frozen)
    exact ⟨hk2.from _, KpB.appended hrow hgrow hb2, ⟨_, hv2, by rw [Li.flat_snoc, List.map_append, List.length_append]; exact hr2, trivial⟩, hB.trans hb2⟩
  case done =>
    rintro D ys W hD rfl ⟨⟨v, hv, hrow, _⟩, hB⟩ hK
    have hc := hv.cell
    gi_wp2
    refine ⟨by simp, .inl ⟨_, _, rfl, run_takeDeferred hK, ?_⟩⟩
    exact ⟨_, results_tmp rfl _ _ _, v, rfl, ownsRow_putObj hrow _ hK rfl, hB.trans (belowK_b (w := w) (Nat.le_refl _) W D _ _ (by omega) hK rfl rfl)⟩
  case stop =>
    rintro D c pre W _ _ h _
    exact h.elim

end Go.Proofs.Ytabmlohobbbnbaa.Fix
