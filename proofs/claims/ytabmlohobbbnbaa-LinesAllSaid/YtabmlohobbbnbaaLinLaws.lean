/- The document's example of the layer lines (works), and what lists of lines are in memory. -/
import Derived.Test.YtabmlohobbbnbaaOrder
import Derived.Test.YtabmlohobbbnbaaBreak2
import Derived.Laws.StructEq
namespace Go.Proofs.Ytabmlohobbbnbaa.Fix
open Go.ChangeShapes Go.WideShapes Go.ChangeAt Go.RowKit
set_option linter.unusedVariables false

theorem equal_two (n : Nat) (a b a' b' : Int) (w : World) : (Op.equalIn (n + 1 + 1) 31 (.agg #[.int .i64 a, .int .i64 b]) (.agg #[.int .i64 a', .int .i64 b'])).run Try.prog w = .ok (decide (a = a') && decide (b = b')) w := by
  have hi := run_equalIn_int (P := Try.prog) w n 3 .i64 .i64
  have hr : List.range' 0 2 = [0, 1] := rfl
  have hs : Try.t3.size = 1 := by kernel_rfl
  have hu : Try.prog.underlying 3 = some (.int .i64) := Try.underlying3
  unfold Op.equalIn
  by_cases h1 : a = a' <;> by_cases h2 : b = b' <;> simp [run_underlying Try.underlying31, sizeOf, hr, hs, part, hi _ _ hu, h1, h2]

theorem run_eql_two (a b a' b' : Int) (w : World) : (binOp .eql 31 (.agg #[.int .i64 a, .int .i64 b]) (.agg #[.int .i64 a', .int .i64 b'])).run Try.prog w = .ok (.bool (decide (a = a') && decide (b = b'))) w := by
  rw [run_eql_struct, show (10000 : Nat) = 9998 + 1 + 1 from rfl, equal_two]
  rfl

theorem run_neq_two (a b a' b' : Int) (w : World) : (binOp .neq 31 (.agg #[.int .i64 a, .int .i64 b]) (.agg #[.int .i64 a', .int .i64 b'])).run Try.prog w = .ok (.bool (!(decide (a = a') && decide (b = b')))) w := by
  rw [run_neq_struct, show (10000 : Nat) = 9998 + 1 + 1 from rfl, equal_two]
  rfl

/-- A slice of lines that can be read: two cells each. -/
def Pairs (w : World) (A : Option Addr) (l : List (Nat × Nat)) : Prop :=
  0 < l.length → ∃ b, A = some ⟨b, 0, none⟩ ∧ b < w.heap.size ∧ ∀ k (h : k < l.length), w.cell? ⟨b, k * 2, none⟩ = some (.int .i64 ((l[k]).1 : Int)) ∧ w.cell? ⟨b, k * 2 + 1, none⟩ = some (.int .i64 ((l[k]).2 : Int))

theorem Pairs.after {W w : World} {A : Option Addr} {l : List (Nat × Nat)} (h : Pairs W A l) (hb : Below W.heap.size W w) : Pairs w A l := fun h0 => by
  obtain ⟨b, rfl, hl, hc⟩ := h h0
  exact ⟨b, rfl, Nat.lt_of_lt_of_le hl hb.size, fun k hk => ⟨(hb.cell (p := ⟨b, k * 2, none⟩) hl).trans (hc k hk).1, (hb.cell (p := ⟨b, k * 2 + 1, none⟩) hl).trans (hc k hk).2⟩⟩

theorem pairs_of_own {w : World} {base : Nat} {e : TypeId} {v : Value} {l : List (Nat × Nat)} (h : w.ownsRow base e 2 v l.length ((Li.flat l).map (Value.int .i64))) :
    ∃ A c, v = .slice A l.length c ∧ Pairs w A l := by
  rcases h.2 with ⟨rfl, h0⟩ | ⟨g, cap, cur, rfl, _, hg, _⟩
  · exact ⟨none, 0, by rw [h0], fun hp => absurd hp (by omega)⟩
  · refine ⟨_, _, rfl, fun h0 => ⟨g, rfl, (Array.getElem?_eq_some_iff.1 hg).1, fun k hk => ?_⟩⟩
    obtain ⟨f1, f2⟩ := Li.flat_get l hk
    have c1 := h.cells (g := g) rfl (k * 2) (.int .i64 ((l[k]).1 : Int)) (by rw [List.getElem?_map, f1]; rfl)
    have c2 := h.cells (g := g) rfl (k * 2 + 1) (.int .i64 ((l[k]).2 : Int)) (by rw [List.getElem?_map, f2]; rfl)
    rw [addr_add, Nat.zero_add] at c1 c2
    exact ⟨c1, c2⟩

/-- Break, its answer as a list of lines. -/
theorem lines_any (A : Option Addr) (l : List Int) (m c : Nat) (room gap : Int) (wrap : Bool) (w : World) (hI : Ints w A l) (hl : l.length = m) (hm : m ≤ 10000) (hcap : m ≤ c) :
    Calls Try.prog 11 #[.slice A m c, .int .i64 room, .int .i64 gap, .bool wrap] w fun e w' => (∃ A' c', e = .returned (.slice A' (Li.brk room gap wrap l).length c') ∧ Pairs w' A' (Li.brk room gap wrap l)) ∧ Below w.heap.size w w' := by
  refine (break_any A l m c room gap wrap w hI hl hm hcap).mono ?_
  rintro e w' ⟨v, rfl, ho, hb⟩
  obtain ⟨A', c', rfl, hp⟩ := pairs_of_own ho
  exact ⟨⟨A', c', rfl, hp⟩, hb⟩

theorem break_ex : Li.brk 9 1 true [4, 4, 4] = [(0, 2), (2, 3)] := by decide

/-- the example's order -/
theorem order_ex {X : Nat → Nat} (h : So.Blk (keyOf [5, 2, 5, 1]) 0 4 X) : X 0 = 3 ∧ X 3 = 2 := by
  have b0 := h.2.in_ (k := 0) (by omega) (by omega)
  have b3 := h.2.in_ (k := 3) (by omega) (by omega)
  obtain ⟨p, _, p1, p2⟩ := (h.2 3).2 (by omega)
  obtain ⟨q, _, q1, q2⟩ := (h.2 2).2 (by omega)
  have k0 : keyOf [5, 2, 5, 1] 0 = 5 := rfl
  have k1 : keyOf [5, 2, 5, 1] 1 = 2 := rfl
  have k2 : keyOf [5, 2, 5, 1] 2 = 5 := rfl
  have k3 : keyOf [5, 2, 5, 1] 3 = 1 := rfl
  constructor
  · rcases Nat.eq_zero_or_pos p with rfl | hp
    · exact p2
    · have := h.1 0 p (by omega) hp p1
      rw [p2] at this
      unfold So.lt at this
      rcases (show X 0 = 0 ∨ X 0 = 1 ∨ X 0 = 2 ∨ X 0 = 3 by omega) with e | e | e | e <;> first | exact e | (exfalso; rw [e] at this; simp [k0, k1, k2, k3] at this)
  · rcases Nat.lt_or_ge q 3 with hq | hq
    · have := h.1 q 3 (by omega) hq (by omega)
      rw [q2] at this
      unfold So.lt at this
      rcases (show X 3 = 0 ∨ X 3 = 1 ∨ X 3 = 2 ∨ X 3 = 3 by omega) with e | e | e | e <;> first | exact e | (exfalso; rw [e] at this; simp [k0, k1, k2, k3] at this)
    · obtain rfl : q = 3 := by omega
      exact q2

theorem break_ex_any (w : World) : Calls Try.prog 11 #[.slice (some ⟨w.heap.size, 0, none⟩) 3 3, .int .i64 9, .int .i64 1, .bool true] (w.alloc (.cells #[.int .i64 4, .int .i64 4, .int .i64 4] 3)) fun e w' => (∃ b c', e = .returned (.slice (some ⟨b, 0, none⟩) 2 c') ∧ Pairs w' (some ⟨b, 0, none⟩) [(0, 2), (2, 3)]) ∧ Below w.heap.size w w' := by
  refine (lines_any _ [4, 4, 4] 3 3 9 1 true _ (ints_new _ [4, 4, 4] _ (by simp)) rfl (by omega) (by omega)).mono ?_
  rintro e w' ⟨⟨A', c', rfl, hp⟩, hB⟩
  rw [break_ex] at hp ⊢
  obtain ⟨b, rfl, lb, hc⟩ := hp (by decide)
  exact ⟨⟨b, c', rfl, hp⟩, Below.after2 (Below.alloc' (Below.refl _ _) _) (Nat.le_refl _) hB⟩

theorem order_ex_any (w : World) : Calls Try.prog 16 #[.slice (some ⟨w.heap.size, 0, none⟩) 4 4] (w.alloc (.cells #[.int .i64 5, .int .i64 2, .int .i64 5, .int .i64 1] 3)) fun e w' => (∃ b, e = .returned (.slice (some ⟨b, 0, none⟩) 4 4) ∧ b < w'.heap.size ∧ w'.cell? ⟨b, 0, none⟩ = some (.int .i64 3) ∧ w'.cell? ⟨b, 3, none⟩ = some (.int .i64 2)) ∧ Below w.heap.size w w' := by
  refine (order_any _ [5, 2, 5, 1] 4 4 _ (ints_new _ [5, 2, 5, 1] _ (by simp)) rfl (by omega)).mono ?_
  rintro e w' ⟨⟨b, X, rfl, lb, hX, hI⟩, hB⟩
  obtain ⟨e0, e3⟩ := order_ex hX
  refine ⟨⟨b, rfl, ?_⟩, Below.after2 (Below.alloc' (Below.refl _ _) _) (Nat.le_refl _) hB⟩
  obtain ⟨b0, o0, h0, l0, c0⟩ := hI.at_ (k := 0) (by rw [places_length]; omega)
  obtain ⟨b3, o3, h3, l3, c3⟩ := hI.at_ (k := 3) (by rw [places_length]; omega)
  injection h0 with h0
  injection h0 with h01 h02
  injection h3 with h3
  injection h3 with h31 h32
  subst h01 h02
  subst h31 h32
  rw [places_get X (by omega), e0] at c0
  rw [places_get X (by omega), e3] at c3
  exact ⟨l0, by simpa using c0, by simpa using c3⟩

set_option maxHeartbeats 4000000 in
theorem lworks_any (w : World) : Calls Try.prog 9 #[] w fun e w' => e = .returned (.bool true) ∧ Below w.heap.size w w' := by
  have q := run_eql_two
  go_enter Try.func9, Try.ntmps9
  go_upto_region 2 with (go_at_call 11; refine (break_ex_any _).mono ?_; rintro e w1 ⟨⟨b, c', rfl, hp⟩, hB⟩)
  have HP := Lib.hid hp
  clear hp
  go_upto_region 3 with (go_at_call 16; refine (order_ex_any _).mono ?_; rintro e w2 ⟨⟨g, rfl, lg, d0, d3⟩, hb⟩)
  obtain ⟨b', e1, lb, hc⟩ := (HP.out.after hb) (by decide)
  injection e1 with e1
  injection e1 with e2 e3
  subst e2
  obtain ⟨c0, c1⟩ := hc 0 (by decide)
  obtain ⟨c2, c3⟩ := hc 1 (by decide)
  have HB := Lib.hid (Below.after2 hB (Nat.le_refl _) hb)
  simp at c0 c1 c2 c3
  clear hc HP hb hB
  have L1 : Li.long 1 [4, 4] = 9 := by decide
  go_wp2_with (go_at_call 13; refine (long_any _ [4, 4] 2 2 1 _ (ints_two _ 4 4 _) rfl (by omega) (by omega)).mono ?_; rw [L1]; rintro e w' ⟨rfl, rfl⟩)
  go_ret
  exact ⟨rfl, by have hB := HB.out; (repeat (first | exact Below.refl _ _ | assumption | refine Below.drew ?_ | refine Below.drewN ?_ _ | refine Below.alloc' ?_ _ | refine Below.setCell ?_ (by first | (simp; done) | (simp; omega)) _ | refine Below.after2 ?_ (Nat.le_refl _) (by assumption)))⟩

end Go.Proofs.Ytabmlohobbbnbaa.Fix
