/- MarginTells, MarginStacks, MarginRoom: each returns true, and leaves all that was there as it was. -/
import Derived.Test.YtcjoljclijkmcaaMarLaws
namespace Go.Proofs.Ytcjoljclijkmcaa.Fix
open Go.ChangeShapes Go.WideShapes Go.ChangeAt Go.RowKit
set_option linter.unusedVariables false

set_option maxHeartbeats 4000000 in
theorem mtells_core (A : Option Addr) (l : List Int) (n c : Nat) (room size bk bn ek en base : Int) (w : World) (hI : Ints w A l) (hn : l.length = n) :
    Calls Try.prog 3 #[.slice A n c, .int .i64 room, .int .i64 size, .agg #[.int .i64 bk, .int .i64 bn], .agg #[.int .i64 ek, .int .i64 en], .int .i64 base] w fun e w' => e = .returned (.bool true) ∧ Below w.heap.size w w' := by
  have hm := hI.1
  unfold maxLen at hm
  rw [hn] at hm
  have HN := Lib.hid hn; clear hn
  have HI := Lib.hid hI; clear hI
  go_enter Try.func3, Try.ntmps3
  go_upto_region 1 with (fail)
  (generalize hW : World.alloc (World.alloc w _) _ = W0; have A0 : At W0 (w.heap.size) (.cells #[.int .i64 bk, .int .i64 bn] 25) := (by ((rw [← hW]) <;> exact At.alloc (At.new' _ (by first | done | rfl | simp)) _)); have A1 : At W0 (w.heap.size + 1) (.cells #[.int .i64 ek, .int .i64 en] 25) := (by ((rw [← hW]) <;> exact At.new' _ (by first | done | rfl | simp))); have hB : Below w.heap.size w W0 := (by ((rw [← hW]) <;> exact Below.alloc' (Below.alloc' (Below.refl _ _) _) _)); clear hW; obtain ⟨l0, c0_0, c0_1⟩ := At.two A0; obtain ⟨l1, c1_0, c1_1⟩ := At.two A1)
  go_wp2_with (first
    | first | (go_at_call 9; (with_reducible refine (mworks_any _).mono ?_); rintro e w' ⟨rfl, hb⟩; (clear l0 c0_0 c0_1 l1 c1_0 c1_1); (replace hB := Below.after2 (by first | exact hB | exact Below.alloc' hB _ | exact Below.alloc' (Below.alloc' hB _) _) (Nat.le_refl _) hb); replace A0 := At.keep (by first | exact A0 | exact At.alloc A0 _ | exact At.alloc (At.alloc A0 _) _) hb; replace A1 := At.keep (by first | exact A1 | exact At.alloc A1 _ | exact At.alloc (At.alloc A1 _) _) hb; clear hb; obtain ⟨l0, c0_0, c0_1⟩ := At.two A0; obtain ⟨l1, c1_0, c1_1⟩ := At.two A1) | (go_at_call 10; (with_reducible refine (auto_any _ _ _ _ _ _ _ _).mono ?_); rintro e w' ⟨rfl, hb⟩; (clear l0 c0_0 c0_1 l1 c1_0 c1_1); (replace hB := Below.after2 (by first | exact hB | exact Below.alloc' hB _ | exact Below.alloc' (Below.alloc' hB _) _) (Nat.le_refl _) hb); replace A0 := At.keep (by first | exact A0 | exact At.alloc A0 _ | exact At.alloc (At.alloc A0 _) _) hb; replace A1 := At.keep (by first | exact A1 | exact At.alloc A1 _ | exact At.alloc (At.alloc A1 _) _) hb; clear hb; obtain ⟨l0, c0_0, c0_1⟩ := At.two A0; obtain ⟨l1, c1_0, c1_1⟩ := At.two A1) | (go_at_call 11; (with_reducible refine (rauto_any _ _ _ _ _ _ _ _).mono ?_); rintro e w' ⟨rfl, hb⟩; (clear l0 c0_0 c0_1 l1 c1_0 c1_1); (replace hB := Below.after2 (by first | exact hB | exact Below.alloc' hB _ | exact Below.alloc' (Below.alloc' hB _) _) (Nat.le_refl _) hb); replace A0 := At.keep (by first | exact A0 | exact At.alloc A0 _ | exact At.alloc (At.alloc A0 _) _) hb; replace A1 := At.keep (by first | exact A1 | exact At.alloc A1 _ | exact At.alloc (At.alloc A1 _) _) hb; clear hb; obtain ⟨l0, c0_0, c0_1⟩ := At.two A0; obtain ⟨l1, c1_0, c1_1⟩ := At.two A1)
    | (go_at_call 14; with_reducible refine (pair_any _ _ _).mono ?_; rintro e w1 ⟨rfl, hb⟩; replace hB := Below.after2 hB (Nat.le_refl _) hb; clear hb)
    | (go_at_call 12; with_reducible refine (coll_any _ l _ _ _ (HI.out.after hB) HN.out).mono ?_; rintro e w' ⟨rfl, rfl⟩)
    | (go_at_call 13; with_reducible refine (rcoll_any _ l _ _ _ (HI.out.after hB) HN.out).mono ?_; rintro e w' ⟨rfl, rfl⟩)
    | (go_at_call 13; refine (rcoll_any _ [room, size] 2 2 _ (ints_two _ room size _) rfl).mono ?_; rintro e w' ⟨rfl, rfl⟩))
  all_goals
    go_ret
    refine ⟨rfl, ?_⟩
    (repeat (first | exact Below.refl _ _ | assumption | refine Below.drew ?_ | refine Below.drewN ?_ _ | refine Below.alloc' ?_ _ | refine Below.setCell ?_ (by first | (simp; done) | (simp; omega)) _ | refine Below.after2 ?_ (Nat.le_refl _) (by assumption)))

theorem mtells_walk (a : Option Addr) (len cap : Nat) (zs : List Int) (room size bk bn ek en base : Int) (w : World)
    (h : (a = none ∧ len = 0 ∧ cap = 0 ∧ zs = []) ∨ ∃ x, a = some x ∧ len ≤ cap ∧ cap ≤ maxLen ∧ zs.length = cap ∧ (∀ i, i < zs.length → w.cell? (x.add i) = some (.int .i64 (zs.getD i 0))) ∧ ∀ n ∈ zs, (Lit.int .i64 n).wf = true) :
    Calls Try.prog 3 #[.slice a len cap, .int .i64 room, .int .i64 size, .agg #[.int .i64 bk, .int .i64 bn], .agg #[.int .i64 ek, .int .i64 en], .int .i64 base] w fun e w' => e = .returned (.bool true) ∧ Below w.heap.size w w' := by
  obtain ⟨l, rfl, hI, _, _, _⟩ := ints_of_row h
  exact mtells_core a l l.length cap room size bk bn ek en base w hI rfl

theorem mstacks_core (A T B : Option Addr) (s t u : List Int) (n d1 d2 d3 : Nat) (w : World) (hs : Ints w A s) (ht : Ints w T t) (hu : Ints w B u) (ls : s.length = n) (lt : t.length = n) (lu : u.length = n) (hn : n ≤ 1000) :
    Calls Try.prog 4 #[.slice A n d1, .slice T n d2, .slice B n d3] w fun e w' => e = .returned (.bool true) ∧ Below w.heap.size w w' := by
  have HS := Lib.hid hs; clear hs
  have HT := Lib.hid ht; clear ht
  have HU := Lib.hid hu; clear hu
  have LS := Lib.hid ls; clear ls
  have LT := Lib.hid lt; clear lt
  have LU := Lib.hid lu; clear lu
  have d1' : decide (1000 < (n : Int)) = false := by simp; omega
  go_enter Try.func4, Try.ntmps4
  go_wp2_with (first
    | (go_at_call 9; with_reducible refine (mworks_any _).mono ?_; rintro e w1 ⟨rfl, hB⟩)
    | (go_at_call 15; with_reducible refine (stack_any A T B s t u n _ _ _ _ (HS.out.after hB) (HT.out.after hB) (HU.out.after hB) LS.out LT.out LU.out (by omega)).mono ?_; rintro e w2 ⟨⟨b2, rfl, I2⟩, hb⟩; replace hB := Below.after2 hB (Nat.le_refl _) hb; clear hb)
    | (go_at_call 16; with_reducible refine (rstack_any A T B s t u n _ _ _ _ (HS.out.after hB) (HT.out.after hB) (HU.out.after hB) LS.out LT.out LU.out (by omega)).mono ?_; rintro e w3 ⟨⟨b3, c3, rfl, I3⟩, hb⟩; replace I2 := I2.after hb; replace hB := Below.after2 hB (Nat.le_refl _) hb; clear hb)
    | (go_at_call 17; with_reducible refine (row_any _ _ _ _ _ _ _ I2 I3 (Fx.stBegs_length _ _ _ _) (by omega)).mono ?_; rintro e w4 ⟨rfl, hb⟩; replace hB := Below.after2 hB (Nat.le_refl _) hb; clear hb))
  go_ret
  exact ⟨rfl, hB⟩

theorem ints_nil (w : World) : Ints w none [] := ⟨by unfold maxLen; simp, fun h => absurd h (by simp)⟩

theorem mstacks_none (A T B : Option Addr) (n1 n2 n3 d1 d2 d3 : Nat) (w : World) (h : ¬(n2 = n1 ∧ n3 = n1)) (h1 : n1 ≤ 1000) (h2 : n2 ≤ 1000) (h3 : n3 ≤ 1000) :
    Calls Try.prog 4 #[.slice A n1 d1, .slice T n2 d2, .slice B n3 d3] w fun e w' => e = .returned (.bool true) ∧ Below w.heap.size w w' := by
  have e1 : decide (1000 < (n1 : Int)) = false := by simp; omega
  have e2 : decide (1000 < (n2 : Int)) = false := by simp; omega
  have e3 : decide (1000 < (n3 : Int)) = false := by simp; omega
  have H := Lib.hid h; clear h
  go_enter Try.func4, Try.ntmps4
  go_wp2_with (first
    | (go_at_call 9; with_reducible refine (mworks_any _).mono ?_; rintro e w1 ⟨rfl, hB⟩)
    | (go_at_call 15; with_reducible refine (stack_none _ _ _ _ _ _ _ _ _ _ H.out).mono ?_; rintro e w2 ⟨rfl, rfl⟩)
    | (go_at_call 16; with_reducible refine (rstack_none _ _ _ _ _ _ _ _ _ _ H.out).mono ?_; rintro e w2 ⟨rfl, rfl⟩)
    | (go_at_call 17; with_reducible refine (row_any none none [] 0 0 0 _ (ints_nil _) (ints_nil _) rfl (by omega)).mono ?_; rintro e w4 ⟨rfl, hb⟩; replace hB := Below.after2 hB (Nat.le_refl _) hb; clear hb))
  go_ret
  exact ⟨rfl, hB⟩

theorem mstacks_big (A T B : Option Addr) (n1 n2 n3 d1 d2 d3 : Nat) (w : World) (x1 : n1 ≤ 9223372036854775807) (x2 : n2 ≤ 9223372036854775807) (x3 : n3 ≤ 9223372036854775807) (h : 1000 < n1 ∨ 1000 < n2 ∨ 1000 < n3) :
    Calls Try.prog 4 #[.slice A n1 d1, .slice T n2 d2, .slice B n3 d3] w fun e w' => e = .returned (.bool true) ∧ Below w.heap.size w w' := by
  by_cases h1 : 1000 < n1
  · go_enter Try.func4, Try.ntmps4
    go_wp2_with (go_at_call 9; with_reducible refine (mworks_any _).mono ?_; rintro e w1 ⟨rfl, hB⟩)
    go_ret
    exact ⟨rfl, hB⟩
  · have e1 : decide (1000 < (n1 : Int)) = false := by simp; omega
    by_cases h2 : 1000 < n2
    · go_enter Try.func4, Try.ntmps4
      go_wp2_with (go_at_call 9; with_reducible refine (mworks_any _).mono ?_; rintro e w1 ⟨rfl, hB⟩)
      go_ret
      exact ⟨rfl, hB⟩
    · have e2 : decide (1000 < (n2 : Int)) = false := by simp; omega
      have h3 : 1000 < n3 := by omega
      clear h
      go_enter Try.func4, Try.ntmps4
      go_wp2_with (go_at_call 9; with_reducible refine (mworks_any _).mono ?_; rintro e w1 ⟨rfl, hB⟩)
      go_ret
      exact ⟨rfl, hB⟩

/-- What the frame hands on of a slice of integers. -/
def Row (w : World) (a : Option Addr) (len cap : Nat) (zs : List Int) : Prop :=
  (a = none ∧ len = 0 ∧ cap = 0 ∧ zs = []) ∨ ∃ x, a = some x ∧ len ≤ cap ∧ cap ≤ maxLen ∧ zs.length = cap ∧ (∀ i, i < zs.length → w.cell? (x.add i) = some (.int .i64 (zs.getD i 0))) ∧ ∀ n ∈ zs, (Lit.int .i64 n).wf = true

theorem mstacks_walk (a0 : Option Addr) (len0 cap0 : Nat) (z0 : List Int) (a1 : Option Addr) (len1 cap1 : Nat) (z1 : List Int) (a2 : Option Addr) (len2 cap2 : Nat) (z2 : List Int) (w : World) (h0 : Row w a0 len0 cap0 z0) (h1 : Row w a1 len1 cap1 z1) (h2 : Row w a2 len2 cap2 z2) :
    Calls Try.prog 4 #[.slice a0 len0 cap0, .slice a1 len1 cap1, .slice a2 len2 cap2] w fun e w' => e = .returned (.bool true) ∧ Below w.heap.size w w' := by
  obtain ⟨s, rfl, hs, _, _, _⟩ := ints_of_row h0
  obtain ⟨t, rfl, ht, _, _, _⟩ := ints_of_row h1
  obtain ⟨u, rfl, hu, _, _, _⟩ := ints_of_row h2
  have m1 := hs.1
  have m2 := ht.1
  have m3 := hu.1
  simp only [maxLen] at m1 m2 m3
  by_cases hm : 1000 < s.length ∨ 1000 < t.length ∨ 1000 < u.length
  · exact mstacks_big a0 a1 a2 _ _ _ cap0 cap1 cap2 w (by omega) (by omega) (by omega) hm
  · by_cases hn : t.length = s.length ∧ u.length = s.length
    · obtain ⟨hn1, hn2⟩ := hn
      rw [hn1, hn2]
      exact mstacks_core a0 a1 a2 s t u _ cap0 cap1 cap2 w hs ht hu rfl hn1 hn2 (by omega)
    · exact mstacks_none a0 a1 a2 _ _ _ cap0 cap1 cap2 w hn (by omega) (by omega) (by omega)

end Go.Proofs.Ytcjoljclijkmcaa.Fix
