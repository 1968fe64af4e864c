/- The contracts of the calls of the layer justify (and of the document's own answers for it), but those over slices. -/
import Derived.Test.YteopkakjnjfheaaMarStackR
import Derived.Test.YteopkakjnjfheaaJuMath
namespace Go.Proofs.Yteopkakjnjfheaa.Fix
open Go.ChangeShapes Go.WideShapes Go.ChangeAt Go.RowKit
set_option linter.unusedVariables false


theorem jacross_any (kind s room : Int) (w : World) : Calls Try.prog 15 #[.int .i64 kind, .int .i64 s, .int .i64 room] w fun e w' => e = .returned (.int .i64 (Ju.across kind s room)) ∧ w = w' := by
  by_cases h2 : kind = 2
  · subst h2
    have Hr : Hid (Ju.across 2 s room = Fx.div (Fx.sub room s) 2) := Lib.hid (by unfold Ju.across; simp)
    go_enter Try.func15, Try.ntmps15
    go_wp2_with (first | (go_at_call 18; (with_reducible refine (sub_any _ _ _).mono ?_); rintro e w' ⟨rfl, rfl⟩) | (go_at_call 25; (with_reducible refine (div_any _ _ _).mono ?_); rintro e w' ⟨rfl, rfl⟩))
    go_ret
    exact ⟨ret_int Hr.out.symm, rfl⟩
  · by_cases h3 : kind = 3
    · subst h3
      have Hr : Hid (Ju.across 3 s room = Fx.sub room s) := Lib.hid (by unfold Ju.across; simp)
      go_enter Try.func15, Try.ntmps15
      go_wp2_with (first | (go_at_call 18; (with_reducible refine (sub_any _ _ _).mono ?_); rintro e w' ⟨rfl, rfl⟩) | (go_at_call 25; (with_reducible refine (div_any _ _ _).mono ?_); rintro e w' ⟨rfl, rfl⟩))
      go_ret
      exact ⟨ret_int Hr.out.symm, rfl⟩
    · have Hr : Hid (Ju.across kind s room = 0) := Lib.hid (by unfold Ju.across; rw [if_neg h2, if_neg h3])
      have g2 : (kind == 2) = false := by simp [h2]
      have g3 : (kind == 3) = false := by simp [h3]
      go_enter Try.func15, Try.ntmps15
      go_wp2_with (first | (go_at_call 18; (with_reducible refine (sub_any _ _ _).mono ?_); rintro e w' ⟨rfl, rfl⟩) | (go_at_call 25; (with_reducible refine (div_any _ _ _).mono ?_); rintro e w' ⟨rfl, rfl⟩))
      go_ret
      exact ⟨ret_int Hr.out.symm, rfl⟩

theorem racross_any (kind s room : Int) (w : World) : Calls Try.prog 16 #[.int .i64 kind, .int .i64 s, .int .i64 room] w fun e w' => e = .returned (.int .i64 (Ju.across kind s room)) ∧ w = w' := by
  by_cases h2 : kind = 2
  · subst h2
    have Hr : Hid (Ju.across 2 s room = Fx.div (Fx.sub room s) 2) := Lib.hid (by unfold Ju.across; simp)
    go_enter Try.func16, Try.ntmps16
    go_wp2_with (first | (go_at_call 21; (with_reducible refine (rsub_any _ _ _).mono ?_); rintro e w' ⟨rfl, rfl⟩) | (go_at_call 26; (with_reducible refine (rdiv_any _ _ _).mono ?_); rintro e w' ⟨rfl, rfl⟩))
    go_ret
    exact ⟨ret_int Hr.out.symm, rfl⟩
  · by_cases h3 : kind = 3
    · subst h3
      have Hr : Hid (Ju.across 3 s room = Fx.sub room s) := Lib.hid (by unfold Ju.across; simp)
      go_enter Try.func16, Try.ntmps16
      go_wp2_with (first | (go_at_call 21; (with_reducible refine (rsub_any _ _ _).mono ?_); rintro e w' ⟨rfl, rfl⟩) | (go_at_call 26; (with_reducible refine (rdiv_any _ _ _).mono ?_); rintro e w' ⟨rfl, rfl⟩))
      go_ret
      exact ⟨ret_int Hr.out.symm, rfl⟩
    · have Hr : Hid (Ju.across kind s room = 0) := Lib.hid (by unfold Ju.across; rw [if_neg h2, if_neg h3])
      have g2 : (kind == 2) = false := by simp [h2]
      have g3 : (kind == 3) = false := by simp [h3]
      go_enter Try.func16, Try.ntmps16
      go_wp2_with (first | (go_at_call 21; (with_reducible refine (rsub_any _ _ _).mono ?_); rintro e w' ⟨rfl, rfl⟩) | (go_at_call 26; (with_reducible refine (rdiv_any _ _ _).mono ?_); rintro e w' ⟨rfl, rfl⟩))
      go_ret
      exact ⟨ret_int Hr.out.symm, rfl⟩

theorem rpart9_any (left k n : Int) (w : World) : Calls Try.prog 32 #[.int .i64 left, .int .i64 k, .int .i64 n] w fun e w' => e = .returned (.int .i64 (Fx.div (Fx.mul left k) n)) ∧ w = w' := by
  go_enter Try.func32, Try.ntmps32
  go_wp2_with (first | (go_at_call 37; (with_reducible refine (rmul_any _ _ _).mono ?_); rintro e w' ⟨rfl, rfl⟩) | (go_at_call 26; (with_reducible refine (rdiv_any _ _ _).mono ?_); rintro e w' ⟨rfl, rfl⟩))
  go_ret
  exact ⟨rfl, rfl⟩

theorem shar_any (left p s q k : Int) (n b1 b2 b3 b4 : Nat) (w : World) (c1 : w.cell? ⟨b1, 0, none⟩ = some (.int .i64 left)) (c2 : w.cell? ⟨b2, 0, none⟩ = some (.int .i64 p)) (c3 : w.cell? ⟨b3, 0, none⟩ = some (.int .i64 s)) (c4 : w.cell? ⟨b4, 0, none⟩ = some (.int .i64 q)) (p0 : 0 ≤ p) (p1 : p ≤ 1) (s0 : 0 ≤ s) (s2 : s ≤ 2) (k0 : 0 ≤ k) (k1 : k ≤ 100000) :
    Calls Try.prog 29 #[.int .i64 k, .pointer (some ⟨b1, 0, none⟩), .pointer (some ⟨b2, 0, none⟩), .pointer (some ⟨b3, 0, none⟩), .pointer (some ⟨b4, 0, none⟩)] w fun e w' => e = .returned (.int .i64 (Ju.fr left p s q k)) ∧ Below w.heap.size w w' := by
  have l1 : b1 < w.heap.size := World.block_lt_of_cell? _ _ c1
  have l2 : b2 < w.heap.size := World.block_lt_of_cell? _ _ c2
  have l3 : b3 < w.heap.size := World.block_lt_of_cell? _ _ c3
  have l4 : b4 < w.heap.size := World.block_lt_of_cell? _ _ c4
  obtain ⟨m1, m2⟩ : 0 ≤ s * k ∧ s * k ≤ 2 * 100000 := Fx.mul_bd s0 s2 k0 k1
  have hw1 : IntKind.i64.wrap (s * k) = s * k := IntWalk.i64_in _ (by omega)
  have hw2 : IntKind.i64.wrap (p + s * k) = p + s * k := IntWalk.i64_in _ (by omega)
  go_enter Try.func29, Try.ntmps29
  go_upto_region 1 with (fail)
  refine Drawn.wp_region_from (Below.refl _ _) (by kernel_rfl) (by kernel_rfl) (by kernel_rfl) ?_
  (repeat (first | (refine Drawn.seq_skip (by rfl) ?_; (try simp only [Act.put, List.setIfInBounds_toArray, List.set_cons_zero, List.set_cons_succ])) | (refine Drawn.seq_call (o := ⟨_, .call ⟨.value _, _, _⟩, _, _, _, _⟩) (by rfl) (by intro w2 hS; go_simp; first | done | with_reducible rfl | exact ⟨rfl, rfl⟩) (by intro w2 hS; first | ((with_reducible refine (mul_any _ _ _).mono ?_); rintro e w' ⟨rfl, rfl⟩; exact ⟨rfl, hS⟩) | ((with_reducible refine (div_any _ _ _).mono ?_); rintro e w' ⟨rfl, rfl⟩; exact ⟨rfl, hS⟩)) ?_; (try simp only [Act.put, List.setIfInBounds_toArray, List.set_cons_zero, List.set_cons_succ])) | (refine Drawn.seq_value (by rfl) (by intro w2 hS; obtain ⟨hc, hf⟩ := bcell hS; go_simp; first | done | with_reducible rfl | exact ⟨rfl, rfl⟩) ?_; (try simp only [Act.put, List.setIfInBounds_toArray, List.set_cons_zero, List.set_cons_succ]))))
  refine Drawn.seq_end ?_; intro w2 hS
  go_wp2
  go_ret
  exact ⟨rfl, hS⟩

theorem rah_one (left k n : Int) (w : World) (hL : Fx.cut left = left) (k0 : 0 ≤ k) (k1 : k ≤ 100000) (n0 : 0 ≤ n) (n1 : n ≤ 100000) :
    Calls Try.prog 24 #[.int .i64 1, .int .i64 left, .int .i64 k, .int .i64 n] w fun e w' => e = .returned (.int .i64 (Ju.rah 1 left k n)) ∧ w = w' := by
  by_cases hk : k = 0
  · subst hk
    have Hr : Hid (Ju.rah 1 left 0 n = left) := Lib.hid (by rw [Ju.rah_zero, Ju.F_end hL])
    go_enter Try.func24, Try.ntmps24
    go_wp2_with (first | (go_at_call 26; (with_reducible refine (rdiv_any _ _ _).mono ?_); rintro e w' ⟨rfl, rfl⟩) | (go_at_call 32; (with_reducible refine (rpart9_any _ _ _ _).mono ?_); rintro e w' ⟨rfl, rfl⟩))
    go_ret
    exact ⟨ret_int Hr.out.symm, rfl⟩
  · have hkz : (k == 0) = false := by simp [hk]
    have Hr : Hid (Ju.rah 1 left k n = 0) := Lib.hid (Ju.rah_still rfl hk)
    go_enter Try.func24, Try.ntmps24
    go_wp2_with (first | (go_at_call 26; (with_reducible refine (rdiv_any _ _ _).mono ?_); rintro e w' ⟨rfl, rfl⟩) | (go_at_call 32; (with_reducible refine (rpart9_any _ _ _ _).mono ?_); rintro e w' ⟨rfl, rfl⟩))
    go_ret
    exact ⟨ret_int Hr.out.symm, rfl⟩

theorem rah_two (left k n : Int) (w : World) (hL : Fx.cut left = left) (k0 : 0 ≤ k) (k1 : k ≤ 100000) (n0 : 0 ≤ n) (n1 : n ≤ 100000) :
    Calls Try.prog 24 #[.int .i64 2, .int .i64 left, .int .i64 k, .int .i64 n] w fun e w' => e = .returned (.int .i64 (Ju.rah 2 left k n)) ∧ w = w' := by
  by_cases hk : k = 0
  · subst hk
    have Hr : Hid (Ju.rah 2 left 0 n = Fx.div left 2) := Lib.hid (by rw [Ju.rah_zero, Ju.F_half hL rfl])
    go_enter Try.func24, Try.ntmps24
    go_wp2_with (first | (go_at_call 26; (with_reducible refine (rdiv_any _ _ _).mono ?_); rintro e w' ⟨rfl, rfl⟩) | (go_at_call 32; (with_reducible refine (rpart9_any _ _ _ _).mono ?_); rintro e w' ⟨rfl, rfl⟩))
    go_ret
    exact ⟨ret_int Hr.out.symm, rfl⟩
  · have hkz : (k == 0) = false := by simp [hk]
    have Hr : Hid (Ju.rah 2 left k n = 0) := Lib.hid (Ju.rah_still rfl hk)
    go_enter Try.func24, Try.ntmps24
    go_wp2_with (first | (go_at_call 26; (with_reducible refine (rdiv_any _ _ _).mono ?_); rintro e w' ⟨rfl, rfl⟩) | (go_at_call 32; (with_reducible refine (rpart9_any _ _ _ _).mono ?_); rintro e w' ⟨rfl, rfl⟩))
    go_ret
    exact ⟨ret_int Hr.out.symm, rfl⟩

theorem rah_three (left k n : Int) (w : World) (hL : Fx.cut left = left) (k0 : 0 ≤ k) (k1 : k ≤ 100000) (n0 : 0 ≤ n) (n1 : n ≤ 100000) :
    Calls Try.prog 24 #[.int .i64 3, .int .i64 left, .int .i64 k, .int .i64 n] w fun e w' => e = .returned (.int .i64 (Ju.rah 3 left k n)) ∧ w = w' := by
  have d1 := Ju.div_le (Fx.mul left k) (n - 1)
  have d2 := Ju.div_ge (Fx.mul left k) (n - 1)
  have d3 := Ju.div_le (Fx.mul left (k - 1)) (n - 1)
  have d4 := Ju.div_ge (Fx.mul left (k - 1)) (n - 1)
  by_cases hl : 0 < left ∧ 1 < n
  · have hp : Ju.pq 3 left n = (0, 1, n - 1) := by unfold Ju.pq; simp [hl]
    obtain ⟨hl1, hl2⟩ := hl
    have HP := Lib.hid hp
    clear hp
    have e1 : decide (left ≤ 0) = false := by simp; omega
    have e2 : decide (n < 2) = false := by simp; omega
    by_cases hk : k = 0
    · subst hk
      have Hr : Hid (Ju.rah 3 left 0 n = 0) := Lib.hid (by rw [Ju.rah_zero]; unfold Ju.F Ju.fr; rw [HP.out]; simp [Fx.mul_zero, Ju.div_zero])
      go_enter Try.func24, Try.ntmps24
      go_wp2_with (first | (go_at_call 26; (with_reducible refine (rdiv_any _ _ _).mono ?_); rintro e w' ⟨rfl, rfl⟩) | (go_at_call 32; (with_reducible refine (rpart9_any _ _ _ _).mono ?_); rintro e w' ⟨rfl, rfl⟩))
      go_ret
      exact ⟨ret_int Hr.out.symm, rfl⟩
    · have hkz : (k == 0) = false := by simp [hk]
      have Hr : Hid (Ju.rah 3 left k n = Fx.div (Fx.mul left k) (n - 1) - Fx.div (Fx.mul left (k - 1)) (n - 1)) := Lib.hid (by unfold Ju.rah Ju.F Ju.fr; rw [if_neg hk, HP.out]; simp)
      go_enter Try.func24, Try.ntmps24
      go_wp2_with (first | (go_at_call 26; (with_reducible refine (rdiv_any _ _ _).mono ?_); rintro e w' ⟨rfl, rfl⟩) | (go_at_call 32; (with_reducible refine (rpart9_any _ _ _ _).mono ?_); rintro e w' ⟨rfl, rfl⟩))
      go_ret
      exact ⟨ret_int Hr.out.symm, rfl⟩
  · have hp : Ju.pq 3 left n = (0, 0, 1) := by unfold Ju.pq; simp only [hl]; rfl
    have HP := Lib.hid hp
    clear hp
    by_cases hl1 : left ≤ 0
    · clear hl
      by_cases hk : k = 0
      · subst hk
        have Hr : Hid (Ju.rah 3 left 0 n = 0) := Lib.hid (by rw [Ju.rah_zero, Ju.F_none HP.out])
        go_enter Try.func24, Try.ntmps24
        go_wp2_with (first | (go_at_call 26; (with_reducible refine (rdiv_any _ _ _).mono ?_); rintro e w' ⟨rfl, rfl⟩) | (go_at_call 32; (with_reducible refine (rpart9_any _ _ _ _).mono ?_); rintro e w' ⟨rfl, rfl⟩))
        go_ret
        exact ⟨ret_int Hr.out.symm, rfl⟩
      · have hkz : (k == 0) = false := by simp [hk]
        have Hr : Hid (Ju.rah 3 left k n = 0) := Lib.hid (Ju.rah_still (by rw [HP.out]) hk)
        go_enter Try.func24, Try.ntmps24
        go_wp2_with (first | (go_at_call 26; (with_reducible refine (rdiv_any _ _ _).mono ?_); rintro e w' ⟨rfl, rfl⟩) | (go_at_call 32; (with_reducible refine (rpart9_any _ _ _ _).mono ?_); rintro e w' ⟨rfl, rfl⟩))
        go_ret
        exact ⟨ret_int Hr.out.symm, rfl⟩
    · have hl2 : n < 2 := by omega
      have e1 : decide (left ≤ 0) = false := by simp; omega
      clear hl
      by_cases hk : k = 0
      · subst hk
        have Hr : Hid (Ju.rah 3 left 0 n = 0) := Lib.hid (by rw [Ju.rah_zero, Ju.F_none HP.out])
        go_enter Try.func24, Try.ntmps24
        go_wp2_with (first | (go_at_call 26; (with_reducible refine (rdiv_any _ _ _).mono ?_); rintro e w' ⟨rfl, rfl⟩) | (go_at_call 32; (with_reducible refine (rpart9_any _ _ _ _).mono ?_); rintro e w' ⟨rfl, rfl⟩))
        go_ret
        exact ⟨ret_int Hr.out.symm, rfl⟩
      · have hkz : (k == 0) = false := by simp [hk]
        have Hr : Hid (Ju.rah 3 left k n = 0) := Lib.hid (Ju.rah_still (by rw [HP.out]) hk)
        go_enter Try.func24, Try.ntmps24
        go_wp2_with (first | (go_at_call 26; (with_reducible refine (rdiv_any _ _ _).mono ?_); rintro e w' ⟨rfl, rfl⟩) | (go_at_call 32; (with_reducible refine (rpart9_any _ _ _ _).mono ?_); rintro e w' ⟨rfl, rfl⟩))
        go_ret
        exact ⟨ret_int Hr.out.symm, rfl⟩

theorem rah_four (left k n : Int) (w : World) (hL : Fx.cut left = left) (k0 : 0 ≤ k) (k1 : k ≤ 100000) (n0 : 0 ≤ n) (n1 : n ≤ 100000) :
    Calls Try.prog 24 #[.int .i64 4, .int .i64 left, .int .i64 k, .int .i64 n] w fun e w' => e = .returned (.int .i64 (Ju.rah 4 left k n)) ∧ w = w' := by
  have d1 := Ju.div_le (Fx.mul left (2 * k + 1)) (2 * n)
  have d2 := Ju.div_ge (Fx.mul left (2 * k + 1)) (2 * n)
  have d3 := Ju.div_le (Fx.mul left (2 * k - 1)) (2 * n)
  have d4 := Ju.div_ge (Fx.mul left (2 * k - 1)) (2 * n)
  by_cases hl : 0 < left
  · have hp : Ju.pq 4 left n = (1, 2, 2 * n) := by unfold Ju.pq; simp [hl]
    have HP := Lib.hid hp
    clear hp
    have e1 : decide (left ≤ 0) = false := by simp; omega
    by_cases hk : k = 0
    · subst hk
      have Hr : Hid (Ju.rah 4 left 0 n = Fx.div (Fx.mul left 1) (2 * n)) := Lib.hid (by rw [Ju.rah_zero]; unfold Ju.F Ju.fr; rw [HP.out]; simp)
      go_enter Try.func24, Try.ntmps24
      go_wp2_with (first | (go_at_call 26; (with_reducible refine (rdiv_any _ _ _).mono ?_); rintro e w' ⟨rfl, rfl⟩) | (go_at_call 32; (with_reducible refine (rpart9_any _ _ _ _).mono ?_); rintro e w' ⟨rfl, rfl⟩))
      go_ret
      exact ⟨ret_int Hr.out.symm, rfl⟩
    · have hkz : (k == 0) = false := by simp [hk]
      have Hr : Hid (Ju.rah 4 left k n = Fx.div (Fx.mul left (2 * k + 1)) (2 * n) - Fx.div (Fx.mul left (2 * k - 1)) (2 * n)) := Lib.hid (by unfold Ju.rah Ju.F Ju.fr; rw [if_neg hk, HP.out]; simp only []; rw [show 1 + 2 * k = 2 * k + 1 by omega, show 1 + 2 * (k - 1) = 2 * k - 1 by omega])
      go_enter Try.func24, Try.ntmps24
      go_wp2_with (first | (go_at_call 26; (with_reducible refine (rdiv_any _ _ _).mono ?_); rintro e w' ⟨rfl, rfl⟩) | (go_at_call 32; (with_reducible refine (rpart9_any _ _ _ _).mono ?_); rintro e w' ⟨rfl, rfl⟩))
      go_ret
      exact ⟨ret_int Hr.out.symm, rfl⟩
  · have hp : Ju.pq 4 left n = (1, 0, 2) := by unfold Ju.pq; simp [hl]
    have HP := Lib.hid hp
    clear hp
    have hl1 : left ≤ 0 := by omega
    clear hl
    by_cases hk : k = 0
    · subst hk
      have Hr : Hid (Ju.rah 4 left 0 n = Fx.div left 2) := Lib.hid (by rw [Ju.rah_zero, Ju.F_half hL HP.out])
      go_enter Try.func24, Try.ntmps24
      go_wp2_with (first | (go_at_call 26; (with_reducible refine (rdiv_any _ _ _).mono ?_); rintro e w' ⟨rfl, rfl⟩) | (go_at_call 32; (with_reducible refine (rpart9_any _ _ _ _).mono ?_); rintro e w' ⟨rfl, rfl⟩))
      go_ret
      exact ⟨ret_int Hr.out.symm, rfl⟩
    · have hkz : (k == 0) = false := by simp [hk]
      have Hr : Hid (Ju.rah 4 left k n = 0) := Lib.hid (Ju.rah_still (by rw [HP.out]) hk)
      go_enter Try.func24, Try.ntmps24
      go_wp2_with (first | (go_at_call 26; (with_reducible refine (rdiv_any _ _ _).mono ?_); rintro e w' ⟨rfl, rfl⟩) | (go_at_call 32; (with_reducible refine (rpart9_any _ _ _ _).mono ?_); rintro e w' ⟨rfl, rfl⟩))
      go_ret
      exact ⟨ret_int Hr.out.symm, rfl⟩

theorem rah_five (left k n : Int) (w : World) (hL : Fx.cut left = left) (k0 : 0 ≤ k) (k1 : k ≤ 100000) (n0 : 0 ≤ n) (n1 : n ≤ 100000) :
    Calls Try.prog 24 #[.int .i64 5, .int .i64 left, .int .i64 k, .int .i64 n] w fun e w' => e = .returned (.int .i64 (Ju.rah 5 left k n)) ∧ w = w' := by
  have d1 := Ju.div_le (Fx.mul left (k + 1)) (n + 1)
  have d2 := Ju.div_ge (Fx.mul left (k + 1)) (n + 1)
  have d3 := Ju.div_le (Fx.mul left (k)) (n + 1)
  have d4 := Ju.div_ge (Fx.mul left (k)) (n + 1)
  by_cases hl : 0 < left
  · have hp : Ju.pq 5 left n = (1, 1, n + 1) := by unfold Ju.pq; simp [hl]
    have HP := Lib.hid hp
    clear hp
    have e1 : decide (left ≤ 0) = false := by simp; omega
    by_cases hk : k = 0
    · subst hk
      have Hr : Hid (Ju.rah 5 left 0 n = Fx.div (Fx.mul left 1) (n + 1)) := Lib.hid (by rw [Ju.rah_zero]; unfold Ju.F Ju.fr; rw [HP.out]; simp)
      go_enter Try.func24, Try.ntmps24
      go_wp2_with (first | (go_at_call 26; (with_reducible refine (rdiv_any _ _ _).mono ?_); rintro e w' ⟨rfl, rfl⟩) | (go_at_call 32; (with_reducible refine (rpart9_any _ _ _ _).mono ?_); rintro e w' ⟨rfl, rfl⟩))
      go_ret
      exact ⟨ret_int Hr.out.symm, rfl⟩
    · have hkz : (k == 0) = false := by simp [hk]
      have Hr : Hid (Ju.rah 5 left k n = Fx.div (Fx.mul left (k + 1)) (n + 1) - Fx.div (Fx.mul left (k)) (n + 1)) := Lib.hid (by unfold Ju.rah Ju.F Ju.fr; rw [if_neg hk, HP.out]; simp only []; rw [show 1 + 1 * k = k + 1 by omega, show 1 + 1 * (k - 1) = k by omega])
      go_enter Try.func24, Try.ntmps24
      go_wp2_with (first | (go_at_call 26; (with_reducible refine (rdiv_any _ _ _).mono ?_); rintro e w' ⟨rfl, rfl⟩) | (go_at_call 32; (with_reducible refine (rpart9_any _ _ _ _).mono ?_); rintro e w' ⟨rfl, rfl⟩))
      go_ret
      exact ⟨ret_int Hr.out.symm, rfl⟩
  · have hp : Ju.pq 5 left n = (1, 0, 2) := by unfold Ju.pq; simp [hl]
    have HP := Lib.hid hp
    clear hp
    have hl1 : left ≤ 0 := by omega
    clear hl
    by_cases hk : k = 0
    · subst hk
      have Hr : Hid (Ju.rah 5 left 0 n = Fx.div left 2) := Lib.hid (by rw [Ju.rah_zero, Ju.F_half hL HP.out])
      go_enter Try.func24, Try.ntmps24
      go_wp2_with (first | (go_at_call 26; (with_reducible refine (rdiv_any _ _ _).mono ?_); rintro e w' ⟨rfl, rfl⟩) | (go_at_call 32; (with_reducible refine (rpart9_any _ _ _ _).mono ?_); rintro e w' ⟨rfl, rfl⟩))
      go_ret
      exact ⟨ret_int Hr.out.symm, rfl⟩
    · have hkz : (k == 0) = false := by simp [hk]
      have Hr : Hid (Ju.rah 5 left k n = 0) := Lib.hid (Ju.rah_still (by rw [HP.out]) hk)
      go_enter Try.func24, Try.ntmps24
      go_wp2_with (first | (go_at_call 26; (with_reducible refine (rdiv_any _ _ _).mono ?_); rintro e w' ⟨rfl, rfl⟩) | (go_at_call 32; (with_reducible refine (rpart9_any _ _ _ _).mono ?_); rintro e w' ⟨rfl, rfl⟩))
      go_ret
      exact ⟨ret_int Hr.out.symm, rfl⟩

theorem rah_else (kind left k n : Int) (w : World) (hL : Fx.cut left = left) (k0 : 0 ≤ k) (k1 : k ≤ 100000) (n0 : 0 ≤ n) (n1 : n ≤ 100000) (h1 : ¬ kind = 1) (h2 : ¬ kind = 2) (h3 : ¬ kind = 3) (h4 : ¬ kind = 4) (h5 : ¬ kind = 5) :
    Calls Try.prog 24 #[.int .i64 kind, .int .i64 left, .int .i64 k, .int .i64 n] w fun e w' => e = .returned (.int .i64 (Ju.rah kind left k n)) ∧ w = w' := by
  have g1 : (kind == 1) = false := by simp [h1]
  have g2 : (kind == 2) = false := by simp [h2]
  have g3 : (kind == 3) = false := by simp [h3]
  have g4 : (kind == 4) = false := by simp [h4]
  have g5 : (kind == 5) = false := by simp [h5]
  have hp : Ju.pq kind left n = (0, 0, 1) := by unfold Ju.pq; rw [if_neg h1, if_neg h3, if_neg h4, if_neg h5, if_neg h2]
  have HP := Lib.hid hp
  clear hp
  by_cases hk : k = 0
  · subst hk
    have Hr : Hid (Ju.rah kind left 0 n = 0) := Lib.hid (by rw [Ju.rah_zero, Ju.F_none HP.out])
    go_enter Try.func24, Try.ntmps24
    go_wp2_with (first | (go_at_call 26; (with_reducible refine (rdiv_any _ _ _).mono ?_); rintro e w' ⟨rfl, rfl⟩) | (go_at_call 32; (with_reducible refine (rpart9_any _ _ _ _).mono ?_); rintro e w' ⟨rfl, rfl⟩))
    go_ret
    exact ⟨ret_int Hr.out.symm, rfl⟩
  · have hkz : (k == 0) = false := by simp [hk]
    have Hr : Hid (Ju.rah kind left k n = 0) := Lib.hid (Ju.rah_still (by rw [HP.out]) hk)
    go_enter Try.func24, Try.ntmps24
    go_wp2_with (first | (go_at_call 26; (with_reducible refine (rdiv_any _ _ _).mono ?_); rintro e w' ⟨rfl, rfl⟩) | (go_at_call 32; (with_reducible refine (rpart9_any _ _ _ _).mono ?_); rintro e w' ⟨rfl, rfl⟩))
    go_ret
    exact ⟨ret_int Hr.out.symm, rfl⟩

theorem rahead_any (kind left k n : Int) (w : World) (hL : Fx.cut left = left) (k0 : 0 ≤ k) (k1 : k ≤ 100000) (n0 : 0 ≤ n) (n1 : n ≤ 100000) :
    Calls Try.prog 24 #[.int .i64 kind, .int .i64 left, .int .i64 k, .int .i64 n] w fun e w' => e = .returned (.int .i64 (Ju.rah kind left k n)) ∧ w = w' := by
  by_cases h1 : kind = 1
  · subst h1; exact rah_one left k n w hL k0 k1 n0 n1
  by_cases h2 : kind = 2
  · subst h2; exact rah_two left k n w hL k0 k1 n0 n1
  by_cases h3 : kind = 3
  · subst h3; exact rah_three left k n w hL k0 k1 n0 n1
  by_cases h4 : kind = 4
  · subst h4; exact rah_four left k n w hL k0 k1 n0 n1
  by_cases h5 : kind = 5
  · subst h5; exact rah_five left k n w hL k0 k1 n0 n1
  exact rah_else kind left k n w hL k0 k1 n0 n1 h1 h2 h3 h4 h5

end Go.Proofs.Yteopkakjnjfheaa.Fix
