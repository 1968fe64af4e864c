/- The contracts of factor, weight, stays and free of the layer flex: what they read of a row. -/
import Derived.Test.YtefofdjkinbfgaaFlexLoose
import Derived.Test.YtefofdjkinbfgaaDrawnFast
namespace Go.Proofs.Ytefofdjkinbfgaa.Fix
open Go.ChangeShapes Go.WideShapes Go.ChangeAt Go.RowKit
set_option linter.unusedVariables false

/-- A row in memory. -/
def RowW (W : World) (R I n : Nat) (room : Int) (gr : Bool) (S : Nat → Fe.St) : Prop := At W R (rowObj I n room (Fe.sg gr)) ∧ Blk W I n S

theorem RowW.keep {W W' : World} {R I n : Nat} {room : Int} {gr : Bool} {S : Nat → Fe.St} (h : RowW W R I n room gr S) (hb : Below W.heap.size W W') : RowW W' R I n room gr S := ⟨h.1.keep hb, h.2.keep hb⟩
theorem RowW.drew {W : World} {R I n : Nat} {room : Int} {gr : Bool} {S : Nat → Fe.St} (h : RowW W R I n room gr S) : RowW W.drew R I n room gr S := h.keep (Below.refl _ _).drew

theorem RowW.cells {W : World} {R I n : Nat} {room : Int} {gr : Bool} {S : Nat → Fe.St} (h : RowW W R I n room gr S) :
    R < W.heap.size ∧ W.cell? ⟨R, 0, none⟩ = some (.slice (some ⟨I, 0, none⟩) n n) ∧ W.cell? ⟨R, 1, none⟩ = some (.int .i64 room) ∧ W.cell? ⟨R, 2, none⟩ = some (.int .i64 (Fe.sg gr)) := ⟨h.1.lt, h.1.cell 0, h.1.cell 1, h.1.cell 2⟩
theorem Blk.fields {W : World} {I n : Nat} {S : Nat → Fe.St} (h : Blk W I n S) {i : Nat} (hi : i < n) :
    I < W.heap.size ∧ W.cell? ⟨I, i * 8, none⟩ = some (.int .i64 (S i).x.b) ∧ W.cell? ⟨I, i * 8 + 1, none⟩ = some (.int .i64 (S i).x.lo) ∧ W.cell? ⟨I, i * 8 + 2, none⟩ = some (.int .i64 (S i).x.hi) ∧ W.cell? ⟨I, i * 8 + 3, none⟩ = some (.int .i64 (S i).x.g) ∧ W.cell? ⟨I, i * 8 + 4, none⟩ = some (.int .i64 (S i).x.s) ∧
      W.cell? ⟨I, i * 8 + 5, none⟩ = some (.int .i64 (S i).z) ∧ W.cell? ⟨I, i * 8 + 6, none⟩ = some (.int .i64 (S i).m) ∧ W.cell? ⟨I, i * 8 + 7, none⟩ = some (.bool (S i).f) :=
  ⟨h.lt, h.cell hi 0 (by omega), h.cell hi 1 (by omega), h.cell hi 2 (by omega), h.cell hi 3 (by omega), h.cell hi 4 (by omega), h.cell hi 5 (by omega), h.cell hi 6 (by omega), h.cell hi 7 (by omega)⟩

theorem factor_any (R I n i : Nat) (room : Int) (gr : Bool) (S : Nat → Fe.St) (w : World) (h : RowW w R I n room gr S) (hi : i < n) :
    Calls Try.prog 34 #[.pointer (some ⟨R, 0, none⟩), .pointer (some ⟨I, i * 8, none⟩)] w fun e w' => e = .returned (.int .i64 (Fe.fac gr (S i).x)) ∧ w = w' := by
  obtain ⟨l0, c0, c1, c2⟩ := h.cells
  obtain ⟨l1, d0, d1, d2, d3, d4, d5, d6, d7⟩ := h.2.fields hi
  clear h c0 c1 d0 d1 d2 d5 d6 d7
  cases gr
  · simp only [Fe.fac, Fe.sg, Bool.false_eq_true, if_false] at *
    go_enter Try.func34, Try.ntmps34
    go_wp2
    go_ret
    exact ⟨rfl, rfl⟩
  · simp only [Fe.fac, Fe.sg, if_true] at *
    go_enter Try.func34, Try.ntmps34
    go_wp2
    go_ret
    exact ⟨rfl, rfl⟩

theorem weight_any (R I n i : Nat) (room : Int) (gr : Bool) (S : Nat → Fe.St) (w : World) (h : RowW w R I n room gr S) (hi : i < n) (hb : (0 ≤ (S i).x.b ∧ (S i).x.b ≤ 1048576) ∧ 0 ≤ (S i).x.s ∧ (S i).x.s ≤ 1000) :
    Calls Try.prog 32 #[.pointer (some ⟨R, 0, none⟩), .pointer (some ⟨I, i * 8, none⟩)] w fun e w' => e = .returned (.int .i64 (Fe.wt gr (S i).x)) ∧ Below w.heap.size w w' := by
  obtain ⟨l0, c0, c1, c2⟩ := h.cells
  obtain ⟨l1, d0, d1, d2, d3, d4, d5, d6, d7⟩ := h.2.fields hi
  clear h c0 c1 d1 d2 d5 d6 d7
  cases gr
  · simp only [Fe.wt, Fe.sg, Bool.false_eq_true, if_false] at *
    obtain ⟨⟨b1, b2⟩, b3, b4⟩ := hb
    have hp := Fe.prod_bd b3 b4 b1 b2
    have hw : IntKind.i64.wrap ((S i).x.s * (S i).x.b) = (S i).x.s * (S i).x.b := IntWalk.i64_in _ (by omega)
    have hw2 : wrap64 ((S i).x.s * (S i).x.b) = (S i).x.s * (S i).x.b := IntWalk.wrap64_in _ (by omega)
    generalize (S i).x.s = s at *
    generalize (S i).x.b = b at *
    have HW := Lib.hid hw2
    clear hw2
    go_enter Try.func32, Try.ntmps32
    go_upto_region 3 with (fail)
    refine Drawn.wp_region_from (Below.refl _ _) (by kernel_rfl) (by kernel_rfl) (by kernel_rfl) ?_
    (repeat (first | (refine Drawn.seq_skip (by rfl) ?_; (try simp only [Act.put, List.setIfInBounds_toArray, List.set_cons_zero, List.set_cons_succ])) | (refine Drawn.seq_call (o := ⟨_, .call ⟨.value _, _, _⟩, _, _, _, _⟩) (by rfl) (by intro w2 hS; go_simp; first | done | with_reducible rfl | exact ⟨rfl, rfl⟩) (by intro w2 hS; first | ((with_reducible refine (cut_any _ _).mono ?_); rintro e w' ⟨rfl, rfl⟩; exact ⟨rfl, hS⟩)) ?_; (try simp only [Act.put, List.setIfInBounds_toArray, List.set_cons_zero, List.set_cons_succ])) | (refine Drawn.seq_value (by rfl) (by intro w2 hS; obtain ⟨hc, hf⟩ := bcell hS; go_simp; first | done | with_reducible rfl | exact ⟨rfl, rfl⟩) ?_; (try simp only [Act.put, List.setIfInBounds_toArray, List.set_cons_zero, List.set_cons_succ]))))
    refine Drawn.seq_end ?_; intro w2 hS
    go_wp2
    go_ret
    exact ⟨ret_int (by first | rfl | exact HW.out), by (repeat (first | exact Below.refl _ _ | assumption | refine Below.drew ?_ | refine Below.drewN ?_ _ | refine Below.alloc' ?_ _ | refine Below.setCell ?_ (by first | (simp; done) | (simp; omega)) _ | refine Below.after2 ?_ (Nat.le_refl _) (by assumption)))⟩
  · simp only [Fe.wt, Fe.sg, if_true] at *
    clear hb
    go_enter Try.func32, Try.ntmps32
    go_wp2
    go_ret
    exact ⟨rfl, Below.refl _ _⟩

set_option maxHeartbeats 4000000 in
theorem stays_any (R I n i : Nat) (room : Int) (gr : Bool) (S : Nat → Fe.St) (w : World) (h : RowW w R I n room gr S) (hi : i < n) (hb : (0 ≤ (S i).x.b ∧ (S i).x.b ≤ 1048576) ∧ 0 ≤ (S i).z ∧ (S i).z ≤ 1048576) :
    Calls Try.prog 31 #[.pointer (some ⟨R, 0, none⟩), .pointer (some ⟨I, i * 8, none⟩)] w fun e w' => e = .returned (.bool (Fe.stay gr (S i).x (S i).z)) ∧ Below w.heap.size w w' := by
  obtain ⟨l0, c0, c1, c2⟩ := h.cells
  obtain ⟨l1, d0, d1, d2, d3, d4, d5, d6, d7⟩ := h.2.fields hi
  have HR := Lib.hid h
  have Hi := Lib.hid hi
  clear h c0 c1 d1 d2 d3 d4 d6 d7 hi
  unfold Fe.stay
  obtain ⟨⟨b1, b2⟩, b3, b4⟩ := hb
  generalize hfc : Fe.fac gr (S i).x = fc
  have HFC := Lib.hid hfc
  clear hfc
  generalize (S i).x.b = b at *
  generalize (S i).z = z at *
  have W1 : Hid (IntKind.i64.wrap (Fe.sg gr * b) = Fe.sg gr * b) := Lib.hid (IntWalk.i64_in _ (by cases gr <;> simp only [Fe.sg, Bool.false_eq_true, if_false, if_true] <;> omega))
  have W2 : Hid (IntKind.i64.wrap (Fe.sg gr * z) = Fe.sg gr * z) := Lib.hid (IntWalk.i64_in _ (by cases gr <;> simp only [Fe.sg, Bool.false_eq_true, if_false, if_true] <;> omega))
  generalize Fe.sg gr = way at *
  by_cases h0 : fc = 0
  · have k0 : (Fe.fac gr (S i).x == 0) = true := by rw [HFC.out]; simpa using h0
    subst h0
    clear HFC
    go_enter Try.func31, Try.ntmps31
    go_wp2
    refine Drawn.wp_region_fast (Below.refl _ _) (by kernel_rfl) (by kernel_rfl) (by kernel_rfl) ?_
    (repeat (first | (refine Drawn.seq_skip (by rfl) ?_; (try simp only [Act.put, List.setIfInBounds_toArray, List.set_cons_zero, List.set_cons_succ])) | (refine Drawn.seq_call (o := ⟨_, .call ⟨.value _, _, _⟩, _, _, _, _⟩) (by rfl) (by intro w2 hS; go_simp; first | done | with_reducible rfl | exact ⟨rfl, rfl⟩) (by intro w2 hS; first | ((with_reducible refine (factor_any _ _ _ _ _ _ _ _ (HR.out.keep hS) Hi.out).mono ?_); rintro e w' ⟨rfl, rfl⟩; exact ⟨rfl, hS⟩)) ?_; (try simp only [Act.put, List.setIfInBounds_toArray, List.set_cons_zero, List.set_cons_succ])) | (refine Drawn.seq_value (by rfl) (by intro w2 hS; obtain ⟨hc, hf⟩ := bcell hS; go_simp; first | done | with_reducible rfl | exact ⟨rfl, rfl⟩) ?_; (try simp only [Act.put, List.setIfInBounds_toArray, List.set_cons_zero, List.set_cons_succ]))))
    try simp only [k0]
    (repeat (first | (refine Drawn.seq_skip (by rfl) ?_; (try simp only [Act.put, List.setIfInBounds_toArray, List.set_cons_zero, List.set_cons_succ])) | (refine Drawn.seq_call (o := ⟨_, .call ⟨.value _, _, _⟩, _, _, _, _⟩) (by rfl) (by intro w2 hS; go_simp; first | done | with_reducible rfl | exact ⟨rfl, rfl⟩) (by intro w2 hS; first | ((with_reducible refine (factor_any _ _ _ _ _ _ _ _ (HR.out.keep hS) Hi.out).mono ?_); rintro e w' ⟨rfl, rfl⟩; exact ⟨rfl, hS⟩)) ?_; (try simp only [Act.put, List.setIfInBounds_toArray, List.set_cons_zero, List.set_cons_succ])) | (refine Drawn.seq_value (by rfl) (by intro w2 hS; obtain ⟨hc, hf⟩ := bcell hS; go_simp; first | done | with_reducible rfl | exact ⟨rfl, rfl⟩) ?_; (try simp only [Act.put, List.setIfInBounds_toArray, List.set_cons_zero, List.set_cons_succ]))))
    refine Drawn.seq_end ?_; intro w2 hS
    go_wp2
    go_ret
    exact ⟨rfl, by (repeat (first | exact Below.refl _ _ | assumption | refine Below.drew ?_ | refine Below.drewN ?_ _ | refine Below.alloc' ?_ _ | refine Below.setCell ?_ (by first | (simp; done) | (simp; omega)) _ | refine Below.after2 ?_ (Nat.le_refl _) (by assumption)))⟩
  · have k0 : (Fe.fac gr (S i).x == 0) = false := by rw [HFC.out]; simpa using h0
    go_enter Try.func31, Try.ntmps31
    go_wp2
    refine Drawn.wp_region_fast (Below.refl _ _) (by kernel_rfl) (by kernel_rfl) (by kernel_rfl) ?_
    (repeat (first | (refine Drawn.seq_skip (by rfl) ?_; (try simp only [Act.put, List.setIfInBounds_toArray, List.set_cons_zero, List.set_cons_succ])) | (refine Drawn.seq_call (o := ⟨_, .call ⟨.value _, _, _⟩, _, _, _, _⟩) (by rfl) (by intro w2 hS; go_simp; first | done | with_reducible rfl | exact ⟨rfl, rfl⟩) (by intro w2 hS; first | ((with_reducible refine (factor_any _ _ _ _ _ _ _ _ (HR.out.keep hS) Hi.out).mono ?_); rintro e w' ⟨rfl, rfl⟩; exact ⟨rfl, hS⟩)) ?_; (try simp only [Act.put, List.setIfInBounds_toArray, List.set_cons_zero, List.set_cons_succ])) | (refine Drawn.seq_value (by rfl) (by intro w2 hS; obtain ⟨hc, hf⟩ := bcell hS; go_simp; first | done | with_reducible rfl | exact ⟨rfl, rfl⟩) ?_; (try simp only [Act.put, List.setIfInBounds_toArray, List.set_cons_zero, List.set_cons_succ]))))
    try simp only [k0]
    (repeat (first | (refine Drawn.seq_skip (by rfl) ?_; (try simp only [Act.put, List.setIfInBounds_toArray, List.set_cons_zero, List.set_cons_succ])) | (refine Drawn.seq_call (o := ⟨_, .call ⟨.value _, _, _⟩, _, _, _, _⟩) (by rfl) (by intro w2 hS; go_simp; first | done | with_reducible rfl | exact ⟨rfl, rfl⟩) (by intro w2 hS; first | ((with_reducible refine (factor_any _ _ _ _ _ _ _ _ (HR.out.keep hS) Hi.out).mono ?_); rintro e w' ⟨rfl, rfl⟩; exact ⟨rfl, hS⟩)) ?_; (try simp only [Act.put, List.setIfInBounds_toArray, List.set_cons_zero, List.set_cons_succ])) | (refine Drawn.seq_value (by rfl) (by intro w2 hS; obtain ⟨hc, hf⟩ := bcell hS; go_simp; first | done | with_reducible rfl | exact ⟨rfl, rfl⟩) ?_; (try simp only [Act.put, List.setIfInBounds_toArray, List.set_cons_zero, List.set_cons_succ]))))
    refine Drawn.seq_end ?_; intro w2 hS
    go_wp2
    go_ret
    exact ⟨ret_bool (by rw [W1.out, W2.out]; simp [h0]), by (repeat (first | exact Below.refl _ _ | assumption | refine Below.drew ?_ | refine Below.drewN ?_ _ | refine Below.alloc' ?_ _ | refine Below.setCell ?_ (by first | (simp; done) | (simp; omega)) _ | refine Below.after2 ?_ (Nat.le_refl _) (by assumption)))⟩

/-- What counts of an item on the way. -/
def Sound (S : Nat → Fe.St) (n : Nat) : Prop := ∀ i, i < n → ((0 ≤ (S i).x.b ∧ (S i).x.b ≤ 1048576) ∧ 0 ≤ (S i).x.s ∧ (S i).x.s ≤ 1000) ∧ 0 ≤ (S i).z ∧ (S i).z ≤ 1048576

theorem left_bd {room : Int} {S : Nat → Fe.St} {n : Nat} (h : Sound S n) (k : Nat) (hk : k ≤ n) : room - 1048576 * k ≤ Fe.left room S k ∧ Fe.left room S k ≤ room := by
  induction k with
  | zero => simp [Fe.left]
  | succ k ih =>
    obtain ⟨h1, h2⟩ := ih (by omega)
    obtain ⟨⟨⟨b1, b2⟩, _⟩, z1, z2⟩ := h k (by omega)
    simp only [Fe.left]
    split <;> constructor <;> omega

set_option maxHeartbeats 4000000 in
theorem free_any (R I n : Nat) (room : Int) (gr : Bool) (S : Nat → Fe.St) (w : World) (h : RowW w R I n room gr S) (hs : Sound S n) (hn : n ≤ 64) (hr : 0 ≤ room ∧ room ≤ 67108864) :
    Calls Try.prog 33 #[.pointer (some ⟨R, 0, none⟩)] w fun e w' => e = .returned (.int .i64 (Fe.free gr room S n)) ∧ Below w.heap.size w w' := by
  have HR := Lib.hid h
  have HS := Lib.hid hs
  obtain ⟨l0, c0, c1, c2⟩ := h.cells
  clear h hs c2
  go_enter Try.func33, Try.ntmps33
  go_wp2
  clear c0 c1
  go_loopw [3, 15] (fun l i wr => ∃ k : Nat, k ≤ n ∧ i = .int .i64 k ∧ l = .int .i64 (Fe.left room S k) ∧ Below w.heap.size w wr) (fun _ i _ => n - (intOf i).toNat)
  case atStart => exact ⟨0, by omega, rfl, rfl, Below.refl _ _⟩
  case round =>
    obtain ⟨k, hk, rfl, rfl, hB⟩ := hrel
    obtain ⟨l0, c0, c1, c2⟩ := (HR.out.keep hB).cells
    by_cases hlt : k < n
    · obtain ⟨l1, d0, d1, d2, d3, d4, d5, d6, d7⟩ := (HR.out.keep hB).2.fields hlt
      obtain ⟨g1, g2⟩ := left_bd (room := room) HS.out k (by omega)
      obtain ⟨⟨⟨b1, b2⟩, _⟩, z1, z2⟩ := HS.out k hlt
      cases hf : (S k).f with
      | true =>
        have HL : Hid (Fe.left room S (k + 1) = Fe.left room S k - (S k).z) := Lib.hid (by simp [Fe.left, hf])
        rw [hf] at d7
        generalize Fe.left room S k = u at *
        generalize (S k).x.b = v0 at *
        generalize (S k).x.lo = v1 at *
        generalize (S k).x.hi = v2 at *
        generalize (S k).x.g = v3 at *
        generalize (S k).x.s = v4 at *
        generalize (S k).z = v5 at *
        generalize (S k).m = v6 at *
        go_wp2
        go_roundw
        case rel => exact ⟨k + 1, by omega, by go_num, by rw [HL.out], by (repeat (first | exact Below.refl _ _ | assumption | refine Below.drew ?_ | refine Below.drewN ?_ _ | refine Below.alloc' ?_ _ | refine Below.setCell ?_ (by first | (simp; done) | (simp; omega)) _ | refine Below.after2 ?_ (Nat.le_refl _) (by assumption)))⟩
        case measure => simp [intOf]; omega
      | false =>
        have HL : Hid (Fe.left room S (k + 1) = Fe.left room S k - (S k).x.b) := Lib.hid (by simp [Fe.left, hf])
        rw [hf] at d7
        generalize Fe.left room S k = u at *
        generalize (S k).x.b = v0 at *
        generalize (S k).x.lo = v1 at *
        generalize (S k).x.hi = v2 at *
        generalize (S k).x.g = v3 at *
        generalize (S k).x.s = v4 at *
        generalize (S k).z = v5 at *
        generalize (S k).m = v6 at *
        go_wp2
        go_roundw
        case rel => exact ⟨k + 1, by omega, by go_num, by rw [HL.out], by (repeat (first | exact Below.refl _ _ | assumption | refine Below.drew ?_ | refine Below.drewN ?_ _ | refine Below.alloc' ?_ _ | refine Below.setCell ?_ (by first | (simp; done) | (simp; omega)) _ | refine Below.after2 ?_ (Nat.le_refl _) (by assumption)))⟩
        case measure => simp [intOf]; omega
    · obtain rfl : k = n := by omega
      obtain ⟨g1, g2⟩ := left_bd (room := room) HS.out k (by omega)
      obtain ⟨q, hq, HQ⟩ : ∃ q, q = (if Fe.sg gr * Fe.left room S k < 0 then 0 else Fe.sg gr * Fe.left room S k) ∧ Fe.free gr room S k = q := ⟨_, rfl, rfl⟩
      replace HQ := Lib.hid HQ
      generalize Fe.left room S k = u at *
      cases gr
      · simp only [Fe.sg, Bool.false_eq_true, if_false] at *
        go_wp2
        all_goals
          go_ret
          exact ⟨ret_int (by rw [HQ.out, hq]; (repeat' split) <;> omega), hB⟩
      · simp only [Fe.sg, if_true] at *
        go_wp2
        all_goals
          go_ret
          exact ⟨ret_int (by rw [HQ.out, hq]; (repeat' split) <;> omega), hB⟩

end Go.Proofs.Ytefofdjkinbfgaa.Fix
