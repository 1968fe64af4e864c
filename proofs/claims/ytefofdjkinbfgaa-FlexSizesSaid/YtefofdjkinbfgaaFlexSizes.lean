/- The contract of Sizes of the layer flex: rounds, made by a jump back to a label, till all are frozen. -/
import Derived.Test.YtefofdjkinbfgaaFlexRowOf
import Derived.ScopeJumps
import Derived.WalkMore
namespace Go.Proofs.Ytefofdjkinbfgaa.Fix
open Go.ChangeShapes Go.WideShapes Go.ChangeAt Go.RowKit
set_option linter.unusedVariables false

/-- The sizes in the end. -/
def sizesOf (l : Nat → Fe.It) (n : Nat) (x : Int) : List Int := (List.range n).map fun i => (Fe.fin l n (Fe.to x 67108864) i).z
theorem sizesOf_length (l : Nat → Fe.It) (n : Nat) (x : Int) : (sizesOf l n x).length = n := by simp [sizesOf]

def SoundM (S : Nat → Fe.St) (n : Nat) : Prop := Sound S n ∧ ∀ i, i < n → -134217728 ≤ (S i).m ∧ (S i).m ≤ 134217728

theorem begun_sound (gr : Bool) (l : Nat → Fe.It) (n : Nat) : SoundM (Fe.begun gr l) n := by
  refine ⟨fun i _ => ?_, fun i _ => ⟨by show -134217728 ≤ (0 : Int); omega, by show (0 : Int) ≤ 134217728; omega⟩⟩
  obtain ⟨q1, q2, _, _, _, _, _, _, q3, q4⟩ := Fe.cnt_bd (l i)
  exact ⟨⟨⟨q1, q2⟩, q3, q4⟩, Fe.clamp_bd (l i) _⟩

theorem want_bd {gr : Bool} {room : Int} {S : Nat → Fe.St} {n i : Nat} (h : Sound S n) (hi : i < n) (hf : (S i).f = false) : -67108864 ≤ Fe.want gr (Fe.parts gr room S n) S i ∧ Fe.want gr (Fe.parts gr room S n) S i ≤ 68157440 := by
  have hp := Fe.pl_lt S hi hf
  obtain ⟨⟨⟨hb1, hb2⟩, _⟩, _⟩ := h i hi
  have hpv : 0 ≤ (Fe.parts gr room S n).getD (Fe.pl S i) 0 ∧ (Fe.parts gr room S n).getD (Fe.pl S i) 0 ≤ 67108864 := by
    unfold Fe.parts
    rw [Fe.share_get _ _ (by rw [Fe.ws_length]; exact hp)]
    exact Fe.part_bd _ _ (by rw [Fe.ws_length]; exact hp)
  unfold Fe.want
  have hq : -67108864 ≤ Fe.sg gr * (Fe.parts gr room S n).getD (Fe.pl S i) 0 ∧ Fe.sg gr * (Fe.parts gr room S n).getD (Fe.pl S i) 0 ≤ 67108864 := by cases gr <;> simp only [Fe.sg, Bool.false_eq_true, if_false, if_true] <;> omega
  omega

theorem shared_sound {gr : Bool} {room : Int} {S : Nat → Fe.St} {n : Nat} (h : SoundM S n) : SoundM (Fe.shared gr room n S) n := by
  constructor
  · intro i hi
    obtain ⟨h1, h2⟩ := h.1 i hi
    unfold Fe.shared Fe.sharedBy
    cases hf : (S i).f
    · simp only [Bool.false_eq_true, if_false]
      exact ⟨h1, Fe.clamp_bd _ _⟩
    · simp only [if_true]
      exact ⟨h1, h2⟩
  · intro i hi
    have h3 := h.2 i hi
    unfold Fe.shared Fe.sharedBy
    cases hf : (S i).f
    · simp only [Bool.false_eq_true, if_false]
      have := want_bd (gr := gr) (room := room) h.1 hi hf
      have := Fe.clamp_bd (S i).x (Fe.want gr (Fe.parts gr room S n) S i)
      omega
    · simp only [if_true]
      exact h3

theorem froze_sound {S : Nat → Fe.St} {n : Nat} (h : SoundM S n) : SoundM (Fe.froze n S) n := by
  constructor
  · intro i hi
    have h1 := h.1 i hi
    unfold Fe.froze
    cases hf : (S i).f <;> simp only [Bool.false_eq_true, if_false, if_true] <;> exact h1
  · intro i hi
    have h1 := h.2 i hi
    unfold Fe.froze
    cases hf : (S i).f <;> simp only [Bool.false_eq_true, if_false, if_true] <;> exact h1

theorem rounds_sound {gr : Bool} {room : Int} {S : Nat → Fe.St} {n : Nat} (h : SoundM S n) (k : Nat) : SoundM (Fe.rounds gr room n S k) n := by
  induction k with
  | zero => exact h
  | succ k ih => exact froze_sound (shared_sound ih)

set_option maxHeartbeats 4000000 in
theorem sizes_any (R I n : Nat) (room : Int) (gr : Bool) (S : Nat → Fe.St) (w : World) (h : RowW w R I n room gr S) (hn : n ≤ 64) :
    Calls Try.prog 26 #[.pointer (some ⟨R, 0, none⟩)] w fun e w' => (∃ b, e = .returned (.slice (some ⟨b, 0, none⟩) n n) ∧ w.heap.size ≤ b ∧ Ints w' (some ⟨b, 0, none⟩) ((List.range n).map fun i => (S i).z)) ∧ Below w.heap.size w w' := by
  obtain ⟨i0, hi0, hz0, hz1, hz2⟩ := info_parts intZero
  have HR := Lib.hid h
  obtain ⟨l0, c0, c1, c2⟩ := h.cells
  clear h c1 c2
  go_enter Try.func26, Try.ntmps26
  go_upto_region 2 with (at_make; refine wpList_make_row _ rfl _ _ 32 rfl 3 i0 (.int .i64 0) Try.underlying32 hi0 hz0 hz1 rfl .i64 .i64 n rfl rfl (by rw [hz2]; omega) (by omega) ?_)
  have hA0 : At (w.alloc (.cells (madeCells #[.int .i64 0] n) 3)) w.heap.size (.cells (stRow (fun i => (S i).z) n 0) 3) := by rw [← stRow_made]; exact At.new _ _
  have hB0 : Below w.heap.size w (w.alloc (.cells (madeCells #[.int .i64 0] n) 3)) := Below.alloc' (Below.refl _ _) _
  generalize (w.alloc (.cells (madeCells #[.int .i64 0] n) 3)) = W1 at *
  obtain ⟨l0', c0', -, -⟩ := (HR.out.keep hB0).cells
  go_wp2
  go_loopw [17] (fun i wr => ∃ k : Nat, k ≤ n ∧ i = .int .i64 k ∧ At wr w.heap.size (.cells (stRow (fun i => (S i).z) n k) 3) ∧ Below w.heap.size w wr) (fun i _ => n - (intOf i).toNat)
  case atStart => exact ⟨0, by omega, rfl, hA0, hB0⟩
  case round =>
    obtain ⟨k, hk, rfl, hA, hB⟩ := hrel
    by_cases hlt : k < n
    · obtain ⟨l1, d0, d1, d2, d3, d4, d5, d6, d7⟩ := (HR.out.keep hB).2.fields hlt
      have HZ : Hid ((fun i => (S i).z) k = (S k).z) := Lib.hid rfl
      have hz := hA.thaw k
      have hc0 := hA.cell k
      rw [stRow_get _ hlt] at hc0
      simp only [Nat.lt_irrefl, if_false] at hc0
      have hlb := hA.lt
      have hsz := hB.size
      have fin : ∀ (W5 : World), Below wr.heap.size wr W5 → At (W5.setCell ⟨w.heap.size, k, none⟩ (.int .i64 (S k).z)) w.heap.size (.cells (stRow (fun i => (S i).z) n (k + 1)) 3) ∧ Below w.heap.size w (W5.setCell ⟨w.heap.size, k, none⟩ (.int .i64 (S k).z)) := fun W5 hb =>
        ⟨by rw [← stRow_set _ hlt]; exact (hA.keep hb).set k _, Below.setCell (Below.trans hB (hb.mono (by omega))) (Nat.le_refl _) _⟩
      have FIN := Lib.hid fin
      clear fin
      generalize (S k).x.b = v0 at *
      generalize (S k).x.lo = v1 at *
      generalize (S k).x.hi = v2 at *
      generalize (S k).x.g = v3 at *
      generalize (S k).x.s = v4 at *
      generalize (S k).z = v5 at *
      generalize (S k).m = v6 at *
      generalize (S k).f = v7 at *
      go_wp2
      go_roundw
      case rel => exact ⟨k + 1, by omega, by go_num, (FIN.out wr (Below.refl _ _)).1.alloc _, Below.alloc' (FIN.out wr (Below.refl _ _)).2 _⟩
      case measure => simp [intOf]; omega
    · obtain rfl : k = n := by omega
      go_wp2
      refine bodyPost_ret (v := .slice (some ⟨w.heap.size, 0, none⟩) k k) (by simp [results, Try.results26, go_sem, *]; first | done | exact ⟨rfl, rfl⟩ | rfl) rfl ⟨⟨w.heap.size, rfl, Nat.le_refl _, ints_of_made _ k (by unfold maxLen; omega) hA⟩, hB⟩

/-- How many are not frozen, read off the memory. -/
def cntU (W : World) (I : Nat) : Nat → Nat
  | 0 => 0
  | k + 1 => cntU W I k + (match W.cell? ⟨I, k * 8 + 7, none⟩ with
    | some (.bool false) => 1
    | _ => 0)
def looseIn (W : World) (v : Value) : Nat :=
  match v with
  | .pointer (some p) => (match W.cell? ⟨p.block, 0, none⟩ with
    | some (.slice (some q) n _) => cntU W q.block n
    | _ => 0)
  | _ => 0

theorem looseIn_row {W : World} {R I n : Nat} {room : Int} {gr : Bool} {S : Nat → Fe.St} (h : RowW W R I n room gr S) : looseIn W (.pointer (some ⟨R, 0, none⟩)) = Fe.pl S n := by
  have c : ∀ k, k ≤ n → cntU W I k = Fe.pl S k := by
    intro k hk
    induction k with
    | zero => rfl
    | succ k ih =>
      have h7 : W.cell? ⟨I, k * 8 + 7, none⟩ = some (.bool (S k).f) := h.2.cell (show k < n by omega) 7 (by omega)
      simp only [cntU, Fe.pl, ih (by omega), h7]
      cases (S k).f <;> simp
  simp only [looseIn, h.cells.2.1]
  exact c n (Nat.le_refl _)

set_option maxRecDepth 100000 in
set_option maxHeartbeats 8000000 in
theorem xsizes_any (A : Option Addr) (l : Nat → Fe.It) (n c : Nat) (x : Int) (w : World) (hI : Items w A l n) (hn : n ≤ 64) :
    Calls Try.prog 15 #[.slice A n c, .int .i64 x] w fun e w' => (∃ b, e = .returned (.slice (some ⟨b, 0, none⟩) n n) ∧ w.heap.size ≤ b ∧ Ints w' (some ⟨b, 0, none⟩) (sizesOf l n x)) ∧ Below w.heap.size w w' := by
  obtain ⟨room, hroom⟩ : ∃ room, room = Fe.to x 67108864 := ⟨_, rfl⟩
  have r1 : 0 ≤ room := by rw [hroom]; exact Fe.to_ge (by omega)
  have r2 : room ≤ 67108864 := by rw [hroom]; exact Fe.to_le (by omega)
  have HRM := Lib.hid hroom
  clear hroom
  have HI := Lib.hid hI
  clear hI
  obtain ⟨gr, hgr⟩ : ∃ gr, gr = Fe.gro l n room := ⟨_, rfl⟩
  have HS : Hid (∀ k, SoundM (Fe.rounds gr room n (Fe.begun gr l) k) n) := Lib.hid (fun k => rounds_sound (begun_sound gr l n) k)
  have HF : Hid (∀ k, k ≤ n → Fe.pl (Fe.rounds gr room n (Fe.begun gr l) k) n = 0 → (List.range n).map (fun i => (Fe.rounds gr room n (Fe.begun gr l) k i).z) = sizesOf l n x) := Lib.hid (by
    intro k hk h0
    unfold sizesOf Fe.fin
    rw [← HRM.out, ← hgr]
    apply List.map_congr_left
    intro i hi
    have hi : i < n := by simpa using hi
    rw [Fe.rounds_still (Fe.pl_none h0 i hi) n hk])
  have HG := Lib.hid hgr
  clear hgr
  go_enter Try.func15, Try.ntmps15
  go_wp2
  refine wp_scope_jumps 0 (fun a' w' => ∃ (R I k : Nat) (u8 u13 u14 u15 u16 u17 u18 u19 u20 : Value), a' = { tmps := #[.slice A n c, .int .i64 x, undef, undef, .slice none 0 0, .pointer (some ⟨R, 0, none⟩), .slice A n c, .int .i64 n, u8, .slice A n c, .int .i64 x, .int .i64 room, .pointer (some ⟨R, 0, none⟩), u13, u14, u15, u16, u17, u18, u19, u20], defers := [] } ∧
      w.heap.size ≤ I ∧ RowW w' R I n room gr (Fe.rounds gr room n (Fe.begun gr l) k) ∧ Below w.heap.size w w' ∧ k + Fe.pl (Fe.rounds gr room n (Fe.begun gr l) k) n ≤ n) (fun a' w' => looseIn w' (a'.tmps.getD 5 undef)) rfl ?_ ?_
  · go_wp2_with (first | (go_at_call 20; refine (fto_any _ _ _ (by omega)).mono ?_; rintro e w' ⟨rfl, rfl⟩; rw [← HRM.out]) | (go_at_call 22; refine (rowOf_any A l n c room _ HI.out hn ⟨r1, r2⟩).mono ?_; rintro e w1 ⟨⟨R, I, rfl, hIw, hRW⟩, hB⟩; rw [← HG.out] at hRW))
    go_step3
    replace hRW : RowW w1 R I n room gr (Fe.rounds gr room n (Fe.begun gr l) 0) := hRW
    have hS := HS.out 0
    by_cases hp : 0 < Fe.pl (Fe.rounds gr room n (Fe.begun gr l) 0) n
    · go_wp2_with (first | (go_at_call 23; refine (any_any R I n room gr _ _ hRW hn).mono ?_; rintro e w2 ⟨rfl, hb2⟩; rw [decide_eq_true hp]; replace hRW := hRW.keep hb2; replace hB := Below.after2 hB (Nat.le_refl _) hb2; clear hb2) | (go_at_call 24; refine (mshare_any w.heap.size R I n room gr _ _ hRW hn ⟨hIw, hB.size⟩ hS.1 ⟨r1, r2⟩).mono ?_; rintro e w3 ⟨⟨v3, rfl⟩, hRW3, hb3⟩; replace hB := Below.trans hB hb3; clear hb3) | (go_at_call 25; refine (freeze_any w.heap.size R I n room gr _ _ hRW3 hn ⟨hIw, hB.size⟩ (shared_sound hS).2).mono ?_; rintro e w4 ⟨⟨v4, rfl⟩, hRW4, hb4⟩; replace hB := Below.trans hB hb4; clear hb4))
      go_step3
      have hless := Fe.round_less gr room hp
      refine ⟨rfl, R, I, 1, _, _, _, _, _, _, _, _, _, rfl, hIw, hRW4, hB, ?_⟩
      have h1 := Fe.pl_le (Fe.rounds gr room n (Fe.begun gr l) 0) n
      change 1 + Fe.pl (Fe.round gr room n (Fe.rounds gr room n (Fe.begun gr l) 0)) n ≤ n
      omega
    · have h0 : Fe.pl (Fe.rounds gr room n (Fe.begun gr l) 0) n = 0 := by omega
      go_wp2_with (first | (go_at_call 23; refine (any_any R I n room gr _ _ hRW hn).mono ?_; rintro e w2 ⟨rfl, hb2⟩; rw [decide_eq_false hp]; replace hRW := hRW.keep hb2; replace hB := Below.after2 hB (Nat.le_refl _) hb2; clear hb2) | (go_at_call 26; refine (sizes_any R I n room gr _ _ hRW hn).mono ?_; rintro e w3 ⟨⟨b, rfl, hbb, hIb⟩, hb3⟩; rw [HF.out 0 (by omega) h0] at hIb; have hsz := hB.size; replace hB := Below.after2 hB (Nat.le_refl _) hb3; clear hb3))
      try simp only [Exit.jump]
      refine bodyPost_ret (v := .slice (some ⟨b, 0, none⟩) n n) (by simp [results, Try.results15, go_sem, *]; first | done | exact ⟨rfl, rfl⟩ | rfl) rfl ⟨⟨b, rfl, by omega, hIb⟩, hB⟩
  · rintro a' w' ⟨R, I, k, u8, u13, u14, u15, u16, u17, u18, u19, u20, rfl, hIw, hRW, hB, hk⟩
    have HLO := Lib.hid (looseIn_row hRW)
    have hS := HS.out k
    by_cases hp : 0 < Fe.pl (Fe.rounds gr room n (Fe.begun gr l) k) n
    · go_wp2_with (first | (go_at_call 23; refine (any_any R I n room gr _ _ hRW hn).mono ?_; rintro e w2 ⟨rfl, hb2⟩; rw [decide_eq_true hp]; replace hRW := hRW.keep hb2; replace hB := Below.after2 hB (Nat.le_refl _) hb2; clear hb2) | (go_at_call 24; refine (mshare_any w.heap.size R I n room gr _ _ hRW hn ⟨hIw, hB.size⟩ hS.1 ⟨r1, r2⟩).mono ?_; rintro e w3 ⟨⟨v3, rfl⟩, hRW3, hb3⟩; replace hB := Below.trans hB hb3; clear hb3) | (go_at_call 25; refine (freeze_any w.heap.size R I n room gr _ _ hRW3 hn ⟨hIw, hB.size⟩ (shared_sound hS).2).mono ?_; rintro e w4 ⟨⟨v4, rfl⟩, hRW4, hb4⟩; replace hB := Below.trans hB hb4; clear hb4))
      go_step3
      have hless := Fe.round_less gr room hp
      refine ⟨rfl, ⟨R, I, k + 1, _, _, _, _, _, _, _, _, _, rfl, hIw, hRW4, hB, ?_⟩, ?_⟩
      · change k + 1 + Fe.pl (Fe.round gr room n (Fe.rounds gr room n (Fe.begun gr l) k)) n ≤ n
        omega
      · show looseIn _ (.pointer (some ⟨R, 0, none⟩)) < looseIn _ (.pointer (some ⟨R, 0, none⟩))
        rw [looseIn_row hRW4, HLO.out]
        exact hless
    · have h0 : Fe.pl (Fe.rounds gr room n (Fe.begun gr l) k) n = 0 := by omega
      go_wp2_with (first | (go_at_call 23; refine (any_any R I n room gr _ _ hRW hn).mono ?_; rintro e w2 ⟨rfl, hb2⟩; rw [decide_eq_false hp]; replace hRW := hRW.keep hb2; replace hB := Below.after2 hB (Nat.le_refl _) hb2; clear hb2) | (go_at_call 26; refine (sizes_any R I n room gr _ _ hRW hn).mono ?_; rintro e w3 ⟨⟨b, rfl, hbb, hIb⟩, hb3⟩; rw [HF.out k (by omega) h0] at hIb; have hsz := hB.size; replace hB := Below.after2 hB (Nat.le_refl _) hb3; clear hb3))
      try simp only [Exit.jump]
      refine bodyPost_ret (v := .slice (some ⟨b, 0, none⟩) n n) (by simp [results, Try.results15, go_sem, *]; first | done | exact ⟨rfl, rfl⟩ | rfl) rfl ⟨⟨b, rfl, by omega, hIb⟩, hB⟩

/-- Of more than 64 there is nothing. -/
theorem xsizes_none (A : Option Addr) (n c : Nat) (x : Int) (w : World) (hn : 64 < n) : Calls Try.prog 15 #[.slice A n c, .int .i64 x] w fun e w' => e = .returned (.slice none 0 0) ∧ w = w' := by
  go_enter Try.func15, Try.ntmps15
  go_wp2
  go_step3
  go_wp2
  rw [Exit.noGoto_ret]
  refine bodyPost_ret (v := .slice none 0 0) (by simp [results, Try.results15, go_sem, *]; first | done | exact ⟨rfl, rfl⟩ | rfl) rfl ⟨rfl, rfl⟩

end Go.Proofs.Ytefofdjkinbfgaa.Fix
