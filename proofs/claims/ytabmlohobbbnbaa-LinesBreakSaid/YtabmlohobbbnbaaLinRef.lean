/- The contracts of the document's own Break and Order of the layer lines, and of the comparison of two rows of lines. -/
import Derived.Test.YtabmlohobbbnbaaRowL
import Derived.Test.YtabmlohobbbnbaaLinMoreMath
namespace Go.Proofs.Ytabmlohobbbnbaa.Fix
open Go.ChangeShapes Go.WideShapes Go.ChangeAt Go.RowKit
set_option linter.unusedVariables false

theorem owns_after {W w : World} {base : Nat} {e : TypeId} {size : Nat} {v : Value} {k : Nat} {xs : List Value} (h : W.ownsRow base e size v k xs) (hb : Below W.heap.size W w) : w.ownsRow base e size v k xs := by
  obtain ⟨h1, h2⟩ := h
  refine ⟨h1, ?_⟩
  rcases h2 with h2 | ⟨g, cap, cur, hv, hg, hh, r⟩
  · exact .inl h2
  · exact .inr ⟨g, cap, cur, hv, hg, (hb.block g (Array.getElem?_eq_some_iff.1 hh).1).trans hh, r⟩

/-- What an append of one line to a row of one's own comes to. -/
theorem append_pair {w0 W : World} {base : Nat} {v : Value} {k : Nat} {xs : List Value} (x y : Int) (hown : W.ownsRow base 31 2 v k xs) (hB : Below base w0 W) (hbase : base ≤ W.heap.size) (hk : k ≤ 10000) :
    ∃ v' w', (Builtin.append_ #[25, 25] 25 #[v, .slice (some ⟨W.heap.size, 0, none⟩) 1 1]).run Try.prog (W.alloc (.cells #[.int .i64 x, .int .i64 y] 31)) = .ok v' w' ∧ w'.ownsRow base 31 2 v' (k + 1) (xs ++ [.int .i64 x, .int .i64 y]) ∧ Below base w0 w' ∧ base ≤ w'.heap.size := by
  obtain ⟨i0, hi0, hz0, hz1, hz2⟩ := info_parts pairInfo
  have h1 := hown.alloc (.cells #[.int .i64 x, .int .i64 y] 31)
  obtain ⟨v', w', hr, ho, hg, _, _⟩ := run_append_own_at (P := Try.prog) (W.alloc (.cells #[.int .i64 x, .int .i64 y] 31)) base 25 25 31 i0 (.agg #[.int .i64 0, .int .i64 0]) 2 16 Try.underlying25 hi0 hz0 hz1 hz2 rfl (by decide) _ k _ h1 ⟨W.heap.size, 0, none⟩ 1 1 [.int .i64 x, .int .i64 y] rfl
    (cell_two_new _ _ _ _) (by intro u hu; simp at hu; rcases hu with rfl | rfl <;> rfl) (by simp only [maxLen]; omega) (by omega) (by simp; omega)
  have hbA : base ≤ (W.alloc (.cells #[.int .i64 x, .int .i64 y] 31)).heap.size := by simp; omega
  refine ⟨v', w', hr, ho, (hB.alloc hbase _).grown hg hbA (fun g hgg => (h1.lt g hgg).1), ?_⟩
  exact Nat.le_trans hbA hg.size

set_option maxHeartbeats 4000000 in
theorem same_any (A B : Option Addr) (l : List (Nat × Nat)) (n d1 d2 : Nat) (w : World) (hA : Pairs w A l) (hB : Pairs w B l) (hn : l.length = n) (hm : n ≤ 10000) : Calls Try.prog 10 #[.slice A n d1, .slice B n d2] w fun e w' => e = .returned (.bool true) ∧ Below w.heap.size w w' := by
  have q := run_neq_two
  have HA := Lib.hid hA; clear hA
  have HB := Lib.hid hB; clear hB
  have HN := Lib.hid hn; clear hn
  go_enter Try.func10, Try.ntmps10
  go_wp2
  go_loopw [5] (fun i wr => ∃ k : Nat, k ≤ n ∧ i = .int .i64 k ∧ Below w.heap.size w wr) (fun i _ => n - (intOf i).toNat)
  case atStart => exact ⟨0, by omega, rfl, Below.refl _ _⟩
  case round =>
    obtain ⟨k, hk, rfl, hB⟩ := hrel
    by_cases hlt : k < n
    · have hltz : (k : Int) < (n : Int) := by omega
      obtain ⟨b, hA1, lb, hc⟩ := (HA.out.after hB) (by rw [HN.out]; omega)
      obtain ⟨c1, c2⟩ := hc k (by rw [HN.out]; exact hlt)
      obtain ⟨g, hA2, lg, hc2⟩ := (HB.out.after hB) (by rw [HN.out]; omega)
      obtain ⟨c3, c4⟩ := hc2 k (by rw [HN.out]; exact hlt)
      generalize (l[k]'(by rw [HN.out]; exact hlt)).1 = x at *
      generalize (l[k]'(by rw [HN.out]; exact hlt)).2 = y at *
      subst hA1 hA2
      clear hc hc2
      go_upto_region 6 with (fail)
      refine Drawn.wp_region_from (Below.refl _ _) (by kernel_rfl) (by kernel_rfl) (by kernel_rfl) ?_
      (repeat (first | (refine Drawn.seq_skip (by rfl) ?_; (try simp only [Act.put, List.setIfInBounds_toArray, List.set_cons_zero, List.set_cons_succ])) | (refine Drawn.seq_call (o := ⟨_, .call ⟨.value _, _, _⟩, _, _, _, _⟩) (by rfl) (by intro w2 hS; go_simp; first | done | with_reducible rfl | exact ⟨rfl, rfl⟩) (by intro w2 hS; first | ((with_reducible refine (nan_any _ _).mono ?_); rintro e w' ⟨rfl, rfl⟩; exact ⟨rfl, hS⟩)) ?_; (try simp only [Act.put, List.setIfInBounds_toArray, List.set_cons_zero, List.set_cons_succ])) | (refine Drawn.seq_value (by rfl) (by intro w2 hS; obtain ⟨hc, hf⟩ := bcell hS; go_simp; first | done | with_reducible rfl | exact ⟨rfl, rfl⟩) ?_; (try simp only [Act.put, List.setIfInBounds_toArray, List.set_cons_zero, List.set_cons_succ]))))
      refine Drawn.seq_end ?_; intro w2 hS
      go_wp2
      go_roundw
      case rel => exact ⟨k + 1, by omega, by go_num, Below.after2 hB (Nat.le_refl _) hS⟩
      case measure => simp [intOf]; omega
    · have hltz : ¬ (k : Int) < (n : Int) := by omega
      go_wp2
      go_ret
      exact ⟨rfl, hB⟩

-- BREAK
set_option maxHeartbeats 4000000 in
theorem rbreak_plain (A : Option Addr) (l : List Int) (n c : Nat) (room gap : Int) (w : World) (hI : Ints w A l) (hl : l.length = n) (hn : n ≤ 1000) (hc : n ≤ c) :
    Calls Try.prog 12 #[.slice A n c, .int .i64 room, .int .i64 gap, .bool false] w fun e w' => (∃ A' c', e = .returned (.slice A' (Li.brk room gap false l).length c') ∧ Pairs w' A' (Li.brk room gap false l)) ∧ Below w.heap.size w w' := by
  have HI := Lib.hid hI
  have HL := Lib.hid hl
  clear hI hl
  obtain ⟨L, hL⟩ : ∃ L, Li.brk room gap false l = L := ⟨_, rfl⟩
  have HBR := Lib.hid hL
  have nL : L.length ≤ 1000 := by
    have := Li.brk_length room gap false l
    rw [hL, HL.out] at this; omega
  clear hL
  go_enter Try.func12, Try.ntmps12
  go_wp2
  go_loopw [9, 10, 11] (fun v vp _ wr => ∃ (p : Nat) (pre : List (Nat × Nat)), p ≤ n ∧ vp = .int .i64 p ∧ pre.length ≤ 1000 ∧ wr.ownsRow w.heap.size 31 2 v pre.length ((Li.flat pre).map (Value.int .i64)) ∧ Below w.heap.size w wr ∧ Hid (pre ++ Li.tail room gap false l p = L)) (fun _ vp _ _ => n - (intOf vp).toNat)
  case atStart => exact ⟨0, [], by omega, rfl, by simp, World.ownsRow_nil _ _ _ _, Below.refl _ _, Lib.hid (by rw [← HBR.out]; rfl)⟩
  case round =>
    obtain ⟨p, pre, hp, rfl, hpre, hown, hB, HT⟩ := hrel
    by_cases hlt : p < n
    · have hltz : (p : Int) < (n : Int) := by omega
      have hpl : pre.length < 1000 := by
        have h := HT.out
        rw [Li.tail_step _ _ _ _ (show p < l.length by rw [HL.out]; exact hlt)] at h
        have h2 := congrArg List.length h
        rw [List.length_append, List.length_cons] at h2
        omega
      obtain ⟨s1, s11, s12⟩ : ∃ s1, s1 ≤ p + 1 ∧ p + 1 ≤ s1 := ⟨p + 1, by omega, by omega⟩
      have w1 : IntKind.i64.wrap ((p : Int) + 1) = (s1 : Int) := by rw [IntWalk.i64_in _ (by omega)]; omega
      have HIR := Lib.hid (HI.out.after hB)
      obtain ⟨b0, o0, hA0, _, _⟩ := HIR.out.at_ (k := p) (by rw [HL.out]; exact hlt)
      subst hA0
      have HOW := Lib.hid hown
      have HBW := Lib.hid hB
      clear hown hB
      go_wp2
      go_loopw [11] (fun vt wq => ∃ t : Nat, p + 1 ≤ t ∧ t ≤ n ∧ vt = .int .i64 t ∧ wr = wq ∧ Hid (∀ j, 1 ≤ j → j < t - p → Li.goes room gap false (l.drop p) j = true)) (fun vt _ => n - (intOf vt).toNat)
      case atStart => exact ⟨s1, by omega, by omega, rfl, rfl, Lib.hid (fun j j1 j2 => by omega)⟩
      case round =>
        obtain ⟨t, tp, tn, rfl, rfl, HG⟩ := hrel
        obtain ⟨q, q1, q2⟩ : ∃ q, q + p ≤ t ∧ t ≤ q + p := ⟨t - p, by omega, by omega⟩
        have w2 : IntKind.i64.wrap ((t : Int) - (p : Int)) = (q : Int) := by rw [IntWalk.i64_in _ (by omega)]; omega
        obtain ⟨t1, t11, t12⟩ : ∃ t1, t1 ≤ t + 1 ∧ t + 1 ≤ t1 := ⟨t + 1, by omega, by omega⟩
        have w3 : IntKind.i64.wrap ((t : Int) + 1) = (t1 : Int) := by rw [IntWalk.i64_in _ (by omega)]; omega
        have HQ : Hid (t - p = q) := Lib.hid (by omega)
        by_cases x1 : t < n
        · have x1z : (t : Int) < (n : Int) := by omega
          have x1d : decide ((t : Int) < (n : Int)) = true := decide_eq_true x1z
          by_cases x2 : q < 64
          · have x2z : (q : Int) < 64 := by omega
            have x2d : decide ((q : Int) < 64) = true := decide_eq_true x2z
            have hgo : Li.goes room gap false (l.drop p) q = true := Li.goes_iff.2 ⟨by rw [List.length_drop, HL.out]; omega, x2, fun e => by cases e⟩
            go_wp2
            go_roundw
            case rel => exact ⟨t1, by omega, by omega, by go_num, trivial, Lib.hid (fun j j1 j2 => by
              rcases Nat.lt_or_ge j q with h | h
              · exact HG.out j j1 (by omega)
              · obtain rfl : j = q := by omega
                exact hgo)⟩
            case measure => simp [intOf]; omega
          · have x2z : ¬ (q : Int) < 64 := by omega
            have x2d : decide ((q : Int) < 64) = false := decide_eq_false x2z
            have hno : Li.goes room gap false (l.drop p) q = false := by
              cases h : Li.goes room gap false (l.drop p) q with
              | false => rfl
              | true => have := Li.goes_iff.1 h; rw [List.length_drop, HL.out] at this; omega
            have hst : Li.stop room gap false l p = t := by
              have h := Li.IsCnt.eq (room := room) (gap := gap) (wrap := false) (l := l.drop p) (n := q) ⟨by omega, fun j j1 j2 => HG.out j j1 (by omega), hno⟩
              unfold Li.stop; rw [h]; omega
            have HT2 := Lib.hid (Li.tail_step room gap false l (at_ := p) (by rw [HL.out]; exact hlt))
            obtain ⟨v', w', hrun, hown2, hB2, hb2⟩ := append_pair (p : Int) (t : Int) HOW.out HBW.out HBW.out.size (by omega)
            have HRUN := Lib.hid hrun
            have HST := Lib.hid hst
            clear hrun hst hno
            go_wp2_with (first | (at_builtin; refine wpList_append_run (by rfl) _ _ 25 rfl rfl rfl HRUN.out ?_))
            go_roundw
            case rel => exact ⟨t, pre ++ [(p, t)], tn, rfl, by simp; omega, by rw [Li.flat_snoc, List.map_append, List.length_append]; exact hown2, hB2, Lib.hid (by
              rw [← HT.out, HT2.out, HST.out, List.append_assoc]; rfl)⟩
            case measure => simp [intOf]; omega
        · have x1z : ¬ (t : Int) < (n : Int) := by omega
          have x1d : decide ((t : Int) < (n : Int)) = false := decide_eq_false x1z
          have hno : Li.goes room gap false (l.drop p) q = false := by
            cases h : Li.goes room gap false (l.drop p) q with
            | false => rfl
            | true => have := Li.goes_iff.1 h; rw [List.length_drop, HL.out] at this; omega
          have hst : Li.stop room gap false l p = t := by
            have h := Li.IsCnt.eq (room := room) (gap := gap) (wrap := false) (l := l.drop p) (n := q) ⟨by omega, fun j j1 j2 => HG.out j j1 (by omega), hno⟩
            unfold Li.stop; rw [h]; omega
          have HT2 := Lib.hid (Li.tail_step room gap false l (at_ := p) (by rw [HL.out]; exact hlt))
          obtain ⟨v', w', hrun, hown2, hB2, hb2⟩ := append_pair (p : Int) (t : Int) HOW.out HBW.out HBW.out.size (by omega)
          have HRUN := Lib.hid hrun
          have HST := Lib.hid hst
          clear hrun hst hno
          go_wp2_with (first | (at_builtin; refine wpList_append_run (by rfl) _ _ 25 rfl rfl rfl HRUN.out ?_))
          go_roundw
          case rel => exact ⟨t, pre ++ [(p, t)], tn, rfl, by simp; omega, by rw [Li.flat_snoc, List.map_append, List.length_append]; exact hown2, hB2, Lib.hid (by
            rw [← HT.out, HT2.out, HST.out, List.append_assoc]; rfl)⟩
          case measure => simp [intOf]; omega
    · have hltz : ¬ (p : Int) < (n : Int) := by omega
      have he : pre = L := by rw [← HT.out, Li.tail_end _ _ _ _ (by rw [HL.out]; omega), List.append_nil]
      subst he
      obtain ⟨A', c', rfl, hP⟩ := pairs_of_own hown
      go_wp2
      go_ret
      exact ⟨⟨A', ⟨c', by rw [HBR.out]; first | done | rfl⟩, by rw [HBR.out]; exact hP⟩, hB⟩

-- BREAK
set_option maxHeartbeats 4000000 in
theorem rbreak_wraps (A : Option Addr) (l : List Int) (n c : Nat) (room gap : Int) (w : World) (hI : Ints w A l) (hl : l.length = n) (hn : n ≤ 1000) (hc : n ≤ c) :
    Calls Try.prog 12 #[.slice A n c, .int .i64 room, .int .i64 gap, .bool true] w fun e w' => (∃ A' c', e = .returned (.slice A' (Li.brk room gap true l).length c') ∧ Pairs w' A' (Li.brk room gap true l)) ∧ Below w.heap.size w w' := by
  have HI := Lib.hid hI
  have HL := Lib.hid hl
  clear hI hl
  obtain ⟨L, hL⟩ : ∃ L, Li.brk room gap true l = L := ⟨_, rfl⟩
  have HBR := Lib.hid hL
  have nL : L.length ≤ 1000 := by
    have := Li.brk_length room gap true l
    rw [hL, HL.out] at this; omega
  clear hL
  go_enter Try.func12, Try.ntmps12
  go_wp2
  go_loopw [9, 10, 11] (fun v vp _ wr => ∃ (p : Nat) (pre : List (Nat × Nat)), p ≤ n ∧ vp = .int .i64 p ∧ pre.length ≤ 1000 ∧ wr.ownsRow w.heap.size 31 2 v pre.length ((Li.flat pre).map (Value.int .i64)) ∧ Below w.heap.size w wr ∧ Hid (pre ++ Li.tail room gap true l p = L)) (fun _ vp _ _ => n - (intOf vp).toNat)
  case atStart => exact ⟨0, [], by omega, rfl, by simp, World.ownsRow_nil _ _ _ _, Below.refl _ _, Lib.hid (by rw [← HBR.out]; rfl)⟩
  case round =>
    obtain ⟨p, pre, hp, rfl, hpre, hown, hB, HT⟩ := hrel
    by_cases hlt : p < n
    · have hltz : (p : Int) < (n : Int) := by omega
      have hpl : pre.length < 1000 := by
        have h := HT.out
        rw [Li.tail_step _ _ _ _ (show p < l.length by rw [HL.out]; exact hlt)] at h
        have h2 := congrArg List.length h
        rw [List.length_append, List.length_cons] at h2
        omega
      obtain ⟨s1, s11, s12⟩ : ∃ s1, s1 ≤ p + 1 ∧ p + 1 ≤ s1 := ⟨p + 1, by omega, by omega⟩
      have w1 : IntKind.i64.wrap ((p : Int) + 1) = (s1 : Int) := by rw [IntWalk.i64_in _ (by omega)]; omega
      have HIR := Lib.hid (HI.out.after hB)
      obtain ⟨b0, o0, hA0, _, _⟩ := HIR.out.at_ (k := p) (by rw [HL.out]; exact hlt)
      subst hA0
      have HOW := Lib.hid hown
      have HBW := Lib.hid hB
      clear hown hB
      go_wp2
      go_loopw [11] (fun vt wq => ∃ t : Nat, p + 1 ≤ t ∧ t ≤ n ∧ vt = .int .i64 t ∧ wr = wq ∧ Hid (∀ j, 1 ≤ j → j < t - p → Li.goes room gap true (l.drop p) j = true)) (fun vt _ => n - (intOf vt).toNat)
      case atStart => exact ⟨s1, by omega, by omega, rfl, rfl, Lib.hid (fun j j1 j2 => by omega)⟩
      case round =>
        obtain ⟨t, tp, tn, rfl, rfl, HG⟩ := hrel
        obtain ⟨q, q1, q2⟩ : ∃ q, q + p ≤ t ∧ t ≤ q + p := ⟨t - p, by omega, by omega⟩
        have w2 : IntKind.i64.wrap ((t : Int) - (p : Int)) = (q : Int) := by rw [IntWalk.i64_in _ (by omega)]; omega
        obtain ⟨t1, t11, t12⟩ : ∃ t1, t1 ≤ t + 1 ∧ t + 1 ≤ t1 := ⟨t + 1, by omega, by omega⟩
        have w3 : IntKind.i64.wrap ((t : Int) + 1) = (t1 : Int) := by rw [IntWalk.i64_in _ (by omega)]; omega
        have HQ : Hid (t - p = q) := Lib.hid (by omega)
        by_cases x1 : t < n
        · have x1z : (t : Int) < (n : Int) := by omega
          have x1d : decide ((t : Int) < (n : Int)) = true := decide_eq_true x1z
          by_cases x2 : q < 64
          · have x2z : (q : Int) < 64 := by omega
            have x2d : decide ((q : Int) < 64) = true := decide_eq_true x2z
            have hcp : ¬ c = p := by omega
            have pt1z : (p : Int) ≤ (t1 : Int) := by omega
            have t1cz : (t1 : Int) ≤ (c : Int) := by omega
            have hmap : (some (⟨b0, o0, none⟩ : Addr)).map (·.add (p * 1)) = some ⟨b0, o0 + p, none⟩ := by simp [addr_add]
            have I2 := HIR.out.mid p t1 c (by omega) (by rw [HL.out]; omega) (by rw [HL.out]; exact hc)
            rw [show t1 - p = q + 1 by omega, if_neg hcp, hmap] at I2
            have HI4 := Lib.hid I2
            have HL4 : Hid (((l.drop p).take (q + 1)).length = t1 - p) := Lib.hid (by rw [List.length_take, List.length_drop, HL.out]; omega)
            clear I2 hmap
            obtain ⟨y, hy2⟩ : ∃ y, Li.long gap ((l.drop p).take (q + 1)) = y := ⟨_, rfl⟩
            have HY := Lib.hid hy2
            clear hy2
            by_cases hy : y ≤ room
            · have hgo : Li.goes room gap true (l.drop p) q = true := Li.goes_iff.2 ⟨by rw [List.length_drop, HL.out]; omega, x2, fun _ => by rw [HY.out]; exact hy⟩
              have hyd : decide (y ≤ room) = true := decide_eq_true hy
              go_wp2_with (go_at_call 14; with_reducible refine (rlong_any (some ⟨b0, o0 + p, none⟩) ((l.drop p).take (q + 1)) (t1 - p) (c - p) gap _ HI4.out HL4.out (by omega)).mono ?_; rw [HY.out]; rintro e w' ⟨rfl, rfl⟩)
              go_roundw
              case rel => exact ⟨t1, by omega, by omega, by go_num, trivial, Lib.hid (fun j j1 j2 => by
                rcases Nat.lt_or_ge j q with h | h
                · exact HG.out j j1 (by omega)
                · obtain rfl : j = q := by omega
                  exact hgo)⟩
              case measure => simp [intOf]; omega
            · have hno : Li.goes room gap true (l.drop p) q = false := by
                cases h : Li.goes room gap true (l.drop p) q with
                | false => rfl
                | true => have := (Li.goes_iff.1 h).2.2 rfl; rw [HY.out] at this; omega
              have hyd : decide (y ≤ room) = false := decide_eq_false hy
              have hst : Li.stop room gap true l p = t := by
                have h := Li.IsCnt.eq (room := room) (gap := gap) (wrap := true) (l := l.drop p) (n := q) ⟨by omega, fun j j1 j2 => HG.out j j1 (by omega), hno⟩
                unfold Li.stop; rw [h]; omega
              have HT2 := Lib.hid (Li.tail_step room gap true l (at_ := p) (by rw [HL.out]; exact hlt))
              obtain ⟨v', w', hrun, hown2, hB2, hb2⟩ := append_pair (p : Int) (t : Int) HOW.out HBW.out HBW.out.size (by omega)
              have HRUN := Lib.hid hrun
              have HST := Lib.hid hst
              clear hrun hst hno
              go_upto_region 7 with (go_at_call 14; with_reducible refine (rlong_any (some ⟨b0, o0 + p, none⟩) ((l.drop p).take (q + 1)) (t1 - p) (c - p) gap _ HI4.out HL4.out (by omega)).mono ?_; rw [HY.out]; rintro e w' ⟨rfl, rfl⟩)
              go_wp2_with (first | (at_builtin; refine wpList_append_run (by rfl) _ _ 25 rfl rfl rfl HRUN.out ?_))
              go_roundw
              case rel => exact ⟨t, pre ++ [(p, t)], tn, rfl, by simp; omega, by rw [Li.flat_snoc, List.map_append, List.length_append]; exact hown2, hB2, Lib.hid (by
                rw [← HT.out, HT2.out, HST.out, List.append_assoc]; rfl)⟩
              case measure => simp [intOf]; omega
          · have x2z : ¬ (q : Int) < 64 := by omega
            have x2d : decide ((q : Int) < 64) = false := decide_eq_false x2z
            have hno : Li.goes room gap true (l.drop p) q = false := by
              cases h : Li.goes room gap true (l.drop p) q with
              | false => rfl
              | true => have := Li.goes_iff.1 h; rw [List.length_drop, HL.out] at this; omega
            have hst : Li.stop room gap true l p = t := by
              have h := Li.IsCnt.eq (room := room) (gap := gap) (wrap := true) (l := l.drop p) (n := q) ⟨by omega, fun j j1 j2 => HG.out j j1 (by omega), hno⟩
              unfold Li.stop; rw [h]; omega
            have HT2 := Lib.hid (Li.tail_step room gap true l (at_ := p) (by rw [HL.out]; exact hlt))
            obtain ⟨v', w', hrun, hown2, hB2, hb2⟩ := append_pair (p : Int) (t : Int) HOW.out HBW.out HBW.out.size (by omega)
            have HRUN := Lib.hid hrun
            have HST := Lib.hid hst
            clear hrun hst hno
            go_wp2_with (first | (at_builtin; refine wpList_append_run (by rfl) _ _ 25 rfl rfl rfl HRUN.out ?_))
            go_roundw
            case rel => exact ⟨t, pre ++ [(p, t)], tn, rfl, by simp; omega, by rw [Li.flat_snoc, List.map_append, List.length_append]; exact hown2, hB2, Lib.hid (by
              rw [← HT.out, HT2.out, HST.out, List.append_assoc]; rfl)⟩
            case measure => simp [intOf]; omega
        · have x1z : ¬ (t : Int) < (n : Int) := by omega
          have x1d : decide ((t : Int) < (n : Int)) = false := decide_eq_false x1z
          have hno : Li.goes room gap true (l.drop p) q = false := by
            cases h : Li.goes room gap true (l.drop p) q with
            | false => rfl
            | true => have := Li.goes_iff.1 h; rw [List.length_drop, HL.out] at this; omega
          have hst : Li.stop room gap true l p = t := by
            have h := Li.IsCnt.eq (room := room) (gap := gap) (wrap := true) (l := l.drop p) (n := q) ⟨by omega, fun j j1 j2 => HG.out j j1 (by omega), hno⟩
            unfold Li.stop; rw [h]; omega
          have HT2 := Lib.hid (Li.tail_step room gap true l (at_ := p) (by rw [HL.out]; exact hlt))
          obtain ⟨v', w', hrun, hown2, hB2, hb2⟩ := append_pair (p : Int) (t : Int) HOW.out HBW.out HBW.out.size (by omega)
          have HRUN := Lib.hid hrun
          have HST := Lib.hid hst
          clear hrun hst hno
          go_wp2_with (first | (at_builtin; refine wpList_append_run (by rfl) _ _ 25 rfl rfl rfl HRUN.out ?_))
          go_roundw
          case rel => exact ⟨t, pre ++ [(p, t)], tn, rfl, by simp; omega, by rw [Li.flat_snoc, List.map_append, List.length_append]; exact hown2, hB2, Lib.hid (by
            rw [← HT.out, HT2.out, HST.out, List.append_assoc]; rfl)⟩
          case measure => simp [intOf]; omega
    · have hltz : ¬ (p : Int) < (n : Int) := by omega
      have he : pre = L := by rw [← HT.out, Li.tail_end _ _ _ _ (by rw [HL.out]; omega), List.append_nil]
      subst he
      obtain ⟨A', c', rfl, hP⟩ := pairs_of_own hown
      go_wp2
      go_ret
      exact ⟨⟨A', ⟨c', by rw [HBR.out]; first | done | rfl⟩, by rw [HBR.out]; exact hP⟩, hB⟩

theorem rbreak_any (A : Option Addr) (l : List Int) (n c : Nat) (room gap : Int) (wrap : Bool) (w : World) (hI : Ints w A l) (hl : l.length = n) (hn : n ≤ 1000) (hc : n ≤ c) :
    Calls Try.prog 12 #[.slice A n c, .int .i64 room, .int .i64 gap, .bool wrap] w fun e w' => (∃ A' c', e = .returned (.slice A' (Li.brk room gap wrap l).length c') ∧ Pairs w' A' (Li.brk room gap wrap l)) ∧ Below w.heap.size w w' := by
  cases wrap
  · exact rbreak_plain A l n c room gap w hI hl hn hc
  · exact rbreak_wraps A l n c room gap w hI hl hn hc

end Go.Proofs.Ytabmlohobbbnbaa.Fix
