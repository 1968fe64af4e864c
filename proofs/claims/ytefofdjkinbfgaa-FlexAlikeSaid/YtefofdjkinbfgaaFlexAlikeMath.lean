/- Plain facts of the layer flex: items that are alike are within one of each other. -/
import Derived.Test.YtefofdjkinbfgaaFlexFillsMath
namespace Go.Proofs.Ytefofdjkinbfgaa.Fe

theorem even_part {N r k : Int} (hr : 1 ≤ r) : N / r ≤ N * (k + 1) / r - N * k / r ∧ N * (k + 1) / r - N * k / r ≤ N / r + 1 := by
  have e1 := Int.mul_ediv_add_emod (N * k) r
  have e2 := Int.mul_ediv_add_emod N r
  have a1 := Int.emod_nonneg (N * k) (show r ≠ 0 by omega)
  have a2 := Int.emod_lt_of_pos (N * k) (show 0 < r by omega)
  have b1 := Int.emod_nonneg N (show r ≠ 0 by omega)
  have b2 := Int.emod_lt_of_pos N (show 0 < r by omega)
  have e3 : N * (k + 1) = N * k + N := by rw [Int.mul_add, Int.mul_one]
  rw [e3]
  generalize N * k = A at *
  generalize A / r = qa at *
  generalize hq : N / r = qn at *
  have l1 : qa + qn ≤ (A + N) / r := Int.le_ediv_of_mul_le (by omega) (by
    rw [Int.add_mul, Int.mul_comm qa, Int.mul_comm qn]; omega)
  have l2 : (A + N) / r < qa + qn + 2 := Int.ediv_lt_of_lt_mul (by omega) (by
    rw [Int.add_mul, Int.add_mul, Int.mul_comm qa, Int.mul_comm qn]; omega)
  omega

theorem const_ws {gr : Bool} {S : Nat → St} {c : It} (hx : ∀ i, (S i).x = c) (n : Nat) : ∀ j, j < (ws gr S n).length → (ws gr S n).getD j 0 = wt gr c := by
  induction n with
  | zero => intro j hj; simp [ws] at hj
  | succ n ih =>
    intro j hj
    simp only [ws] at hj ⊢
    split
    · rename_i h; rw [if_pos h] at hj; exact ih j hj
    · rename_i h
      rw [if_neg h] at hj
      simp at hj
      rcases Nat.lt_or_ge j (ws gr S n).length with h' | h'
      · rw [List.getD_eq_getElem?_getD, List.getElem?_append_left h', ← List.getD_eq_getElem?_getD]; exact ih j h'
      · obtain rfl : j = (ws gr S n).length := by omega
        simp [hx]
theorem const_up {w : List Int} {v : Int} (h : ∀ j, j < w.length → w.getD j 0 = v) (k : Nat) (hk : k ≤ w.length) : up w k = cw v * k := by
  induction k with
  | zero => simp [up]
  | succ k ih => simp only [up, ih (by omega), h k (by omega)]; rw [Int.natCast_add, Int.mul_add]; simp
theorem const_so {N : Int} {w : List Int} {v : Int} (h : ∀ j, j < w.length → w.getD j 0 = v) (hv : 1 ≤ cw v) (hN : 0 ≤ N) (hN2 : N ≤ 67108864) (k : Nat) (hk : k ≤ w.length) : so N w k = N * k / w.length := by
  unfold so all
  rw [const_up h k hk, const_up h _ (Nat.le_refl _), to_id hN hN2, Int.mul_left_comm]
  exact Int.mul_ediv_mul_of_pos _ _ (by omega)

/-- an even share -/
theorem want_even {gr : Bool} {room : Int} {S : Nat → St} {c : It} {n i : Nat} (hx : ∀ i, (S i).x = c) (hi : i < n) (hf : (S i).f = false) (hv : 1 ≤ cw (wt gr c)) (hN2 : free gr room S n ≤ 67108864) :
    ∃ p, want gr (parts gr room S n) S i = c.b + sg gr * p ∧ free gr room S n / (pl S n : Int) ≤ p ∧ p ≤ free gr room S n / (pl S n : Int) + 1 := by
  have hp := pl_lt S hi hf
  have hN : 0 ≤ free gr room S n := by unfold free; split <;> omega
  have hlen := ws_length gr S n
  refine ⟨part (free gr room S n) (ws gr S n) (pl S i), ?_, ?_⟩
  · unfold want parts
    rw [hx, share_get _ _ (by rw [hlen]; exact hp)]
  · unfold part
    rw [const_so (const_ws hx n) hv hN hN2 _ (by rw [hlen]; omega), const_so (const_ws hx n) hv hN hN2 _ (by rw [hlen]; omega), hlen, Int.natCast_add]
    exact even_part (by omega)

theorem even_left {room V b : Int} {S : Nat → St} {n : Nat} (hb : ∀ i, (S i).x.b = b) (hz : ∀ i, i < n → (S i).f = true → (S i).z = V) (k : Nat) (hk : k ≤ n) : left room S k = room - V * ((k : Int) - (pl S k : Int)) - b * (pl S k : Int) := by
  induction k with
  | zero => simp [left, pl]
  | succ k ih =>
    simp only [left, pl]
    cases hf : (S k).f with
    | true =>
      have := hz k (by omega) hf
      simp only [if_true, ih (by omega), this]
      rw [Int.natCast_add, show ((k : Int) + (1 : Nat)) - ((pl S k + 0 : Nat) : Int) = ((k : Int) - (pl S k : Int)) + 1 by simp; omega, Int.mul_add]
      simp; omega
    | false =>
      simp only [Bool.false_eq_true, if_false, ih (by omega), hb]
      rw [Int.natCast_add, Int.natCast_add, show ((k : Int) + (1 : Nat)) - ((pl S k : Int) + (1 : Nat)) = (k : Int) - (pl S k : Int) by omega, Int.mul_add]
      simp; omega

theorem inn_hi {lo hi v : Int} (h : lo ≤ hi) (h2 : hi ≤ v) : inn lo hi v = hi := by unfold inn; (repeat' split) <;> omega
theorem inn_lo {lo hi v : Int} (h : lo ≤ hi) (h2 : v ≤ lo) : inn lo hi v = lo := by unfold inn; (repeat' split) <;> omega
theorem inn_id {lo hi v : Int} (h : lo ≤ v) (h2 : v ≤ hi) : inn lo hi v = v := by unfold inn; (repeat' split) <;> omega

/-- all at their upper limit, and room for it -/
theorem stay_hi {c : It} {room : Int} {S : Nat → St} {n : Nat} (hx : ∀ i, (S i).x = c) (hcc : cnt c = c) (hg : 1 ≤ cw (wt true c)) (h0 : 0 ≤ c.b) (hH0 : 0 ≤ c.hi) (hbH : c.b ≤ c.hi) (hLH : c.lo ≤ c.hi) (hr2 : room ≤ 67108864) (hr : c.hi * n ≤ room) (hz : ∀ i, i < n → (S i).z = c.hi) :
    ∀ i, i < n → (round true room n S i).z = c.hi := by
  intro i hi
  cases hf : (S i).f with
  | true => rw [round_still hf]; exact hz i hi
  | false =>
    have hp := pl_lt S hi hf
    have hpn := pl_le S n
    have hl := even_left (room := room) (V := c.hi) (b := c.b) (S := S) (n := n) (fun j => by rw [hx]) (fun j hj _ => hz j hj) n (Nat.le_refl _)
    have hr0 : (1 : Int) ≤ (pl S n : Int) := by omega
    have m1 := Int.mul_le_mul_of_nonneg_right hbH (show (0 : Int) ≤ (pl S n : Int) by omega)
    have m2 : c.hi * ((n : Int) - (pl S n : Int)) = c.hi * n - c.hi * (pl S n : Int) := Int.mul_sub _ _ _
    have m3 : 0 ≤ c.hi * ((n : Int) - (pl S n : Int)) := Int.mul_nonneg hH0 (by omega)
    have m4 : 0 ≤ c.b * (pl S n : Int) := Int.mul_nonneg h0 (by omega)
    have hfree : free true room S n = room - c.hi * ((n : Int) - (pl S n : Int)) - c.b * (pl S n : Int) := by
      unfold free; rw [hl]; simp only [sg, if_true, Int.one_mul]; split <;> omega
    obtain ⟨p, hw, hp1, _⟩ := want_even (gr := true) (room := room) hx hi hf hg (by rw [hfree]; omega)
    have hge : c.hi - c.b ≤ free true room S n / (pl S n : Int) := Int.le_ediv_of_mul_le (by omega) (by rw [Int.sub_mul, hfree]; omega)
    rw [round_z hf, hx, hw]
    show inn (cnt c).lo (cnt c).hi _ = c.hi
    rw [hcc]
    exact inn_hi hLH (by simp only [sg, if_true]; omega)

/-- all at their lower limit, and no room for more -/
theorem stay_lo {c : It} {room : Int} {S : Nat → St} {n : Nat} (hn : n ≤ 64) (hx : ∀ i, (S i).x = c) (hcc : cnt c = c) (hg : 1 ≤ cw (wt false c)) (hb2 : c.b ≤ 1048576) (hL0 : 0 ≤ c.lo) (hLb : c.lo ≤ c.b) (hLH : c.lo ≤ c.hi) (hr0 : 0 ≤ room) (hr : room ≤ c.lo * n) (hz : ∀ i, i < n → (S i).z = c.lo) :
    ∀ i, i < n → (round false room n S i).z = c.lo := by
  intro i hi
  cases hf : (S i).f with
  | true => rw [round_still hf]; exact hz i hi
  | false =>
    have hp := pl_lt S hi hf
    have hpn := pl_le S n
    have hl := even_left (room := room) (V := c.lo) (b := c.b) (S := S) (n := n) (fun j => by rw [hx]) (fun j hj _ => hz j hj) n (Nat.le_refl _)
    have m1 := Int.mul_le_mul_of_nonneg_right hLb (show (0 : Int) ≤ (pl S n : Int) by omega)
    have m2 : c.lo * ((n : Int) - (pl S n : Int)) = c.lo * n - c.lo * (pl S n : Int) := Int.mul_sub _ _ _
    have m3 := prod_bd (a := c.lo) (b := (n : Int) - (pl S n : Int)) hL0 (show c.lo ≤ 1048576 by omega) (by omega) (show (n : Int) - (pl S n : Int) ≤ 64 - (pl S n : Int) by omega)
    have m4 := prod_bd (a := c.b) (b := (pl S n : Int)) (show 0 ≤ c.b by omega) hb2 (by omega) (Int.le_refl _)
    have hfree : free false room S n = c.lo * ((n : Int) - (pl S n : Int)) + c.b * (pl S n : Int) - room := by
      unfold free; rw [hl]; simp only [sg, Bool.false_eq_true, if_false]; split <;> omega
    obtain ⟨p, hw, hp1, _⟩ := want_even (gr := false) (room := room) hx hi hf hg (by rw [hfree]; omega)
    have hge : c.b - c.lo ≤ free false room S n / (pl S n : Int) := Int.le_ediv_of_mul_le (by omega) (by rw [Int.sub_mul, hfree]; omega)
    rw [round_z hf, hx, hw]
    show inn (cnt c).lo (cnt c).hi _ = c.lo
    rw [hcc]
    exact inn_lo hLH (by simp only [sg, Bool.false_eq_true, if_false]; omega)

theorem const_sumz (x : It) (k : Nat) : sumz (fun _ => x) k = clamp x (cnt x).b * k := by
  induction k with
  | zero => simp [sumz]
  | succ k ih => simp only [sumz, ih]; rw [Int.natCast_add, Int.mul_add]; simp

theorem const_sm (b : Int) (k : Nat) : sm (fun _ => b) k = b * k := by
  induction k with
  | zero => simp [sm]
  | succ k ih => simp only [sm, ih]; rw [Int.natCast_add, Int.mul_add]; simp

/-- they are within one of each other -/
theorem alike (x : It) (n : Nat) (room : Int) (hn : 1 ≤ n) (hn2 : n ≤ 64) (hr0 : 0 ≤ room) (hr2 : room ≤ 67108864) : ∃ a, ∀ i, i < n → a ≤ (fin (fun _ => x) n room i).z ∧ (fin (fun _ => x) n room i).z ≤ a + 1 := by
  obtain ⟨d1, d2, d3, d4, d5, d6, d7, d8, d9, d10⟩ := cnt_bd x
  have hcc := cnt_cnt x
  by_cases hLH : (cnt x).hi < (cnt x).lo
  · refine ⟨(cnt x).lo, fun i _ => ?_⟩
    have h := fin_within (fun _ => x) n room i
    have : (fin (fun _ => x) n room i).z = (cnt x).lo := by
      rw [← h]; unfold clamp inn; (repeat' split) <;> omega
    omega
  · have hLH2 : (cnt x).lo ≤ (cnt x).hi := by omega
    have hfin : fin (fun _ => x) n room = rounds (gro (fun _ => x) n room) room n (begun (gro (fun _ => x) n room) (fun _ => x)) n := rfl
    have hgr : gro (fun _ => x) n room = decide (clamp x (cnt x).b * n < room) := by unfold gro; rw [const_sumz]
    have hx : ∀ gr k i, (rounds gr room n (begun gr (fun _ => x)) k i).x = cnt x := fun gr k i => by rw [rounds_x]; rfl
    have c1 : clamp x (cnt x).b = inn (cnt x).lo (cnt x).hi (cnt x).b := rfl
    have c2 : (cnt x).lo ≤ clamp x (cnt x).b ∧ clamp x (cnt x).b ≤ (cnt x).hi := by rw [c1]; unfold inn; (repeat' split) <;> omega
    by_cases hst : stay (gro (fun _ => x) n room) (cnt x) (clamp x (cnt x).b) = true
    · refine ⟨clamp x (cnt x).b, fun i _ => ?_⟩
      rw [hfin, rounds_still (k := 0) (show (begun (gro (fun _ => x) n room) (fun _ => x) i).f = true from hst) n (Nat.zero_le _)]
      show _ ≤ clamp x (cnt x).b ∧ clamp x (cnt x).b ≤ _
      omega
    · have hst2 : stay (gro (fun _ => x) n room) (cnt x) (clamp x (cnt x).b) = false := by simpa using hst
      have hf0 : ∀ i, (begun (gro (fun _ => x) n room) (fun _ => x) i).f = false := fun i => hst2
      have hpl : ∀ k, pl (begun (gro (fun _ => x) n room) (fun _ => x)) k = k := loose_pl hf0
      have hleft : left room (begun (gro (fun _ => x) n room) (fun _ => x)) n = room - (cnt x).b * n := by
        rw [loose_left hf0]; congr 1
        show sm (fun _ => (cnt x).b) n = _
        exact const_sm _ _
      have fo := fun i (h : (round (gro (fun _ => x) n room) room n (begun (gro (fun _ => x) n room) (fun _ => x)) i).f = true) => fin_once (l := fun _ => x) hn h
      have later : ∀ V, (∀ i, i < n → (rounds (gro (fun _ => x) n room) room n (begun (gro (fun _ => x) n room) (fun _ => x)) 1 i).z = V) → (∀ S, (∀ i, (S i).x = cnt x) → (∀ i, i < n → (S i).z = V) → ∀ i, i < n → (round (gro (fun _ => x) n room) room n S i).z = V) → ∀ i, i < n → (fin (fun _ => x) n room i).z = V := by
        intro V h1 hstep
        have : ∀ k, 1 ≤ k → ∀ i, i < n → (rounds (gro (fun _ => x) n room) room n (begun (gro (fun _ => x) n room) (fun _ => x)) k i).z = V := by
          intro k hk
          induction k with
          | zero => omega
          | succ k ih =>
            rcases Nat.eq_zero_or_pos k with rfl | hk0
            · exact h1
            · exact hstep _ (hx _ k) (ih hk0)
        exact this n hn
      generalize hG : gro (fun _ => x) n room = gr at *
      unfold stay at hst2
      simp only [Bool.or_eq_false_iff, decide_eq_false_iff_not] at hst2
      obtain ⟨s1, s2⟩ := hst2
      cases gr with
      | true =>
        simp only [sg, fac, if_true, Int.one_mul] at s1 s2
        have hlt : clamp x (cnt x).b * n < room := by simpa using hgr.symm
        have m1 := Int.mul_le_mul_of_nonneg_right (show (cnt x).b ≤ clamp x (cnt x).b by omega) (show (0 : Int) ≤ n by omega)
        have m2 : 0 ≤ (cnt x).b * (n : Int) := Int.mul_nonneg d1 (by omega)
        have hfree : free true room (begun true (fun _ => x)) n = room - (cnt x).b * n := by
          unfold free; rw [hleft]; simp only [sg, if_true, Int.one_mul]; split <;> omega
        have hg : 1 ≤ cw (wt true (cnt x)) := by
          have : cw (cnt x).g = (cnt x).g := to_id d7 (by omega)
          show 1 ≤ cw (cnt x).g
          omega
        have hq : (room - (cnt x).b * n) / n = room / n - (cnt x).b := by
          rw [show room - (cnt x).b * n = room + (-(cnt x).b) * n by rw [Int.neg_mul]; omega, Int.add_mul_ediv_right _ _ (by omega)]; omega
        have ha : clamp x (cnt x).b ≤ room / n := Int.le_ediv_of_mul_le (by omega) (by omega)
        have hw : ∀ i, i < n → room / n ≤ want true (parts true room (begun true (fun _ => x)) n) (begun true (fun _ => x)) i ∧ want true (parts true room (begun true (fun _ => x)) n) (begun true (fun _ => x)) i ≤ room / n + 1 := by
          intro i hi
          obtain ⟨p, hw, hp1, hp2⟩ := want_even (gr := true) (room := room) (S := begun true (fun _ => x)) (c := cnt x) (fun _ => rfl) hi (hf0 i) hg (by rw [hfree]; omega)
          rw [hpl, hfree, hq] at hp1 hp2
          rw [hw]
          simp only [sg, if_true]
          omega
        have hcl : ∀ v, clamp (begun true (fun _ => x) 0).x v = inn (cnt x).lo (cnt x).hi v := fun v => by
          show clamp (cnt x) v = _
          unfold clamp; rw [hcc]
        by_cases hH : room / n + 1 ≤ (cnt x).hi
        · have ho := once (gr := true) (room := room) (S := begun true (fun _ => x)) (n := n) hf0 (fun i hi => by
            obtain ⟨w1, w2⟩ := hw i hi
            rw [show (begun true (fun _ => x) i).x = (begun true (fun _ => x) 0).x from rfl, hcl]
            exact inn_id (by omega) (by omega))
          refine ⟨room / n, fun i hi => ?_⟩
          obtain ⟨o1, o2⟩ := ho i hi
          rw [fo i o1, o2]
          exact hw i hi
        · refine ⟨(cnt x).hi, fun i hi => ?_⟩
          have hrn : (cnt x).hi * n ≤ room := by
            have := Int.ediv_mul_le room (show (n : Int) ≠ 0 by omega)
            have := Int.mul_le_mul_of_nonneg_right (show (cnt x).hi ≤ room / n by omega) (show (0 : Int) ≤ n by omega)
            omega
          have := later (cnt x).hi (fun i hi => by
            show (round true room n (begun true (fun _ => x)) i).z = _
            rw [round_z (hf0 i), show (begun true (fun _ => x) i).x = (begun true (fun _ => x) 0).x from rfl, hcl]
            exact inn_hi hLH2 (by have := (hw i hi).1; omega))
            (fun S hxS hzS => stay_hi hxS hcc hg d1 d5 (by omega) hLH2 hr2 hrn hzS) i hi
          omega
      | false =>
        simp only [sg, fac, Bool.false_eq_true, if_false] at s1 s2
        have hge : room ≤ clamp x (cnt x).b * n := by
          have : ¬ clamp x (cnt x).b * n < room := by simpa using hgr.symm
          omega
        have m1 := Int.mul_le_mul_of_nonneg_right (show clamp x (cnt x).b ≤ (cnt x).b by omega) (show (0 : Int) ≤ n by omega)
        have m2 := prod_bd (a := (cnt x).b) (b := (n : Int)) d1 d2 (by omega) (show (n : Int) ≤ 64 by omega)
        have hfree : free false room (begun false (fun _ => x)) n = (cnt x).b * n - room := by
          unfold free; rw [hleft]; simp only [sg, Bool.false_eq_true, if_false]; split <;> omega
        have hcl : ∀ v, clamp (begun false (fun _ => x) 0).x v = inn (cnt x).lo (cnt x).hi v := fun v => by
          show clamp (cnt x) v = _
          unfold clamp; rw [hcc]
        by_cases hb0 : (cnt x).b = 0
        · have hc0 : clamp x (cnt x).b = 0 := by omega
          have hroom : room = 0 := by rw [hc0, Int.zero_mul] at hge; omega
          have hfree0 : free false room (begun false (fun _ => x)) n = 0 := by rw [hfree, hb0, hroom]; simp
          have hw : ∀ i, i < n → want false (parts false room (begun false (fun _ => x)) n) (begun false (fun _ => x)) i = 0 := by
            intro i hi
            unfold want parts
            rw [hfree0, share_get _ _ (by rw [ws_length, hpl, hpl]; exact hi), part_of_none]
            show (cnt x).b + _ = 0
            rw [hb0]; simp
          have ho := once (gr := false) (room := room) (S := begun false (fun _ => x)) (n := n) hf0 (fun i hi => by
            rw [hw i hi, show (begun false (fun _ => x) i).x = (begun false (fun _ => x) 0).x from rfl, hcl, ← hb0, ← c1, hc0, hb0])
          refine ⟨0, fun i hi => ?_⟩
          obtain ⟨o1, o2⟩ := ho i hi
          rw [fo i o1, o2, hw i hi]
          omega
        · have hsb := prod_bd (a := (cnt x).s) (b := (cnt x).b) d9 d10 d1 d2
          have hsb1 := Int.mul_le_mul_of_nonneg_right (show (1 : Int) ≤ (cnt x).s by omega) d1
          have hg : 1 ≤ cw (wt false (cnt x)) := by
            have : cw ((cnt x).s * (cnt x).b) = (cnt x).s * (cnt x).b := to_id hsb.1 (by omega)
            show 1 ≤ cw ((cnt x).s * (cnt x).b)
            omega
          have hq1 : (cnt x).b - clamp x (cnt x).b ≤ ((cnt x).b * n - room) / n := Int.le_ediv_of_mul_le (by omega) (by rw [Int.sub_mul]; omega)
          generalize hqq : ((cnt x).b * n - room) / n = q at *
          have hw : ∀ i, i < n → (cnt x).b - q - 1 ≤ want false (parts false room (begun false (fun _ => x)) n) (begun false (fun _ => x)) i ∧ want false (parts false room (begun false (fun _ => x)) n) (begun false (fun _ => x)) i ≤ (cnt x).b - q - 1 + 1 := by
            intro i hi
            obtain ⟨p, hw, hp1, hp2⟩ := want_even (gr := false) (room := room) (S := begun false (fun _ => x)) (c := cnt x) (fun _ => rfl) hi (hf0 i) hg (by rw [hfree]; omega)
            rw [hpl, hfree, hqq] at hp1 hp2
            rw [hw]
            simp only [sg, Bool.false_eq_true, if_false]
            omega
          by_cases hL : (cnt x).lo ≤ (cnt x).b - q - 1
          · have ho := once (gr := false) (room := room) (S := begun false (fun _ => x)) (n := n) hf0 (fun i hi => by
              obtain ⟨w1, w2⟩ := hw i hi
              rw [show (begun false (fun _ => x) i).x = (begun false (fun _ => x) 0).x from rfl, hcl]
              exact inn_id (by omega) (by omega))
            refine ⟨(cnt x).b - q - 1, fun i hi => ?_⟩
            obtain ⟨o1, o2⟩ := ho i hi
            rw [fo i o1, o2]
            exact hw i hi
          · refine ⟨(cnt x).lo, fun i hi => ?_⟩
            have hrn : room ≤ (cnt x).lo * n := by
              have h1 := Int.ediv_mul_le ((cnt x).b * n - room) (show (n : Int) ≠ 0 by omega)
              rw [hqq] at h1
              have h2 := Int.mul_le_mul_of_nonneg_right (show (cnt x).b - (cnt x).lo ≤ q by omega) (show (0 : Int) ≤ n by omega)
              rw [Int.sub_mul] at h2
              omega
            have := later (cnt x).lo (fun i hi => by
              show (round false room n (begun false (fun _ => x)) i).z = _
              rw [round_z (hf0 i), show (begun false (fun _ => x) i).x = (begun false (fun _ => x) 0).x from rfl, hcl]
              exact inn_lo hLH2 (by have := (hw i hi).2; omega))
              (fun S hxS hzS => stay_lo hn2 hxS hcc hg d2 d3 (by omega) hLH2 hr0 hrn hzS) i hi
            omega

end Go.Proofs.Ytefofdjkinbfgaa.Fe
