/- Plain facts of the layer flex: where all may grow, or shrink, as they like, the room is filled. -/
import Derived.Test.YtefofdjkinbfgaaFlexLawMath
namespace Go.Proofs.Ytefofdjkinbfgaa.Fe

/-- sums over places -/
def sm (f : Nat → Int) : Nat → Int
  | 0 => 0
  | k + 1 => sm f k + f k
theorem sm_le {f g : Nat → Int} {n : Nat} (h : ∀ i, i < n → f i = g i) : sm f n = sm g n := by
  induction n with
  | zero => rfl
  | succ n ih => simp only [sm]; rw [ih fun i hi => h i (by omega), h n (by omega)]
theorem sm_ge {f : Nat → Int} (h : ∀ i, 0 ≤ f i) {i j : Nat} (hij : i ≤ j) : sm f i ≤ sm f j := by
  induction j with
  | zero => obtain rfl : i = 0 := by omega
            exact Int.le_refl _
  | succ j ih =>
    rcases Nat.lt_or_ge i (j + 1) with h' | h'
    · have := ih (by omega); have := h j; simp only [sm]; omega
    · obtain rfl : i = j + 1 := by omega
      exact Int.le_refl _

/-- items that all grow, and shrink, by the same, without limits -/
def plain (b : Nat → Int) (g s : Int) : Nat → It := fun i => ⟨b i, 0, 1048576, g, s⟩

theorem plain_clamp (b : Nat → Int) (g s : Int) (i : Nat) {v : Int} (h : 0 ≤ v) (h2 : v ≤ 1048576) : clamp (plain b g s i) v = v := by
  unfold clamp cnt plain inn
  simp only [to]
  (repeat' split) <;> omega

section
variable {b : Nat → Int} {g s : Int} {n : Nat} {room : Int}

theorem plain_cnt (hb : ∀ i, 0 ≤ b i ∧ b i ≤ 1048576) (i : Nat) : cnt (plain b g s i) = ⟨b i, 0, 1048576, to g 1000, to s 1000⟩ := by
  obtain ⟨h1, h2⟩ := hb i
  unfold cnt plain
  simp only [to_id h1 h2]
  rfl

theorem plain_sum (hb : ∀ i, 0 ≤ b i ∧ b i ≤ 1048576) (k : Nat) : sumz (plain b g s) k = sm b k := by
  induction k with
  | zero => rfl
  | succ k ih =>
    obtain ⟨h1, h2⟩ := hb k
    simp only [sumz, sm, ih, plain_cnt hb, plain_clamp b g s k h1 h2]

theorem plain_begun (hb : ∀ i, 0 ≤ b i ∧ b i ≤ 1048576) (hg : 1 ≤ g) (hs : 1 ≤ s) (gr : Bool) (i : Nat) : begun gr (plain b g s) i = ⟨⟨b i, 0, 1048576, to g 1000, to s 1000⟩, b i, 0, false⟩ := by
  obtain ⟨h1, h2⟩ := hb i
  unfold begun
  rw [plain_cnt hb]
  simp only
  rw [plain_clamp b g s i h1 h2]
  have e1 : 1 ≤ to g 1000 := by unfold to; (repeat' split) <;> omega
  have e2 : 1 ≤ to s 1000 := by unfold to; (repeat' split) <;> omega
  have : stay gr ⟨b i, 0, 1048576, to g 1000, to s 1000⟩ (b i) = false := by
    unfold stay fac
    cases gr <;> simp <;> omega
  rw [this]

theorem loose_pl {S : Nat → St} (h : ∀ i, (S i).f = false) (k : Nat) : pl S k = k := by
  induction k with
  | zero => rfl
  | succ k ih => simp [pl, ih, h k]
theorem loose_left {S : Nat → St} (h : ∀ i, (S i).f = false) (k : Nat) : left room S k = room - sm (fun i => (S i).x.b) k := by
  induction k with
  | zero => simp [left, sm]
  | succ k ih => simp only [left, ih, h k, sm, Bool.false_eq_true, if_false]; omega
theorem loose_ws {gr : Bool} {S : Nat → St} (h : ∀ i, (S i).f = false) (k : Nat) : ws gr S k = (List.range k).map fun i => wt gr (S i).x := by
  induction k with
  | zero => rfl
  | succ k ih => simp only [ws, ih, h k, List.range_succ, List.map_append, Bool.false_eq_true, if_false]; rfl
theorem up_of {w : Nat → Int} {n k : Nat} (hk : k ≤ n) : up ((List.range n).map w) k = sm (fun i => cw (w i)) k := by
  induction k with
  | zero => rfl
  | succ k ih => simp only [up, sm, ih (by omega)]; simp [show k < n by omega]

/-- parts of a number that is not greater than all weights, that are a multiple of the bases: no one gets more than its base -/
theorem part_le {N s : Int} {b : Nat → Int} {n k : Nat} (hk : k < n) (hs : 1 ≤ s) (hb : ∀ i, 0 ≤ b i) (hw : ∀ i, cw (s * b i) = s * b i) (hN : 0 ≤ N) (hN2 : N ≤ 67108864) (hle : N ≤ sm b n) :
    part N ((List.range n).map fun i => s * b i) k ≤ b k := by
  have hup : ∀ j, j ≤ n → up ((List.range n).map fun i => s * b i) j = s * sm b j := by
    intro j hj
    rw [up_of hj]
    clear hj
    induction j with
    | zero => simp [sm]
    | succ j ih => simp only [sm]; rw [ih, hw, Int.mul_add]
  unfold part so all
  have hlen : ((List.range n).map fun i => s * b i).length = n := by simp
  rw [hlen, hup _ (Nat.le_refl _), hup _ (by omega), hup _ (by omega), to_id hN hN2]
  have hB := sm_ge hb (show 0 ≤ n by omega)
  simp only [sm] at hB
  rcases Int.lt_or_le 0 (sm b n) with h | h
  · have e : ∀ t, N * (s * t) / (s * sm b n) = N * t / sm b n := fun t => by
      rw [Int.mul_left_comm]; exact Int.mul_ediv_mul_of_pos _ _ (by omega)
    rw [e, e]
    simp only [sm]
    have h1 : N * (sm b k + b k) ≤ N * sm b k + b k * sm b n := by
      rw [Int.mul_add]
      have := Int.mul_le_mul_of_nonneg_right hle (hb k)
      rw [Int.mul_comm (b k)]
      omega
    have h2 := Int.ediv_le_ediv h h1
    rw [Int.add_mul_ediv_right _ _ (by omega)] at h2
    omega
  · have h0 : sm b n = 0 := by omega
    rw [h0]; simp; exact hb k

theorem part_so {N : Int} {w : List Int} {k : Nat} (h : k < w.length) : part N w k ≤ so N w w.length := by
  have h1 := so_ge N w k
  have h2 := so_mono N w (show k + 1 ≤ w.length by omega)
  unfold part; omega
theorem sm_part {N : Int} {w : List Int} (k : Nat) : sm (part N w) k = so N w k := by
  induction k with
  | zero => rw [so_zero]; rfl
  | succ k ih => simp only [sm, ih]; unfold part; omega
theorem so_full {N : Int} {w : List Int} (hN : 0 ≤ N) (hN2 : N ≤ 67108864) (h : 0 < all w) : so N w w.length = N := by
  unfold so
  show to N 67108864 * all w / all w = N
  rw [Int.mul_ediv_cancel _ (by omega), to_id hN hN2]

theorem sm_add (f g : Nat → Int) (k : Nat) : sm (fun i => f i + g i) k = sm f k + sm g k := by
  induction k with
  | zero => rfl
  | succ k ih => simp only [sm, ih]; omega
theorem sm_sub (f g : Nat → Int) (k : Nat) : sm (fun i => f i - g i) k = sm f k - sm g k := by
  induction k with
  | zero => rfl
  | succ k ih => simp only [sm, ih]; omega

/-- where no one is held back, all are frozen at once -/
theorem once {gr : Bool} {room : Int} {S : Nat → St} {n : Nat} (hf : ∀ i, (S i).f = false) (hc : ∀ i, i < n → clamp (S i).x (want gr (parts gr room S n) S i) = want gr (parts gr room S n) S i) :
    ∀ i, i < n → (round gr room n S i).f = true ∧ (round gr room n S i).z = want gr (parts gr room S n) S i := by
  have hm : made (shared gr room n S) n = 0 := by
    have : ∀ k, k ≤ n → made (shared gr room n S) k = 0 := by
      intro k hk
      induction k with
      | zero => rfl
      | succ k ih =>
        have e := hc k (by omega)
        simp only [made, ih (by omega)]
        unfold shared sharedBy
        simp only [hf k, Bool.false_eq_true, if_false, e]
        omega
    exact this n (Nat.le_refl _)
  intro i hi
  have e := hc i hi
  constructor
  · unfold round froze
    rw [hm]
    unfold shared sharedBy
    simp [hf i, frz]
  · rw [round_z (hf i), e]

theorem fin_once {l : Nat → It} {n : Nat} {room : Int} (hn : 1 ≤ n) {i : Nat} (h : (round (gro l n room) room n (begun (gro l n room) l) i).f = true) : fin l n room i = round (gro l n room) room n (begun (gro l n room) l) i :=
  rounds_still (k := 1) h n hn

theorem plain_fills (hb : ∀ i, 0 ≤ b i ∧ b i ≤ 1048576) (hg : 1 ≤ g) (hs : 1 ≤ s) (hn : 1 ≤ n) (hn2 : n ≤ 64) (hr : 0 ≤ room) (hr2 : room ≤ 1048576) : sm (fun i => (fin (plain b g s) n room i).z) n = room := by
  have hbn := fun i => (hb i).1
  have hB0 := sm_ge hbn (show 0 ≤ n by omega)
  simp only [sm] at hB0
  have hBn : ∀ k, sm b k ≤ 1048576 * k := by
    intro k
    induction k with
    | zero => simp [sm]
    | succ k ih => have := (hb k).2; simp only [sm]; omega
  have hB64 := hBn n
  have e1 : 1 ≤ to g 1000 := by unfold to; (repeat' split) <;> omega
  have e2 : 1 ≤ to s 1000 := by unfold to; (repeat' split) <;> omega
  have e3 : to g 1000 ≤ 1000 := to_le (by omega)
  have e4 : to s 1000 ≤ 1000 := to_le (by omega)
  have hxb : ∀ gr i, (begun gr (plain b g s) i).x.b = b i := fun gr i => by rw [plain_begun hb hg hs]
  have hf : ∀ gr i, (begun gr (plain b g s) i).f = false := fun gr i => by rw [plain_begun hb hg hs]
  have hgro : gro (plain b g s) n room = decide (sm b n < room) := by unfold gro; rw [plain_sum hb]
  have hpl : ∀ gr i, pl (begun gr (plain b g s)) i = i := fun gr i => loose_pl (hf gr) i
  have hleft : ∀ gr, left room (begun gr (plain b g s)) n = room - sm b n := fun gr => by
    rw [loose_left (hf gr)]; congr 1; exact sm_le fun i _ => hxb gr i
  by_cases hlt : sm b n < room
  · have hgr : gro (plain b g s) n room = true := by rw [hgro]; exact decide_eq_true hlt
    have hfree : free true room (begun true (plain b g s)) n = room - sm b n := by
      unfold free; rw [hleft]; simp [sg]; omega
    have hws : ws true (begun true (plain b g s)) n = (List.range n).map fun _ => to g 1000 := by
      rw [loose_ws (hf true)]
      apply List.map_congr_left
      intro i _
      rw [plain_begun hb hg hs]; rfl
    have hlen : (ws true (begun true (plain b g s)) n).length = n := by rw [hws]; simp
    have hall : 0 < all (ws true (begun true (plain b g s)) n) := by
      unfold all
      rw [hlen, hws, up_of (Nat.le_refl _)]
      have hc : cw (to g 1000) = to g 1000 := to_id (by omega) (by omega)
      have h1 := sm_ge (f := fun _ => cw (to g 1000)) (fun _ => cw_ge _) hn
      simp only [sm, hc] at h1 ⊢
      omega
    have hfull := so_full (N := room - sm b n) (by omega) (by omega) hall
    have hw : ∀ i, i < n → want true (parts true room (begun true (plain b g s)) n) (begun true (plain b g s)) i = b i + part (room - sm b n) (ws true (begun true (plain b g s)) n) i := by
      intro i hi
      unfold want parts
      rw [hfree, hpl, hxb, share_get _ _ (by rw [hlen]; exact hi)]
      simp [sg]
    have hc : ∀ i, i < n → clamp (begun true (plain b g s) i).x (want true (parts true room (begun true (plain b g s)) n) (begun true (plain b g s)) i) = want true (parts true room (begun true (plain b g s)) n) (begun true (plain b g s)) i := by
      intro i hi
      have p1 := (part_bd (room - sm b n) (ws true (begun true (plain b g s)) n) (k := i) (by rw [hlen]; exact hi)).1
      have p2 := part_so (N := room - sm b n) (w := ws true (begun true (plain b g s)) n) (k := i) (by rw [hlen]; exact hi)
      rw [hfull] at p2
      have p3 : b i ≤ sm b n := by
        have := sm_ge hbn (show i + 1 ≤ n by omega)
        have := sm_ge hbn (show 0 ≤ i by omega)
        simp only [sm] at *; omega
      rw [hw i hi]
      show clamp (cnt (plain b g s i)) _ = _
      rw [clamp_cnt]
      exact plain_clamp b g s i (by have := hbn i; omega) (by omega)
    have ho := once (hf true) hc
    have hz : sm (fun i => (fin (plain b g s) n room i).z) n = sm (fun i => b i + part (room - sm b n) (ws true (begun true (plain b g s)) n) i) n := sm_le fun i hi => by
      obtain ⟨o1, o2⟩ := ho i hi
      rw [fin_once hn (by rw [hgr]; exact o1), hgr, o2, hw i hi]
    rw [hz, sm_add, sm_part]
    rw [hlen] at hfull
    rw [hfull]
    omega
  · have hgr : gro (plain b g s) n room = false := by rw [hgro]; exact decide_eq_false hlt
    have hfree : free false room (begun false (plain b g s)) n = sm b n - room := by
      unfold free; rw [hleft]; simp [sg]; omega
    have hws : ws false (begun false (plain b g s)) n = (List.range n).map fun i => to s 1000 * b i := by
      rw [loose_ws (hf false)]
      apply List.map_congr_left
      intro i _
      rw [plain_begun hb hg hs]; rfl
    have hlen : (ws false (begun false (plain b g s)) n).length = n := by rw [hws]; simp
    have hcw : ∀ i, cw (to s 1000 * b i) = to s 1000 * b i := fun i => by
      obtain ⟨q1, q2⟩ := hb i
      have := prod_bd (show 0 ≤ to s 1000 by omega) e4 q1 q2
      exact to_id this.1 (by omega)
    have hw : ∀ i, i < n → want false (parts false room (begun false (plain b g s)) n) (begun false (plain b g s)) i = b i - part (sm b n - room) (ws false (begun false (plain b g s)) n) i := by
      intro i hi
      unfold want parts
      rw [hfree, hpl, hxb, share_get _ _ (by rw [hlen]; exact hi)]
      simp [sg]; omega
    have hc : ∀ i, i < n → clamp (begun false (plain b g s) i).x (want false (parts false room (begun false (plain b g s)) n) (begun false (plain b g s)) i) = want false (parts false room (begun false (plain b g s)) n) (begun false (plain b g s)) i := by
      intro i hi
      have p1 := (part_bd (sm b n - room) (ws false (begun false (plain b g s)) n) (k := i) (by rw [hlen]; exact hi)).1
      have p2 := part_le (N := sm b n - room) (s := to s 1000) (b := b) hi e2 hbn hcw (by omega) (by omega) (by omega)
      rw [← hws] at p2
      obtain ⟨q1, q2⟩ := hb i
      rw [hw i hi]
      show clamp (cnt (plain b g s i)) _ = _
      rw [clamp_cnt]
      exact plain_clamp b g s i (by omega) (by omega)
    have ho := once (hf false) hc
    have hz : sm (fun i => (fin (plain b g s) n room i).z) n = sm (fun i => b i - part (sm b n - room) (ws false (begun false (plain b g s)) n) i) n := sm_le fun i hi => by
      obtain ⟨o1, o2⟩ := ho i hi
      rw [fin_once hn (by rw [hgr]; exact o1), hgr, o2, hw i hi]
    rw [hz, sm_sub, sm_part]
    rcases Int.lt_or_le 0 (sm b n) with hp | hp
    · have hall : 0 < all (ws false (begun false (plain b g s)) n) := by
        unfold all
        rw [hlen, hws, up_of (Nat.le_refl _)]
        have h1 : ∀ k, sm b k ≤ sm (fun i => cw (to s 1000 * b i)) k := by
          intro k
          induction k with
          | zero => exact Int.le_refl _
          | succ k ih =>
            have := Int.mul_le_mul_of_nonneg_right e2 (hbn k)
            simp only [sm, hcw] at *
            omega
        have := h1 n
        omega
      have hfull := so_full (N := sm b n - room) (by omega) (by omega) hall
      rw [hlen] at hfull
      rw [hfull]
      omega
    · have h0 : sm b n = 0 := by omega
      have hr0 : room = 0 := by omega
      rw [h0, hr0]
      have : so (0 - 0) (ws false (begun false (plain b g s)) n) n = 0 := by simp [so, to]
      rw [this]
      omega
end

end Go.Proofs.Ytefofdjkinbfgaa.Fe
