/- Plain facts of the layer flex: each within its limits; in a room as large as all by themselves; where all may grow, or shrink; items that are alike. -/
import Derived.Test.YtefofdjkinbfgaaFlexMath
namespace Go.Proofs.Ytefofdjkinbfgaa.Fe

theorem rounds_x {gr : Bool} {room : Int} {n : Nat} {S : Nat → St} (k : Nat) (i : Nat) : (rounds gr room n S k i).x = (S i).x := by
  induction k with
  | zero => rfl
  | succ k ih =>
    show (round gr room n (rounds gr room n S k) i).x = _
    rw [← ih]
    unfold round froze shared sharedBy
    cases h : (rounds gr room n S k i).f <;> simp [h]

theorem fin_x (l : Nat → It) (n : Nat) (room : Int) (i : Nat) : (fin l n room i).x = cnt (l i) := rounds_x _ _

theorem round_z {gr : Bool} {room : Int} {n : Nat} {S : Nat → St} {i : Nat} (h : (S i).f = false) : (round gr room n S i).z = clamp (S i).x (want gr (parts gr room S n) S i) := by
  unfold round froze shared sharedBy
  simp [h]

/-- each is within its limits -/
theorem fin_within (l : Nat → It) (n : Nat) (room : Int) (i : Nat) : clamp (l i) (fin l n room i).z = (fin l n room i).z := by
  have h : ∀ k, clamp (l i) (rounds (gro l n room) room n (begun (gro l n room) l) k i).z = (rounds (gro l n room) room n (begun (gro l n room) l) k i).z := by
    intro k
    induction k with
    | zero => exact clamp_clamp _ _
    | succ k ih =>
      show clamp (l i) (round _ room n (rounds _ room n _ k) i).z = (round _ room n (rounds _ room n _ k) i).z
      cases hf : (rounds (gro l n room) room n (begun (gro l n room) l) k i).f with
      | true => rw [round_still hf]; exact ih
      | false =>
        rw [round_z hf, rounds_x]
        show clamp (l i) (clamp (cnt (l i)) _) = clamp (cnt (l i)) _
        rw [clamp_cnt, clamp_clamp]
  exact h n

/-- who has no factor is as large as it is by itself -/
theorem fin_none (l : Nat → It) (n : Nat) (room : Int) (i : Nat) (hg : (cnt (l i)).g = 0) (hs : (cnt (l i)).s = 0) : (fin l n room i).z = clamp (l i) (cnt (l i)).b := by
  have hf : (rounds (gro l n room) room n (begun (gro l n room) l) 0 i).f = true := by
    show stay _ (cnt (l i)) _ = true
    unfold stay fac
    cases gro l n room <;> simp [hg, hs]
  unfold fin
  rw [rounds_still hf n (Nat.zero_le _)]
  rfl

/-- all bases together -/
def sumb (l : Nat → It) : Nat → Int
  | 0 => 0
  | k + 1 => sumb l k + (cnt (l k)).b

theorem sumb_bd (l : Nat → It) (k : Nat) : 0 ≤ sumb l k ∧ sumb l k ≤ 1048576 * k := by
  induction k with
  | zero => simp [sumb]
  | succ k ih =>
    obtain ⟨h1, h2, _⟩ := cnt_bd (l k)
    simp only [sumb]
    constructor <;> omega

theorem part_of_none (w : List Int) (k : Nat) : part 0 w k = 0 := by simp [part, so, to]

/-- in a room as large as all by themselves -/
theorem fin_still (l : Nat → It) (n : Nat) (room : Int) (hb : ∀ i, i < n → clamp (l i) (cnt (l i)).b = (cnt (l i)).b) (hr : room = sumb l n) : ∀ i, i < n → (fin l n room i).z = (cnt (l i)).b := by
  have hz : ∀ k, k ≤ n → sumz l k = sumb l k := by
    intro k hk
    induction k with
    | zero => rfl
    | succ k ih => simp only [sumz, sumb, ih (by omega), hb k (by omega)]
  have hg : gro l n room = false := by unfold gro; rw [hz n (Nat.le_refl _), hr]; simp
  have key : ∀ m i, i < n → (rounds false room n (begun false l) m i).z = (cnt (l i)).b := by
    intro m
    induction m with
    | zero => intro i hi; exact hb i hi
    | succ m ih =>
      intro i hi
      show (round false room n (rounds false room n (begun false l) m) i).z = _
      generalize hS : rounds false room n (begun false l) m = S at *
      have hx : ∀ j, (S j).x = cnt (l j) := fun j => by rw [← hS, rounds_x]; rfl
      cases hf : (S i).f with
      | true => rw [round_still hf]; exact ih i hi
      | false =>
        have hl : ∀ k, k ≤ n → left room S k = room - sumb l k := by
          intro k hk
          induction k with
          | zero => simp [left, sumb]
          | succ k ihk => simp only [left, sumb, ihk (by omega), ih k (by omega), hx]; split <;> omega
        have h0 : free false room S n = 0 := by
          unfold free
          rw [hl n (Nat.le_refl _), hr]
          simp [sg]
        rw [round_z hf, hx, clamp_cnt]
        have hw : want false (parts false room S n) S i = (cnt (l i)).b := by
          have hp := pl_lt S hi hf
          unfold want parts
          rw [h0, hx, share_get _ _ (by rw [ws_length]; exact hp), part_of_none]
          simp
        rw [hw]
        exact hb i hi
  intro i hi
  unfold fin
  rw [hg]
  exact key n i hi

end Go.Proofs.Ytefofdjkinbfgaa.Fe
