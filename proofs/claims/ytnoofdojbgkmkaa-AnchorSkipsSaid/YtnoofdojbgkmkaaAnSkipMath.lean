/- What is skipped, with all in it, is left out: plain numbers of the layer anchor. No program in sight. -/
import Derived.Test.YtnoofdojbgkmkaaAnMath
namespace Go.Proofs.Ytnoofdojbgkmkaa.An
set_option linter.unusedVariables false

/-- what is skipped, with all in it -/
inductive Gone (l : Nat → Nd) : Nat → Prop
  | skip (k : Nat) : (l k).skip = true → Gone l k
  | up (k j : Nat) : (l k).up = (j : Int) → Gone l j → Gone l k

theorem Gone.out {l : Nat → Nd} {k : Nat} (h : Gone l k) : (l k).skip = true ∨ ∃ j : Nat, (l k).up = (j : Int) ∧ Gone l j := by
  cases h with
  | skip _ h => exact .inl h
  | up _ j h1 h2 => exact .inr ⟨j, h1, h2⟩

open Classical in
noncomputable def kept (l : Nat → Nd) : Nat → List Nat
  | 0 => []
  | k + 1 => if Gone l k then kept l k else kept l k ++ [k]
noncomputable def cnt (l : Nat → Nd) (k : Nat) : Nat := (kept l k).length
open Classical in
noncomputable def pl (l : Nat → Nd) (k : Nat) : Int := if Gone l k then -1 else (cnt l k : Int)
noncomputable def pu (l : Nat → Nd) (u : Int) : Int := if u < 0 then -1 else pl l u.toNat
/-- what is left -/
noncomputable def sub (l : Nat → Nd) (n : Nat) : Nat → Nd := fun j => ⟨pu l (l ((kept l n).getD j 0)).up, (l ((kept l n).getD j 0)).lo, (l ((kept l n).getD j 0)).hi, false⟩

theorem kept_gone {l : Nat → Nd} {k : Nat} (h : Gone l k) : kept l (k + 1) = kept l k := by rw [kept, if_pos h]
theorem kept_stay {l : Nat → Nd} {k : Nat} (h : ¬ Gone l k) : kept l (k + 1) = kept l k ++ [k] := by rw [kept, if_neg h]
theorem cnt_gone {l : Nat → Nd} {k : Nat} (h : Gone l k) : cnt l (k + 1) = cnt l k := by unfold cnt; rw [kept_gone h]
theorem cnt_stay {l : Nat → Nd} {k : Nat} (h : ¬ Gone l k) : cnt l (k + 1) = cnt l k + 1 := by unfold cnt; rw [kept_stay h]; simp
theorem pl_gone {l : Nat → Nd} {k : Nat} (h : Gone l k) : pl l k = -1 := by unfold pl; rw [if_pos h]
theorem pl_stay {l : Nat → Nd} {k : Nat} (h : ¬ Gone l k) : pl l k = (cnt l k : Int) := by unfold pl; rw [if_neg h]
theorem pu_none {l : Nat → Nd} : pu l (-1) = -1 := by unfold pu; rw [if_pos (by omega)]
theorem pu_place {l : Nat → Nd} (k : Nat) : pu l (k : Int) = pl l k := by unfold pu; rw [if_neg (by omega)]; simp

theorem cnt_le (l : Nat → Nd) (k : Nat) : cnt l k ≤ k := by
  induction k with
  | zero => simp [cnt, kept]
  | succ k ih =>
    by_cases h : Gone l k
    · rw [cnt_gone h]; omega
    · rw [cnt_stay h]; omega

theorem cnt_step (l : Nat → Nd) (k : Nat) : cnt l k ≤ cnt l (k + 1) := by
  by_cases h : Gone l k
  · rw [cnt_gone h]; omega
  · rw [cnt_stay h]; omega

theorem cnt_mono {l : Nat → Nd} {i j : Nat} (h : i ≤ j) : cnt l i ≤ cnt l j := by
  induction j with
  | zero => obtain rfl : i = 0 := by omega
            exact Nat.le_refl _
  | succ j ih =>
    by_cases e : i ≤ j
    · exact Nat.le_trans (ih e) (cnt_step l j)
    · obtain rfl : i = j + 1 := by omega
      exact Nat.le_refl _

theorem cnt_lt {l : Nat → Nd} {i j : Nat} (hg : ¬ Gone l i) (h : i < j) : cnt l i < cnt l j := by
  have := cnt_stay hg
  have := cnt_mono (l := l) (show i + 1 ≤ j from h)
  omega

theorem cnt_inj {l : Nat → Nd} {i j : Nat} (hi : ¬ Gone l i) (hj : ¬ Gone l j) (h : cnt l i = cnt l j) : i = j := by
  rcases Nat.lt_trichotomy i j with e | e | e
  · have := cnt_lt hi e; omega
  · exact e
  · have := cnt_lt hj e; omega

theorem kept_pre (l : Nat → Nd) {i n : Nat} (h : i ≤ n) : ∃ r, kept l n = kept l i ++ r := by
  induction n with
  | zero => obtain rfl : i = 0 := by omega
            exact ⟨[], by simp⟩
  | succ n ih =>
    by_cases e : i ≤ n
    · obtain ⟨r, hr⟩ := ih e
      by_cases hg : Gone l n
      · exact ⟨r, by rw [kept_gone hg, hr]⟩
      · exact ⟨r ++ [n], by rw [kept_stay hg, hr, List.append_assoc]⟩
    · obtain rfl : i = n + 1 := by omega
      exact ⟨[], by simp⟩

theorem kept_at {l : Nat → Nd} {i n : Nat} (h : i < n) (hg : ¬ Gone l i) : cnt l i < cnt l n ∧ (kept l n).getD (cnt l i) 0 = i := by
  refine ⟨cnt_lt hg h, ?_⟩
  obtain ⟨r, hr⟩ := kept_pre l (show i + 1 ≤ n from h)
  rw [hr, kept_stay hg]
  unfold cnt
  simp [List.getD]

theorem kept_in {l : Nat → Nd} {n j : Nat} (h : j < cnt l n) : ∃ i, i < n ∧ ¬ Gone l i ∧ cnt l i = j := by
  induction n with
  | zero => simp [cnt, kept] at h
  | succ n ih =>
    by_cases hg : Gone l n
    · rw [cnt_gone hg] at h
      obtain ⟨i, h1, h2⟩ := ih h
      exact ⟨i, by omega, h2⟩
    · rw [cnt_stay hg] at h
      by_cases e : j < cnt l n
      · obtain ⟨i, h1, h2⟩ := ih e
        exact ⟨i, by omega, h2⟩
      · exact ⟨n, by omega, hg, by omega⟩

theorem sub_at {l : Nat → Nd} {i n : Nat} (h : i < n) (hg : ¬ Gone l i) : sub l n (cnt l i) = ⟨pu l (l i).up, (l i).lo, (l i).hi, false⟩ := by
  unfold sub
  rw [(kept_at h hg).2]

/-- whom one may be below, if one is left -/
def Good (l : Nat → Nd) (n : Nat) (u : Int) : Prop := u = -1 ∨ ∃ m : Nat, u = m ∧ m < n ∧ ¬ Gone l m

theorem good_up {l : Nat → Nd} {n k : Nat} (hv : V l n) (hk : k < n) (hg : ¬ Gone l k) : Good l n (l k).up := by
  have ⟨h1, h2, _⟩ := hv k hk
  by_cases e : (l k).up = -1
  · exact .inl e
  · exact .inr ⟨(l k).up.toNat, by omega, by omega, fun h => hg (.up k _ (by omega) h)⟩

theorem pu_inj {l : Nat → Nd} {n : Nat} {u v : Int} (hu : Good l n u) (hv : Good l n v) (h : pu l u = pu l v) : u = v := by
  rcases hu with rfl | ⟨m, rfl, _, hm⟩ <;> rcases hv with rfl | ⟨k, rfl, _, hk⟩
  · rfl
  · rw [pu_none, pu_place, pl_stay hk] at h; omega
  · rw [pu_none, pu_place, pl_stay hm] at h; omega
  · rw [pu_place, pu_place, pl_stay hm, pl_stay hk] at h
    have := cnt_inj hm hk (by omega)
    omega

theorem path_sub {l : Nat → Nd} {n : Nat} (hv : V l n) {a u : Int} (h : Path l a u) : ∀ i : Nat, a = i → i < n → ¬ Gone l i → Path (sub l n) (cnt l i) (pu l u) := by
  induction h with
  | here a =>
    rintro i rfl _ hg
    rw [pu_place, pl_stay hg]
    exact .here _
  | step k u hp ih =>
    intro i hi hn hg
    obtain rfl : k = i := by omega
    refine .step _ _ ?_
    rw [sub_at hn hg]
    show Path (sub l n) (pu l (l k).up) (pu l u)
    rcases good_up hv hn hg with e | ⟨m, e, hm, hmg⟩
    · rw [e] at hp ⊢
      rw [path_end hp]
      exact .here _
    · rw [e, pu_place, pl_stay hmg]
      exact ih m e hm hmg

theorem path_last {l : Nat → Nd} {n : Nat} (hv : V l n) {u : Int} (hu : u = -1 ∨ ∃ m : Nat, u = m ∧ ¬ Gone l m) : ∀ i : Nat, i ≤ n → Path l ((i : Int) - 1) u → (∃ i' : Nat, i' < i ∧ ¬ Gone l i' ∧ cnt l i' + 1 = cnt l i ∧ Path l i' u) ∨ (cnt l i = 0 ∧ u = -1) := by
  intro i
  induction i with
  | zero => intro _ h; exact .inr ⟨rfl, path_end h⟩
  | succ i ih =>
    intro hi h
    rw [show ((i + 1 : Nat) : Int) - 1 = i by omega] at h
    by_cases hg : Gone l i
    · have hne : ¬ (i : Int) = u := by
        rintro rfl
        rcases hu with h | ⟨m, hm, h⟩
        · omega
        · obtain rfl : i = m := by omega
          exact h hg
      have := (hv i (by omega)).2.2.trans ((path_up hne).1 h)
      rw [cnt_gone hg]
      rcases ih (by omega) this with ⟨i', h1, h2⟩ | h
      · exact .inl ⟨i', by omega, h2⟩
      · exact .inr h
    · exact .inl ⟨i, by omega, hg, (cnt_stay hg).symm, h⟩

theorem sub_valid {l : Nat → Nd} {n : Nat} (hv : V l n) : V (sub l n) (cnt l n) := by
  intro j hj
  obtain ⟨i, hi, hg, rfl⟩ := kept_in hj
  have ⟨h1, h2, h3⟩ := hv i hi
  have hup := good_up hv hi hg
  unfold Ok
  rw [sub_at hi hg]
  show -1 ≤ pu l (l i).up ∧ pu l (l i).up < cnt l i ∧ Path (sub l n) ((cnt l i : Int) - 1) (pu l (l i).up)
  refine ⟨?_, ?_, ?_⟩
  · rcases hup with e | ⟨m, e, hm, hmg⟩
    · rw [e, pu_none]; omega
    · rw [e, pu_place, pl_stay hmg]; omega
  · rcases hup with e | ⟨m, e, hm, hmg⟩
    · rw [e, pu_none]; omega
    · rw [e, pu_place, pl_stay hmg]
      have := cnt_lt (j := i) hmg (by omega)
      omega
  · rcases path_last hv (u := (l i).up) (hup.imp id fun ⟨m, e, _, h⟩ => ⟨m, e, h⟩) i (by omega) h3 with ⟨i', g1, g2, g3, g4⟩ | ⟨g1, g2⟩
    · have := path_sub hv g4 i' rfl (by omega) g2
      rw [show (cnt l i : Int) - 1 = cnt l i' by omega]
      exact this
    · rw [g2, pu_none, g1]
      exact .here _

theorem sub_unseen {l : Nat → Nd} {n : Nat} (hv : V l n) {c d u : Int} (hu : Good l n u) {i : Nat} (hi : i < n) (hg : ¬ Gone l i) (hn : (l i).up = u → ¬ seen (l i) c d) (e : (sub l n (cnt l i)).up = pu l u) : ¬ seen (sub l n (cnt l i)) c d := by
  rw [sub_at hi hg] at e ⊢
  rintro ⟨_, h⟩
  have e := pu_inj (good_up hv hi hg) hu e
  refine hn e ⟨?_, h⟩
  cases hs : (l i).skip
  · rfl
  · exact absurd (.skip i hs) hg

theorem kid_sub {l : Nat → Nd} {n : Nat} (hv : V l n) {c d u : Int} (hu : Good l n u) {k : Nat} (h : Kid l n c d u k) : ¬ Gone l k ∧ Kid (sub l n) (cnt l n) c d (pu l u) (cnt l k) := by
  obtain ⟨h1, h2, h3, h4⟩ := h
  have hg : ¬ Gone l k := fun g => by
    rcases g.out with g | ⟨j, e, g⟩
    · rw [h3.1] at g; cases g
    · rcases hu with hu | ⟨m, hm, _, hmg⟩
      · omega
      · obtain rfl : j = m := by omega
        exact hmg g
  refine ⟨hg, cnt_lt hg h1, by rw [sub_at h1 hg]; show pu l (l k).up = pu l u; rw [h2], ?_, ?_⟩
  · rw [sub_at h1 hg]
    exact ⟨rfl, h3.2⟩
  · intro j hj e
    obtain ⟨i, hi, hgi, rfl⟩ := kept_in (l := l) (n := n) (j := j) (by have := cnt_lt hg h1; omega)
    have hik : i < k := by
      rcases Nat.lt_or_ge i k with g | g
      · exact g
      · have := cnt_mono (l := l) g; omega
    exact sub_unseen hv hu hi hgi (h4 i hik) e

theorem nokid_sub {l : Nat → Nd} {n : Nat} (hv : V l n) {c d u : Int} (hu : Good l n u) (h : NoKid l n c d u) : NoKid (sub l n) (cnt l n) c d (pu l u) := by
  intro j hj e
  obtain ⟨i, hi, hgi, rfl⟩ := kept_in hj
  exact sub_unseen hv hu hi hgi (h i hi) e

theorem chain_sub {l : Nat → Nd} {n : Nat} (hv : V l n) {c d a : Int} (h : Chain l n c d a) : Good l n a ∧ Chain (sub l n) (cnt l n) c d (pu l a) := by
  induction h with
  | root => exact ⟨.inl rfl, by rw [pu_none]; exact .root⟩
  | step u k _ hp hk ih =>
    obtain ⟨hu, hc⟩ := ih
    obtain ⟨hg, hk2⟩ := kid_sub hv hu hk
    refine ⟨.inr ⟨k, rfl, hk.1, hg⟩, ?_⟩
    rw [pu_place, pl_stay hg]
    refine .step _ _ hc ?_ hk2
    rcases hp with rfl | ⟨m, rfl, hm⟩
    · exact .inl pu_none
    · rcases hu with hu | ⟨m', e, hm1, hm2⟩
      · omega
      · obtain rfl : m = m' := by omega
        refine .inr ⟨cnt l m, by rw [pu_place, pl_stay hm2], ?_⟩
        rw [sub_at hm1 hm2]
        exact hm

theorem picked_sub {l : Nat → Nd} {n : Nat} (hv : V l n) {c d r : Int} (h : Picked l n c d r) : (r = -1 ∧ Picked (sub l n) (cnt l n) c d (-1)) ∨ ∃ k : Nat, r = k ∧ k < n ∧ ¬ Gone l k ∧ Picked (sub l n) (cnt l n) c d (cnt l k) := by
  rcases h with ⟨rfl, h⟩ | ⟨k, rfl, hk, hc, h⟩
  · refine .inl ⟨rfl, .inl ⟨rfl, ?_⟩⟩
    have := nokid_sub hv (.inl rfl) h
    rwa [pu_none] at this
  · obtain ⟨hg, hc2⟩ := chain_sub hv hc
    rcases hg with hg | ⟨m, e, _, hg⟩
    · omega
    · obtain rfl : k = m := by omega
      rw [pu_place, pl_stay hg] at hc2
      refine .inr ⟨k, rfl, hk, hg, .inr ⟨cnt l k, rfl, cnt_lt hg hk, hc2, ?_⟩⟩
      rw [sub_at hk hg]
      rcases h with h | ⟨h, g⟩
      · exact .inl h
      · refine .inr ⟨h, ?_⟩
        have := nokid_sub hv (.inr ⟨k, rfl, hk, hg⟩) g
        rwa [pu_place, pl_stay hg] at this

/-- the places, as far as they are told -/
noncomputable def plF (l : Nat → Nd) (k : Nat) : Nat → Int := fun i => if i < k then pl l i else 0
noncomputable def backI (l : Nat → Nd) (k : Nat) : List Int := (kept l k).map fun t : Nat => (t : Int)
theorem backI_length (l : Nat → Nd) (k : Nat) : (backI l k).length = cnt l k := by simp [backI, cnt]
theorem backI_gone {l : Nat → Nd} {k : Nat} (h : Gone l k) : backI l (k + 1) = backI l k := by unfold backI; rw [kept_gone h]
theorem backI_stay {l : Nat → Nd} {k : Nat} (h : ¬ Gone l k) : backI l (k + 1) = backI l k ++ [(k : Int)] := by unfold backI; rw [kept_stay h]; simp
theorem backI_at {l : Nat → Nd} {i n : Nat} (h : i < n) (hg : ¬ Gone l i) : (backI l n).getD (cnt l i) 0 = (i : Int) := by
  have ⟨h1, h2⟩ := kept_at h hg
  unfold cnt at h1
  have e : (backI l n).getD (cnt l i) 0 = (((kept l n).getD (cnt l i) 0 : Nat) : Int) := by
    unfold backI
    rw [List.getD_eq_getElem?_getD, List.getD_eq_getElem?_getD, List.getElem?_map]
    unfold cnt
    rw [List.getElem?_eq_getElem h1]
    rfl
  rw [e, h2]

end Go.Proofs.Ytnoofdojbgkmkaa.An
