/- Layer flow: how high a box is, in plain numbers. -/
import Derived.Test.YteggipnplbkijaaGreatXFwThree
import Derived.Test.YteggipnplbkijaaGreatW34
set_option maxRecDepth 100000
namespace Go.Proofs.YteggipnplbkijaaGreat.Fix
set_option linter.unusedVariables false
set_option linter.unusedSimpArgs false

theorem len_low {k n x : Int} (ht : tmL k n = true) (hk : Fx.fixd k (-1) = true) : -1048576 ≤ Fx.len k n (-1) x ∧ Fx.len k n (-1) x ≤ 1048576 := by
  rcases Fx.fixd_iff.1 hk with e | ⟨e, h⟩
  · subst e
    rw [Fx.len_px rfl]
    have : ¬ (1048576 < n) ∧ ¬ (n < -1048576) := by
      refine ⟨fun h => ?_, fun h => ?_⟩ <;> simp [tmL, h] at ht
    unfold Fx.cut
    omega
  · omega
/-- a limit where no room is known -/
theorem limit_low {n lk ln hk hn : Int} (tl : tmL lk ln = true) : 0 ≤ Fx.limit n lk ln hk hn (-1) ∧ Fx.limit n lk ln hk hn (-1) ≤ 1099511627776 ∧ (n ≤ 16777216 → Fx.limit n lk ln hk hn (-1) ≤ 16777216) ∧ Fx.limit 0 lk ln hk hn (-1) ≤ Fx.limit n lk ln hk hn (-1) := by
  unfold Fx.limit
  have a : Fx.len lk ln (-1) (-1099511627776) ≤ 1048576 := by
    cases h : Fx.fixd lk (-1)
    · rw [len_un h]; unfold Fx.cut; omega
    · exact (len_low tl h).2
  generalize Fx.len lk ln (-1) (-1099511627776) = lo at *
  generalize Fx.len hk hn (-1) 1099511627776 = hi at *
  have cm : ∀ n, Fx.mx (Fx.clamp n lo hi) 0 = max (max (Fx.cut lo) (min (Fx.cut n) (Fx.cut hi))) 0 := fun n => by
    unfold Fx.mx Fx.clamp
    generalize Fx.cut lo = a
    generalize Fx.cut n = b
    generalize Fx.cut hi = c
    repeat' split
    all_goals omega
  rw [cm, cm]
  have k1 : Fx.cut lo ≤ 1048576 := by unfold Fx.cut; omega
  have k2 := Fx.cut_le n
  have k3 : n ≤ 16777216 → Fx.cut n ≤ 16777216 := fun h => by unfold Fx.cut; omega
  have k4 : Fx.cut 0 = 0 := by decide
  rw [k4]
  generalize Fx.cut lo = a at *
  generalize Fx.cut n = b at *
  generalize Fx.cut hi = c at *
  refine ⟨by omega, by omega, fun h => ?_, by omega⟩
  have := k3 h
  omega

/-- how high a box is whose room has no height -/
theorem height_of {t : Re.St} (hv : Re.valid t = true) (ht : tameB t = true) {w c x : Int} (hx : x = Fw.wr ((if Fw.wth t 1 w (-1) (-1) = -1 then Fw.lim t 1 c (-1) else Fw.wth t 1 w (-1) (-1)) + Fw.eds t 1)) :
    ∃ e0 e2 h : Int, Fw.ed t 0 = e0 ∧ Fw.ed t 2 = e2 ∧ (0 ≤ e0 ∧ e0 ≤ 2097152) ∧ (0 ≤ e2 ∧ e2 ≤ 2097152) ∧ Fx.cut x - e0 - e2 = h ∧ (0 ≤ Fx.cut x ∧ Fx.cut x ≤ 1099511627776) ∧
      (Fx.fixd (t.c 5) (-1) = true → h = Fx.limit (Fx.len (t.c 5) (t.c 6) (-1) 0) (t.c 9) (t.c 10) (t.c 13) (t.c 14) (-1)) ∧
      (Fx.fixd (t.c 5) (-1) = false → c = t.c 54 → h = Fx.limit (t.c 54) (t.c 9) (t.c 10) (t.c 13) (t.c 14) (-1)) ∧
      (Fx.fixd (t.c 5) (-1) = false → Fx.limit 0 (t.c 9) (t.c 10) (t.c 13) (t.c 14) (-1) ≤ h) := by
  have b0 := ed_small hv (i := 0) (by decide)
  have b2 := ed_small hv (i := 2) (by decide)
  obtain ⟨e0, he0⟩ : ∃ m, Fw.ed t 0 = m := ⟨_, rfl⟩
  obtain ⟨e2, he2⟩ : ∃ m, Fw.ed t 2 = m := ⟨_, rfl⟩
  rw [he0] at b0
  rw [he2] at b2
  have g2 : Fw.eds t 1 = e0 + e2 := by
    have e : Fw.eds t 1 = Fw.wr (Fw.ed t 0 + Fw.ed t 2) := rfl
    rw [e, he0, he2]
    unfold Fw.wr
    omega
  have tl := tame_at ht (i := 9) (by decide)
  have hll := fun n => limit_low (n := n) (hk := t.c 13) (hn := t.c 14) tl
  have f : Fw.fxd t 1 (-1) = Fx.fixd (t.c 5) (-1) := rfl
  have fl : ∀ n, Fw.lim t 1 n (-1) = Fx.limit n (t.c 9) (t.c (9 + 1)) (t.c 13) (t.c 14) (-1) := fun n => rfl
  have hc54 := valid_size hv (i := 54) (by decide)
  cases hf : Fx.fixd (t.c 5) (-1)
  · have hw : Fw.wth t 1 w (-1) (-1) = -1 := by
      unfold Fw.wth
      rw [if_neg (by decide), f, hf]
      simp
    rw [hw, if_pos rfl, g2, fl] at hx
    obtain ⟨p1, p2, p3, p4⟩ := hll c
    obtain ⟨z, hz⟩ : ∃ z, Fx.limit c (t.c 9) (t.c (9 + 1)) (t.c 13) (t.c 14) (-1) = z := ⟨_, rfl⟩
    rw [hz] at p1 p2 p3 p4 hx
    obtain ⟨r1, r2, r3, r4⟩ := hll 0
    have hcx : Fx.cut x = if 1099511627776 < z + e0 + e2 then 1099511627776 else z + e0 + e2 := by
      rw [hx]
      unfold Fw.wr Fx.cut
      omega
    refine ⟨e0, e2, _, he0, he2, b0, b2, rfl, ?_, (fun h => by cases h), fun _ hc => ?_, fun _ => ?_⟩
    · rw [hcx]; omega
    · have := p3 (by omega)
      rw [hc] at hz
      rw [hcx]
      have hz2 : Fx.limit (t.c 54) (t.c 9) (t.c 10) (t.c 13) (t.c 14) (-1) = z := hz
      rw [hz2]
      omega
    · have r3' : Fx.limit 0 (t.c 9) (t.c 10) (t.c 13) (t.c 14) (-1) ≤ 16777216 := r3 (by omega)
      have p4' : Fx.limit 0 (t.c 9) (t.c 10) (t.c 13) (t.c 14) (-1) ≤ z := p4
      rw [hcx]
      omega
  · have hq := len_low (x := 0) (tame_at ht (i := 5) (by decide)) hf
    obtain ⟨p1, p2, p3, p4⟩ := hll (Fx.len (t.c 5) (t.c (5 + 1)) (-1) 0)
    have hw : Fw.wth t 1 w (-1) (-1) = Fx.limit (Fx.len (t.c 5) (t.c (5 + 1)) (-1) 0) (t.c 9) (t.c (9 + 1)) (t.c 13) (t.c 14) (-1) := by
      unfold Fw.wth
      rw [if_neg (by decide), f, hf, if_pos rfl]
      rfl
    obtain ⟨z, hz⟩ : ∃ z, Fx.limit (Fx.len (t.c 5) (t.c (5 + 1)) (-1) 0) (t.c 9) (t.c (9 + 1)) (t.c 13) (t.c 14) (-1) = z := ⟨_, rfl⟩
    rw [hz] at p1 p2 p3 p4 hw
    have p3' := p3 (by omega)
    rw [hw, if_neg (by omega), g2] at hx
    have hcx : Fx.cut x = z + e0 + e2 := by
      rw [hx]
      unfold Fw.wr Fx.cut
      omega
    refine ⟨e0, e2, _, he0, he2, b0, b2, rfl, ?_, fun _ => ?_, (fun h => by cases h), fun h => by cases h⟩
    · rw [hcx]; omega
    · have hz2 : Fx.limit (Fx.len (t.c 5) (t.c 6) (-1) 0) (t.c 9) (t.c 10) (t.c 13) (t.c 14) (-1) = z := hz
      rw [hcx, hz2]
      omega

end Go.Proofs.YteggipnplbkijaaGreat.Fix
