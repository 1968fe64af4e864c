/- Plain numbers of the layer rect, more of them. No program in sight. -/
import Derived.Test.YtfmbmgkckdlhfaaRectMath
namespace Go.Proofs.Ytfmbmgkckdlhfaa
namespace Fx
theorem innR_plain {x y w h x' y' w' h' : Int} (x1 : -274877906944 ≤ x) (x2 : x ≤ 274877906944) (y1 : -274877906944 ≤ y) (y2 : y ≤ 274877906944) (w1 : 0 ≤ w) (w2 : w ≤ 274877906944) (h1 : 0 ≤ h) (h2 : h ≤ 274877906944)
    (x1' : -274877906944 ≤ x') (x2' : x' ≤ 274877906944) (y1' : -274877906944 ≤ y') (y2' : y' ≤ 274877906944) (w1' : 0 ≤ w') (w2' : w' ≤ 274877906944) (h1' : 0 ≤ h') (h2' : h' ≤ 274877906944) :
    innR x y w h x' y' w' h' = decide ((w ≤ 0 ∨ h ≤ 0) ∨ (x' ≤ x ∧ x + w ≤ x' + w' ∧ y' ≤ y ∧ y + h ≤ y' + h')) := by
  unfold innR emp
  rw [cut_plain (n := x) (by omega) (by omega), cut_plain (n := y) (by omega) (by omega), hi_plain (by omega) (by omega) w1 w2, hi_plain (by omega) (by omega) h1 h2, cut_plain (n := x') (by omega) (by omega), cut_plain (n := y') (by omega) (by omega), hi_plain (by omega) (by omega) w1' w2', hi_plain (by omega) (by omega) h1' h2']
  rw [Bool.eq_iff_iff]
  simp only [Bool.or_eq_true, Bool.and_eq_true, inn_iff, decide_eq_true_iff]
  omega
theorem less_plain {n s : Int} (h1 : -549755813888 ≤ n) (h2 : n ≤ 549755813888) (h3 : -549755813888 ≤ s) (h4 : s ≤ 549755813888) : less n s = if n - s < 0 then 0 else n - s := by
  unfold less mx
  rw [sub_plain h1 h2 h3 h4]
theorem sub_zero {n : Int} (h1 : -549755813888 ≤ n) (h2 : n ≤ 549755813888) : sub 0 n = -n := by rw [sub_plain (by omega) (by omega) h1 h2]; omega
theorem zero_add {n : Int} (h1 : -549755813888 ≤ n) (h2 : n ≤ 549755813888) : add 0 n = n := by rw [add_plain (by omega) (by omega) h1 h2]; omega
/-- what is across, of Meet and Join, where the limit leaves room -/
theorem mLo_plain {x w y v : Int} (x1 : -274877906944 ≤ x) (x2 : x ≤ 274877906944) (w1 : 0 ≤ w) (w2 : w ≤ 274877906944) (y1 : -274877906944 ≤ y) (y2 : y ≤ 274877906944) (v1 : 0 ≤ v) (v2 : v ≤ 274877906944) :
    mLo x w y v = (if mn (x + w) (y + v) ≤ mx x y then 0 else mx x y) ∧ mSz x w y v = (if mn (x + w) (y + v) ≤ mx x y then 0 else mn (x + w) (y + v) - mx x y) := by
  unfold mSz mLo mHi
  rw [cut_plain (n := x) (by omega) (by omega), cut_plain (n := y) (by omega) (by omega), hi_plain (by omega) (by omega) w1 w2, hi_plain (by omega) (by omega) v1 v2]
  unfold meetLo meetHi
  by_cases h : mn (x + w) (y + v) ≤ mx x y
  · rw [if_pos h, if_pos h, if_pos h]
    exact ⟨rfl, by decide⟩
  · rw [if_neg h, if_neg h, if_neg h]
    refine ⟨rfl, ?_⟩
    have a1 : -274877906944 ≤ mx x y := by unfold mx; split <;> omega
    have a2 : mn (x + w) (y + v) ≤ 549755813888 := by unfold mn; split <;> omega
    exact size_plain (by omega) (by omega) (by omega)
theorem jLo_plain {x w y v : Int} (x1 : -274877906944 ≤ x) (x2 : x ≤ 274877906944) (w1 : 0 < w) (w2 : w ≤ 274877906944) (y1 : -274877906944 ≤ y) (y2 : y ≤ 274877906944) (v1 : 0 < v) (v2 : v ≤ 274877906944) :
    jLo x w y v = mn x y ∧ jSz x w y v = mx (x + w) (y + v) - mn x y := by
  unfold jSz jLo jHi
  rw [cut_plain (n := x) (by omega) (by omega), cut_plain (n := y) (by omega) (by omega), hi_plain (by omega) (by omega) (by omega) w2, hi_plain (by omega) (by omega) (by omega) v2]
  unfold joinLo joinHi
  rw [if_neg (by omega), if_neg (by omega), if_neg (by omega), if_neg (by omega)]
  refine ⟨rfl, ?_⟩
  have a1 : -274877906944 ≤ mn x y := by unfold mn; split <;> omega
  have a2 : mx (x + w) (y + v) ≤ 549755813888 := by unfold mx; split <;> omega
  have a3 : mn x y ≤ mx (x + w) (y + v) := by unfold mn mx; (repeat' split) <;> omega
  exact size_plain (by omega) (by omega) (by omega)
end Fx
end Go.Proofs.Ytfmbmgkckdlhfaa
