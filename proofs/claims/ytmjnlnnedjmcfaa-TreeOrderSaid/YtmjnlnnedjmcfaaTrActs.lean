/- What the calls of a tree answer, and what they leave behind; nothing of a program. -/
import Derived.Test.YtmjnlnnedjmcfaaTrOps
namespace Go.Proofs.Ytmjnlnnedjmcfaa.Tr
set_option linter.unusedVariables false

/-- how deep a box is; -1: there is none -/
def dp (t : T) : Nat → Int → Int
  | 0, _ => -1
  | f + 1, x => match t x with
    | none => -1
    | some nd => dp t f nd.up + 1
def dep (t : T) (x : Int) : Int := dp t 100 x

theorem dp_of {t : T} (h1 : ∀ nd, t 0 = some nd → nd.up = -1) (h2 : t (-1) = none) {x : Int} {d : Nat} (h : Dp t x d) : ∀ f, d < f → dp t f x = d := by
  induction h with
  | root h =>
    intro f hf
    cases f with
    | zero => omega
    | succ f =>
      simp only [dp, h, h1 _ h]
      cases f with
      | zero => simp [dp]
      | succ f => simp [dp, h2]
  | step h h0 _ ih =>
    intro f hf
    cases f with
    | zero => omega
    | succ f =>
      simp only [dp, h, ih f (by omega)]
      omega

theorem WF.root_up {t : T} (H : WF t) {nd : Nd} (h : t 0 = some nd) : nd.up = -1 := by
  obtain ⟨r, h1, h2⟩ := H.root
  rw [h] at h1; cases h1; exact h2
theorem WF.low {t : T} (H : WF t) {x : Int} (h : x < 0) : t x = none := by
  cases e : t x with
  | none => rfl
  | some nd => have := H.range x nd e; omega
theorem dep_none {t : T} {x : Int} (h : t x = none) : dep t x = -1 := by simp [dep, dp, h]
theorem WF.dep_of {t : T} (H : WF t) {x : Int} {d : Nat} (h : Dp t x d) : dep t x = d := dp_of (fun _ h => H.root_up h) (H.low (by omega)) h 100 (by have := H.dp63 h; omega)
theorem WF.dep_some {t : T} (H : WF t) {x : Int} {nd : Nd} (h : t x = some nd) : ∃ d : Nat, d ≤ 63 ∧ Dp t x d ∧ dep t x = d := by
  obtain ⟨d, h1, h2⟩ := H.deep x nd h
  exact ⟨d, h1, h2, H.dep_of h2⟩

/-- the least number that no box has -/
def Free (t : T) (z : Int) : Prop := 0 ≤ z ∧ t z = none ∧ ∀ y, 0 ≤ y → y < z → t y ≠ none
open Classical in
noncomputable def free (t : T) : Int := if h : ∃ z, Free t z then h.choose else 0
theorem free_eq {t : T} {z : Int} (h : Free t z) : free t = z := by
  have he : ∃ z, Free t z := ⟨z, h⟩
  unfold free
  rw [dif_pos he]
  have hc := he.choose_spec
  generalize he.choose = y at *
  by_cases h1 : y < z
  · exact absurd hc.2.1 (h.2.2 y hc.1 h1)
  · by_cases h2 : z < y
    · exact absurd h.2.1 (hc.2.2 z h.1 h2)
    · omega
theorem WF.full {t : T} (H : WF t) {k : Nat} (h : ∀ y : Int, 0 ≤ y → y < k → t y ≠ none) : k ≤ (ord t).length := by
  have hn : ((List.range k).map (fun n : Nat => (n : Int))).Nodup := List.Pairwise.map _ (fun a b hab e => hab (by omega)) List.nodup_range
  have hs : ((List.range k).map (fun n : Nat => (n : Int))) ⊆ ord t := fun x hx => by
    obtain ⟨n, hn, rfl⟩ := List.mem_map.1 hx
    have := h n (by omega) (by have := List.mem_range.1 hn; omega)
    obtain ⟨nd, hnd⟩ := Option.ne_none_iff_exists'.1 this
    exact H.mem_ord.2 ⟨nd, hnd⟩
  have := hn.length_le_of_subset hs
  simpa using this
theorem WF.free_is {t : T} (H : WF t) : Free t (free t) ∧ free t ≤ ((ord t).length : Int) := by
  have hex : ∃ k : Nat, t (k : Int) = none ∧ ∀ y : Int, 0 ≤ y → y < k → t y ≠ none := by
    by_cases h : ∀ k : Nat, t (k : Int) ≠ none
    · have := H.full (k := (ord t).length + 1) (fun y h0 _ => by have := h y.toNat; rwa [Int.toNat_of_nonneg h0] at this)
      omega
    · obtain ⟨k, hk⟩ := Classical.not_forall.1 h
      replace hk := Classical.not_not.1 hk
      induction k using Nat.strongRecOn with
      | ind k ih =>
        by_cases hl : ∀ y : Int, 0 ≤ y → y < k → t y ≠ none
        · exact ⟨k, hk, hl⟩
        · obtain ⟨y, hy⟩ := Classical.not_forall.1 hl
          have h0 : 0 ≤ y ∧ y < k ∧ t y = none := by
            refine ⟨?_, ?_, ?_⟩
            · exact Classical.byContradiction fun q => hy fun q2 => absurd q2 q
            · exact Classical.byContradiction fun q => hy fun _ q2 => absurd q2 q
            · exact Classical.byContradiction fun q => hy fun _ _ q2 => q q2
          refine ih y.toNat (by omega) ?_
          rw [Int.toNat_of_nonneg h0.1]; exact h0.2.2
  obtain ⟨k, h1, h2⟩ := hex
  have hf : Free t (k : Int) := ⟨by omega, h1, h2⟩
  rw [free_eq hf]
  exact ⟨hf, by have := H.full h2; omega⟩

theorem WF.kids_le {t : T} (H : WF t) {u : Int} {p : Nd} (hu : t u = some p) : p.kids.length ≤ (ord t).length :=
  (H.nodup u p hu).length_le_of_subset fun x hx => by
    obtain ⟨_, nd, h, _⟩ := H.kid u p x hu hx
    exact H.mem_ord.2 ⟨nd, h⟩

/-- what Add answers, and leaves -/
def addE (t : T) (u a : Int) : Int := match t u with
  | none => 2
  | some p => if a < 0 ∨ (p.kids.length : Int) < a then 1 else if 63 ≤ dep t u then 5 else 0
noncomputable def addI (t : T) (u a : Int) : Int := if addE t u a = 0 then free t else -1
noncomputable def addR (t : T) (u a : Int) : T := if addE t u a = 0 then addT t (free t) u a.toNat else t

theorem WF.addR {t : T} (H : WF t) (u a : Int) (hn : (ord t).length < 4096) : WF (addR t u a) ∧ (ord (Tr.addR t u a)).length = (ord t).length + (if addE t u a = 0 then 1 else 0) := by
  unfold Tr.addR
  by_cases h : addE t u a = 0
  · rw [if_pos h, if_pos h]
    unfold addE at h
    cases hu : t u with
    | none => rw [hu] at h; cases h
    | some p =>
      rw [hu] at h
      dsimp only at h
      split at h
      · cases h
      · split at h
        · cases h
        · rename_i h1 h2
          obtain ⟨d, h3, h4, h5⟩ := H.dep_some hu
          obtain ⟨⟨f0, f1, _⟩, f2⟩ := H.free_is
          have W := H.add (i := a.toNat) hu f1 ⟨f0, by omega⟩ h4 (by omega)
          exact ⟨W, H.add_ord hu f1 W⟩
  · rw [if_neg h, if_neg h]
    exact ⟨H, rfl⟩

/-- what Remove answers, and leaves -/
def remE (t : T) (x : Int) : Int := match t x with
  | none => 2
  | some _ => if x = 0 then 1 else 0
def remI (t : T) (x : Int) : Int := if remE t x = 0 then (sub t 64 x).length else 0
def remR (t : T) (x : Int) : T := if remE t x = 0 then remT t x else t

theorem WF.remR {t : T} (H : WF t) (x : Int) : WF (remR t x) ∧ ((ord (Tr.remR t x)).length : Int) + remI t x = (ord t).length := by
  unfold Tr.remR remI
  by_cases h : remE t x = 0
  · rw [if_pos h, if_pos h]
    unfold remE at h
    cases hx : t x with
    | none => rw [hx] at h; cases h
    | some nd =>
      rw [hx] at h
      dsimp only at h
      split at h
      · cases h
      · rename_i h0
        refine ⟨H.rem hx h0, ?_⟩
        have := H.rem_ord hx h0
        omega
  · rw [if_neg h, if_neg h]
    exact ⟨H, by omega⟩

/-- what Move answers, and leaves -/
def movE (t : T) (x u a : Int) : Int := match t x, t u with
  | some _, some p => if x = 0 then 1 else if u ∈ sub t 64 x then 3 else if a < 0 ∨ ((wo p.kids x).length : Int) < a then 1 else if 63 < dep t u + 1 + hgt t 64 x then 5 else 0
  | _, _ => 2
def movR (t : T) (x u a : Int) : T := if movE t x u a = 0 then movT t x u a.toNat else t

theorem movE_zero {t : T} {x u a : Int} (h : movE t x u a = 0) : ∃ nd p, t x = some nd ∧ t u = some p ∧ x ≠ 0 ∧ u ∉ sub t 64 x ∧ 0 ≤ a ∧ a ≤ (wo p.kids x).length ∧ dep t u + 1 + hgt t 64 x ≤ 63 := by
  unfold movE at h
  cases hx : t x with
  | none => rw [hx] at h; cases h
  | some nd =>
    cases hu : t u with
    | none => rw [hx, hu] at h; cases h
    | some p =>
      rw [hx, hu] at h
      dsimp only at h
      split at h
      · cases h
      · split at h
        · cases h
        · split at h
          · cases h
          · split at h
            · cases h
            · exact ⟨nd, p, rfl, rfl, by assumption, by assumption, by omega, by omega, by omega⟩

theorem WF.movR {t : T} (H : WF t) (x u a : Int) : WF (movR t x u a) ∧ (ord (Tr.movR t x u a)).length = (ord t).length := by
  unfold Tr.movR
  by_cases h : movE t x u a = 0
  · rw [if_pos h]
    obtain ⟨nd, p, hx, hu, h0, hun, ha, hal, hd⟩ := movE_zero h
    obtain ⟨d, h3, h4, h5⟩ := H.dep_some hu
    have W := H.mov (i := a.toNat) hx h0 hu hun h4 (by omega)
    exact ⟨W, H.mov_ord hx h0 hu hun W⟩
  · rw [if_neg h]
    exact ⟨H, rfl⟩

/-- how many others are in a box -/
theorem WF.others {t : T} (H : WF t) {x u : Int} {nd p : Nd} (hx : t x = some nd) (hu : t u = some p) (h0 : x ≠ 0) : ((wo p.kids x).length : Int) = if nd.up = u then (p.kids.length : Int) - 1 else p.kids.length := by
  by_cases e : nd.up = u
  · rw [if_pos e]
    obtain ⟨q, hq, hm⟩ := H.up x nd hx h0
    rw [e, hu] at hq; cases hq
    have := length_wo (H.nodup u p hu) hm
    omega
  · rw [if_neg e, wo_not]
    intro hm
    obtain ⟨_, nd', h1, h2⟩ := H.kid u p x hu hm
    rw [hx] at h1; cases h1; exact e h2

end Go.Proofs.Ytmjnlnnedjmcfaa.Tr
