/- What comes of a tree when a box comes, goes, moves, is styled: trees all of them. -/
import Derived.Test.YtmjnlnnedjmcfaaTrMath
namespace Go.Proofs.Ytmjnlnnedjmcfaa.Tr
set_option linter.unusedVariables false
set_option linter.unusedSectionVars false

/-- a row without a number; with one more at a place -/
def wo (l : List Int) (x : Int) : List Int := l.filter fun y => y != x
def wi (l : List Int) (i : Nat) (x : Int) : List Int := l.take i ++ x :: l.drop i

theorem mem_wo {l : List Int} {x y : Int} : y ∈ wo l x ↔ y ∈ l ∧ y ≠ x := by simp [wo]
theorem mem_wi {l : List Int} {i : Nat} {x y : Int} : y ∈ wi l i x ↔ y = x ∨ y ∈ l := by
  have : y ∈ l ↔ y ∈ l.take i ∨ y ∈ l.drop i := by rw [← List.mem_append, List.take_append_drop]
  simp only [wi, List.mem_append, List.mem_cons, this]
  constructor
  · rintro (h | h | h)
    · exact .inr (.inl h)
    · exact .inl h
    · exact .inr (.inr h)
  · rintro (h | h | h)
    · exact .inr (.inl h)
    · exact .inl h
    · exact .inr (.inr h)
theorem nodup_wo {l : List Int} (h : l.Nodup) (x : Int) : (wo l x).Nodup := h.filter _
theorem nodup_wi {l : List Int} (h : l.Nodup) (i : Nat) {x : Int} (hx : x ∉ l) : (wi l i x).Nodup := by
  have h2 : (l.take i ++ l.drop i).Nodup := by rw [List.take_append_drop]; exact h
  rw [List.nodup_append] at h2
  rw [wi, List.nodup_append]
  refine ⟨h2.1, List.nodup_cons.2 ⟨fun hm => hx (List.mem_of_mem_drop hm), h2.2.1⟩, fun a ha b hb => ?_⟩
  rcases List.mem_cons.1 hb with rfl | hb
  · exact fun e => hx (e ▸ List.mem_of_mem_take ha)
  · exact h2.2.2 a ha b hb
theorem length_wi (l : List Int) (i : Nat) (x : Int) : (wi l i x).length = l.length + 1 := by simp [wi]; omega
theorem wo_not {l : List Int} {x : Int} (h : x ∉ l) : wo l x = l := List.filter_eq_self.2 fun y hy => by simp; rintro rfl; exact h hy
theorem wo_wi {l : List Int} {x : Int} (h : x ∉ l) (i : Nat) : wo (wi l i x) x = l := by
  have h1 : wo (l.take i) x = l.take i := wo_not fun hm => h (List.mem_of_mem_take hm)
  have h2 : wo (l.drop i) x = l.drop i := wo_not fun hm => h (List.mem_of_mem_drop hm)
  unfold wo at *
  rw [wi, List.filter_append, List.filter_cons, h1, h2]
  simp
/-- taken away at its place -/
theorem wo_at {l : List Int} (h : l.Nodup) {i : Nat} {x : Int} (hi : l[i]? = some x) : wo l x = l.take i ++ l.drop (i + 1) := by
  obtain ⟨hlt, he⟩ := List.getElem?_eq_some_iff.1 hi
  have hs : l = l.take i ++ x :: l.drop (i + 1) := by rw [← he, ← List.drop_eq_getElem_cons hlt, List.take_append_drop]
  have hn := h
  rw [hs, List.nodup_append] at hn
  have h1 : x ∉ l.take i := fun hm => hn.2.2 x hm x List.mem_cons_self rfl
  have h2 : x ∉ l.drop (i + 1) := (List.nodup_cons.1 hn.2.1).1
  have e1 : wo (l.take i) x = l.take i := wo_not h1
  have e2 : wo (l.drop (i + 1)) x = l.drop (i + 1) := wo_not h2
  conv => lhs; rw [hs]
  unfold wo at *
  rw [List.filter_append, List.filter_cons, e1, e2]
  simp
theorem wi_wo {l : List Int} (h : l.Nodup) {i : Nat} {x : Int} (hi : l[i]? = some x) : wi (wo l x) i x = l := by
  rw [wo_at h hi, wi]
  obtain ⟨hlt, he⟩ := List.getElem?_eq_some_iff.1 hi
  have hl : (l.take i).length = i := by simp; omega
  rw [List.take_append_of_le_length (by omega), List.take_of_length_le (by omega), List.drop_append_of_le_length (by omega), List.drop_of_length_le (by omega), List.nil_append, ← he, ← List.drop_eq_getElem_cons hlt, List.take_append_drop]
theorem length_wo {l : List Int} (h : l.Nodup) {x : Int} (hx : x ∈ l) : (wo l x).length + 1 = l.length := by
  obtain ⟨i, hi, he⟩ := List.mem_iff_getElem.1 hx
  rw [wo_at h (List.getElem?_eq_some_iff.2 ⟨hi, he⟩)]
  simp
  omega

/-- a box is no kid any more -/
def leave (t : T) (x : Int) : T := match t x with
  | none => t
  | some nd => match t nd.up with
    | none => t
    | some p => set t nd.up { p with kids := wo p.kids x }
/-- a box is a kid -/
def enter (t : T) (x u : Int) (i : Nat) : T := match t u, t x with
  | some p, some nd => set (set t u { p with kids := wi p.kids i x }) x { nd with up := u }
  | _, _ => t
def addT (t : T) (x u : Int) (i : Nat) : T := enter (set t x ⟨0, [], Re.zero⟩) x u i
def remT (t : T) (x : Int) : T := del (leave t x) (sub t 64 x)
def movT (t : T) (x u : Int) (i : Nat) : T := enter (leave t x) x u i
def styT (t : T) (x : Int) (s : Re.St) : T := match t x with
  | none => t
  | some nd => set t x { nd with sty := s }

/-- two trees whose boxes stand alike -/
def Alike (t s : T) : Prop := ∀ x, (t x).map (fun n => (n.up, n.kids)) = (s x).map (fun n => (n.up, n.kids))

theorem Alike.some {t s : T} (h : Alike t s) {x : Int} {nd : Nd} (hx : t x = some nd) : ∃ nd', s x = Option.some nd' ∧ nd'.up = nd.up ∧ nd'.kids = nd.kids := by
  have := h x
  rw [hx] at this
  cases hs : s x with
  | none => rw [hs] at this; cases this
  | some nd' => rw [hs] at this; simp at this; exact ⟨nd', rfl, this.1.symm, this.2.symm⟩
theorem Alike.symm {t s : T} (h : Alike t s) : Alike s t := fun x => (h x).symm
theorem Alike.dp {t s : T} (h : Alike t s) {x : Int} {n : Nat} (hd : Dp t x n) : Dp s x n := by
  induction hd with
  | root h0 => obtain ⟨nd', h1, _⟩ := h.some h0; exact .root h1
  | step h1 h0 _ ih => obtain ⟨nd', h2, h3, _⟩ := h.some h1; exact .step h2 h0 (h3 ▸ ih)

theorem WF.alike {t s : T} (H : WF t) (h : Alike t s) : WF s where
  root := by obtain ⟨nd, h1, h2⟩ := H.root; obtain ⟨nd', h3, h4, _⟩ := h.some h1; exact ⟨nd', h3, h4.trans h2⟩
  range := fun x nd hx => by obtain ⟨nd', h1, _⟩ := h.symm.some hx; exact H.range x nd' h1
  up := fun x nd hx h0 => by
    obtain ⟨nd', h1, h2, _⟩ := h.symm.some hx
    obtain ⟨p, h3, h4⟩ := H.up x nd' h1 h0
    obtain ⟨p', h5, _, h6⟩ := h.some h3
    exact ⟨p', h2 ▸ h5, h6 ▸ h4⟩
  kid := fun u p x hu hx => by
    obtain ⟨p', h1, _, h2⟩ := h.symm.some hu
    obtain ⟨h0, nd, h3, h4⟩ := H.kid u p' x h1 (h2 ▸ hx)
    obtain ⟨nd', h5, h6, _⟩ := h.some h3
    exact ⟨h0, nd', h5, h6.trans h4⟩
  nodup := fun u p hu => by obtain ⟨p', h1, _, h2⟩ := h.symm.some hu; exact h2 ▸ H.nodup u p' h1
  deep := fun x nd hx => by
    obtain ⟨nd', h1, _⟩ := h.symm.some hx
    obtain ⟨n, hn, hd⟩ := H.deep x nd' h1
    exact ⟨n, hn, h.dp hd⟩

theorem alike_sty (t : T) (x : Int) (s : Re.St) : Alike t (styT t x s) := fun y => by
  unfold styT
  cases h : t x with
  | none => rfl
  | some nd =>
    show _ = Option.map _ (set t x { nd with sty := s } y)
    by_cases e : y = x
    · subst e; rw [set_same, h]; rfl
    · rw [set_other t _ e]

/-- a box comes -/
theorem add_at {t : T} {x u : Int} {i : Nat} {p : Nd} (hu : t u = some p) (hx : t x = none) (y : Int) :
    addT t x u i y = if y = x then some ⟨u, [], Re.zero⟩ else if y = u then some { p with kids := wi p.kids i x } else t y := by
  have hne : u ≠ x := by rintro rfl; rw [hu] at hx; cases hx
  unfold addT enter
  rw [set_other t _ hne, hu, set_same]
  show set _ x _ y = _
  by_cases e : y = x
  · subst e; rw [if_pos rfl]; simp only [set_same]
  · rw [if_neg e, set_other _ _ e]
    by_cases e2 : y = u
    · subst e2; rw [if_pos rfl, set_same]
    · rw [if_neg e2, set_other _ _ e2, set_other _ _ e]

theorem WF.add {t : T} (H : WF t) {x u : Int} {i : Nat} {p : Nd} {n : Nat} (hu : t u = some p) (hx : t x = none) (hr : 0 ≤ x ∧ x < 4096) (hd : Dp t u n) (hn : n ≤ 62) : WF (addT t x u i) := by
  have hxl : ∀ y q, t y = some q → y ≠ x := fun y q h e => by rw [e, hx] at h; cases h
  have hnk : ∀ y q, t y = some q → x ∉ q.kids := fun y q h hm => by obtain ⟨_, nd, h2, _⟩ := H.kid y q x h hm; rw [hx] at h2; cases h2
  have A := fun y => add_at (i := i) hu hx y
  have old : ∀ y q, t y = some q → ∃ q', addT t x u i y = some q' ∧ q'.up = q.up ∧ (∀ k, k ∈ q'.kids ↔ k ∈ q.kids ∨ (y = u ∧ k = x)) ∧ q'.kids.Nodup := fun y q h => by
    rw [A y, if_neg (hxl y q h)]
    by_cases e : y = u
    · subst e
      rw [h] at hu; cases hu
      rw [if_pos rfl]
      exact ⟨_, rfl, rfl, fun k => by simp only [mem_wi, true_and, or_comm], nodup_wi (H.nodup _ _ h) _ (hnk _ _ h)⟩
    · rw [if_neg e, h]
      exact ⟨q, rfl, rfl, fun k => by simp [e], H.nodup _ _ h⟩
  have new : addT t x u i x = some ⟨u, [], Re.zero⟩ := by rw [A x, if_pos rfl]
  have back : ∀ y q', addT t x u i y = some q' → (y = x ∧ q' = ⟨u, [], Re.zero⟩) ∨ ∃ q, t y = some q ∧ q'.up = q.up ∧ (∀ k, k ∈ q'.kids ↔ k ∈ q.kids ∨ (y = u ∧ k = x)) ∧ q'.kids.Nodup := fun y q' h => by
    by_cases e : y = x
    · subst e; rw [new] at h; cases h; exact .inl ⟨rfl, rfl⟩
    · right
      cases hy : t y with
      | none =>
        rw [A y, if_neg e] at h
        by_cases e2 : y = u
        · subst e2; rw [hy] at hu; cases hu
        · rw [if_neg e2, hy] at h; cases h
      | some q =>
        obtain ⟨q'', h1, h2⟩ := old y q hy
        rw [h] at h1; cases h1
        exact ⟨q, rfl, h2⟩
  have dp : ∀ {y : Int} {m : Nat}, Dp t y m → Dp (addT t x u i) y m := fun {y m} h => by
    induction h with
    | root h0 => obtain ⟨q', h1, _⟩ := old _ _ h0; exact .root h1
    | step h1 h0 _ ih => obtain ⟨q', h2, h3, _⟩ := old _ _ h1; exact .step h2 h0 (h3 ▸ ih)
  have hx0 : x ≠ 0 := fun e => by obtain ⟨nd, h, _⟩ := H.root; exact hxl 0 nd h e.symm
  refine ⟨?_, ?_, ?_, ?_, ?_, ?_⟩
  · obtain ⟨nd, h, h2⟩ := H.root
    obtain ⟨q', h3, h4, _⟩ := old 0 nd h
    exact ⟨q', h3, h4.trans h2⟩
  · intro y nd h
    rcases back y nd h with ⟨rfl, _⟩ | ⟨q, h2, _⟩
    · exact hr
    · exact H.range y q h2
  · intro y nd h h0
    rcases back y nd h with ⟨rfl, rfl⟩ | ⟨q, h2, h3, _⟩
    · obtain ⟨q', h3, _, h4, _⟩ := old u p hu
      exact ⟨q', h3, (h4 y).2 (.inr ⟨rfl, rfl⟩)⟩
    · obtain ⟨r, h4, h5⟩ := H.up y q h2 h0
      obtain ⟨r', h6, _, h7, _⟩ := old _ r h4
      exact ⟨r', h3 ▸ h6, (h7 y).2 (.inl h5)⟩
  · intro v q' y h hy
    rcases back v q' h with ⟨rfl, rfl⟩ | ⟨q, h2, h3, h4, _⟩
    · cases hy
    · rcases (h4 y).1 hy with h5 | ⟨rfl, rfl⟩
      · obtain ⟨h0, nd, h6, h7⟩ := H.kid v q y h2 h5
        obtain ⟨nd', h8, h9, _⟩ := old y nd h6
        exact ⟨h0, nd', h8, h9.trans h7⟩
      · exact ⟨hx0, _, new, rfl⟩
  · intro v q' h
    rcases back v q' h with ⟨rfl, rfl⟩ | ⟨q, h2, h3, h4, h5⟩
    · exact .nil
    · exact h5
  · intro y nd h
    rcases back y nd h with ⟨rfl, rfl⟩ | ⟨q, h2, _⟩
    · exact ⟨n + 1, by omega, .step new hx0 (dp hd)⟩
    · obtain ⟨m, hm, h3⟩ := H.deep y q h2
      exact ⟨m, hm, dp h3⟩

theorem WF.add_ord {t : T} (H : WF t) {x u : Int} {i : Nat} {p : Nd} (hu : t u = some p) (hx : t x = none) (H' : WF (addT t x u i)) : (ord (addT t x u i)).length = (ord t).length + 1 := by
  have hp : (ord (addT t x u i)).Perm (x :: ord t) := by
    refine (List.perm_ext_iff_of_nodup H'.nodup_ord (List.nodup_cons.2 ⟨fun hm => ?_, H.nodup_ord⟩)).2 fun y => ?_
    · obtain ⟨nd, h⟩ := H.mem_ord.1 hm; rw [hx] at h; cases h
    · rw [H'.mem_ord, List.mem_cons, H.mem_ord, add_at hu hx]
      by_cases e : y = x
      · simp [e]
      · by_cases e2 : y = u
        · subst e2; simp [e, hu]
        · simp [e, e2]
  simpa using hp.length_eq

/-- what leaves, at its box -/
theorem leave_at {t : T} {x : Int} {nd p : Nd} (hx : t x = some nd) (hp : t nd.up = some p) (y : Int) : leave t x y = if y = nd.up then some { p with kids := wo p.kids x } else t y := by
  unfold leave
  rw [hx]
  simp only [hp]
  by_cases e : y = nd.up
  · subst e; rw [if_pos rfl, set_same]
  · rw [if_neg e, set_other _ _ e]

section
variable {t : T} (H : WF t) {x : Int} {nd : Nd} (hx : t x = some nd) (h0 : x ≠ 0)
include H hx h0

theorem WF.up_out : nd.up ∉ sub t 64 x := fun hm => by
  have ha := (H.mem_sub (H.fit64 hx)).1 hm
  obtain ⟨n, _, hd⟩ := H.deep x nd hx
  cases hd with
  | root _ => exact h0 rfl
  | step h1 _ h2 =>
    rw [hx] at h1; cases h1
    have := (ha.le (.step hx h0 h2) h2).1
    omega

theorem WF.zero_out : (0 : Int) ∉ sub t 64 x := fun hm => by
  have ha := (H.mem_sub (H.fit64 hx)).1 hm
  obtain ⟨n, _, hd⟩ := H.deep x nd hx
  obtain ⟨r, hr, _⟩ := H.root
  have := ha.le hd (.root hr)
  exact h0 (this.2 (by omega))

omit h0 in
/-- what is in a box that is out is out -/
theorem WF.out_up {y : Int} {q : Nd} (hy : t y = some q) (hn : y ∉ sub t 64 x) (hy0 : y ≠ 0) : q.up ∉ sub t 64 x := fun hm => hn ((H.mem_sub (H.fit64 hx)).2 (.step hy hy0 ((H.mem_sub (H.fit64 hx)).1 hm)))

theorem WF.out_kid {y v : Int} {q : Nd} (hv : t v = some q) (hy : y ∈ q.kids) (hn : v ∉ sub t 64 x) (hne : y ≠ x) : y ∉ sub t 64 x := fun hm => by
  obtain ⟨hy0, yd, h1, h2⟩ := H.kid v q y hv hy
  have ha := (H.mem_sub (H.fit64 hx)).1 hm
  cases ha with
  | refl _ => exact hne rfl
  | step h3 _ h4 => rw [h1] at h3; cases h3; exact hn ((H.mem_sub (H.fit64 hx)).2 (h2 ▸ h4))

theorem WF.x_kid {v : Int} {q : Nd} (hv : t v = some q) (hm : x ∈ q.kids) : v = nd.up := by
  obtain ⟨_, xd, h1, h2⟩ := H.kid v q x hv hm
  rw [hx] at h1; cases h1; exact h2.symm

theorem WF.self_in : x ∈ sub t 64 x := (H.mem_sub (H.fit64 hx)).2 (.refl hx)

theorem WF.is_in {y : Int} (e : y = x) : y ∈ sub t 64 x := by rw [e]; exact H.self_in hx h0

theorem WF.rem : WF (remT t x) := by
  obtain ⟨p, hp, hxp⟩ := H.up x nd hx h0
  have A : ∀ y, remT t x y = if y ∈ sub t 64 x then none else if y = nd.up then some { p with kids := wo p.kids x } else t y := fun y => by
    unfold remT del; rw [leave_at hx hp]
  have old : ∀ y q, t y = some q → y ∉ sub t 64 x → ∃ q', remT t x y = some q' ∧ q'.up = q.up ∧ (∀ k, k ∈ q'.kids ↔ k ∈ q.kids ∧ k ≠ x) ∧ q'.kids.Nodup := fun y q h hn => by
    rw [A y, if_neg hn]
    by_cases e : y = nd.up
    · rw [if_pos e]
      rw [e, hp] at h; cases h
      exact ⟨_, rfl, rfl, fun k => mem_wo, nodup_wo (H.nodup _ _ hp) _⟩
    · rw [if_neg e, h]
      exact ⟨q, rfl, rfl, fun k => ⟨fun hk => ⟨hk, fun ek => e (H.x_kid hx h0 h (ek ▸ hk))⟩, fun hk => hk.1⟩, H.nodup _ _ h⟩
  have back : ∀ y q', remT t x y = some q' → y ∉ sub t 64 x ∧ ∃ q, t y = some q ∧ q'.up = q.up ∧ (∀ k, k ∈ q'.kids ↔ k ∈ q.kids ∧ k ≠ x) ∧ q'.kids.Nodup := fun y q' h => by
    by_cases hn : y ∈ sub t 64 x
    · rw [A y, if_pos hn] at h; cases h
    · refine ⟨hn, ?_⟩
      cases hy : t y with
      | none =>
        rw [A y, if_neg hn] at h
        by_cases e : y = nd.up
        · rw [e, hp] at hy; cases hy
        · rw [if_neg e, hy] at h; cases h
      | some q =>
        obtain ⟨q'', h1, h2⟩ := old y q hy hn
        rw [h] at h1; cases h1
        exact ⟨q, rfl, h2⟩
  have dp : ∀ {y : Int} {m : Nat}, Dp t y m → y ∉ sub t 64 x → Dp (remT t x) y m := fun {y m} h => by
    induction h with
    | root h1 => intro hn; obtain ⟨q', h2, _⟩ := old _ _ h1 hn; exact .root h2
    | step h1 hz _ ih => intro hn; obtain ⟨q', h2, h3, _⟩ := old _ _ h1 hn; exact .step h2 hz (h3 ▸ ih (H.out_up hx h1 hn hz))
  refine ⟨?_, ?_, ?_, ?_, ?_, ?_⟩
  · obtain ⟨r, h1, h2⟩ := H.root
    obtain ⟨q', h3, h4, _⟩ := old 0 r h1 (H.zero_out hx h0)
    exact ⟨q', h3, h4.trans h2⟩
  · intro y q' h
    obtain ⟨_, q, h1, _⟩ := back y q' h
    exact H.range y q h1
  · intro y q' h hy0
    obtain ⟨hn, q, h1, h2, _⟩ := back y q' h
    obtain ⟨r, h3, h4⟩ := H.up y q h1 hy0
    obtain ⟨r', h5, _, h6, _⟩ := old _ r h3 (H.out_up hx h1 hn hy0)
    exact ⟨r', h2 ▸ h5, (h6 y).2 ⟨h4, fun e => hn (H.is_in hx h0 e)⟩⟩
  · intro v q' y h hy
    obtain ⟨hn, q, h1, h2, h3, _⟩ := back v q' h
    obtain ⟨h4, h5⟩ := (h3 y).1 hy
    obtain ⟨hy0, yd, h6, h7⟩ := H.kid v q y h1 h4
    obtain ⟨y', h8, h9, _⟩ := old y yd h6 (H.out_kid hx h0 h1 h4 hn h5)
    exact ⟨hy0, y', h8, h9.trans h7⟩
  · intro v q' h
    obtain ⟨_, q, _, _, _, h5⟩ := back v q' h
    exact h5
  · intro y q' h
    obtain ⟨hn, q, h1, _⟩ := back y q' h
    obtain ⟨m, hm, h3⟩ := H.deep y q h1
    exact ⟨m, hm, dp h3 hn⟩

theorem WF.rem_live (y : Int) : (∃ q, remT t x y = some q) ↔ (∃ q, t y = some q) ∧ y ∉ sub t 64 x := by
  obtain ⟨p, hp, hxp⟩ := H.up x nd hx h0
  unfold remT del
  rw [leave_at hx hp]
  by_cases hn : y ∈ sub t 64 x
  · simp [hn]
  · by_cases e : y = nd.up
    · subst e; simp [hn, hp]
    · simp [hn, e]

theorem WF.rem_ord : (ord (remT t x)).length + (sub t 64 x).length = (ord t).length := by
  have hp : (ord t).Perm (ord (remT t x) ++ sub t 64 x) := by
    have H' := H.rem hx h0
    refine (List.perm_ext_iff_of_nodup H.nodup_ord (List.nodup_append.2 ⟨H'.nodup_ord, H.nodup_sub (H.fit64 hx), fun a ha b hb e => ?_⟩)).2 fun y => ?_
    · subst e; exact ((H.rem_live hx h0 a).1 (H'.mem_ord.1 ha)).2 hb
    · rw [List.mem_append, H.mem_ord, H'.mem_ord, H.rem_live hx h0]
      by_cases hn : y ∈ sub t 64 x
      · simp only [hn, not_true_eq_false, and_false, or_true, iff_true]
        exact ((H.mem_sub (H.fit64 hx)).1 hn).live
      · simp [hn]
  have := hp.length_eq
  simp at this
  omega

/-- a box that has left, and all in it -/
theorem WF.leave_sub : Fit (leave t x) 64 x ∧ sub (leave t x) 64 x = sub t 64 x ∧ hgt (leave t x) 64 x = hgt t 64 x := by
  obtain ⟨p, hp, hxp⟩ := H.up x nd hx h0
  refine (H.fit64 hx).congr fun y hy q hq => ?_
  rw [leave_at hx hp, if_neg (fun e : y = nd.up => H.up_out hx h0 (by rw [← e]; exact hy))]
  exact ⟨q, hq, rfl⟩

section
variable {u : Int} {q : Nd} (hu : t u = some q) (hun : u ∉ sub t 64 x)
include hu hun

/-- a box elsewhere -/
theorem WF.mov_at (i : Nat) (y : Int) : movT t x u i y = (t y).map fun r => { r with up := if y = x then u else r.up, kids := if y = u then wi (if y = nd.up then wo r.kids x else r.kids) i x else if y = nd.up then wo r.kids x else r.kids } := by
  obtain ⟨p, hp, hxp⟩ := H.up x nd hx h0
  have hxu : u ≠ x := fun e => hun (H.is_in hx h0 e)
  have hxn : x ≠ nd.up := fun e => H.up_out hx h0 (H.is_in hx h0 e.symm)
  have L := fun y => leave_at hx hp y
  have Lx : leave t x x = some nd := by rw [L, if_neg hxn, hx]
  unfold movT enter
  by_cases e : u = nd.up
  · subst e
    rw [hu] at hp; cases hp
    have Lu : leave t x nd.up = some { q with kids := wo q.kids x } := by rw [L, if_pos rfl]
    rw [Lu, Lx]
    simp only
    by_cases e1 : y = x
    · subst e1; rw [set_same, hx]; simp [hxn]
    · rw [set_other _ _ e1]
      by_cases e2 : y = nd.up
      · rw [e2, set_same, hu]; simp [hxu]
      · rw [set_other _ _ e2, L, if_neg e2]
        cases t y <;> simp [e1, e2]
  · have Lu : leave t x u = some q := by rw [L, if_neg e, hu]
    rw [Lu, Lx]
    simp only
    by_cases e1 : y = x
    · subst e1; rw [set_same, hx]; simp [hxn, hxu.symm]
    · rw [set_other _ _ e1]
      by_cases e2 : y = u
      · rw [e2, set_same, hu]; simp [e, hxu]
      · rw [set_other _ _ e2, L]
        by_cases e3 : y = nd.up
        · rw [if_pos e3, e3, hp]; simp [hxn.symm, show ¬ nd.up = u from fun h => e h.symm]
        · rw [if_neg e3]
          cases t y <;> simp [e1, e2, e3]

theorem WF.mov {i : Nat} {du : Nat} (hdu : Dp t u du) (hdeep : du + 1 + hgt t 64 x ≤ 63) : WF (movT t x u i) := by
  obtain ⟨p, hp, hxp⟩ := H.up x nd hx h0
  have hxu : u ≠ x := fun e => hun (H.is_in hx h0 e)
  have hxn : x ≠ nd.up := fun e => H.up_out hx h0 (H.is_in hx h0 e.symm)
  have A := fun y => H.mov_at hx h0 hu hun i y
  have old : ∀ y r, t y = some r → ∃ r', movT t x u i y = some r' ∧ (y ≠ x → r'.up = r.up) ∧ (y = x → r'.up = u) ∧ (∀ k, k ≠ x → (k ∈ r'.kids ↔ k ∈ r.kids)) ∧ (x ∈ r'.kids ↔ y = u) ∧ r'.kids.Nodup := fun y r h => by
    have hk : x ∉ (if y = nd.up then wo r.kids x else r.kids) := by
      split
      · exact fun hm => (mem_wo.1 hm).2 rfl
      · rename_i e; exact fun hm => e (H.x_kid hx h0 h hm)
    have hn : (if y = nd.up then wo r.kids x else r.kids).Nodup := by
      split
      · exact nodup_wo (H.nodup y r h) x
      · exact H.nodup y r h
    have hm : ∀ k, k ≠ x → (k ∈ (if y = nd.up then wo r.kids x else r.kids) ↔ k ∈ r.kids) := fun k hkx => by
      split
      · rw [mem_wo]; simp [hkx]
      · exact Iff.rfl
    rw [A y, h]
    refine ⟨_, rfl, fun e => if_neg e, fun e => if_pos e, fun k hkx => ?_, ?_, ?_⟩
    · show k ∈ (if y = u then _ else _) ↔ _
      split
      · rw [mem_wi]; simp only [hkx, false_or]; exact hm k hkx
      · exact hm k hkx
    · show x ∈ (if y = u then _ else _) ↔ _
      split
      · rename_i e; rw [mem_wi]; simp [e]
      · rename_i e; simp only [e, iff_false]; exact hk
    · show (if y = u then _ else _ : List Int).Nodup
      split
      · exact nodup_wi hn i hk
      · exact hn
  have back : ∀ y r', movT t x u i y = some r' → ∃ r, t y = some r ∧ (y ≠ x → r'.up = r.up) ∧ (y = x → r'.up = u) ∧ (∀ k, k ≠ x → (k ∈ r'.kids ↔ k ∈ r.kids)) ∧ (x ∈ r'.kids ↔ y = u) ∧ r'.kids.Nodup := fun y r' h => by
    cases hy : t y with
    | none => rw [A y, hy] at h; cases h
    | some r =>
      obtain ⟨r'', h1, h2⟩ := old y r hy
      rw [h] at h1; cases h1
      exact ⟨r, rfl, h2⟩
  have dpo : ∀ {y : Int} {m : Nat}, Dp t y m → y ∉ sub t 64 x → Dp (movT t x u i) y m := fun {y m} h => by
    induction h with
    | root h1 => intro hn; obtain ⟨q', h2, _⟩ := old _ _ h1; exact .root h2
    | step h1 hz _ ih =>
      intro hn
      obtain ⟨q', h2, h3, _⟩ := old _ _ h1
      exact .step h2 hz (h3 (fun e => hn (H.is_in hx h0 e)) ▸ ih (H.out_up hx h1 hn hz))
  obtain ⟨dx, _, hdx⟩ := H.deep x nd hx
  obtain ⟨x', hx1, _, hx2, _⟩ := old x nd hx
  have dpx : Dp (movT t x u i) x (du + 1) := .step hx1 h0 (hx2 rfl ▸ dpo hdu hun)
  have dpi : ∀ {y : Int}, Anc t x y → ∀ n, Dp t y n → dx ≤ n ∧ Dp (movT t x u i) y (n - dx + du + 1) := fun {y} ha => by
    induction ha with
    | refl _ => intro n hn; obtain rfl := hdx.det hn; exact ⟨Nat.le_refl _, by rw [Nat.sub_self, Nat.zero_add]; exact dpx⟩
    | step h1 hz ha ih =>
      rename_i y yd
      intro n hn
      cases hn with
      | root _ => exact absurd rfl hz
      | step h2 _ h3 =>
        rename_i n _
        rw [h1] at h2; cases h2
        obtain ⟨hle, h4⟩ := ih _ h3
        obtain ⟨r', h5, h6, _⟩ := old _ _ h1
        have hyx : y ≠ x := fun e => by subst e; have := hdx.det (.step h1 hz h3); omega
        refine ⟨by omega, ?_⟩
        rw [show n + 1 - dx + du + 1 = n - dx + du + 1 + 1 by omega]
        exact .step h5 hz (h6 hyx ▸ h4)
  refine ⟨?_, ?_, ?_, ?_, ?_, ?_⟩
  · obtain ⟨r, h1, h2⟩ := H.root
    obtain ⟨r', h3, h4, _⟩ := old 0 r h1
    exact ⟨r', h3, (h4 h0.symm).trans h2⟩
  · intro y r' h
    obtain ⟨r, h1, _⟩ := back y r' h
    exact H.range y r h1
  · intro y r' h hy0
    obtain ⟨r, h1, h2, h3, _⟩ := back y r' h
    by_cases e : y = x
    · obtain ⟨u', h4, _, _, _, h5, _⟩ := old u q hu
      exact ⟨u', h3 e ▸ h4, e ▸ h5.2 rfl⟩
    · obtain ⟨v, h4, h5⟩ := H.up y r h1 hy0
      obtain ⟨v', h6, _, _, h7, _⟩ := old _ v h4
      exact ⟨v', h2 e ▸ h6, (h7 y e).2 h5⟩
  · intro v r' y h hy
    obtain ⟨r, h1, _, _, h3, h4, _⟩ := back v r' h
    by_cases e : y = x
    · subst e
      exact ⟨h0, x', hx1, (hx2 rfl).trans (h4.1 hy).symm⟩
    · obtain ⟨hy0, yd, h5, h6⟩ := H.kid v r y h1 ((h3 y e).1 hy)
      obtain ⟨y', h7, h8, _⟩ := old y yd h5
      exact ⟨hy0, y', h7, (h8 e).trans h6⟩
  · intro v r' h
    obtain ⟨_, _, _, _, _, _, h5⟩ := back v r' h
    exact h5
  · intro y r' h
    obtain ⟨r, h1, _⟩ := back y r' h
    obtain ⟨m, hm, h3⟩ := H.deep y r h1
    by_cases hn : y ∈ sub t 64 x
    · obtain ⟨hle, h4⟩ := dpi ((H.mem_sub (H.fit64 hx)).1 hn) m h3
      have := H.hgt_le (H.fit64 hx) hdx hn h3
      exact ⟨_, by omega, h4⟩
    · exact ⟨m, hm, dpo h3 hn⟩

theorem WF.mov_live (i : Nat) (y : Int) : (∃ r, movT t x u i y = some r) ↔ ∃ r, t y = some r := by
  rw [H.mov_at hx h0 hu hun]
  cases t y <;> simp

theorem WF.mov_ord {i : Nat} (H' : WF (movT t x u i)) : (ord (movT t x u i)).length = (ord t).length := by
  refine ((List.perm_ext_iff_of_nodup H'.nodup_ord H.nodup_ord).2 fun y => ?_).length_eq
  rw [H'.mem_ord, H.mem_ord, H.mov_live hx h0 hu hun]

theorem WF.mov_sub (i : Nat) : sub (movT t x u i) 64 x = sub t 64 x ∧ hgt (movT t x u i) 64 x = hgt t 64 x := by
  refine ((H.fit64 hx).congr fun y hy r hr => ?_).2
  rw [H.mov_at hx h0 hu hun, hr]
  exact ⟨_, rfl, by show (if y = u then _ else _) = _; rw [if_neg (fun e : y = u => hun (by rw [← e]; exact hy)), if_neg (fun e : y = nd.up => H.up_out hx h0 (by rw [← e]; exact hy))]⟩
end

/-- moved, and moved back -/
theorem WF.mov_back {u : Int} {q : Nd} (hu : t u = some q) (hun : u ∉ sub t 64 x) {i j : Nat} {p : Nd} (hp : t nd.up = some p) (hj : p.kids[j]? = some x) (H' : WF (movT t x u i)) : movT (movT t x u i) x nd.up j = t := by
  have hxu : u ≠ x := fun e => hun (H.is_in hx h0 e)
  have hxn : x ≠ nd.up := fun e => H.up_out hx h0 (H.is_in hx h0 e.symm)
  have A := fun y => H.mov_at hx h0 hu hun i y
  have hx1 : movT t x u i x = some { nd with up := u } := by rw [A, hx]; simp [hxu.symm, hxn]
  have hp1 : ∃ p', movT t x u i nd.up = some p' := by rw [A, hp]; exact ⟨_, rfl⟩
  obtain ⟨p', hp1⟩ := hp1
  have hn1 : nd.up ∉ sub (movT t x u i) 64 x := by rw [(H.mov_sub hx h0 hu hun i).1]; exact H.up_out hx h0
  funext y
  rw [H'.mov_at hx1 h0 hp1 hn1 j y, A y]
  cases hy : t y with
  | none => rfl
  | some r =>
    have hk : x ∉ (if y = nd.up then wo r.kids x else r.kids) := by
      split
      · exact fun hm => (mem_wo.1 hm).2 rfl
      · rename_i e; exact fun hm => e (H.x_kid hx h0 hy hm)
    have e1 : (if y = u then wo (if y = u then wi (if y = nd.up then wo r.kids x else r.kids) i x else if y = nd.up then wo r.kids x else r.kids) x else if y = u then wi (if y = nd.up then wo r.kids x else r.kids) i x else if y = nd.up then wo r.kids x else r.kids) = if y = nd.up then wo r.kids x else r.kids := by
      by_cases e : y = u
      · rw [if_pos e, if_pos e, wo_wi hk]
      · rw [if_neg e, if_neg e]
    simp only [Option.map_some, Option.some.injEq]
    rw [e1]
    by_cases e : y = nd.up
    · have e2 := e
      subst e
      rw [hp] at hy; cases hy
      simp only [if_true, if_neg hxn.symm]
      rw [wi_wo (H.nodup _ _ hp) hj]
    · simp only [if_neg e]
      by_cases ex : y = x
      · subst ex; rw [hx] at hy; cases hy; simp
      · simp [ex]
end

end Go.Proofs.Ytmjnlnnedjmcfaa.Tr
