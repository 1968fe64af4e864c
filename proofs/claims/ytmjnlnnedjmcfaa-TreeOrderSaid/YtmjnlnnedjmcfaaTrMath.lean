/- Trees of boxes by their numbers: what is in a box, how deep it is, and that each box is once in the order; nothing of a program. -/
import Derived.Test.YtmjnlnnedjmcfaaRecMath
namespace Go.Proofs.Ytmjnlnnedjmcfaa.Tr
set_option linter.unusedVariables false

/-- a box -/
structure Nd where
  up : Int
  kids : List Int
  sty : Re.St

/-- boxes by their numbers -/
abbrev T := Int → Option Nd

def set (t : T) (x : Int) (n : Nd) : T := fun y => if y = x then some n else t y
def del (t : T) (l : List Int) : T := fun y => if y ∈ l then none else t y

theorem set_same (t : T) (x : Int) (n : Nd) : set t x n x = some n := by simp [set]
theorem set_other (t : T) {x y : Int} (n : Nd) (h : y ≠ x) : set t x n y = t y := by simp [set, h]

/-- how deep a box is -/
inductive Dp (t : T) : Int → Nat → Prop
  | root {nd : Nd} : t 0 = some nd → Dp t 0 0
  | step {x : Int} {nd : Nd} {n : Nat} : t x = some nd → x ≠ 0 → Dp t nd.up n → Dp t x (n + 1)

/-- a box is in another one, or is it -/
inductive Anc (t : T) (a : Int) : Int → Prop
  | refl {nd : Nd} : t a = some nd → Anc t a a
  | step {x : Int} {nd : Nd} : t x = some nd → x ≠ 0 → Anc t a nd.up → Anc t a x

/-- boxes that stand in one another -/
structure WF (t : T) : Prop where
  root : ∃ nd, t 0 = some nd ∧ nd.up = -1
  range : ∀ x nd, t x = some nd → 0 ≤ x ∧ x < 4096
  up : ∀ x nd, t x = some nd → x ≠ 0 → ∃ p, t nd.up = some p ∧ x ∈ p.kids
  kid : ∀ u p x, t u = some p → x ∈ p.kids → x ≠ 0 ∧ ∃ nd, t x = some nd ∧ nd.up = u
  nodup : ∀ u p, t u = some p → p.kids.Nodup
  deep : ∀ x nd, t x = some nd → ∃ n, n ≤ 63 ∧ Dp t x n

/-- a box, and all in it, kid by kid -/
def sub (t : T) : Nat → Int → List Int
  | 0, _ => []
  | f + 1, x => match t x with
    | none => []
    | some nd => x :: nd.kids.flatMap (sub t f)

/-- how much deeper the deepest one in a box is -/
def hgt (t : T) : Nat → Int → Nat
  | 0, _ => 0
  | f + 1, x => match t x with
    | none => 0
    | some nd => nd.kids.foldl (fun m k => max m (1 + hgt t f k)) 0

/-- in a box nothing is as much as f deeper -/
def Fit (t : T) : Nat → Int → Prop
  | 0, _ => False
  | f + 1, x => ∃ nd, t x = some nd ∧ ∀ k ∈ nd.kids, Fit t f k

def ord (t : T) : List Int := sub t 64 0

theorem sub_some {t : T} {f : Nat} {x : Int} {nd : Nd} (h : t x = some nd) : sub t (f + 1) x = x :: nd.kids.flatMap (sub t f) := by simp [sub, h]
theorem hgt_some {t : T} {f : Nat} {x : Int} {nd : Nd} (h : t x = some nd) : hgt t (f + 1) x = nd.kids.foldl (fun m k => max m (1 + hgt t f k)) 0 := by simp [hgt, h]

theorem Dp.live {t : T} {x : Int} {n : Nat} (h : Dp t x n) : ∃ nd, t x = some nd := by cases h with | root h => exact ⟨_, h⟩ | step h _ _ => exact ⟨_, h⟩
theorem Anc.live {t : T} {a x : Int} (h : Anc t a x) : ∃ nd, t x = some nd := by cases h with | refl h => exact ⟨_, h⟩ | step h _ _ => exact ⟨_, h⟩

theorem Dp.det {t : T} {x : Int} {m n : Nat} (h : Dp t x m) (k : Dp t x n) : m = n := by
  induction h generalizing n with
  | root h => cases k with | root _ => rfl | step _ h0 _ => exact absurd rfl h0
  | step h h0 _ ih =>
    cases k with
    | root _ => exact absurd rfl h0
    | step h' _ k' => rw [h] at h'; cases h'; rw [ih k']

theorem Anc.trans {t : T} {a b x : Int} (h : Anc t a b) (k : Anc t b x) : Anc t a x := by
  induction k with
  | refl _ => exact h
  | step h1 h0 _ ih => exact .step h1 h0 ih

theorem Anc.le {t : T} {a x : Int} {m n : Nat} (h : Anc t a x) (ha : Dp t a m) (hx : Dp t x n) : m ≤ n ∧ (m = n → a = x) := by
  induction h generalizing n with
  | refl _ => exact ⟨Nat.le_of_eq (ha.det hx), fun _ => rfl⟩
  | step h1 h0 _ ih =>
    cases hx with
    | root _ => exact absurd rfl h0
    | step h' _ k' =>
      rw [h1] at h'; cases h'
      have := (ih k').1
      exact ⟨by omega, fun e => by omega⟩

theorem Anc.uniq {t : T} {a b x : Int} {m n : Nat} (h : Anc t a x) (k : Anc t b x) (ha : Dp t a m) (hb : Dp t b m) (hx : Dp t x n) : a = b := by
  induction h generalizing n with
  | refl _ => obtain rfl := ha.det hx; exact ((k.le hb hx).2 rfl).symm
  | step h1 h0 h2 ih =>
    cases k with
    | refl _ => obtain rfl := hb.det hx; exact ((Anc.step h1 h0 h2).le ha hx).2 rfl
    | step h' _ k' =>
      rw [h1] at h'; cases h'
      cases hx with
      | root _ => exact absurd rfl h0
      | step h'' _ hx' => rw [h1] at h''; cases h''; exact ih k' hx'

section
variable {t : T} (H : WF t)
include H

theorem WF.kidDp {u x : Int} {p : Nd} {n : Nat} (hu : t u = some p) (hx : x ∈ p.kids) (hd : Dp t u n) : Dp t x (n + 1) := by
  obtain ⟨h0, nd, h1, rfl⟩ := H.kid u p x hu hx
  exact .step h1 h0 hd

theorem WF.kidAnc {u x : Int} {p : Nd} (hu : t u = some p) (hx : x ∈ p.kids) : Anc t u x := by
  obtain ⟨h0, nd, h1, rfl⟩ := H.kid u p x hu hx
  exact .step h1 h0 (.refl hu)

theorem WF.dp63 {x : Int} {n : Nat} (h : Dp t x n) : n ≤ 63 := by
  obtain ⟨nd, h1⟩ := h.live
  obtain ⟨m, hm, hd⟩ := H.deep x nd h1
  rw [h.det hd]; exact hm

theorem WF.fit {x : Int} {n : Nat} (h : Dp t x n) : ∀ f, 64 ≤ n + f → Fit t f x := by
  intro f
  induction f generalizing x n with
  | zero => intro hf; have := H.dp63 h; omega
  | succ f ih =>
    intro hf
    obtain ⟨nd, h1⟩ := h.live
    exact ⟨nd, h1, fun k hk => ih (H.kidDp h1 hk h) (by omega)⟩

theorem WF.fit64 {x : Int} {nd : Nd} (h : t x = some nd) : Fit t 64 x := by
  obtain ⟨n, _, hd⟩ := H.deep x nd h
  exact H.fit hd 64 (by omega)

theorem WF.anc0 {x : Int} {nd : Nd} (h : t x = some nd) : Anc t 0 x := by
  obtain ⟨n, h63, hd⟩ := H.deep x nd h
  clear h h63
  induction hd with
  | root h => exact .refl h
  | step h h0 _ ih => exact .step h h0 ih

theorem WF.up_down {a x : Int} (h : Anc t a x) : x = a ∨ ∃ p k, t a = some p ∧ k ∈ p.kids ∧ Anc t k x := by
  induction h with
  | refl _ => exact .inl rfl
  | step h1 h0 _ ih =>
    rename_i x nd _
    rcases ih with e | ⟨p, k, hp, hk, ha⟩
    · obtain ⟨p, hp, hx⟩ := H.up x nd h1 h0
      exact .inr ⟨p, x, e ▸ hp, hx, .refl h1⟩
    · exact .inr ⟨p, k, hp, hk, .step h1 h0 ha⟩

theorem WF.mem_sub {f : Nat} {a x : Int} (hf : Fit t f a) : x ∈ sub t f a ↔ Anc t a x := by
  induction f generalizing a with
  | zero => exact hf.elim
  | succ f ih =>
    obtain ⟨nd, h1, hk⟩ := hf
    rw [sub_some h1, List.mem_cons, List.mem_flatMap]
    constructor
    · rintro (rfl | ⟨k, hkm, hx⟩)
      · exact .refl h1
      · exact (H.kidAnc h1 hkm).trans ((ih (hk k hkm)).1 hx)
    · intro h
      rcases H.up_down h with rfl | ⟨p, k, hp, hkm, ha⟩
      · exact .inl rfl
      · rw [h1] at hp; cases hp
        exact .inr ⟨k, hkm, (ih (hk k hkm)).2 ha⟩

theorem WF.nodup_sub {f : Nat} {a : Int} (hf : Fit t f a) : (sub t f a).Nodup := by
  induction f generalizing a with
  | zero => exact hf.elim
  | succ f ih =>
    obtain ⟨nd, h1, hk⟩ := hf
    obtain ⟨n, _, hd⟩ := H.deep a nd h1
    rw [sub_some h1, List.nodup_cons]
    refine ⟨fun hm => ?_, ?_⟩
    · obtain ⟨k, hkm, hx⟩ := List.mem_flatMap.1 hm
      have := (((H.mem_sub (hk k hkm)).1 hx).le (H.kidDp h1 hkm hd) hd).1
      omega
    · refine List.pairwise_flatMap.2 ⟨fun k hkm => ih (hk k hkm), ?_⟩
      have hq : ∀ l : List Int, (∀ k ∈ l, k ∈ nd.kids) → l.Nodup → l.Pairwise (fun a₁ a₂ => ∀ x ∈ sub t f a₁, ∀ y ∈ sub t f a₂, x ≠ y) := by
        intro l
        induction l with
        | nil => intro _ _; exact .nil
        | cons k l ihl =>
          intro hl hn
          refine .cons (fun k' hk' x hx y hy e => ?_) (ihl (fun j hj => hl j (List.mem_cons_of_mem _ hj)) (List.nodup_cons.1 hn).2)
          subst e
          have m1 := hl k List.mem_cons_self
          have m2 := hl k' (List.mem_cons_of_mem _ hk')
          have a1 := (H.mem_sub (hk k m1)).1 hx
          have a2 := (H.mem_sub (hk k' m2)).1 hy
          obtain ⟨ndx, hlx⟩ := a1.live
          obtain ⟨q, _, hdx⟩ := H.deep x ndx hlx
          have e := a1.uniq a2 (H.kidDp h1 m1 hd) (H.kidDp h1 m2 hd) hdx
          exact (List.nodup_cons.1 hn).1 (e ▸ hk')
      exact hq nd.kids (fun _ h => h) (H.nodup a nd h1)

theorem WF.fit0 : Fit t 64 0 := by
  obtain ⟨nd, h, _⟩ := H.root
  exact H.fit64 h

theorem WF.mem_ord {x : Int} : x ∈ ord t ↔ ∃ nd, t x = some nd := by
  rw [ord, H.mem_sub H.fit0]
  exact ⟨fun h => h.live, fun ⟨nd, h⟩ => H.anc0 h⟩

theorem WF.nodup_ord : (ord t).Nodup := H.nodup_sub H.fit0

theorem WF.ord_cons : ∃ l, ord t = 0 :: l := by
  obtain ⟨nd, h, _⟩ := H.root
  exact ⟨_, sub_some h⟩

omit H in
theorem length_small {l : List Int} (hn : l.Nodup) (hr : ∀ x ∈ l, 0 ≤ x ∧ x < 4096) : l.length ≤ 4096 := by
  have hs : l ⊆ (List.range 4096).map (fun n : Nat => (n : Int)) := fun x hx => by
    obtain ⟨h0, h1⟩ := hr x hx
    exact List.mem_map.2 ⟨x.toNat, List.mem_range.2 (by omega), by omega⟩
  have := hn.length_le_of_subset hs
  simpa using this

theorem WF.kids_small {x : Int} {nd : Nd} (h : t x = some nd) : nd.kids.length ≤ 4096 :=
  length_small (H.nodup x nd h) fun k hk => by
    obtain ⟨_, kd, h1, _⟩ := H.kid x nd k h hk
    exact H.range k kd h1

theorem WF.ord_small : (ord t).length ≤ 4096 := length_small H.nodup_ord fun x hx => by
  obtain ⟨nd, h⟩ := H.mem_ord.1 hx
  exact H.range x nd h

/-- each is behind the one that it is in -/
theorem WF.behind {f : Nat} {a : Int} (hf : Fit t f a) : ∀ l1 x l2, sub t f a = l1 ++ x :: l2 → (l1 = [] ∧ x = a) ∨ ∃ nd, t x = some nd ∧ x ≠ 0 ∧ nd.up ∈ l1 := by
  induction f generalizing a with
  | zero => exact hf.elim
  | succ f ih =>
    intro l1 x l2 he
    obtain ⟨nd, h1, hk⟩ := hf
    rw [sub_some h1] at he
    cases l1 with
    | nil => simp only [List.nil_append, List.cons.injEq] at he; exact .inl ⟨rfl, he.1.symm⟩
    | cons y l1 =>
      simp only [List.cons_append, List.cons.injEq] at he
      obtain ⟨rfl, he⟩ := he
      right
      have key : ∀ ks : List Int, (∀ k ∈ ks, k ∈ nd.kids) → ∀ l1, ks.flatMap (sub t f) = l1 ++ x :: l2 → ∃ xd, t x = some xd ∧ x ≠ 0 ∧ (xd.up = a ∨ xd.up ∈ l1) := by
        intro ks
        induction ks with
        | nil => intro _ l1 he; simp at he
        | cons k ks ihk =>
          intro hks l1 he
          rw [List.flatMap_cons, List.append_eq_append_iff] at he
          have hkm := hks k List.mem_cons_self
          rcases he with ⟨as, e1, e2⟩ | ⟨bs, e1, e2⟩
          · obtain ⟨xd, h2, h0, h3⟩ := ihk (fun j hj => hks j (List.mem_cons_of_mem _ hj)) as e2
            exact ⟨xd, h2, h0, h3.imp_right fun h => by rw [e1]; exact List.mem_append_right _ h⟩
          · cases bs with
            | nil =>
              simp only [List.nil_append] at e2
              obtain ⟨xd, h2, h0, h3⟩ := ihk (fun j hj => hks j (List.mem_cons_of_mem _ hj)) [] (by rw [← e2]; rfl)
              exact ⟨xd, h2, h0, h3.imp_right fun h => by cases h⟩
            | cons z bs =>
              simp only [List.cons_append, List.cons.injEq] at e2
              obtain ⟨rfl, e2⟩ := e2
              rcases ih (hk k hkm) l1 x bs e1 with ⟨rfl, rfl⟩ | ⟨xd, h2, h0, h3⟩
              · obtain ⟨h0, xd, h2, h3⟩ := H.kid a nd x h1 hkm
                exact ⟨xd, h2, h0, .inl h3⟩
              · exact ⟨xd, h2, h0, .inr h3⟩
      obtain ⟨xd, h2, h0, h3⟩ := key nd.kids (fun _ h => h) l1 he
      exact ⟨xd, h2, h0, by rcases h3 with h3 | h3 <;> simp [h3]⟩
end

theorem Fit.mono {t : T} {f : Nat} {x : Int} (h : Fit t f x) : ∀ g, f ≤ g → Fit t g x ∧ sub t g x = sub t f x ∧ hgt t g x = hgt t f x := by
  induction f generalizing x with
  | zero => exact h.elim
  | succ f ih =>
    intro g hg
    obtain ⟨nd, h1, hk⟩ := h
    obtain ⟨g, rfl⟩ : ∃ g', g = g' + 1 := ⟨g - 1, by omega⟩
    refine ⟨⟨nd, h1, fun k hkm => (ih (hk k hkm) g (by omega)).1⟩, ?_, ?_⟩
    · rw [sub_some h1, sub_some h1]
      congr 1
      rw [List.flatMap_def, List.flatMap_def]
      congr 1
      exact List.map_congr_left fun k hkm => (ih (hk k hkm) g (by omega)).2.1
    · rw [hgt_some h1, hgt_some h1]
      have e : ∀ (ks : List Int) (m : Nat), (∀ k ∈ ks, k ∈ nd.kids) → ks.foldl (fun m k => max m (1 + hgt t g k)) m = ks.foldl (fun m k => max m (1 + hgt t f k)) m := by
        intro ks
        induction ks with
        | nil => intro _ _; rfl
        | cons k ks ihk =>
          intro m hks
          simp only [List.foldl_cons]
          rw [(ih (hk k (hks k List.mem_cons_self)) g (by omega)).2.2]
          exact ihk _ fun j hj => hks j (List.mem_cons_of_mem _ hj)
      exact e nd.kids 0 fun _ h => h

/-- what is in a box looks at the kids of those in it alone -/
theorem Fit.congr {t s : T} {f : Nat} {a : Int} (hf : Fit t f a) (hs : ∀ x ∈ sub t f a, ∀ nd, t x = some nd → ∃ nd', s x = some nd' ∧ nd'.kids = nd.kids) : Fit s f a ∧ sub s f a = sub t f a ∧ hgt s f a = hgt t f a := by
  induction f generalizing a with
  | zero => exact hf.elim
  | succ f ih =>
    obtain ⟨nd, h1, hk⟩ := hf
    rw [sub_some h1] at hs ⊢
    obtain ⟨nd', h2, he⟩ := hs a List.mem_cons_self nd h1
    have hk' : ∀ k ∈ nd.kids, Fit s f k ∧ sub s f k = sub t f k ∧ hgt s f k = hgt t f k := fun k hkm => ih (hk k hkm) fun x hx => hs x (List.mem_cons_of_mem _ (List.mem_flatMap.2 ⟨k, hkm, hx⟩))
    refine ⟨⟨nd', h2, fun k hkm => (hk' k (he ▸ hkm)).1⟩, ?_, ?_⟩
    · rw [sub_some h2, he]
      congr 1
      rw [List.flatMap_def, List.flatMap_def]
      congr 1
      exact List.map_congr_left fun k hkm => (hk' k hkm).2.1
    · rw [hgt_some h2, hgt_some h1, he]
      have e : ∀ (ks : List Int) (m : Nat), (∀ k ∈ ks, k ∈ nd.kids) → ks.foldl (fun m k => max m (1 + hgt s f k)) m = ks.foldl (fun m k => max m (1 + hgt t f k)) m := by
        intro ks
        induction ks with
        | nil => intro _ _; rfl
        | cons k ks ihk =>
          intro m hks
          simp only [List.foldl_cons]
          rw [(hk' k (hks k List.mem_cons_self)).2.2]
          exact ihk _ fun j hj => hks j (List.mem_cons_of_mem _ hj)
      exact e nd.kids 0 fun _ h => h

theorem foldl_max_le {f : Int → Nat} {ks : List Int} : ∀ {m B : Nat}, ks.foldl (fun m k => max m (1 + f k)) m ≤ B ↔ m ≤ B ∧ ∀ k ∈ ks, 1 + f k ≤ B := by
  induction ks with
  | nil => intro m B; simp
  | cons k ks ih =>
    intro m B
    simp only [List.foldl_cons, ih, List.forall_mem_cons, Nat.max_le]
    exact ⟨fun h => ⟨h.1.1, h.1.2, h.2⟩, fun h => ⟨⟨h.1, h.2.1⟩, h.2.2⟩⟩

theorem foldl_max_mem {f : Int → Nat} {ks : List Int} : ∀ {m : Nat}, ks.foldl (fun m k => max m (1 + f k)) m = m ∨ ∃ k ∈ ks, ks.foldl (fun m k => max m (1 + f k)) m = 1 + f k := by
  induction ks with
  | nil => intro m; exact .inl rfl
  | cons k ks ih =>
    intro m
    simp only [List.foldl_cons]
    rcases ih (m := max m (1 + f k)) with h | ⟨j, hj, h⟩
    · rcases Nat.le_total (1 + f k) m with h2 | h2
      · left; rw [h]; omega
      · right; exact ⟨k, List.mem_cons_self, by rw [h]; omega⟩
    · exact .inr ⟨j, List.mem_cons_of_mem _ hj, h⟩

theorem WF.hgt_le {t : T} (H : WF t) {f : Nat} {a x : Int} {n m : Nat} (hf : Fit t f a) (ha : Dp t a n) (hx : x ∈ sub t f a) (hd : Dp t x m) : m ≤ n + hgt t f a := by
  induction f generalizing a n with
  | zero => exact hf.elim
  | succ f ih =>
    obtain ⟨nd, h1, hk⟩ := hf
    rw [sub_some h1, List.mem_cons, List.mem_flatMap] at hx
    rw [hgt_some h1]
    rcases hx with rfl | ⟨k, hkm, hx⟩
    · rw [hd.det ha]; omega
    · have h2 := ih (hk k hkm) (H.kidDp h1 hkm ha) hx
      have h3 := (foldl_max_le (f := hgt t f) (ks := nd.kids) (m := 0)).1 (Nat.le_refl _)
      have h4 := h3.2 k hkm
      omega

theorem WF.hgt_mem {t : T} (H : WF t) {f : Nat} {a : Int} {n : Nat} (hf : Fit t f a) (ha : Dp t a n) : ∃ x ∈ sub t f a, Dp t x (n + hgt t f a) := by
  induction f generalizing a n with
  | zero => exact hf.elim
  | succ f ih =>
    obtain ⟨nd, h1, hk⟩ := hf
    rw [sub_some h1, hgt_some h1]
    rcases foldl_max_mem (f := hgt t f) (ks := nd.kids) (m := 0) with h | ⟨k, hkm, h⟩
    · rw [h]; exact ⟨a, List.mem_cons_self, ha⟩
    · rw [h]
      obtain ⟨x, hx, hd⟩ := ih (hk k hkm) (H.kidDp h1 hkm ha)
      exact ⟨x, List.mem_cons_of_mem _ (List.mem_flatMap.2 ⟨k, hkm, hx⟩), by rw [show n + (1 + hgt t f k) = n + 1 + hgt t f k by omega]; exact hd⟩

end Go.Proofs.Ytmjnlnnedjmcfaa.Tr
