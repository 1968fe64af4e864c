/- Painting, as plain numbers: nodes by their places. -/
set_option maxRecDepth 100000
namespace Go.Proofs.Pa
set_option linter.unusedVariables false
set_option linter.unusedSectionVars false

/-- ahead by z, and by place -/
def Lt (z : Nat → Int) (a b : Nat) : Prop := z a < z b ∨ z a = z b ∧ a < b
instance (z : Nat → Int) (a b : Nat) : Decidable (Lt z a b) := by unfold Lt; infer_instance
def ins (z : Nat → Int) (x : Nat) : List Nat → List Nat
  | [] => [x]
  | y :: t => if Lt z x y then x :: y :: t else y :: ins z x t
def srt (z : Nat → Int) (l : List Nat) : List Nat := l.foldr (ins z) []

theorem ins_perm (z : Nat → Int) (x : Nat) (l : List Nat) : (ins z x l).Perm (x :: l) := by
  induction l with
  | nil => exact List.Perm.refl _
  | cons y t ih =>
    unfold ins
    split
    · exact List.Perm.refl _
    · exact (ih.cons y).trans (List.Perm.swap x y t)
theorem srt_perm (z : Nat → Int) (l : List Nat) : (srt z l).Perm l := by
  induction l with
  | nil => exact List.Perm.refl _
  | cons x t ih => exact (ins_perm z x _).trans (ih.cons x)
theorem mem_srt {z : Nat → Int} {l : List Nat} {x : Nat} : x ∈ srt z l ↔ x ∈ l := (srt_perm z l).mem_iff
theorem nodup_srt {z : Nat → Int} {l : List Nat} (h : l.Nodup) : (srt z l).Nodup := (srt_perm z l).nodup_iff.2 h
theorem Lt.trans {z : Nat → Int} {a b c : Nat} (h : Lt z a b) (k : Lt z b c) : Lt z a c := by unfold Lt at *; omega
theorem Lt.tri {z : Nat → Int} {a b : Nat} (h : a ≠ b) : Lt z a b ∨ Lt z b a := by unfold Lt; omega
theorem Lt.asymm {z : Nat → Int} {a b : Nat} (h : Lt z a b) : ¬ Lt z b a := by unfold Lt at *; omega
theorem ins_sorted {z : Nat → Int} {x : Nat} {l : List Nat} (h : l.Pairwise (Lt z)) (hx : x ∉ l) : (ins z x l).Pairwise (Lt z) := by
  induction l with
  | nil => exact List.pairwise_singleton _ _
  | cons y t ih =>
    rw [List.pairwise_cons] at h
    have hxy : x ≠ y := fun e => hx (e ▸ List.mem_cons_self)
    unfold ins
    split
    · rename_i hl
      rw [List.pairwise_cons, List.pairwise_cons]
      refine ⟨fun a ha => ?_, h⟩
      rcases List.mem_cons.1 ha with rfl | ha
      · exact hl
      · exact hl.trans (h.1 a ha)
    · rename_i hl
      rw [List.pairwise_cons]
      refine ⟨fun a ha => ?_, ih h.2 fun q => hx (List.mem_cons_of_mem _ q)⟩
      rcases List.mem_cons.1 ((ins_perm z x t).mem_iff.1 ha) with rfl | ha
      · exact (Lt.tri hxy).resolve_left hl
      · exact h.1 a ha
theorem srt_sorted {z : Nat → Int} {l : List Nat} (h : l.Nodup) : (srt z l).Pairwise (Lt z) := by
  induction l with
  | nil => exact List.Pairwise.nil
  | cons x t ih =>
    rw [List.nodup_cons] at h
    exact ins_sorted (ih h.2) (fun q => h.1 (mem_srt.1 q))
/-- the one row that is in order -/
theorem sorted_eq {z : Nat → Int} : ∀ {l k : List Nat}, l.Pairwise (Lt z) → k.Pairwise (Lt z) → (∀ x, x ∈ l ↔ x ∈ k) → l = k := by
  intro l
  induction l with
  | nil =>
    intro k _ _ h
    cases k with
    | nil => rfl
    | cons y t => exact absurd ((h y).2 List.mem_cons_self) (by simp)
  | cons x l ih =>
    intro k hl hk h
    cases k with
    | nil => exact absurd ((h x).1 List.mem_cons_self) (by simp)
    | cons y t =>
      rw [List.pairwise_cons] at hl hk
      have e : x = y := by
        rcases List.mem_cons.1 ((h x).1 List.mem_cons_self) with e | hx
        · exact e
        · rcases List.mem_cons.1 ((h y).2 List.mem_cons_self) with e | hy
          · exact e.symm
          · exact absurd (hl.1 y hy) (hk.1 x hx).asymm
      subst e
      refine congrArg (x :: ·) (ih hl.2 hk.2 fun a => ⟨fun ha => ?_, fun ha => ?_⟩)
      · rcases List.mem_cons.1 ((h a).1 (List.mem_cons_of_mem _ ha)) with rfl | q
        · exact absurd (hl.1 a ha) (fun q => q.asymm q)
        · exact q
      · rcases List.mem_cons.1 ((h a).2 (List.mem_cons_of_mem _ ha)) with rfl | q
        · exact absurd (hk.1 a ha) (fun q => q.asymm q)
        · exact q

/-! the painting: la i is the layer that node i is in, ly i tells layers -/
section
variable (n : Nat) (la : Nat → Nat) (ly : Nat → Bool) (z : Nat → Int)
/-- those in a layer -/
def ins_ (at_ : Nat) : List Nat := (List.range n).filter fun i => decide (0 < i) && la i == at_
def low (at_ : Nat) : List Nat := srt z ((ins_ n la at_).filter fun i => ly i && decide (z i < 0))
def plain (at_ : Nat) : List Nat := (ins_ n la at_).filter fun i => !ly i
def high (at_ : Nat) : List Nat := srt z ((ins_ n la at_).filter fun i => ly i && !decide (z i < 0))
def paint : Nat → Nat → List Nat
  | 0, at_ => [at_]
  | f + 1, at_ => at_ :: ((low n la ly z at_).flatMap (paint f) ++ plain n la ly at_ ++ (high n la ly z at_).flatMap (paint f))
def order : List Nat := if n = 0 then [] else paint n la ly z n 0
end

/-- what is asked of la -/
structure OK (n : Nat) (la : Nat → Nat) (ly : Nat → Bool) : Prop where
  lt : ∀ i, 0 < i → i < n → la i < i
  ly : ∀ i, 0 < i → i < n → la i = 0 ∨ ly (la i) = true

/-- a layer, or the first node -/
def Lay (ly : Nat → Bool) (a : Nat) : Prop := a = 0 ∨ ly a = true

/-- x is painted with the layer a -/
inductive R (la : Nat → Nat) (a : Nat) : Nat → Prop
  | refl : R la a a
  | step {x : Nat} : 0 < x → R la a (la x) → R la a x

section
variable {n : Nat} {la : Nat → Nat} {ly : Nat → Bool} {z : Nat → Int}

theorem mem_ins {a x : Nat} : x ∈ ins_ n la a ↔ x < n ∧ 0 < x ∧ la x = a := by simp [ins_]
theorem nodup_ins (a : Nat) : (ins_ n la a).Nodup := List.nodup_range.filter _
theorem mem_low {a x : Nat} : x ∈ low n la ly z a ↔ (x < n ∧ 0 < x ∧ la x = a) ∧ ly x = true ∧ z x < 0 := by
  unfold low; rw [mem_srt, List.mem_filter, mem_ins]; simp
theorem mem_high {a x : Nat} : x ∈ high n la ly z a ↔ (x < n ∧ 0 < x ∧ la x = a) ∧ ly x = true ∧ 0 ≤ z x := by
  unfold high; rw [mem_srt, List.mem_filter, mem_ins]; simp
theorem mem_plain {a x : Nat} : x ∈ plain n la ly a ↔ (x < n ∧ 0 < x ∧ la x = a) ∧ ly x = false := by
  unfold plain; rw [List.mem_filter, mem_ins]; simp
theorem nodup_low (a : Nat) : (low n la ly z a).Nodup := nodup_srt ((nodup_ins a).filter _)
theorem nodup_high (a : Nat) : (high n la ly z a).Nodup := nodup_srt ((nodup_ins a).filter _)
theorem nodup_plain (a : Nat) : (plain n la ly a).Nodup := (nodup_ins a).filter _
theorem sorted_low (a : Nat) : (low n la ly z a).Pairwise (Lt z) := srt_sorted ((nodup_ins a).filter _)
theorem sorted_high (a : Nat) : (high n la ly z a).Pairwise (Lt z) := srt_sorted ((nodup_ins a).filter _)
theorem sorted_ins (a : Nat) : (ins_ n la a).Pairwise (· < ·) := List.pairwise_lt_range.filter _
theorem sorted_plain (a : Nat) : (plain n la ly a).Pairwise (· < ·) := (sorted_ins a).filter _

variable (H : OK n la ly)
include H
theorem R.le {a x : Nat} (h : R la a x) (hx : x < n) : a ≤ x := by
  induction h with
  | refl => exact Nat.le_refl _
  | step h0 _ ih => have := H.lt _ h0 hx; have := ih (by omega); omega
theorem R.cases' {a x : Nat} (h : R la a x) : x = a ∨ 0 < x ∧ R la a (la x) := by cases h with | refl => exact .inl rfl | step h0 h1 => exact .inr ⟨h0, h1⟩
/-- below a there is one way on to x -/
theorem R.down {a x : Nat} (h : R la a x) (hx : x < n) : x = a ∨ ∃ c, 0 < c ∧ la c = a ∧ c < n ∧ R la c x := by
  induction h with
  | refl => exact .inl rfl
  | @step x h0 h1 ih =>
    have hl := H.lt _ h0 hx
    rcases ih (by omega) with e | ⟨c, c1, c2, c3, c4⟩
    · exact .inr ⟨x, h0, e, hx, .refl⟩
    · exact .inr ⟨c, c1, c2, c3, .step h0 c4⟩
theorem R.uniq {a c d x : Nat} (hc : R la c x) (hd : R la d x) (hx : x < n) (c0 : 0 < c) (d0 : 0 < d) (e1 : la c = a) (e2 : la d = a) : c = d := by
  induction hc with
  | refl =>
    rcases R.cases' H hd with e | ⟨h0, h1⟩
    · exact e
    · have hcn : c < n := hx
      have l1 := H.lt c h0 hcn
      have := R.le H h1 (by omega)
      have hdn : d < n := by omega
      have l2 := H.lt d d0 hdn
      omega
  | @step y h0 h1 ih =>
    have hl := H.lt _ h0 hx
    rcases R.cases' H hd with e | ⟨h2, h3⟩
    · subst e
      have := R.le H h1 (by omega)
      have l1 := H.lt c c0 (by omega)
      omega
    · exact ih h3 (by omega)
theorem R.self_plain {c x : Nat} (h : R la c x) (hx : x < n) (hc : ¬ Lay ly c) : x = c := by
  induction h with
  | refl => rfl
  | @step y h0 h1 ih =>
    have hl := H.lt _ h0 hx
    have e := ih (by omega)
    have := H.ly _ h0 hx
    rw [e] at this
    exact absurd this hc

theorem mem_paint : ∀ (f a : Nat), n ≤ a + f → a < n → ∀ x, x ∈ paint n la ly z f a ↔ x < n ∧ R la a x := by
  intro f
  induction f with
  | zero => intro a h1 h2; omega
  | succ f ih =>
    intro a hf ha x
    unfold paint
    simp only [List.mem_cons, List.mem_append, List.mem_flatMap]
    constructor
    · rintro (rfl | (⟨c, hc, hx⟩ | hx) | ⟨c, hc, hx⟩)
      · exact ⟨ha, .refl⟩
      · obtain ⟨⟨c1, c2, c3⟩, _⟩ := mem_low.1 hc
        have := H.lt c c2 c1
        obtain ⟨h1, h2⟩ := (ih c (by omega) c1 x).1 hx
        refine ⟨h1, ?_⟩
        clear hx ih
        induction h2 with
        | refl => exact .step c2 (by rw [c3]; exact .refl)
        | @step y h0 _ ih2 => have := H.lt y h0 h1; exact .step h0 (ih2 (by omega))
      · obtain ⟨⟨c1, c2, c3⟩, _⟩ := mem_plain.1 hx
        exact ⟨c1, .step c2 (by rw [c3]; exact .refl)⟩
      · obtain ⟨⟨c1, c2, c3⟩, _⟩ := mem_high.1 hc
        have := H.lt c c2 c1
        obtain ⟨h1, h2⟩ := (ih c (by omega) c1 x).1 hx
        refine ⟨h1, ?_⟩
        clear hx ih
        induction h2 with
        | refl => exact .step c2 (by rw [c3]; exact .refl)
        | @step y h0 _ ih2 => have := H.lt y h0 h1; exact .step h0 (ih2 (by omega))
    · rintro ⟨h1, h2⟩
      rcases R.down H h2 h1 with rfl | ⟨c, c1, c2, c3, c4⟩
      · exact .inl rfl
      · have hl := H.lt c c1 c3
        cases hy : ly c with
        | false =>
          have e := R.self_plain H c4 h1 (fun q => by rcases q with q | q; · omega
                                                      · rw [hy] at q; cases q)
          subst e
          exact .inr (.inl (.inr (mem_plain.2 ⟨⟨c3, c1, c2⟩, hy⟩)))
        | true =>
          have hm := (ih c (by omega) c3 x).2 ⟨h1, c4⟩
          by_cases hz : z c < 0
          · exact .inr (.inl (.inl ⟨c, mem_low.2 ⟨⟨c3, c1, c2⟩, hy, hz⟩, hm⟩))
          · exact .inr (.inr ⟨c, mem_high.2 ⟨⟨c3, c1, c2⟩, hy, by omega⟩, hm⟩)

theorem nodup_flat {f : Nat} {l : List Nat} (hl : l.Nodup) (h : ∀ c ∈ l, (paint n la ly z f c).Nodup) (hd : ∀ c ∈ l, ∀ d ∈ l, ∀ x, x ∈ paint n la ly z f c → x ∈ paint n la ly z f d → c = d) : (l.flatMap (paint n la ly z f)).Nodup := by
  induction l with
  | nil => exact List.nodup_nil
  | cons c t ih =>
    rw [List.nodup_cons] at hl
    rw [List.flatMap_cons, List.nodup_append]
    refine ⟨h c List.mem_cons_self, ih hl.2 (fun d hd => h d (List.mem_cons_of_mem _ hd)) fun a ha b hb => hd a (List.mem_cons_of_mem _ ha) b (List.mem_cons_of_mem _ hb), ?_⟩
    intro x hx y hy e
    subst e
    obtain ⟨d, hdt, hxd⟩ := List.mem_flatMap.1 hy
    have := hd c List.mem_cons_self d (List.mem_cons_of_mem _ hdt) x hx hxd
    subst this
    exact hl.1 hdt

theorem nodup_paint : ∀ (f a : Nat), n ≤ a + f → a < n → (paint n la ly z f a).Nodup := by
  intro f
  induction f with
  | zero => intro a h1 h2; omega
  | succ f ih =>
    intro a hf ha
    have hlow : ∀ c ∈ low n la ly z a, c < n ∧ n ≤ c + f ∧ 0 < c ∧ la c = a ∧ ly c = true ∧ z c < 0 ∧ a < c := fun c hc => by
      obtain ⟨⟨c1, c2, c3⟩, c4, c5⟩ := mem_low.1 hc
      have := H.lt c c2 c1
      exact ⟨c1, by omega, c2, c3, c4, c5, by omega⟩
    have hhigh : ∀ c ∈ high n la ly z a, c < n ∧ n ≤ c + f ∧ 0 < c ∧ la c = a ∧ ly c = true ∧ 0 ≤ z c ∧ a < c := fun c hc => by
      obtain ⟨⟨c1, c2, c3⟩, c4, c5⟩ := mem_high.1 hc
      have := H.lt c c2 c1
      exact ⟨c1, by omega, c2, c3, c4, c5, by omega⟩
    have mp := fun f a h1 h2 x => mem_paint (z := z) H f a h1 h2 x
    have apart : ∀ c d x, c < n → n ≤ c + f → 0 < c → la c = a → d < n → n ≤ d + f → 0 < d → la d = a → x ∈ paint n la ly z f c → x ∈ paint n la ly z f d → c = d := fun c d x c1 c2 c3 c4 d1 d2 d3 d4 hx hy => by
      obtain ⟨x1, x2⟩ := (mp f c c2 c1 x).1 hx
      obtain ⟨_, y2⟩ := (mp f d d2 d1 x).1 hy
      exact R.uniq H x2 y2 x1 c3 d3 c4 d4
    have plain_apart : ∀ c x, c < n → n ≤ c + f → a < c → ly c = true → la x = a → 0 < x → ly x = false → x < n → x ∉ paint n la ly z f c := fun c x c1 c2 c3 c4 x1 x2 x3 x4 hx => by
      obtain ⟨_, h2⟩ := (mp f c c2 c1 x).1 hx
      rcases R.cases' H h2 with e | ⟨h0, h1⟩
      · rw [e, c4] at x3; cases x3
      · rw [x1] at h1
        have := R.le H h1 ha
        omega
    have gt_apart : ∀ c, c < n → n ≤ c + f → a < c → a ∉ paint n la ly z f c := fun c c1 c2 c3 hx => by
      obtain ⟨_, h2⟩ := (mp f c c2 c1 a).1 hx
      have := R.le H h2 ha
      omega
    unfold paint
    rw [List.nodup_cons, List.nodup_append, List.nodup_append]
    refine ⟨?_, ⟨nodup_flat H (nodup_low a) (fun c hc => ih c (hlow c hc).2.1 (hlow c hc).1) fun c hc d hd x hx hy => apart c d x (hlow c hc).1 (hlow c hc).2.1 (hlow c hc).2.2.1 (hlow c hc).2.2.2.1 (hlow d hd).1 (hlow d hd).2.1 (hlow d hd).2.2.1 (hlow d hd).2.2.2.1 hx hy, nodup_plain a, ?_⟩, nodup_flat H (nodup_high a) (fun c hc => ih c (hhigh c hc).2.1 (hhigh c hc).1) fun c hc d hd x hx hy => apart c d x (hhigh c hc).1 (hhigh c hc).2.1 (hhigh c hc).2.2.1 (hhigh c hc).2.2.2.1 (hhigh d hd).1 (hhigh d hd).2.1 (hhigh d hd).2.2.1 (hhigh d hd).2.2.2.1 hx hy, ?_⟩
    · simp only [List.mem_append, List.mem_flatMap, not_or]
      refine ⟨⟨?_, ?_⟩, ?_⟩
      · rintro ⟨c, hc, hx⟩; exact gt_apart c (hlow c hc).1 (hlow c hc).2.1 (hlow c hc).2.2.2.2.2.2 hx
      · intro hx
        obtain ⟨⟨c1, c2, c3⟩, _⟩ := mem_plain.1 hx
        have := H.lt a c2 c1
        omega
      · rintro ⟨c, hc, hx⟩; exact gt_apart c (hhigh c hc).1 (hhigh c hc).2.1 (hhigh c hc).2.2.2.2.2.2 hx
    · intro x hx y hy e
      subst e
      obtain ⟨c, hc, hx⟩ := List.mem_flatMap.1 hx
      obtain ⟨⟨c1, c2, c3⟩, c4⟩ := mem_plain.1 hy
      exact plain_apart c x (hlow c hc).1 (hlow c hc).2.1 (hlow c hc).2.2.2.2.2.2 (hlow c hc).2.2.2.2.1 c3 c2 c4 c1 hx
    · intro x hx y hy e
      subst e
      obtain ⟨d, hd, hy⟩ := List.mem_flatMap.1 hy
      rcases List.mem_append.1 hx with hx | hx
      · obtain ⟨c, hc, hx⟩ := List.mem_flatMap.1 hx
        have e := apart c d x (hlow c hc).1 (hlow c hc).2.1 (hlow c hc).2.2.1 (hlow c hc).2.2.2.1 (hhigh d hd).1 (hhigh d hd).2.1 (hhigh d hd).2.2.1 (hhigh d hd).2.2.2.1 hx hy
        subst e
        have := (hlow c hc).2.2.2.2.2.1
        have := (hhigh c hd).2.2.2.2.2.1
        omega
      · obtain ⟨⟨c1, c2, c3⟩, c4⟩ := mem_plain.1 hx
        exact plain_apart d x (hhigh d hd).1 (hhigh d hd).2.1 (hhigh d hd).2.2.2.2.2.2 (hhigh d hd).2.2.2.2.1 c3 c2 c4 c1 hy

theorem R.root {x : Nat} (hx : x < n) : R la 0 x := by
  induction x using Nat.strongRecOn with
  | _ x ih =>
    rcases Nat.eq_zero_or_pos x with rfl | h0
    · exact .refl
    · have := H.lt x h0 hx
      exact .step h0 (ih _ this (by omega))

theorem mem_order {x : Nat} : x ∈ order n la ly z ↔ x < n := by
  unfold order
  split
  · simp; omega
  · rw [mem_paint H n 0 (by omega) (by omega)]
    exact ⟨fun h => h.1, fun h => ⟨h, R.root H h⟩⟩
theorem nodup_order : (order n la ly z).Nodup := by
  unfold order
  split
  · exact List.nodup_nil
  · exact nodup_paint H n 0 (by omega) (by omega)
theorem length_order : (order n la ly z).length = n := by
  have : (order n la ly z).Perm (List.range n) := (List.perm_ext_iff_of_nodup (nodup_order H) List.nodup_range).2 fun x => by rw [mem_order H, List.mem_range]
  rw [this.length_eq, List.length_range]

end

/-! which is ahead in a row -/
def Ah : List Nat → Nat → Nat → Prop
  | [], _, _ => False
  | c :: t, a, b => (a = c ∧ b ∈ t) ∨ Ah t a b
theorem Ah.left {l : List Nat} {a b : Nat} (h : Ah l a b) : a ∈ l := by
  induction l with
  | nil => exact h.elim
  | cons c t ih => rcases h with ⟨rfl, _⟩ | h
                   · exact List.mem_cons_self
                   · exact List.mem_cons_of_mem _ (ih h)
theorem Ah.right {l : List Nat} {a b : Nat} (h : Ah l a b) : b ∈ l := by
  induction l with
  | nil => exact h.elim
  | cons c t ih => rcases h with ⟨_, h⟩ | h
                   · exact List.mem_cons_of_mem _ h
                   · exact List.mem_cons_of_mem _ (ih h)
theorem ah_append {l k : List Nat} {a b : Nat} : Ah (l ++ k) a b ↔ Ah l a b ∨ Ah k a b ∨ (a ∈ l ∧ b ∈ k) := by
  induction l with
  | nil => simp [Ah]
  | cons c t ih =>
    simp only [List.cons_append, Ah, ih, List.mem_append, List.mem_cons]
    constructor
    · rintro (⟨h, h1 | h1⟩ | h | h | ⟨h1, h2⟩)
      · exact .inl (.inl ⟨h, h1⟩)
      · exact .inr (.inr ⟨.inl h, h1⟩)
      · exact .inl (.inr h)
      · exact .inr (.inl h)
      · exact .inr (.inr ⟨.inr h1, h2⟩)
    · rintro ((⟨h, h1⟩ | h) | h | ⟨h1 | h1, h2⟩)
      · exact .inl ⟨h, .inl h1⟩
      · exact .inr (.inl h)
      · exact .inr (.inr (.inl h))
      · exact .inl ⟨h1, .inr h2⟩
      · exact .inr (.inr (.inr ⟨h1, h2⟩))
theorem Ah.mid {p l q : List Nat} {a b : Nat} (h : Ah l a b) : Ah (p ++ l ++ q) a b := ah_append.2 (.inl (ah_append.2 (.inr (.inl h))))
theorem Ah.asymm {l : List Nat} (hl : l.Nodup) {a b : Nat} (h : Ah l a b) : ¬ Ah l b a := by
  induction l with
  | nil => exact h.elim
  | cons c t ih =>
    rw [List.nodup_cons] at hl
    rintro (⟨rfl, k⟩ | k) <;> rcases h with ⟨e, h⟩ | h
    · exact hl.1 h
    · exact hl.1 h.right
    · exact hl.1 (e ▸ k.right)
    · exact ih hl.2 h k
theorem Ah.ne {l : List Nat} (hl : l.Nodup) {a b : Nat} (h : Ah l a b) : a ≠ b := fun e => by subst e; exact h.asymm hl h
theorem ah_tri {l : List Nat} {a b : Nat} (ha : a ∈ l) (hb : b ∈ l) (h : a ≠ b) : Ah l a b ∨ Ah l b a := by
  induction l with
  | nil => cases ha
  | cons c t ih =>
    rcases List.mem_cons.1 ha with rfl | ha <;> rcases List.mem_cons.1 hb with hb | hb
    · exact absurd hb.symm h
    · exact .inl (.inl ⟨rfl, hb⟩)
    · exact .inr (.inl ⟨hb, ha⟩)
    · exact (ih ha hb).imp .inr .inr
theorem Ah.trans {l : List Nat} (hl : l.Nodup) {a b c : Nat} (h : Ah l a b) (k : Ah l b c) : Ah l a c := by
  induction l with
  | nil => exact h.elim
  | cons d t ih =>
    rw [List.nodup_cons] at hl
    rcases h with ⟨rfl, h⟩ | h
    · rcases k with ⟨e, k⟩ | k
      · exact absurd (e ▸ h) hl.1
      · exact .inl ⟨rfl, k.right⟩
    · rcases k with ⟨e, k⟩ | k
      · exact absurd (e ▸ h.right) hl.1
      · exact .inr (ih hl.2 h k)
theorem ah_at {l : List Nat} {a b : Nat} : Ah l a b ↔ ∃ i j : Nat, i < j ∧ l[i]? = some a ∧ l[j]? = some b := by
  induction l with
  | nil => simp [Ah]
  | cons c t ih =>
    unfold Ah
    constructor
    · rintro (⟨rfl, h⟩ | h)
      · obtain ⟨j, hj⟩ := List.mem_iff_getElem?.1 h
        exact ⟨0, j + 1, by omega, rfl, by simpa using hj⟩
      · obtain ⟨i, j, h1, h2, h3⟩ := ih.1 h
        exact ⟨i + 1, j + 1, by omega, by simpa using h2, by simpa using h3⟩
    · rintro ⟨i, j, h1, h2, h3⟩
      cases j with
      | zero => omega
      | succ j =>
        cases i with
        | zero => simp at h2 h3; exact .inl ⟨h2.symm, List.mem_of_getElem? h3⟩
        | succ i => simp at h2 h3; exact .inr (ih.2 ⟨i, j, by omega, h2, h3⟩)
/-- in a row that has each once, by places -/
theorem ah_places {l : List Nat} (hl : l.Nodup) {i j a b : Nat} (hi : l[i]? = some a) (hj : l[j]? = some b) : Ah l a b ↔ i < j := by
  have one : ∀ {i i' a : Nat}, l[i]? = some a → l[i']? = some a → i = i' := fun {i i' a} h h' => by
    obtain ⟨h1, h2⟩ := List.getElem?_eq_some_iff.1 h
    obtain ⟨h3, h4⟩ := List.getElem?_eq_some_iff.1 h'
    rw [List.Nodup, List.pairwise_iff_getElem] at hl
    rcases Nat.lt_trichotomy i i' with q | q | q
    · exact absurd (h2.trans h4.symm) (hl i i' h1 h3 q)
    · exact q
    · exact absurd (h4.trans h2.symm) (hl i' i h3 h1 q)
  rw [ah_at]
  exact ⟨fun ⟨i', j', h1, h2, h3⟩ => by rw [one hi h2, one hj h3]; exact h1, fun h => ⟨i, j, h, hi, hj⟩⟩
theorem ah_pairwise {r : Nat → Nat → Prop} {l : List Nat} (h : l.Pairwise r) {a b : Nat} (k : Ah l a b) : r a b := by
  induction l with
  | nil => exact k.elim
  | cons c t ih =>
    rw [List.pairwise_cons] at h
    rcases k with ⟨rfl, k⟩ | k
    · exact h.1 b k
    · exact ih h.2 k
theorem ah_of_pairwise {r : Nat → Nat → Prop} {l : List Nat} (h : l.Pairwise r) {a b : Nat} (ha : a ∈ l) (hb : b ∈ l) (hr : r a b) (hn : ¬ r b a) : Ah l a b :=
  (ah_tri ha hb fun e => by subst e; exact hn hr).resolve_right fun k => hn (ah_pairwise h k)
theorem ah_flat {f : Nat → List Nat} {l : List Nat} (hf : ∀ x ∈ l, x ∈ f x) {a b : Nat} (h : Ah l a b) : Ah (l.flatMap f) a b := by
  induction l with
  | nil => exact h.elim
  | cons c t ih =>
    rw [List.flatMap_cons, ah_append]
    rcases h with ⟨rfl, h⟩ | h
    · exact .inr (.inr ⟨hf _ List.mem_cons_self, List.mem_flatMap.2 ⟨b, h, hf b (List.mem_cons_of_mem _ h)⟩⟩)
    · exact .inr (.inl (ih (fun x hx => hf x (List.mem_cons_of_mem _ hx)) h))

section
variable {n : Nat} {la : Nat → Nat} {ly : Nat → Bool} {z : Nat → Int} (H : OK n la ly)
include H
/-- a layer stands in the order as a whole -/
theorem whole : ∀ (a : Nat), a < n → Lay ly a → ∃ p q f, n ≤ a + f ∧ order n la ly z = p ++ paint n la ly z f a ++ q := by
  intro a
  induction a using Nat.strongRecOn with
  | _ a ih =>
    intro ha hl
    by_cases h0 : a = 0
    · subst h0
      refine ⟨[], [], n, by omega, ?_⟩
      unfold order
      rw [if_neg (by omega)]
      simp
    · have h1 := H.lt a (by omega) ha
      have hy : ly a = true := hl.resolve_left h0
      obtain ⟨p, q, f, hf, e⟩ := ih (la a) h1 (by omega) (H.ly a (by omega) ha)
      obtain ⟨g, rfl⟩ : ∃ g, f = g + 1 := ⟨f - 1, by omega⟩
      unfold paint at e
      have cut : ∀ (l : List Nat), a ∈ l → ∃ s t, l.flatMap (paint n la ly z g) = s ++ paint n la ly z g a ++ t := fun l hm => by
        obtain ⟨s, t, rfl⟩ := List.append_of_mem hm
        exact ⟨s.flatMap (paint n la ly z g), t.flatMap (paint n la ly z g), by simp [List.flatMap_append]⟩
      by_cases hz : z a < 0
      · obtain ⟨s, t, c⟩ := cut (low n la ly z (la a)) (mem_low.2 ⟨⟨ha, by omega, rfl⟩, hy, hz⟩)
        rw [c] at e
        exact ⟨p ++ la a :: s, t ++ plain n la ly (la a) ++ (high n la ly z (la a)).flatMap (paint n la ly z g) ++ q, g, by omega, by rw [e]; simp⟩
      · obtain ⟨s, t, c⟩ := cut (high n la ly z (la a)) (mem_high.2 ⟨⟨ha, by omega, rfl⟩, hy, by omega⟩)
        rw [c] at e
        exact ⟨p ++ la a :: ((low n la ly z (la a)).flatMap (paint n la ly z g) ++ plain n la ly (la a) ++ s), t ++ q, g, by omega, by rw [e]; simp⟩

/-- who is ahead, of what is in one layer -/
theorem ah_in {a : Nat} (ha : a < n) (hl : Lay ly a) : ∃ f, n ≤ a + (f + 1) ∧ ∀ x y, Ah (a :: ((low n la ly z a).flatMap (paint n la ly z f) ++ plain n la ly a ++ (high n la ly z a).flatMap (paint n la ly z f))) x y → Ah (order n la ly z) x y := by
  obtain ⟨p, q, f, hf, e⟩ := whole (z := z) H a ha hl
  obtain ⟨g, rfl⟩ : ∃ g, f = g + 1 := ⟨f - 1, by omega⟩
  refine ⟨g, hf, fun x y h => ?_⟩
  rw [e]
  exact Ah.mid (by unfold paint; exact h)
theorem self_in (f c : Nat) : c ∈ paint n la ly z f c := by cases f <;> simp [paint]
/-- a layer is ahead of what is in it -/
theorem ah_layer {x : Nat} (h0 : 0 < x) (hx : x < n) : Ah (order n la ly z) (la x) x := by
  have hl := H.lt x h0 hx
  obtain ⟨f, _, h⟩ := ah_in (z := z) H (a := la x) (by omega) (H.ly x h0 hx)
  refine h _ _ (.inl ⟨rfl, ?_⟩)
  simp only [List.mem_append, List.mem_flatMap]
  cases hy : ly x with
  | false => exact .inl (.inr (mem_plain.2 ⟨⟨hx, h0, rfl⟩, hy⟩))
  | true =>
    by_cases hz : z x < 0
    · exact .inl (.inl ⟨x, mem_low.2 ⟨⟨hx, h0, rfl⟩, hy, hz⟩, self_in H f x⟩)
    · exact .inr ⟨x, mem_high.2 ⟨⟨hx, h0, rfl⟩, hy, by omega⟩, self_in H f x⟩
/-- of plain ones the one that stands ahead -/
theorem ah_plain {x y : Nat} (hx0 : 0 < x) (hy : y < n) (hxy : x < y) (e : la x = la y) (px : ly x = false) (py : ly y = false) : Ah (order n la ly z) x y := by
  have hl := H.lt x hx0 (by omega)
  obtain ⟨f, _, h⟩ := ah_in (z := z) H (a := la x) (by omega) (H.ly x hx0 (by omega))
  refine h _ _ (.inr (ah_append.2 (.inl (ah_append.2 (.inr (.inl ?_))))))
  exact ah_of_pairwise (sorted_plain _) (mem_plain.2 ⟨⟨by omega, hx0, rfl⟩, px⟩) (mem_plain.2 ⟨⟨hy, by omega, e.symm⟩, py⟩) hxy (by omega)
/-- a layer and a plain one -/
theorem ah_z {x y : Nat} (hx0 : 0 < x) (hx : x < n) (hy0 : 0 < y) (hy : y < n) (e : la x = la y) (px : ly x = true) (py : ly y = false) : Ah (order n la ly z) x y ↔ z x < 0 := by
  have hl := H.lt x hx0 (by omega)
  obtain ⟨f, _, h⟩ := ah_in (z := z) H (a := la x) (by omega) (H.ly x hx0 (by omega))
  have my : y ∈ plain n la ly (la x) := mem_plain.2 ⟨⟨hy, hy0, e.symm⟩, py⟩
  by_cases hz : z x < 0
  · refine ⟨fun _ => hz, fun _ => h _ _ (.inr (ah_append.2 (.inl (ah_append.2 (.inr (.inr ⟨?_, my⟩))))))⟩
    exact List.mem_flatMap.2 ⟨x, mem_low.2 ⟨⟨hx, hx0, rfl⟩, px, hz⟩, self_in H f x⟩
  · refine ⟨fun k => absurd k (Ah.asymm (nodup_order H) (h _ _ (.inr (ah_append.2 (.inr (.inr ⟨List.mem_append.2 (.inr my), ?_⟩)))))), fun k => absurd k hz⟩
    exact List.mem_flatMap.2 ⟨x, mem_high.2 ⟨⟨hx, hx0, rfl⟩, px, by omega⟩, self_in H f x⟩
/-- two layers of one layer -/
theorem ah_layers {x y : Nat} (hx0 : 0 < x) (hxy : x < y) (hy : y < n) (e : la x = la y) (px : ly x = true) (py : ly y = true) : Ah (order n la ly z) x y ↔ z x ≤ z y := by
  have hl := H.lt x hx0 (by omega)
  obtain ⟨f, _, h⟩ := ah_in (z := z) H (a := la x) (by omega) (H.ly x hx0 (by omega))
  have key : ∀ a b, (a < n ∧ 0 < a ∧ la a = la x) → (b < n ∧ 0 < b ∧ la b = la x) → ly a = true → ly b = true → Lt z a b → Ah (order n la ly z) a b := fun a b ha hb la_ lb_ hab => by
    by_cases h1 : z a < 0
    · have ma := mem_low.2 ⟨ha, la_, h1⟩
      by_cases h2 : z b < 0
      · have mb := mem_low.2 ⟨hb, lb_, h2⟩
        exact h _ _ (.inr (ah_append.2 (.inl (ah_append.2 (.inl (ah_flat (fun c _ => self_in H f c) (ah_of_pairwise (sorted_low _) ma mb hab hab.asymm)))))))
      · have mb := mem_high.2 ⟨hb, lb_, (by omega : 0 ≤ z b)⟩
        exact h _ _ (.inr (ah_append.2 (.inr (.inr ⟨List.mem_append.2 (.inl (List.mem_flatMap.2 ⟨a, ma, self_in H f a⟩)), List.mem_flatMap.2 ⟨b, mb, self_in H f b⟩⟩))))
    · have h2 : 0 ≤ z b := by unfold Lt at hab; omega
      exact h _ _ (.inr (ah_append.2 (.inr (.inl (ah_flat (fun c _ => self_in H f c) (ah_of_pairwise (sorted_high _) (mem_high.2 ⟨ha, la_, by omega⟩) (mem_high.2 ⟨hb, lb_, h2⟩) hab hab.asymm))))))
  by_cases hz : z x ≤ z y
  · exact ⟨fun _ => hz, fun _ => key x y ⟨by omega, hx0, rfl⟩ ⟨hy, by omega, e.symm⟩ px py (by unfold Lt; omega)⟩
  · exact ⟨fun k => absurd k (Ah.asymm (nodup_order H) (key y x ⟨hy, by omega, e.symm⟩ ⟨by omega, hx0, rfl⟩ py px (by unfold Lt; omega))), fun k => absurd k hz⟩
/-- the first one -/
theorem order_head (h0 : 0 < n) : ∃ t, order n la ly z = 0 :: t := by
  unfold order
  rw [if_neg (by omega)]
  obtain ⟨m, rfl⟩ : ∃ m, n = m + 1 := ⟨n - 1, by omega⟩
  exact ⟨_, rfl⟩
/-- a layer's nodes stand together -/
theorem together {a : Nat} (ha : a < n) (hl : Lay ly a) : ∃ p m, 0 < m ∧ p + m ≤ n ∧ (order n la ly z)[p]? = some a ∧ ∀ i x, (order n la ly z)[i]? = some x → (R la a x ↔ p ≤ i ∧ i < p + m) := by
  obtain ⟨p, q, f, hf, e⟩ := whole (z := z) H a ha hl
  have hnd := nodup_order (z := z) H
  have hlen := length_order (z := z) H
  have hmem := mem_paint (z := z) H f a hf ha
  have hhead : ∃ t, paint n la ly z f a = a :: t := by cases f <;> exact ⟨_, rfl⟩
  obtain ⟨t, ht⟩ := hhead
  rw [e] at hlen hnd ⊢
  refine ⟨p.length, (paint n la ly z f a).length, by rw [ht]; simp, by simp at hlen; omega, by rw [List.append_assoc, List.getElem?_append_right (by omega), Nat.sub_self, ht]; rfl, fun i x hi => ?_⟩
  have hxn : x < n := by
    have := (mem_order (z := z) H (x := x)).1 (by rw [e]; exact List.mem_of_getElem? hi)
    exact this
  rw [List.nodup_append, List.nodup_append] at hnd
  constructor
  · intro hR
    have hx := (hmem x).2 ⟨hxn, hR⟩
    rcases Nat.lt_or_ge i p.length with h | h
    · rw [List.append_assoc, List.getElem?_append_left h] at hi
      exact absurd rfl (hnd.1.2.2 x (List.mem_of_getElem? hi) x hx)
    · rcases Nat.lt_or_ge i (p.length + (paint n la ly z f a).length) with h2 | h2
      · exact ⟨h, h2⟩
      · rw [List.getElem?_append_right (by simp; omega)] at hi
        exact absurd rfl (hnd.2.2 x (List.mem_append.2 (.inr hx)) x (List.mem_of_getElem? hi))
  · rintro ⟨h1, h2⟩
    rw [List.append_assoc, List.getElem?_append_right h1, List.getElem?_append_left (by omega)] at hi
    exact ((hmem x).1 (List.mem_of_getElem? hi)).2

/-- without layers -/
theorem order_plain (hn : ∀ i, ly i = false) : order n la ly z = List.range n := by
  have h0 : ∀ i, 0 < i → i < n → la i = 0 := fun i h1 h2 => (H.ly i h1 h2).resolve_right (by rw [hn]; simp)
  by_cases hn0 : n = 0
  · subst hn0; rfl
  · have el : low n la ly z 0 = [] := by
      cases e : low n la ly z 0 with
      | nil => rfl
      | cons c t => have := (mem_low (x := c)).1 (by rw [e]; exact List.mem_cons_self); rw [hn] at this; exact absurd this.2.1 (by simp)
    have eh : high n la ly z 0 = [] := by
      cases e : high n la ly z 0 with
      | nil => rfl
      | cons c t => have := (mem_high (x := c)).1 (by rw [e]; exact List.mem_cons_self); rw [hn] at this; exact absurd this.2.1 (by simp)
    obtain ⟨m, rfl⟩ : ∃ m, n = m + 1 := ⟨n - 1, by omega⟩
    unfold order
    rw [if_neg hn0]
    unfold paint
    rw [el, eh]
    simp only [List.flatMap_nil, List.nil_append, List.append_nil]
    refine sorted_eq (z := fun _ => 0) ?_ ?_ ?_
    · rw [List.pairwise_cons]
      exact ⟨fun x hx => by obtain ⟨⟨_, h, _⟩, _⟩ := mem_plain.1 hx; exact .inr ⟨rfl, h⟩, (sorted_plain 0).imp fun {a b} h => .inr ⟨rfl, h⟩⟩
    · exact List.pairwise_lt_range.imp fun {a b} h => .inr ⟨rfl, h⟩
    · intro x
      rw [List.mem_cons, mem_plain, List.mem_range]
      constructor
      · rintro (rfl | ⟨⟨h, _⟩, _⟩)
        · omega
        · exact h
      · intro h
        by_cases e : x = 0
        · exact .inl e
        · exact .inr ⟨⟨h, by omega, h0 x (by omega) h⟩, hn x⟩
end

/-- one more plain node behind all -/
theorem paint_more {n : Nat} {la : Nat → Nat} {ly : Nat → Bool} {z : Nat → Int} (hy : ly n = false) : ∀ (f a : Nat), a < n → (paint (n + 1) la ly z f a).filter (fun x => x != n) = paint n la ly z f a := by
  have ei : ∀ a, ins_ (n + 1) la a = ins_ n la a ++ if 0 < n ∧ la n = a then [n] else [] := fun a => by
    unfold ins_
    rw [List.range_succ, List.filter_append]
    congr 1
    by_cases h : 0 < n ∧ la n = a
    · rw [if_pos h]; simp [h.1, h.2]
    · rw [if_neg h]
      simp only [List.filter_cons, List.filter_nil, Bool.and_eq_true, decide_eq_true_eq, beq_iff_eq]
      rw [if_neg h]
  have el : ∀ a, low (n + 1) la ly z a = low n la ly z a := fun a => by
    unfold low
    rw [ei, List.filter_append]
    split
    · simp [hy]
    · simp
  have eh : ∀ a, high (n + 1) la ly z a = high n la ly z a := fun a => by
    unfold high
    rw [ei, List.filter_append]
    split
    · simp [hy]
    · simp
  have ep : ∀ a, (plain (n + 1) la ly a).filter (fun x => x != n) = plain n la ly a := fun a => by
    unfold plain
    rw [ei, List.filter_append, List.filter_append]
    have h1 : ∀ l : List Nat, (∀ x ∈ l, x < n) → l.filter (fun x => x != n) = l := fun l hl => List.filter_eq_self.2 fun x hx => by have := hl x hx; simp; omega
    rw [h1 _ fun x hx => by
      obtain ⟨hx, _⟩ := List.mem_filter.1 hx
      exact (mem_ins.1 hx).1]
    split
    · simp [hy]
    · simp
  intro f
  induction f with
  | zero => intro a ha; simp [paint]; omega
  | succ f ih =>
    intro a ha
    have flat : ∀ l : List Nat, (∀ x ∈ l, x < n) → (l.flatMap (paint (n + 1) la ly z f)).filter (fun x => x != n) = l.flatMap (paint n la ly z f) := fun l => by
      induction l with
      | nil => intro _; rfl
      | cons c t iht =>
        intro hl
        rw [List.flatMap_cons, List.flatMap_cons, List.filter_append, ih c (hl c List.mem_cons_self), iht fun x hx => hl x (List.mem_cons_of_mem _ hx)]
    unfold paint
    rw [el, eh, List.filter_cons, if_pos (by simp; omega), List.filter_append, List.filter_append, ep, flat _ (fun x hx => (mem_low.1 hx).1.1), flat _ (fun x hx => (mem_high.1 hx).1.1)]
/-- more fuel than enough is as good -/
theorem paint_fuel {n : Nat} {la : Nat → Nat} {ly : Nat → Bool} {z : Nat → Int} (H : OK n la ly) : ∀ (f g a : Nat), n ≤ a + f → n ≤ a + g → a < n → paint n la ly z f a = paint n la ly z g a := by
  intro f
  induction f with
  | zero => intro g a h1 h2 h3; omega
  | succ f ih =>
    intro g a h1 h2 h3
    cases g with
    | zero => omega
    | succ g =>
      have flat : ∀ l : List Nat, (∀ x ∈ l, a < x ∧ x < n) → l.flatMap (paint n la ly z f) = l.flatMap (paint n la ly z g) := fun l => by
        induction l with
        | nil => intro _; rfl
        | cons c t iht =>
          intro hl
          have := hl c List.mem_cons_self
          rw [List.flatMap_cons, List.flatMap_cons, ih g c (by omega) (by omega) this.2, iht fun x hx => hl x (List.mem_cons_of_mem _ hx)]
      unfold paint
      rw [flat _ fun x hx => by obtain ⟨⟨c1, c2, c3⟩, _⟩ := mem_low.1 hx; have := H.lt x c2 c1; omega,
        flat _ fun x hx => by obtain ⟨⟨c1, c2, c3⟩, _⟩ := mem_high.1 hx; have := H.lt x c2 c1; omega]
theorem order_more {n : Nat} {la : Nat → Nat} {ly : Nat → Bool} {z : Nat → Int} (H : OK n la ly) (h0 : 0 < n) (hy : ly n = false) : (order (n + 1) la ly z).filter (fun x => x != n) = order n la ly z := by
  unfold order
  rw [if_neg (by omega), if_neg (by omega), paint_more hy (n + 1) 0 h0, paint_fuel H (n + 1) n 0 (by omega) (by omega) h0]

/-! layers by the nodes just above -/
section
variable {n : Nat} {pu : Nat → Nat} {ly : Nat → Bool}
def laF (pu : Nat → Nat) (ly : Nat → Bool) : Nat → Nat → Nat
  | 0, x => x
  | f + 1, x => if x = 0 ∨ ly x = true then x else laF pu ly f (pu x)
/-- the layer that a node is in -/
def lay (pu : Nat → Nat) (ly : Nat → Bool) (i : Nat) : Nat := laF pu ly i (pu i)
theorem laF_fuel (hp : ∀ i, 0 < i → i < n → pu i < i) : ∀ (f g x : Nat), x < n → x ≤ f → x ≤ g → laF pu ly f x = laF pu ly g x := by
  intro f
  induction f with
  | zero => intro g x h1 h2 h3; obtain rfl : x = 0 := by omega
            cases g <;> simp [laF]
  | succ f ih =>
    intro g x h1 h2 h3
    cases g with
    | zero => obtain rfl : x = 0 := by omega
              simp [laF]
    | succ g =>
      unfold laF
      split
      · rfl
      · rename_i h
        have h0 : 0 < x := by omega
        have := hp x h0 h1
        exact ih g _ (by omega) (by omega) (by omega)
theorem lay_eq (hp : ∀ i, 0 < i → i < n → pu i < i) {i : Nat} (h0 : 0 < i) (hi : i < n) : lay pu ly i = if pu i = 0 ∨ ly (pu i) = true then pu i else lay pu ly (pu i) := by
  have h1 := hp i h0 hi
  unfold lay
  obtain ⟨j, rfl⟩ : ∃ j, i = j + 1 := ⟨i - 1, by omega⟩
  conv => lhs; unfold laF
  split
  · rfl
  · rename_i h
    have h2 : 0 < pu (j + 1) := by omega
    have h3 := hp _ h2 (by omega)
    exact laF_fuel hp _ _ _ (by omega) (by omega) (by omega)
theorem lay_ok (hp : ∀ i, 0 < i → i < n → pu i < i) : OK n (lay pu ly) ly := by
  have key : ∀ i, 0 < i → i < n → lay pu ly i < i ∧ (lay pu ly i = 0 ∨ ly (lay pu ly i) = true) := by
    intro i
    induction i using Nat.strongRecOn with
    | _ i ih =>
      intro h0 hi
      have h1 := hp i h0 hi
      rw [lay_eq hp h0 hi]
      split
      · rename_i h; exact ⟨h1, h⟩
      · rename_i h
        have := ih (pu i) h1 (by omega) (by omega)
        exact ⟨by omega, this.2⟩
  exact ⟨fun i h0 hi => (key i h0 hi).1, fun i h0 hi => (key i h0 hi).2⟩
theorem R.trans {la : Nat → Nat} {a b c : Nat} (h : R la a b) (k : R la b c) : R la a c := by
  induction k with
  | refl => exact h
  | step h0 _ ih => exact .step h0 ih
/-- it is in a layer just where it is in its node -/
theorem r_lay (hp : ∀ i, 0 < i → i < n → pu i < i) {a x : Nat} (hx : x < n) (ha : Lay ly a) : R (lay pu ly) a x ↔ R pu a x := by
  have up : ∀ i, 0 < i → i < n → R pu (lay pu ly i) i := by
    intro i
    induction i using Nat.strongRecOn with
    | _ i ih =>
      intro h0 hi
      have h1 := hp i h0 hi
      rw [lay_eq hp h0 hi]
      split
      · exact .step h0 .refl
      · rename_i h
        exact .step h0 (ih (pu i) h1 (by omega) (by omega))
  constructor
  · intro h
    induction h with
    | refl => exact .refl
    | @step x h0 h1 ih =>
      have := (lay_ok (ly := ly) hp).lt x h0 hx
      exact (ih (by omega)).trans (up x h0 hx)
  · intro h
    induction h with
    | refl => exact .refl
    | @step x h0 h1 ih =>
      have h2 := hp x h0 hx
      have h3 := ih (by omega)
      refine .step h0 ?_
      rw [lay_eq hp h0 hx]
      split
      · exact h3
      · rename_i h4
        cases h3 with
        | refl => exact absurd ha h4
        | step _ h5 => exact h5
end
end Go.Proofs.Pa
