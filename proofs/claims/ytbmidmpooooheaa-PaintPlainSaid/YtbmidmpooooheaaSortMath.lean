/- Plain numbers of a stable sort in place: rows of places, an order by keys, exchanges, rotations, and a merge of two parts that are in order. No program in sight. -/
set_option maxRecDepth 100000
namespace Go.Proofs.Ytbmidmpooooheaa
namespace So
/-- of two places the one with the lesser key, of the same key the one ahead -/
def lt (K : Nat → Int) (x y : Nat) : Prop := K x < K y ∨ (K x = K y ∧ x < y)

theorem lt_trans {K : Nat → Int} {x y z : Nat} (h : lt K x y) (k : lt K y z) : lt K x z := by
  unfold lt at *; omega

theorem lt_irrefl {K : Nat → Int} {x : Nat} (h : lt K x x) : False := by unfold lt at h; omega

theorem lt_asymm {K : Nat → Int} {x y : Nat} (h : lt K x y) (k : lt K y x) : False := by unfold lt at *; omega

theorem lt_total {K : Nat → Int} {x y : Nat} (h : x ≠ y) : lt K x y ∨ lt K y x := by unfold lt; omega

/-- a later place comes first just where its key is less -/
theorem lt_later {K : Nat → Int} {x y : Nat} (h : y < x) : lt K x y ↔ K x < K y := by unfold lt; omega

theorem lt_not {K : Nat → Int} {x y : Nat} (h : y < x) (hk : ¬ K x < K y) : lt K y x := by unfold lt; omega

def Sorted (K : Nat → Int) (a c : Nat) (X : Nat → Nat) : Prop := ∀ p q, a ≤ p → p < q → q < c → lt K (X p) (X q)

theorem Sorted.le {K : Nat → Int} {a c : Nat} {X : Nat → Nat} (h : Sorted K a c X) {p q : Nat} (hp : a ≤ p) (hpq : p ≤ q) (hq : q < c) {z : Nat} (hz : lt K (X q) z) : lt K (X p) z := by
  rcases Nat.lt_or_ge p q with h1 | h1
  · exact lt_trans (h p q hp h1 hq) hz
  · obtain rfl : p = q := by omega
    exact hz

theorem Sorted.ge {K : Nat → Int} {a c : Nat} {X : Nat → Nat} (h : Sorted K a c X) {p q : Nat} (hp : a ≤ p) (hpq : p ≤ q) (hq : q < c) {z : Nat} (hz : lt K z (X p)) : lt K z (X q) := by
  rcases Nat.lt_or_ge p q with h1 | h1
  · exact lt_trans hz (h p q hp h1 hq)
  · obtain rfl : p = q := by omega
    exact hz

theorem Sorted.mono {K : Nat → Int} {a c a' c' : Nat} {X : Nat → Nat} (h : Sorted K a c X) (ha : a ≤ a') (hc : c' ≤ c) : Sorted K a' c' X := fun p q h1 h2 h3 => h p q (by omega) h2 (by omega)

theorem Sorted.congr {K : Nat → Int} {a c : Nat} {X Y : Nat → Nat} (h : Sorted K a c X) (e : ∀ p, a ≤ p → p < c → Y p = X p) : Sorted K a c Y := fun p q h1 h2 h3 => by
  rw [e p h1 (by omega), e q (by omega) h3]; exact h p q h1 h2 h3

theorem Sorted.short (K : Nat → Int) {a c : Nat} (X : Nat → Nat) (h : c ≤ a + 1) : Sorted K a c X := fun p q h1 h2 h3 => by omega

/-- from a up to c the same numbers, elsewhere all as it was -/
def Same (a c : Nat) (X X' : Nat → Nat) : Prop := (∀ k, k < a ∨ c ≤ k → X' k = X k) ∧ ∀ v, (∃ k, a ≤ k ∧ k < c ∧ X' k = v) ↔ ∃ k, a ≤ k ∧ k < c ∧ X k = v

theorem Same.refl (a c : Nat) (X : Nat → Nat) : Same a c X X := ⟨fun _ _ => rfl, fun _ => Iff.rfl⟩

theorem Same.trans {a c : Nat} {X Y Z : Nat → Nat} (h : Same a c X Y) (k : Same a c Y Z) : Same a c X Z := ⟨fun i hi => (k.1 i hi).trans (h.1 i hi), fun v => (k.2 v).trans (h.2 v)⟩

theorem Same.mono {a c a' c' : Nat} {X Y : Nat → Nat} (h : Same a c X Y) (ha : a' ≤ a) (hc : c ≤ c') : Same a' c' X Y := by
  refine ⟨fun i hi => h.1 i (by omega), fun v => ?_⟩
  constructor
  · rintro ⟨k, h1, h2, rfl⟩
    by_cases hk : a ≤ k ∧ k < c
    · obtain ⟨j, j1, j2, j3⟩ := (h.2 (Y k)).1 ⟨k, hk.1, hk.2, rfl⟩
      exact ⟨j, by omega, by omega, j3⟩
    · exact ⟨k, h1, h2, (h.1 k (by omega)).symm⟩
  · rintro ⟨k, h1, h2, rfl⟩
    by_cases hk : a ≤ k ∧ k < c
    · obtain ⟨j, j1, j2, j3⟩ := (h.2 (X k)).2 ⟨k, hk.1, hk.2, rfl⟩
      exact ⟨j, by omega, by omega, j3⟩
    · exact ⟨k, h1, h2, h.1 k (by omega)⟩

/-- what holds of each number from a up to c holds of each behind -/
theorem Same.all {a c : Nat} {X Y : Nat → Nat} (h : Same a c X Y) {p : Nat → Prop} (hp : ∀ k, a ≤ k → k < c → p (X k)) : ∀ k, a ≤ k → k < c → p (Y k) := by
  intro k h1 h2
  obtain ⟨j, j1, j2, j3⟩ := (h.2 (Y k)).1 ⟨k, h1, h2, rfl⟩
  rw [← j3]; exact hp j j1 j2

def upd (X : Nat → Nat) (i v : Nat) : Nat → Nat := fun k => if k = i then v else X k

def swap (X : Nat → Nat) (i j : Nat) : Nat → Nat := upd (upd X i (X j)) j (X i)

theorem swap_at (X : Nat → Nat) (i j k : Nat) : swap X i j k = if k = j then X i else if k = i then X j else X k := rfl

theorem Same.swap {a c : Nat} (X : Nat → Nat) {i j : Nat} (hi : a ≤ i ∧ i < c) (hj : a ≤ j ∧ j < c) : Same a c X (So.swap X i j) := by
  refine ⟨fun k hk => by rw [swap_at, if_neg (by omega), if_neg (by omega)], fun v => ?_⟩
  constructor
  · rintro ⟨k, h1, h2, rfl⟩
    rw [swap_at]
    split
    · exact ⟨i, hi.1, hi.2, rfl⟩
    · split
      · exact ⟨j, hj.1, hj.2, rfl⟩
      · exact ⟨k, h1, h2, rfl⟩
  · rintro ⟨k, h1, h2, rfl⟩
    by_cases e1 : k = i
    · exact ⟨j, hj.1, hj.2, by rw [swap_at, if_pos rfl, e1]⟩
    · by_cases e2 : k = j
      · refine ⟨i, hi.1, hi.2, ?_⟩
        rw [swap_at]
        split
        · rename_i e; rw [e2, ← e]
        · rw [if_pos rfl, e2]
      · exact ⟨k, h1, h2, by rw [swap_at, if_neg e2, if_neg e1]⟩

/-! ### insertion -/
/-- the number that goes in, x, is at place j; all up to i but it stand in order; those behind it come behind it; all others are less places -/
structure Ins (K : Nat → Int) (a i j : Nat) (X Y : Nat → Nat) : Prop where
  at_ : Y j = i
  rest : ∀ p q, a ≤ p → p < q → q ≤ i → p ≠ j → q ≠ j → lt K (Y p) (Y q)
  behind : ∀ q, j < q → q ≤ i → lt K (Y j) (Y q)
  less : ∀ p, a ≤ p → p ≤ i → p ≠ j → Y p < i
  same : Same a (i + 1) X Y

theorem Ins.start {K : Nat → Int} {a i : Nat} {X Y : Nat → Nat} (hi : Y i = i) (hs : Sorted K a i Y) (hl : ∀ p, a ≤ p → p < i → Y p < i) (hX : Same a (i + 1) X Y) : Ins K a i i X Y :=
  ⟨hi, fun p q h1 h2 h3 h4 h5 => hs p q h1 h2 (by omega), fun q h1 h2 => by omega, fun p h1 h2 h3 => hl p h1 (by omega), hX⟩

theorem Ins.step {K : Nat → Int} {a i j : Nat} {X Y : Nat → Nat} (h : Ins K a i j X Y) (ha : a < j) (hj : j ≤ i) (hk : K (Y j) < K (Y (j - 1))) : Ins K a i (j - 1) X (swap Y j (j - 1)) := by
  have e1 : swap Y j (j - 1) (j - 1) = Y j := by rw [swap_at, if_pos rfl]
  have e2 : swap Y j (j - 1) j = Y (j - 1) := by rw [swap_at, if_neg (by omega), if_pos rfl]
  have e3 : ∀ k, k ≠ j → k ≠ j - 1 → swap Y j (j - 1) k = Y k := fun k h1 h2 => by rw [swap_at, if_neg h2, if_neg h1]
  refine ⟨by rw [e1]; exact h.at_, ?_, ?_, ?_, h.same.trans (Same.swap Y ⟨by omega, by omega⟩ ⟨by omega, by omega⟩)⟩
  · intro p q h1 h2 h3 h4 h5
    by_cases ep : p = j
    · subst ep
      rw [e2, e3 q (by omega) h5]
      exact h.rest _ _ (by omega) (by omega) h3 (by omega) (by omega)
    · by_cases eq : q = j
      · subst eq
        rw [e2, e3 p ep h4]
        exact h.rest _ _ (by omega) (by omega) (by omega) (by omega) (by omega)
      · rw [e3 p ep h4, e3 q eq h5]
        exact h.rest _ _ h1 h2 h3 ep eq
  · intro q h1 h2
    rw [e1]
    by_cases eq : q = j
    · subst eq
      rw [e2]
      exact Or.inl hk
    · rw [e3 q eq (by omega)]
      exact h.behind q (by omega) h2
  · intro p h1 h2 h3
    by_cases ep : p = j
    · subst ep; rw [e2]; exact h.less _ (by omega) (by omega) (by omega)
    · rw [e3 p ep h3]; exact h.less _ h1 h2 ep

theorem Ins.done {K : Nat → Int} {a i j : Nat} {X Y : Nat → Nat} (h : Ins K a i j X Y) (ha : a ≤ j) (hj : j ≤ i) (hk : j = a ∨ ¬ K (Y j) < K (Y (j - 1))) : Sorted K a (i + 1) Y := by
  intro p q h1 h2 h3
  by_cases ep : p = j
  · subst ep; exact h.behind q h2 (by omega)
  · by_cases eq : q = j
    · subst eq
      have hl : lt K (Y (q - 1)) (Y q) := by
        refine lt_not ?_ (by omega)
        rw [h.at_]; exact h.less _ (by omega) (by omega) (by omega)
      rcases Nat.lt_or_ge p (q - 1) with h4 | h4
      · exact lt_trans (h.rest p (q - 1) h1 h4 (by omega) (by omega) (by omega)) hl
      · obtain rfl : p = q - 1 := by omega
        exact hl
    · exact h.rest p q h1 h2 (by omega) ep eq

theorem Ins.low {K : Nat → Int} {a i j : Nat} {X Y : Nat → Nat} (h : Ins K a i j X Y) {p : Nat} (h1 : a ≤ p) (h2 : p ≤ i) : Y p ≤ i := by
  by_cases e : p = j
  · subst e; rw [h.at_]; exact Nat.le_refl _
  · exact Nat.le_of_lt (h.less p h1 h2 e)

/-! ### exchanges of two stretches, and rotations -/
def swR (X : Nat → Nat) (a b n : Nat) : Nat → Nat := fun p => if a ≤ p ∧ p < a + n then X (p + (b - a)) else if b ≤ p ∧ p < b + n then X (p - (b - a)) else X p

theorem swR_zero (X : Nat → Nat) (a b : Nat) : swR X a b 0 = X := by
  funext p; unfold swR; rw [if_neg (by omega), if_neg (by omega)]

theorem swR_succ (X : Nat → Nat) (a b n : Nat) (h : a + n < b) : swap (swR X a b n) (a + n) (b + n) = swR X a b (n + 1) := by
  funext p
  rw [swap_at]
  unfold swR
  by_cases h1 : p = b + n
  · subst h1
    rw [if_pos rfl, if_neg (by omega), if_neg (by omega), if_neg (by omega), if_pos (by omega)]
    congr 1; omega
  · rw [if_neg h1]
    by_cases h2 : p = a + n
    · subst h2
      rw [if_pos rfl, if_neg (by omega), if_neg (by omega), if_pos (by omega)]
      congr 1; omega
    · rw [if_neg h2]
      have c1 : (a ≤ p ∧ p < a + n) = (a ≤ p ∧ p < a + (n + 1)) := by apply propext; omega
      have c2 : (b ≤ p ∧ p < b + n) = (b ≤ p ∧ p < b + (n + 1)) := by apply propext; omega
      simp only [c1, c2]

def rot (X : Nat → Nat) (s m e : Nat) : Nat → Nat := fun k => if k < s ∨ e ≤ k then X k else if k < s + (e - m) then X (k + (m - s)) else X (k - (e - m))

theorem rot_left (Y : Nat → Nat) {m i j : Nat} (hi : i ≤ m) (h : j < i) : rot (swR Y (m - i) m j) (m - (i - j)) m (m + j) = rot Y (m - i) m (m + j) := by
  funext k
  unfold rot swR
  (repeat' split) <;> first | (exfalso; omega) | rfl | (congr 1 <;> omega)

theorem rot_right (Y : Nat → Nat) {m i j : Nat} (hi : i ≤ m) (h : i < j) : rot (swR Y (m - i) (m + j - i) i) (m - i) m (m + (j - i)) = rot Y (m - i) m (m + j) := by
  funext k
  unfold rot swR
  (repeat' split) <;> first | (exfalso; omega) | rfl | (congr 1 <;> omega)

theorem rot_even (Y : Nat → Nat) {m i : Nat} (hi : i ≤ m) : swR Y (m - i) m i = rot Y (m - i) m (m + i) := by
  funext k
  unfold rot swR
  (repeat' split) <;> first | (exfalso; omega) | rfl | (congr 1 <;> omega)

theorem Same.rot (X : Nat → Nat) {s m e : Nat} (h1 : s ≤ m) (h2 : m ≤ e) : Same s e X (So.rot X s m e) := by
  refine ⟨fun k hk => by unfold So.rot; rw [if_pos hk], fun v => ?_⟩
  constructor
  · rintro ⟨k, h3, h4, rfl⟩
    unfold So.rot
    rw [if_neg (by omega)]
    split
    · exact ⟨k + (m - s), by omega, by omega, rfl⟩
    · exact ⟨k - (e - m), by omega, by omega, rfl⟩
  · rintro ⟨k, h3, h4, rfl⟩
    by_cases hk : k < m
    · refine ⟨k + (e - m), by omega, by omega, ?_⟩
      unfold So.rot
      rw [if_neg (by omega), if_neg (by omega)]
      congr 1; omega
    · refine ⟨k - (m - s), by omega, by omega, ?_⟩
      unfold So.rot
      rw [if_neg (by omega), if_pos (by omega)]
      congr 1; omega

/-! ### one number goes into a row: from the left, from the right -/
/-- the number at a has been moved on to place k -/
def shl (X : Nat → Nat) (a k : Nat) : Nat → Nat := fun p => if a ≤ p ∧ p < k then X (p + 1) else if p = k then X a else X p

theorem shl_zero (X : Nat → Nat) (a : Nat) : shl X a a = X := by
  funext p; unfold shl; rw [if_neg (by omega)]; split <;> simp_all

theorem shl_succ (X : Nat → Nat) {a k : Nat} (h : a ≤ k) : swap (shl X a k) k (k + 1) = shl X a (k + 1) := by
  funext p
  rw [swap_at]
  unfold shl
  by_cases h1 : p = k + 1
  · subst h1
    rw [if_pos rfl, if_neg (by omega), if_pos rfl, if_neg (by omega), if_pos rfl]
  · rw [if_neg h1]
    by_cases h2 : p = k
    · subst h2
      rw [if_pos rfl, if_neg (by omega), if_neg (by omega), if_pos (by omega)]
    · rw [if_neg h2]
      by_cases h3 : a ≤ p ∧ p < k
      · rw [if_pos h3, if_pos (by omega)]
      · rw [if_neg h3, if_neg h2, if_neg (by omega), if_neg (by omega)]

theorem Same.shl (X : Nat → Nat) {a k c : Nat} (h1 : a ≤ k) (h2 : k < c) : Same a c X (So.shl X a k) := by
  induction k with
  | zero => obtain rfl : a = 0 := by omega
            rw [shl_zero]; exact Same.refl _ _ _
  | succ k ih =>
    rcases Nat.lt_or_ge k a with h | h
    · obtain rfl : a = k + 1 := by omega
      rw [shl_zero]; exact Same.refl _ _ _
    · rw [← shl_succ X h]
      exact (ih h (by omega)).trans (Same.swap _ ⟨by omega, by omega⟩ ⟨by omega, by omega⟩)

/-- the number at a goes into the row behind it: all ahead of i are ahead of it, all from i on behind it -/
theorem shl_sorted {K : Nat → Int} {X : Nat → Nat} {a i c : Nat} (hs : Sorted K (a + 1) c X) (h1 : a + 1 ≤ i) (h2 : i ≤ c) (hlo : ∀ q, a + 1 ≤ q → q < i → lt K (X q) (X a)) (hhi : ∀ q, i ≤ q → q < c → lt K (X a) (X q)) :
    Sorted K a c (shl X a (i - 1)) := by
  intro p q hp hpq hq
  unfold shl
  by_cases p1 : a ≤ p ∧ p < i - 1
  · rw [if_pos p1]
    by_cases q1 : a ≤ q ∧ q < i - 1
    · rw [if_pos q1]; exact hs _ _ (by omega) (by omega) (by omega)
    · rw [if_neg q1]
      by_cases q2 : q = i - 1
      · rw [if_pos q2]; exact hlo _ (by omega) (by omega)
      · rw [if_neg q2]; exact hs _ _ (by omega) (by omega) (by omega)
  · rw [if_neg p1, if_neg (show ¬ (a ≤ q ∧ q < i - 1) by omega), if_neg (show ¬ q = i - 1 by omega)]
    by_cases p2 : p = i - 1
    · rw [if_pos p2]; exact hhi _ (by omega) (by omega)
    · rw [if_neg p2]; exact hs _ _ (by omega) (by omega) (by omega)

/-- the number at m has been moved back to place k -/
def shr (X : Nat → Nat) (m k : Nat) : Nat → Nat := fun p => if k < p ∧ p ≤ m then X (p - 1) else if p = k then X m else X p

theorem shr_zero (X : Nat → Nat) (m : Nat) : shr X m m = X := by
  funext p; unfold shr; rw [if_neg (by omega)]; split <;> simp_all

theorem shr_succ (X : Nat → Nat) {m k : Nat} (h : k + 1 ≤ m) : swap (shr X m (k + 1)) (k + 1) k = shr X m k := by
  funext p
  rw [swap_at]
  unfold shr
  by_cases h1 : p = k
  · subst h1
    rw [if_pos rfl, if_neg (by omega), if_pos rfl, if_neg (by omega), if_pos rfl]
  · rw [if_neg h1]
    by_cases h2 : p = k + 1
    · subst h2
      rw [if_pos rfl, if_neg (by omega), if_neg (by omega), if_pos (by omega)]
      simp
    · rw [if_neg h2]
      by_cases h3 : k + 1 < p ∧ p ≤ m
      · rw [if_pos h3, if_pos (by omega)]
      · rw [if_neg h3, if_neg h2, if_neg (by omega), if_neg (by omega)]

theorem Same.shr (X : Nat → Nat) {a m k : Nat} (h1 : a ≤ k) (h2 : k ≤ m) : Same a (m + 1) X (So.shr X m k) := by
  obtain ⟨d, rfl⟩ : ∃ d, m = k + d := ⟨m - k, by omega⟩
  induction d generalizing k with
  | zero =>
    show Same a (k + 1) X (So.shr X k k)
    rw [shr_zero]; exact Same.refl _ _ _
  | succ d ih =>
    have e : k + (d + 1) = k + 1 + d := by omega
    rw [e, ← shr_succ X (m := k + 1 + d) (k := k) (by omega)]
    exact (ih (k := k + 1) (by omega) (by omega)).trans (Same.swap _ ⟨by omega, by omega⟩ ⟨by omega, by omega⟩)

theorem shr_sorted {K : Nat → Int} {X : Nat → Nat} {a i m : Nat} (hs : Sorted K a m X) (h1 : a ≤ i) (h2 : i ≤ m) (hlo : ∀ q, a ≤ q → q < i → lt K (X q) (X m)) (hhi : ∀ q, i ≤ q → q < m → lt K (X m) (X q)) :
    Sorted K a (m + 1) (shr X m i) := by
  intro p q hp hpq hq
  unfold shr
  by_cases p1 : i < p ∧ p ≤ m
  · rw [if_pos p1, if_pos (by omega)]
    exact hs _ _ (by omega) (by omega) (by omega)
  · rw [if_neg p1]
    by_cases p2 : p = i
    · rw [if_pos p2, if_pos (by omega)]
      exact hhi _ (by omega) (by omega)
    · rw [if_neg p2]
      by_cases q1 : i < q ∧ q ≤ m
      · rw [if_pos q1]; exact hs _ _ (by omega) (by omega) (by omega)
      · rw [if_neg q1]
        by_cases q2 : q = i
        · rw [if_pos q2]; exact hlo _ (by omega) (by omega)
        · rw [if_neg q2]; exact hs _ _ (by omega) (by omega) (by omega)

/-! ### the symmetric merge -/
/-- two parts, each in order, all places of the left one ahead of all of the right one -/
structure Parts (K : Nat → Int) (a m c : Nat) (X : Nat → Nat) : Prop where
  left : Sorted K a m X
  right : Sorted K m c X
  less : ∀ p q, a ≤ p → p < m → m ≤ q → q < c → X p < X q

/-- where the search for the cut begins, and ends -/
def cutLo (a m c : Nat) : Nat := if (a + c) / 2 < m then (a + c) / 2 + m - c else a
def cutHi (a m c : Nat) : Nat := if (a + c) / 2 < m then (a + c) / 2 else m

theorem cut_bounds {a m c s : Nat} (hs : cutLo a m c ≤ s) (hs2 : s ≤ cutHi a m c) : a ≤ s ∧ s ≤ m ∧ s ≤ (a + c) / 2 ∧ m ≤ (a + c) / 2 + m - s ∧ (a + c) / 2 + m - s ≤ c ∧ (a + c) / 2 ≤ (a + c) / 2 + m - s := by
  unfold cutLo at hs
  unfold cutHi at hs2
  split at hs <;> split at hs2 <;> omega

theorem cut_probe {a m c s : Nat} (h1 : a < m) (h2 : m < c) (hs : cutLo a m c ≤ s) (hs2 : s < cutHi a m c) : a ≤ s ∧ s < m ∧ s < (a + c) / 2 ∧ m ≤ (a + c) / 2 + m - 1 - s ∧ (a + c) / 2 + m - 1 - s < c := by
  unfold cutLo at hs
  unfold cutHi at hs2
  split at hs <;> split at hs2 <;> omega

/-- behind the rotation: all up to the middle are ahead of all from there on; each half is again two parts -/
theorem merge_cut {K : Nat → Int} {X : Nat → Nat} {a m c s : Nat} (h : Parts K a m c X) (h1 : a < m) (h2 : m < c) (hs : cutLo a m c ≤ s) (hs2 : s ≤ cutHi a m c)
    (hlo : ∀ q, cutLo a m c ≤ q → q < s → lt K (X q) (X ((a + c) / 2 + m - 1 - q))) (hhi : ∀ q, s ≤ q → q < cutHi a m c → lt K (X ((a + c) / 2 + m - 1 - q)) (X q)) :
    Parts K a s ((a + c) / 2) (rot X s m ((a + c) / 2 + m - s)) ∧ Parts K ((a + c) / 2) ((a + c) / 2 + m - s) c (rot X s m ((a + c) / 2 + m - s)) ∧
    ∀ p q, a ≤ p → p < (a + c) / 2 → (a + c) / 2 ≤ q → q < c → lt K (rot X s m ((a + c) / 2 + m - s) p) (rot X s m ((a + c) / 2 + m - s) q) := by
  obtain ⟨b1, b2, b3, b4, b5, b6⟩ := cut_bounds hs hs2
  generalize hmid : (a + c) / 2 = mid at *
  generalize he : mid + m - s = e at *
  have r0 : ∀ k, k < s → rot X s m e k = X k := fun k hk => by unfold rot; rw [if_pos (by omega)]
  have r1 : ∀ k, s ≤ k → k < mid → rot X s m e k = X (k + (m - s)) := fun k hk hk2 => by unfold rot; rw [if_neg (by omega), if_pos (by omega)]
  have r2 : ∀ k, mid ≤ k → k < e → rot X s m e k = X (k - (e - m)) := fun k hk hk2 => by unfold rot; rw [if_neg (by omega), if_neg (by omega)]
  have r3 : ∀ k, e ≤ k → rot X s m e k = X k := fun k hk => by unfold rot; rw [if_pos (by omega)]
  -- the last of the left part's beginning is ahead of the first of the right part's end
  have hA : ∀ p q, a ≤ p → p < s → e ≤ q → q < c → lt K (X p) (X q) := by
    intro p q hp hps hq hqc
    have hlt : cutLo a m c < s := by
      rcases Nat.lt_or_ge (cutLo a m c) s with h3 | h3
      · exact h3
      · exfalso
        unfold cutLo at h3 hs
        rw [hmid] at h3 hs
        split at h3 <;> omega
    have h5 := hlo (s - 1) (by omega) (by omega)
    have e5 : mid + m - 1 - (s - 1) = e := by omega
    rw [e5] at h5
    exact h.right.ge (by omega) hq hqc (h.left.le hp (by omega) (by omega) h5)
  have hB : ∀ p q, m ≤ p → p < e → s ≤ q → q < m → lt K (X p) (X q) := by
    intro p q hp hpe hq hqm
    have hlt : s < cutHi a m c := by
      rcases Nat.lt_or_ge s (cutHi a m c) with h3 | h3
      · exact h3
      · exfalso
        unfold cutHi at h3 hs2
        rw [hmid] at h3 hs2
        split at h3 <;> omega
    have h5 := hhi s (Nat.le_refl _) hlt
    have e5 : mid + m - 1 - s = e - 1 := by omega
    rw [e5] at h5
    exact h.left.ge (by omega) hq hqm (h.right.le hp (by omega) (by omega) h5)
  refine ⟨⟨?_, ?_, ?_⟩, ⟨?_, ?_, ?_⟩, ?_⟩
  · exact (h.left.mono (Nat.le_refl _) b2).congr fun p _ hp => r0 p hp
  · intro p q hp hpq hq
    rw [r1 p hp (by omega), r1 q (by omega) hq]
    exact h.right _ _ (by omega) (by omega) (by omega)
  · intro p q hp hps hq hqm
    rw [r0 p hps, r1 q hq hqm]
    exact h.less _ _ hp (by omega) (by omega) (by omega)
  · intro p q hp hpq hq
    rw [r2 p hp (by omega), r2 q (by omega) hq]
    exact h.left _ _ (by omega) (by omega) (by omega)
  · exact (h.right.mono (by omega) (Nat.le_refl _)).congr fun p hp _ => r3 p hp
  · intro p q hp hps hq hqm
    rw [r2 p hp hps, r3 q hq]
    exact h.less _ _ (by omega) (by omega) (by omega) hqm
  · intro p q hp hpm hq hqc
    rcases Nat.lt_or_ge p s with hps | hps
    · rw [r0 p hps]
      rcases Nat.lt_or_ge q e with hqe | hqe
      · rw [r2 q hq hqe]
        exact h.left _ _ hp (by omega) (by omega)
      · rw [r3 q hqe]
        exact hA p q hp hps hqe hqc
    · rw [r1 p hps hpm]
      rcases Nat.lt_or_ge q e with hqe | hqe
      · rw [r2 q hq hqe]
        exact hB _ _ (by omega) (by omega) (by omega) (by omega)
      · rw [r3 q hqe]
        exact h.right _ _ (by omega) (by omega) hqc

/-- two halves in order, all of the one ahead of all of the other: in order -/
theorem Sorted.join {K : Nat → Int} {X : Nat → Nat} {a m c : Nat} (h1 : Sorted K a m X) (h2 : Sorted K m c X) (h : ∀ p q, a ≤ p → p < m → m ≤ q → q < c → lt K (X p) (X q)) : Sorted K a c X := by
  intro p q hp hpq hq
  rcases Nat.lt_or_ge q m with h3 | h3
  · exact h1 p q hp hpq h3
  · rcases Nat.lt_or_ge p m with h4 | h4
    · exact h p q hp h4 h3 hq
    · exact h2 p q h4 hpq hq

/-- one half is put in order, the other one stays: what holds of all of both holds -/
theorem cross_keep {p : Nat → Nat → Prop} {X Y : Nat → Nat} {a m c : Nat} (h : ∀ i j, a ≤ i → i < m → m ≤ j → j < c → p (X i) (X j)) (h1 : Same a m X Y) : ∀ i j, a ≤ i → i < m → m ≤ j → j < c → p (Y i) (Y j) := by
  intro i j hi him hj hjc
  rw [h1.1 j (by omega)]
  exact h1.all (p := fun v => p v (X j)) (fun k hk hk2 => h k j hk hk2 hj hjc) i hi him

theorem cross_keep2 {p : Nat → Nat → Prop} {X Y : Nat → Nat} {a m c : Nat} (h : ∀ i j, a ≤ i → i < m → m ≤ j → j < c → p (X i) (X j)) (h1 : Same m c X Y) : ∀ i j, a ≤ i → i < m → m ≤ j → j < c → p (Y i) (Y j) := by
  intro i j hi him hj hjc
  rw [h1.1 i (by omega)]
  exact h1.all (p := fun v => p (X i) v) (fun k hk hk2 => h i k hi him hk hk2) j hj hjc

/-! ### blocks -/
def Full (a c : Nat) (X : Nat → Nat) : Prop := ∀ v, (∃ k, a ≤ k ∧ k < c ∧ X k = v) ↔ a ≤ v ∧ v < c

theorem Full.in_ {a c : Nat} {X : Nat → Nat} (h : Full a c X) {k : Nat} (h1 : a ≤ k) (h2 : k < c) : a ≤ X k ∧ X k < c := (h _).1 ⟨k, h1, h2, rfl⟩

theorem Full.same {a c : Nat} {X Y : Nat → Nat} (h : Full a c X) (hs : Same a c X Y) : Full a c Y := fun v => (hs.2 v).trans (h v)

theorem Full.id {a c : Nat} {X : Nat → Nat} (h : ∀ k, a ≤ k → k < c → X k = k) : Full a c X := by
  intro v
  constructor
  · rintro ⟨k, h1, h2, rfl⟩; rw [h k h1 h2]; exact ⟨h1, h2⟩
  · rintro ⟨h1, h2⟩; exact ⟨v, h1, h2, h v h1 h2⟩

theorem Full.join {a m c : Nat} {X : Nat → Nat} (h1 : Full a m X) (h2 : Full m c X) (ha : a ≤ m) (hc : m ≤ c) : Full a c X := by
  intro v
  constructor
  · rintro ⟨k, k1, k2, rfl⟩
    rcases Nat.lt_or_ge k m with h | h
    · have := h1.in_ k1 h; omega
    · have := h2.in_ h k2; omega
  · rintro ⟨v1, v2⟩
    rcases Nat.lt_or_ge v m with h | h
    · obtain ⟨k, k1, k2, k3⟩ := (h1 v).2 ⟨v1, h⟩; exact ⟨k, k1, by omega, k3⟩
    · obtain ⟨k, k1, k2, k3⟩ := (h2 v).2 ⟨h, v2⟩; exact ⟨k, by omega, k2, k3⟩

/-- a stretch that is in order, and has just its own places -/
def Blk (K : Nat → Int) (a c : Nat) (X : Nat → Nat) : Prop := Sorted K a c X ∧ Full a c X

theorem Blk.keep {K : Nat → Int} {a c s e : Nat} {X Y : Nat → Nat} (h : Blk K a c X) (hs : Same s e X Y) (hd : c ≤ s ∨ e ≤ a) : Blk K a c Y := by
  have he : ∀ p, a ≤ p → p < c → Y p = X p := fun p h1 h2 => hs.1 p (by omega)
  refine ⟨h.1.congr he, fun v => ?_⟩
  rw [← h.2 v]
  constructor
  · rintro ⟨k, k1, k2, rfl⟩; exact ⟨k, k1, k2, (he k k1 k2).symm⟩
  · rintro ⟨k, k1, k2, rfl⟩; exact ⟨k, k1, k2, he k k1 k2⟩

theorem Blk.parts {K : Nat → Int} {a m c : Nat} {X : Nat → Nat} (h1 : Blk K a m X) (h2 : Blk K m c X) : Parts K a m c X :=
  ⟨h1.1, h2.1, fun p q hp hpm hq hqc => by have := h1.2.in_ hp hpm; have := h2.2.in_ hq hqc; omega⟩

theorem Blk.merged {K : Nat → Int} {a m c : Nat} {X Y : Nat → Nat} (h1 : Blk K a m X) (h2 : Blk K m c X) (ha : a ≤ m) (hc : m ≤ c) (hs : Same a c X Y) (hY : Sorted K a c Y) : Blk K a c Y :=
  ⟨hY, (h1.2.join h2.2 ha hc).same hs⟩

/-- all blocks of bs, up to n -/
def Blks (K : Nat → Int) (bs n : Nat) (X : Nat → Nat) : Prop := ∀ lo, bs ∣ lo → lo < n → Blk K lo (min (lo + bs) n) X

/-- blocks of 2 bs up to a, of bs from there on -/
structure Half (K : Nat → Int) (bs a n : Nat) (X : Nat → Nat) : Prop where
  done : ∀ lo, 2 * bs ∣ lo → lo < a → Blk K lo (lo + 2 * bs) X
  rest : ∀ lo, bs ∣ lo → a ≤ lo → lo < n → Blk K lo (min (lo + bs) n) X

theorem Half.start {K : Nat → Int} {bs n : Nat} {X : Nat → Nat} (h : Blks K bs n X) : Half K bs 0 n X := ⟨fun lo _ h0 => absurd h0 (by omega), fun lo h1 _ h2 => h lo h1 h2⟩

theorem dvd_gap {d a b : Nat} (ha : d ∣ a) (hb : d ∣ b) (h : a < b) : a + d ≤ b := by
  have h1 : d ∣ b - a := Nat.dvd_sub hb ha
  have := Nat.le_of_dvd (by omega) h1
  omega

theorem Half.step {K : Nat → Int} {bs a n : Nat} {X Y : Nat → Nat} (h : Half K bs a n X) (h0 : 0 < bs) (hd : 2 * bs ∣ a) (hn : a + 2 * bs ≤ n) (hs : Same a (a + 2 * bs) X Y) (hY : Sorted K a (a + 2 * bs) Y) : Half K bs (a + 2 * bs) n Y := by
  have d1 : bs ∣ a := Nat.dvd_trans ⟨2, by omega⟩ hd
  have d2 : bs ∣ a + bs := Nat.dvd_add d1 (Nat.dvd_refl _)
  have b1 := h.rest a d1 (Nat.le_refl _) (by omega)
  have b2 := h.rest (a + bs) d2 (by omega) (by omega)
  rw [Nat.min_eq_left (by omega)] at b1 b2
  rw [show a + bs + bs = a + 2 * bs by omega] at b2
  refine ⟨fun lo hl hlt => ?_, fun lo hl h1 h2 => ?_⟩
  · by_cases e : lo = a
    · subst e; exact Blk.merged b1 b2 (by omega) (by omega) hs hY
    · have : lo < a := by
        rcases Nat.lt_or_ge lo a with h3 | h3
        · exact h3
        · have := dvd_gap hd hl (by omega); omega
      exact (h.done lo hl this).keep hs (.inl (dvd_gap hl hd this))
  · exact (h.rest lo hl (by omega) h2).keep hs (.inr h1)

theorem Half.last {K : Nat → Int} {bs a n : Nat} {X Y : Nat → Nat} (h : Half K bs a n X) (hd : 2 * bs ∣ a) (hn : n < a + 2 * bs) (hm : a + bs < n) (hs : Same a n X Y) (hY : Sorted K a n Y) : Blks K (2 * bs) n Y := by
  have d1 : bs ∣ a := Nat.dvd_trans ⟨2, by omega⟩ hd
  have d2 : bs ∣ a + bs := Nat.dvd_add d1 (Nat.dvd_refl _)
  have b1 := h.rest a d1 (Nat.le_refl _) (by omega)
  have b2 := h.rest (a + bs) d2 (by omega) (by omega)
  rw [Nat.min_eq_left (by omega)] at b1
  rw [Nat.min_eq_right (by omega)] at b2
  intro lo hl hlt
  by_cases e : lo = a
  · subst e; rw [Nat.min_eq_right (by omega)]; exact Blk.merged b1 b2 (by omega) (by omega) hs hY
  · have : lo < a := by
      rcases Nat.lt_or_ge lo a with h3 | h3
      · exact h3
      · have := dvd_gap hd hl (by omega); omega
    have hg := dvd_gap hl hd this
    rw [Nat.min_eq_left (by omega)]
    exact (h.done lo hl this).keep hs (.inl hg)

theorem Half.over {K : Nat → Int} {bs a n : Nat} {X : Nat → Nat} (h : Half K bs a n X) (hd : 2 * bs ∣ a) (hn : n < a + 2 * bs) (ha : a ≤ n) (hm : n ≤ a + bs) : Blks K (2 * bs) n X := by
  have d1 : bs ∣ a := Nat.dvd_trans ⟨2, by omega⟩ hd
  intro lo hl hlt
  by_cases e : lo = a
  · subst e
    have b1 := h.rest lo d1 (Nat.le_refl _) hlt
    rw [Nat.min_eq_right (by omega)] at b1 ⊢
    exact b1
  · have : lo < a := by
      rcases Nat.lt_or_ge lo a with h3 | h3
      · exact h3
      · have := dvd_gap hd hl (by omega); omega
    have hg := dvd_gap hl hd this
    rw [Nat.min_eq_left (by omega)]
    exact h.done lo hl this

theorem Half.parts {K : Nat → Int} {bs a n : Nat} {X : Nat → Nat} (h : Half K bs a n X) (h0 : 0 < bs) (hd : 2 * bs ∣ a) (hn : a + 2 * bs ≤ n) : Parts K a (a + bs) (a + 2 * bs) X ∧ ∀ p, a ≤ p → p < a + 2 * bs → X p < n := by
  have d1 : bs ∣ a := Nat.dvd_trans ⟨2, by omega⟩ hd
  have d2 : bs ∣ a + bs := Nat.dvd_add d1 (Nat.dvd_refl _)
  have b1 := h.rest a d1 (Nat.le_refl _) (by omega)
  have b2 := h.rest (a + bs) d2 (by omega) (by omega)
  rw [Nat.min_eq_left (by omega)] at b1 b2
  rw [show a + bs + bs = a + 2 * bs by omega] at b2
  exact ⟨b1.parts b2, fun p h1 h2 => by have := (b1.2.join b2.2 (by omega) (by omega)).in_ h1 h2; omega⟩

theorem Half.ends {K : Nat → Int} {bs a n : Nat} {X : Nat → Nat} (h : Half K bs a n X) (hd : 2 * bs ∣ a) (hn : n < a + 2 * bs) (hm : a + bs < n) : Parts K a (a + bs) n X ∧ ∀ p, a ≤ p → p < n → X p < n := by
  have d1 : bs ∣ a := Nat.dvd_trans ⟨2, by omega⟩ hd
  have d2 : bs ∣ a + bs := Nat.dvd_add d1 (Nat.dvd_refl _)
  have b1 := h.rest a d1 (Nat.le_refl _) (by omega)
  have b2 := h.rest (a + bs) d2 (by omega) (by omega)
  rw [Nat.min_eq_left (by omega)] at b1
  rw [Nat.min_eq_right (by omega)] at b2
  exact ⟨b1.parts b2, fun p h1 h2 => by have := (b1.2.join b2.2 (by omega) (by omega)).in_ h1 h2; omega⟩

theorem Blks.all {K : Nat → Int} {bs n : Nat} {X : Nat → Nat} (h : Blks K bs n X) (hn : n ≤ bs) : Blk K 0 n X := by
  rcases Nat.eq_zero_or_pos n with rfl | h0
  · exact ⟨Sorted.short K X (by omega), Full.id fun k h1 h2 => by omega⟩
  · have := h 0 (Nat.dvd_zero _) h0
    rw [Nat.min_eq_right (by omega)] at this
    exact this

/-- the first pass: blocks of bs up to a, all from there on as it was -/
structure First (K : Nat → Int) (bs a : Nat) (X : Nat → Nat) : Prop where
  done : ∀ lo, bs ∣ lo → lo < a → Blk K lo (lo + bs) X
  rest : ∀ k, a ≤ k → X k = k

theorem First.start (K : Nat → Int) (bs : Nat) : First K bs 0 (fun k => k) := ⟨fun lo _ h => absurd h (by omega), fun _ _ => rfl⟩

theorem First.step {K : Nat → Int} {bs a : Nat} {X Y : Nat → Nat} (h : First K bs a X) (hd : bs ∣ a) (hs : Same a (a + bs) X Y) (hY : Sorted K a (a + bs) Y) : First K bs (a + bs) Y := by
  refine ⟨fun lo hl hlt => ?_, fun k hk => by rw [hs.1 k (by omega)]; exact h.rest k (by omega)⟩
  by_cases e : lo = a
  · subst e; exact ⟨hY, (Full.id fun k h1 _ => h.rest k h1).same hs⟩
  · have : lo < a := by
      rcases Nat.lt_or_ge lo a with h3 | h3
      · exact h3
      · have := dvd_gap hd hl (by omega); omega
    exact (h.done lo hl this).keep hs (.inl (dvd_gap hl hd this))

theorem First.over {K : Nat → Int} {bs a n : Nat} {X Y : Nat → Nat} (h : First K bs a X) (hd : bs ∣ a) (ha : a ≤ n) (hn : n < a + bs) (hs : Same a n X Y) (hY : Sorted K a n Y) : Blks K bs n Y := by
  intro lo hl hlt
  by_cases e : lo = a
  · subst e; rw [Nat.min_eq_right (by omega)]; exact ⟨hY, (Full.id fun k h1 _ => h.rest k h1).same hs⟩
  · have : lo < a := by
      rcases Nat.lt_or_ge lo a with h3 | h3
      · exact h3
      · have := dvd_gap hd hl (by omega); omega
    have hg := dvd_gap hl hd this
    rw [Nat.min_eq_left (by omega)]
    exact (h.done lo hl this).keep hs (.inl hg)

end So
end Go.Proofs.Ytbmidmpooooheaa
