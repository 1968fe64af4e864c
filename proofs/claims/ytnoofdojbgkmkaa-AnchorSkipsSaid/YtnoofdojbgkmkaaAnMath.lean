/- Plain numbers of the layer anchor. No program in sight. -/
import Derived.Test.YtnoofdojbgkmkaaSpanMath
namespace Go.Proofs.Ytnoofdojbgkmkaa.An
set_option linter.unusedVariables false

/-- a node -/
structure Nd where
  up : Int
  lo : Int
  hi : Int
  skip : Bool

/-- how much is seen -/
def sight (a b c d : Int) : Int := if Fx.mn b d ≤ Fx.mx a c then 0 else if Fx.ends a b c d = true then 2 else 1
def sg (x : Nd) (c d : Int) : Int := sight x.lo x.hi c d
def seen (x : Nd) (c d : Int) : Prop := x.skip = false ∧ sg x c d ≠ 0

theorem sight_range (a b c d : Int) : sight a b c d = 0 ∨ sight a b c d = 1 ∨ sight a b c d = 2 := by
  unfold sight; (repeat' split) <;> simp

theorem sight_zero {a b c d : Int} (h : Fx.mn b d ≤ Fx.mx a c) : sight a b c d = 0 := by unfold sight; rw [if_pos h]
theorem sight_two {a b c d : Int} (h : ¬ Fx.mn b d ≤ Fx.mx a c) (h2 : Fx.ends a b c d = true) : sight a b c d = 2 := by unfold sight; rw [if_neg h, if_pos h2]
theorem sight_one {a b c d : Int} (h : ¬ Fx.mn b d ≤ Fx.mx a c) (h2 : Fx.ends a b c d = false) : sight a b c d = 1 := by unfold sight; rw [if_neg h, if_neg (by simp [h2])]

/-- who is met on the way up -/
inductive Path (l : Nat → Nd) : Int → Int → Prop
  | here (a : Int) : Path l a a
  | step (k : Nat) (u : Int) : Path l (l k).up u → Path l (k : Int) u

theorem Path.out {l : Nat → Nd} {a u : Int} (h : Path l a u) : a = u ∨ ∃ k : Nat, a = k ∧ Path l (l k).up u := by
  cases h with
  | here => exact .inl rfl
  | step k _ h => exact .inr ⟨k, rfl, h⟩

theorem Path.trans {l : Nat → Nd} {a b c : Int} (h : Path l a b) (h2 : Path l b c) : Path l a c := by
  induction h with
  | here => exact h2
  | step k u _ ih => exact .step k _ (ih h2)

theorem path_up {l : Nat → Nd} {j : Nat} {u : Int} (h : ¬ (j : Int) = u) : Path l j u ↔ Path l (l j).up u := by
  constructor
  · intro g
    rcases g.out with g | ⟨k, hk, g⟩
    · exact absurd g h
    · obtain rfl : j = k := by omega
      exact g
  · exact Path.step j u

theorem path_end {l : Nat → Nd} {u : Int} (h : Path l (-1) u) : u = -1 := by
  rcases h.out with g | ⟨k, hk, g⟩ <;> omega

/-- one node stands in order -/
def Ok (l : Nat → Nd) (k : Nat) : Prop := -1 ≤ (l k).up ∧ (l k).up < k ∧ Path l ((k : Int) - 1) (l k).up
def V (l : Nat → Nd) (n : Nat) : Prop := ∀ k, k < n → Ok l k

theorem V.le {l : Nat → Nd} {n m : Nat} (h : V l n) (hm : m ≤ n) : V l m := fun k hk => h k (by omega)
theorem V.succ {l : Nat → Nd} {n : Nat} (h : V l n) (h2 : Ok l n) : V l (n + 1) := fun k hk => by
  by_cases e : k < n
  · exact h k e
  · obtain rfl : k = n := by omega
    exact h2

theorem path_le {l : Nat → Nd} {n : Nat} (hv : V l n) {a u : Int} (h : Path l a u) : a < n → u ≤ a ∧ (-1 ≤ a → -1 ≤ u) := by
  induction h with
  | here => intro _; omega
  | step k u _ ih =>
    intro hk
    have := hv k (by omega)
    unfold Ok at this
    have := ih (by omega)
    omega

theorem path_root {l : Nat → Nd} {n : Nat} (hv : V l n) : ∀ m : Nat, m ≤ n → Path l ((m : Int) - 1) (-1) := by
  intro m
  induction m using Nat.strongRecOn with
  | _ m ih =>
    intro hm
    by_cases h0 : m = 0
    · subst h0; exact .here _
    · obtain ⟨k, rfl⟩ : ∃ k, m = k + 1 := ⟨m - 1, by omega⟩
      have ⟨h1, h2, h3⟩ := hv k (by omega)
      have := ih k (by omega) (by omega)
      have e : ((k + 1 : Nat) : Int) - 1 = k := by omega
      rw [e]
      have := ih ((l k).up + 1).toNat (by omega) (by omega)
      rw [show (((l k).up + 1).toNat : Int) - 1 = (l k).up by omega] at this
      exact .step k _ this

theorem ok_root {l : Nat → Nd} {n : Nat} (hv : V l n) (h : (l n).up = -1) : Ok l n := ⟨by omega, by omega, by rw [h]; exact path_root hv n (by omega)⟩

/-- the one taken of those just below u -/
def Kid (l : Nat → Nd) (n : Nat) (c d : Int) (u : Int) (k : Nat) : Prop := k < n ∧ (l k).up = u ∧ seen (l k) c d ∧ ∀ j, j < k → (l j).up = u → ¬ seen (l j) c d
def NoKid (l : Nat → Nd) (n : Nat) (c d : Int) (u : Int) : Prop := ∀ j, j < n → (l j).up = u → ¬ seen (l j) c d
def Part (l : Nat → Nd) (c d : Int) (u : Int) : Prop := ∃ k : Nat, u = k ∧ sg (l k) c d = 1

inductive Chain (l : Nat → Nd) (n : Nat) (c d : Int) : Int → Prop
  | root : Chain l n c d (-1)
  | step (u : Int) (k : Nat) : Chain l n c d u → (u = -1 ∨ Part l c d u) → Kid l n c d u k → Chain l n c d (k : Int)

theorem Chain.out {l : Nat → Nd} {n : Nat} {c d : Int} {a : Int} (h : Chain l n c d a) : a = -1 ∨ ∃ k : Nat, a = k ∧ Chain l n c d (l k).up ∧ ((l k).up = -1 ∨ Part l c d (l k).up) ∧ Kid l n c d (l k).up k := by
  cases h with
  | root => exact .inl rfl
  | step u k h1 h2 h3 => exact .inr ⟨k, rfl, by rw [h3.2.1]; exact h1, by rw [h3.2.1]; exact h2, by rw [h3.2.1]; exact h3⟩

/-- which node is the anchor -/
def Picked (l : Nat → Nd) (n : Nat) (c d : Int) (r : Int) : Prop :=
  (r = -1 ∧ NoKid l n c d (-1)) ∨ ∃ k : Nat, r = k ∧ k < n ∧ Chain l n c d k ∧ (sg (l k) c d = 2 ∨ (sg (l k) c d = 1 ∧ NoKid l n c d k))

theorem Picked.range {l : Nat → Nd} {n : Nat} {c d r : Int} (h : Picked l n c d r) : -1 ≤ r ∧ r < n := by
  rcases h with ⟨rfl, _⟩ | ⟨k, rfl, h, _⟩ <;> omega

theorem kid_or {l : Nat → Nd} {n : Nat} {c d : Int} (u : Int) : NoKid l n c d u ∨ ∃ k, Kid l n c d u k := by
  induction n with
  | zero => exact .inl fun j hj => absurd hj (by omega)
  | succ n ih =>
    rcases ih with ih | ⟨k, h1, h2, h3, h4⟩
    · by_cases h : (l n).up = u ∧ seen (l n) c d
      · exact .inr ⟨n, by omega, h.1, h.2, fun j hj => ih j hj⟩
      · refine .inl fun j hj hu hs => ?_
        by_cases e : j < n
        · exact ih j e hu hs
        · obtain rfl : j = n := by omega
          exact h ⟨hu, hs⟩
    · exact .inr ⟨k, by omega, h2, h3, h4⟩

theorem kid_eq {l : Nat → Nd} {n : Nat} {c d u : Int} {k m : Nat} (h : Kid l n c d u k) (g : Kid l n c d u m) : k = m := by
  rcases Nat.lt_trichotomy k m with e | e | e
  · exact absurd h.2.2.1 (g.2.2.2 k e h.2.1)
  · exact e
  · exact absurd g.2.2.1 (h.2.2.2 m e g.2.1)

/-- what is taken first of those just below u -/
inductive First (l : Nat → Nd) (n : Nat) (c d : Int) : Int → Int → Prop
  | none (u : Int) : NoKid l n c d u → First l n c d u (-1)
  | whole (u : Int) (k : Nat) : Kid l n c d u k → sg (l k) c d = 2 → First l n c d u k
  | inn (u : Int) (k : Nat) (r : Int) : Kid l n c d u k → sg (l k) c d = 1 → First l n c d k r → 0 ≤ r → First l n c d u r
  | self (u : Int) (k : Nat) : Kid l n c d u k → sg (l k) c d = 1 → First l n c d k (-1) → First l n c d u k

theorem first_out {l : Nat → Nd} {n : Nat} {c d u r : Int} (h : First l n c d u r) : (r = -1 ∧ NoKid l n c d u) ∨ ∃ k : Nat, Kid l n c d u k ∧ ((sg (l k) c d = 2 ∧ r = k) ∨ (sg (l k) c d = 1 ∧ First l n c d k r ∧ 0 ≤ r) ∨ (sg (l k) c d = 1 ∧ First l n c d k (-1) ∧ r = k)) := by
  cases h with
  | none _ h => exact .inl ⟨rfl, h⟩
  | whole _ k h1 h2 => exact .inr ⟨k, h1, .inl ⟨h2, rfl⟩⟩
  | inn _ k r h1 h2 h3 h4 => exact .inr ⟨k, h1, .inr (.inl ⟨h2, h3, h4⟩)⟩
  | self _ k h1 h2 h3 => exact .inr ⟨k, h1, .inr (.inr ⟨h2, h3, rfl⟩)⟩

theorem no_kid {l : Nat → Nd} {n : Nat} {c d u : Int} {k : Nat} (h : NoKid l n c d u) (g : Kid l n c d u k) : False := h k g.1 g.2.1 g.2.2.1

theorem first_det {l : Nat → Nd} {n : Nat} {c d u r : Int} (h : First l n c d u r) : ∀ s, First l n c d u s → r = s := by
  induction h with
  | none u h =>
    intro s g
    rcases first_out g with ⟨rfl, _⟩ | ⟨m, hm, _⟩
    · rfl
    · exact (no_kid h hm).elim
  | whole u k h1 h2 =>
    intro s g
    rcases first_out g with ⟨rfl, h⟩ | ⟨m, hm, h⟩
    · exact (no_kid h h1).elim
    · obtain rfl := kid_eq h1 hm
      rcases h with ⟨_, rfl⟩ | ⟨h, _⟩ | ⟨h, _⟩
      · rfl
      · omega
      · omega
  | inn u k r h1 h2 h3 h4 ih =>
    intro s g
    rcases first_out g with ⟨rfl, h⟩ | ⟨m, hm, h⟩
    · exact (no_kid h h1).elim
    · obtain rfl := kid_eq h1 hm
      rcases h with ⟨h, _⟩ | ⟨_, h, _⟩ | ⟨_, h, _⟩
      · omega
      · exact ih _ h
      · have := ih _ h; omega
  | self u k h1 h2 h3 ih =>
    intro s g
    rcases first_out g with ⟨rfl, h⟩ | ⟨m, hm, h⟩
    · exact (no_kid h h1).elim
    · obtain rfl := kid_eq h1 hm
      rcases h with ⟨h, _⟩ | ⟨_, h, h5⟩ | ⟨_, h, rfl⟩
      · omega
      · have := ih _ h; omega
      · rfl

/-- what comes of who is on the way down comes of all -/
theorem chain_first {l : Nat → Nd} {n : Nat} {c d : Int} {a : Int} (h : Chain l n c d a) : ∀ r, (a = -1 → First l n c d (-1) r) → (∀ k : Nat, a = k → 0 ≤ r ∧ ((sg (l k) c d = 2 ∧ r = k) ∨ (sg (l k) c d = 1 ∧ First l n c d k r) ∨ (sg (l k) c d = 1 ∧ First l n c d k (-1) ∧ r = k))) → First l n c d (-1) r := by
  induction h with
  | root => intro r h _; exact h rfl
  | step u k _ hp hk ih =>
    intro r _ h
    obtain ⟨h0, hr⟩ := h k rfl
    have hf : First l n c d u r := by
      rcases hr with ⟨h1, e⟩ | ⟨h1, g⟩ | ⟨h1, g, e⟩
      · rw [e]; exact .whole u k hk h1
      · exact .inn u k r hk h1 g h0
      · rw [e]; exact .self u k hk h1 g
    refine ih r (fun e => e ▸ hf) fun m e => ⟨h0, .inr (.inl ⟨?_, e ▸ hf⟩)⟩
    rcases hp with hp | ⟨j, hj, hp⟩
    · omega
    · obtain rfl : m = j := by omega
      exact hp

theorem picked_first {l : Nat → Nd} {n : Nat} {c d r : Int} (h : Picked l n c d r) : First l n c d (-1) r := by
  rcases h with ⟨rfl, h⟩ | ⟨k, rfl, h1, h2, h3⟩
  · exact .none _ h
  · refine chain_first h2 _ (fun e => by omega) fun m e => ?_
    obtain rfl : k = m := by omega
    refine ⟨by omega, ?_⟩
    rcases h3 with h | ⟨h, g⟩
    · exact .inl ⟨h, rfl⟩
    · exact .inr (.inr ⟨h, .none _ g, rfl⟩)

theorem picked_det {l : Nat → Nd} {n : Nat} {c d r s : Int} (h : Picked l n c d r) (g : Picked l n c d s) : r = s := first_det (picked_first h) _ (picked_first g)

theorem seen_sg {x : Nd} {c d : Int} (h : seen x c d) : sg x c d = 1 ∨ sg x c d = 2 := by
  have := sight_range x.lo x.hi c d
  have := h.2
  unfold sg at *
  omega

/-- how much is seen of a node, as far as it counts -/
theorem sight_of (a : Nd) (c d : Int) : ∃ r : Int, ((a.skip = true ∧ r = 0) ∨ (a.skip = false ∧ sight a.lo a.hi c d = r)) ∧ ((r = 0 ∧ ¬ seen a c d) ∨ (r = 1 ∧ a.skip = false ∧ sg a c d = 1) ∨ (r = 2 ∧ a.skip = false ∧ sg a c d = 2)) := by
  cases hs : a.skip
  · refine ⟨_, .inr ⟨rfl, rfl⟩, ?_⟩
    rcases sight_range a.lo a.hi c d with h | h | h
    · exact .inl ⟨h, fun g => g.2 h⟩
    · exact .inr (.inl ⟨h, rfl, h⟩)
    · exact .inr (.inr ⟨h, rfl, h⟩)
  · exact ⟨0, .inl ⟨rfl, rfl⟩, .inl ⟨rfl, fun g => by simp [seen, hs] at g⟩⟩

theorem picked_some {l : Nat → Nd} {n : Nat} (hv : V l n) (c d : Int) : ∃ r, Picked l n c d r := by
  have go : ∀ m : Nat, ∀ k : Nat, k < n → n - k ≤ m → Chain l n c d k → sg (l k) c d = 1 → ∃ r, Picked l n c d r := by
    intro m
    induction m with
    | zero => intro k h1 h2; omega
    | succ m ih =>
      intro k h1 h2 h3 h4
      rcases kid_or (l := l) (n := n) (c := c) (d := d) (k : Int) with h | ⟨j, hj⟩
      · exact ⟨k, .inr ⟨k, rfl, h1, h3, .inr ⟨h4, h⟩⟩⟩
      · have hc := Chain.step (k : Int) j h3 (.inr ⟨k, rfl, h4⟩) hj
        have ho := (hv j hj.1).2.1
        have hu := hj.2.1
        rcases seen_sg hj.2.2.1 with h | h
        · exact ih j hj.1 (by omega) hc h
        · exact ⟨j, .inr ⟨j, rfl, hj.1, hc, .inl h⟩⟩
  rcases kid_or (l := l) (n := n) (c := c) (d := d) (-1) with h | ⟨j, hj⟩
  · exact ⟨-1, .inl ⟨rfl, h⟩⟩
  · have hc := Chain.step (-1 : Int) j .root (.inl rfl) hj
    rcases seen_sg hj.2.2.1 with h | h
    · exact go _ j hj.1 (Nat.le_refl _) hc h
    · exact ⟨j, .inr ⟨j, rfl, hj.1, hc, .inl h⟩⟩

/-- the place behind a node and all that is below it -/
def Beh (l : Nat → Nd) (n q r : Nat) : Prop := q < r ∧ r ≤ n ∧ (∀ j, q < j → j < r → (q : Int) ≤ (l j).up) ∧ (r < n → (l r).up < q)

theorem beh_some {l : Nat → Nd} {n q : Nat} (h : q < n) : ∃ r, Beh l n q r := by
  have go : ∀ m : Nat, ∀ p : Nat, q < p → p ≤ n → n - p ≤ m → (∀ j, q < j → j < p → (q : Int) ≤ (l j).up) → ∃ r, Beh l n q r := by
    intro m
    induction m with
    | zero => intro p h1 h2 h3 h4; exact ⟨p, h1, h2, h4, fun h => by omega⟩
    | succ m ih =>
      intro p h1 h2 h3 h4
      by_cases e : p < n ∧ (q : Int) ≤ (l p).up
      · refine ih (p + 1) (by omega) (by omega) (by omega) fun j h5 h6 => ?_
        by_cases e2 : j < p
        · exact h4 j h5 e2
        · obtain rfl : j = p := by omega
          exact e.2
      · exact ⟨p, h1, h2, h4, fun h => by omega⟩
  exact go _ (q + 1) (by omega) (by omega) (Nat.le_refl _) fun j _ _ => by omega

/-- how far a tree has been gone through -/
def Scan (l : Nat → Nd) (n : Nat) (c d : Int) (t : Int) (q : Nat) : Prop :=
  Chain l n c d t ∧ (t = -1 ∨ Part l c d t) ∧ -1 ≤ t ∧ t < q ∧ q ≤ n ∧ (∀ j, j < q → (l j).up = t → ¬ seen (l j) c d) ∧ (q < n → t ≤ (l q).up → (l q).up = t)

theorem scan_start {l : Nat → Nd} {n : Nat} (hv : V l n) (c d : Int) : Scan l n c d (-1) 0 :=
  ⟨.root, .inl rfl, by omega, by omega, by omega, fun j hj => by omega, fun h _ => by have := hv 0 h; unfold Ok at this; omega⟩

theorem scan_kid {l : Nat → Nd} {n : Nat} {c d t : Int} {q : Nat} (h : Scan l n c d t q) (hq : q < n) (ht : t ≤ (l q).up) (hs : seen (l q) c d) : Chain l n c d q := by
  obtain ⟨h1, h2, h3, h4, h5, h6, h7⟩ := h
  exact .step t q h1 h2 ⟨hq, h7 hq ht, hs, h6⟩

theorem scan_whole {l : Nat → Nd} {n : Nat} {c d t : Int} {q : Nat} (h : Scan l n c d t q) (hq : q < n) (ht : t ≤ (l q).up) (hs : (l q).skip = false) (h2 : sg (l q) c d = 2) : Picked l n c d q :=
  .inr ⟨q, rfl, hq, scan_kid h hq ht ⟨hs, by omega⟩, .inl h2⟩

theorem scan_part {l : Nat → Nd} {n : Nat} (hv : V l n) {c d t : Int} {q : Nat} (h : Scan l n c d t q) (hq : q < n) (ht : t ≤ (l q).up) (hs : (l q).skip = false) (h1 : sg (l q) c d = 1) : Scan l n c d q (q + 1) := by
  refine ⟨scan_kid h hq ht ⟨hs, by omega⟩, .inr ⟨q, rfl, h1⟩, by omega, by omega, by omega, fun j hj e => ?_, fun h g => ?_⟩
  · have := (hv j (by omega)).2.1; omega
  · have := (hv (q + 1) h).2.1; omega

/-- who leaves what is below a node gets to what is above that -/
theorem left_of {l : Nat → Nd} {n : Nat} (hv : V l n) {q r : Nat} {u : Int} (hr : r ≤ n) (hj : ∀ j, q < j → j < r → (q : Int) ≤ (l j).up) : ∀ j : Nat, q ≤ j → j < r → u < q → Path l j u → Path l (l q).up u := by
  intro j
  induction j using Nat.strongRecOn with
  | _ j ih =>
    intro h1 h2 h3 h4
    rcases h4.out with h | ⟨k, hk, h⟩
    · omega
    · obtain rfl : j = k := by omega
      by_cases e : j = q
      · subst e; exact h
      · have g1 := hj j (by omega) h2
        have g2 := (hv j (by omega)).2.1
        have := ih (l j).up.toNat (by omega) (by omega) (by omega) h3
        rw [show ((l j).up.toNat : Int) = (l j).up by omega] at this
        exact this h

theorem scan_skip {l : Nat → Nd} {n : Nat} (hv : V l n) {c d t : Int} {q r : Nat} (h : Scan l n c d t q) (hq : q < n) (ht : t ≤ (l q).up) (hs : ¬ seen (l q) c d) (hb : Beh l n q r) : Scan l n c d t r := by
  obtain ⟨h1, h2, h3, h4, h5, h6, h7⟩ := h
  obtain ⟨g1, g2, g3, g4⟩ := hb
  refine ⟨h1, h2, h3, by omega, g2, fun j hj e => ?_, fun h g => ?_⟩
  · by_cases e1 : j < q
    · exact h6 j e1 e
    · by_cases e2 : j = q
      · subst e2; exact hs
      · have := g3 j (by omega) hj; omega
  · have e := h7 hq ht
    obtain ⟨_, _, h9⟩ := hv r h
    have := left_of hv g2 g3 (r - 1) (by omega) (by omega) (g4 h) (by rw [show ((r - 1 : Nat) : Int) = (r : Int) - 1 by omega]; exact h9)
    have := (path_le hv this (by omega)).1
    omega

theorem scan_exit {l : Nat → Nd} {n : Nat} (hv : V l n) {c d t : Int} {q : Nat} (h : Scan l n c d t q) (he : q < n → (l q).up < t) : Picked l n c d t := by
  obtain ⟨h1, h2, h3, h4, h5, h6, h7⟩ := h
  have hn : NoKid l n c d t := by
    have no : ∀ m : Nat, ∀ j : Nat, q ≤ j → j < n → j - q ≤ m → ¬ Path l j t := by
      intro m
      induction m with
      | zero =>
        intro j g1 g2 g3 g4
        obtain rfl : j = q := by omega
        rcases g4.out with g | ⟨k, hk, g⟩
        · omega
        · obtain rfl : j = k := by omega
          have := (path_le hv g (by have := hv j g2; unfold Ok at this; omega)).1
          have := he g2
          omega
      | succ m ih =>
        intro j g1 g2 g3 g4
        by_cases e : j = q
        · exact ih j g1 g2 (by omega) g4
        · rcases g4.out with g | ⟨k, hk, g⟩
          · omega
          · obtain rfl : j = k := by omega
            have o := (hv j g2).2.2
            refine ih (j - 1) (by omega) (by omega) (by omega) ?_
            rw [show ((j - 1 : Nat) : Int) = (j : Int) - 1 by omega]
            exact o.trans g
    intro j hj e hs
    by_cases g : j < q
    · exact h6 j g e hs
    · exact no (j - q) j (by omega) hj (Nat.le_refl _) (.step j _ (by rw [e]; exact .here _))
  rcases h2 with rfl | ⟨k, rfl, hk⟩
  · exact .inl ⟨rfl, hn⟩
  · exact .inr ⟨k, rfl, by omega, h1, .inr ⟨hk, hn⟩⟩

/-- whether all stand in order, as one word -/
noncomputable def validB (l : Nat → Nd) (n : Nat) : Bool := @decide (V l n) (Classical.propDecidable _)
theorem validB_iff (l : Nat → Nd) (n : Nat) : validB l n = true ↔ V l n := by unfold validB; exact @decide_eq_true_iff _ (Classical.propDecidable _)
theorem valid_or (l : Nat → Nd) (n : Nat) : (∃ v : Bool, v = true ∧ V l n) ∨ ∃ v : Bool, v = false ∧ ¬ V l n := by
  by_cases h : V l n
  · exact .inl ⟨true, rfl, h⟩
  · exact .inr ⟨false, rfl, h⟩

/-- by which it stays -/
def keep (o was now m : Int) : Int := if o = 0 then 0 else Fx.clamp (Fx.add o (Fx.sub now was)) 0 m
def rkeep (o was now m : Int) : Int := if o = 0 then 0 else Fx.clamp (Fx.add o (Fx.sub now was)) 0 (max m 0)
theorem keep_eq (o was now m : Int) : rkeep o was now m = keep o was now m := by
  unfold rkeep keep
  generalize Fx.add o (Fx.sub now was) = x
  unfold Fx.clamp
  generalize Fx.cut x = y
  unfold Fx.cut
  (repeat' split) <;> omega

end Go.Proofs.Ytnoofdojbgkmkaa.An
