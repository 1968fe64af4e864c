/- Plain numbers of the layer margin. No program in sight. -/
import Derived.Test.YtbmidmpooooheaaLenMath
set_option maxRecDepth 100000
namespace Go.Proofs.Ytbmidmpooooheaa
namespace Fx
/-- the greatest above 0, and the least below it -/
def top (l : List Int) : Int := l.foldl max 0
def bot (l : List Int) : Int := l.foldl min 0
def coll (l : List Int) : Int := add (top l) (bot l)
theorem top_snoc (l : List Int) (x : Int) : top (l ++ [x]) = max (top l) x := by simp [top]
theorem bot_snoc (l : List Int) (x : Int) : bot (l ++ [x]) = min (bot l) x := by simp [bot]
theorem foldl_max_le (l : List Int) (s x : Int) : l.foldl max s ≤ x ↔ s ≤ x ∧ ∀ z ∈ l, z ≤ x := by
  induction l generalizing s with
  | nil => simp
  | cons y l ih =>
    rw [List.foldl_cons, ih]
    constructor
    · rintro ⟨h1, h2⟩
      exact ⟨by omega, fun z hz => by rcases List.mem_cons.1 hz with rfl | hz; (· omega); exact h2 z hz⟩
    · rintro ⟨h1, h2⟩
      exact ⟨by have := h2 y (by simp); omega, fun z hz => h2 z (by simp [hz])⟩
theorem le_foldl_min (l : List Int) (s x : Int) : x ≤ l.foldl min s ↔ x ≤ s ∧ ∀ z ∈ l, x ≤ z := by
  induction l generalizing s with
  | nil => simp
  | cons y l ih =>
    rw [List.foldl_cons, ih]
    constructor
    · rintro ⟨h1, h2⟩
      exact ⟨by omega, fun z hz => by rcases List.mem_cons.1 hz with rfl | hz; (· omega); exact h2 z hz⟩
    · rintro ⟨h1, h2⟩
      exact ⟨by have := h2 y (by simp); omega, fun z hz => h2 z (by simp [hz])⟩
theorem top_ge0 (l : List Int) : 0 ≤ top l := ((foldl_max_le l 0 (top l)).1 (Int.le_refl _)).1
theorem bot_le0 (l : List Int) : bot l ≤ 0 := ((le_foldl_min l 0 (bot l)).1 (Int.le_refl _)).1
theorem top_sub {l m : List Int} (h : ∀ z, z ≠ 0 → z ∈ l → z ∈ m) : top l ≤ top m := by
  refine (foldl_max_le l 0 (top m)).2 ⟨top_ge0 m, fun z hz => ?_⟩
  by_cases h0 : z = 0
  · have := top_ge0 m; omega
  · exact ((foldl_max_le m 0 (top m)).1 (Int.le_refl _)).2 z (h z h0 hz)
theorem bot_sub {l m : List Int} (h : ∀ z, z ≠ 0 → z ∈ l → z ∈ m) : bot m ≤ bot l := by
  refine (le_foldl_min l 0 (bot m)).2 ⟨bot_le0 m, fun z hz => ?_⟩
  by_cases h0 : z = 0
  · have := bot_le0 m; omega
  · exact ((le_foldl_min m 0 (bot m)).1 (Int.le_refl _)).2 z (h z h0 hz)
theorem coll_same {l m : List Int} (h : ∀ z, z ≠ 0 → (z ∈ l ↔ z ∈ m)) : coll l = coll m := by
  have h1 := top_sub (l := l) (m := m) fun z h0 hz => (h z h0).1 hz
  have h2 := top_sub (l := m) (m := l) fun z h0 hz => (h z h0).2 hz
  have h3 := bot_sub (l := l) (m := m) fun z h0 hz => (h z h0).1 hz
  have h4 := bot_sub (l := m) (m := l) fun z h0 hz => (h z h0).2 hz
  unfold coll
  rw [show top l = top m by omega, show bot l = bot m by omega]
theorem coll_order (l : List Int) (k : Nat) : coll (l.drop k ++ [0] ++ l.take k ++ l) = coll l := by
  refine coll_same fun z h0 => ?_
  simp only [List.mem_append, List.mem_singleton]
  constructor
  · rintro (((h | h) | h) | h)
    · exact List.mem_of_mem_drop h
    · exact absurd h h0
    · exact List.mem_of_mem_take h
    · exact h
  · exact fun h => .inr h
theorem cut_max (a b : Int) : cut (max a b) = max (cut a) (cut b) := by
  rcases Int.le_total a b with h | h
  · rw [Int.max_eq_right h, Int.max_eq_right (cut_mono h)]
  · rw [Int.max_eq_left h, Int.max_eq_left (cut_mono h)]
theorem cut_min (a b : Int) : cut (min a b) = min (cut a) (cut b) := by
  rcases Int.le_total a b with h | h
  · rw [Int.min_eq_left h, Int.min_eq_left (cut_mono h)]
  · rw [Int.min_eq_right h, Int.min_eq_right (cut_mono h)]
theorem add_cut (a b : Int) : add (cut a) (cut b) = add a b := by unfold add; rw [cut_cut, cut_cut]
theorem coll_nil : coll [] = 0 := by decide
theorem coll_one (x : Int) : coll [x] = cut x := by
  have e : coll [x] = add (max 0 x) (min 0 x) := rfl
  have h0 : cut 0 = 0 := by decide
  rw [e]
  unfold add
  rcases Int.le_total 0 x with h | h
  · rw [Int.max_eq_right h, Int.min_eq_left h, h0, Int.add_zero, cut_cut]
  · rw [Int.max_eq_left h, Int.min_eq_right h, h0, Int.zero_add, cut_cut]
theorem coll_comm (a b : Int) : coll [a, b] = coll [b, a] := coll_same fun z _ => by simp [or_comm]
theorem coll_cut (l : List Int) : cut (coll l) = coll l := cut_cut _
theorem coll_pair {a b : Int} (h1 : -1073741824 ≤ a) (h2 : a ≤ 1073741824) (h3 : -1073741824 ≤ b) (h4 : b ≤ 1073741824) :
    coll [a, b] = max (max 0 a) b + min (min 0 a) b := by
  have e : coll [a, b] = add (max (max 0 a) b) (min (min 0 a) b) := rfl
  rw [e]
  unfold add
  rw [cut_id (n := max (max 0 a) b) (by omega) (by omega), cut_id (n := min (min 0 a) b) (by omega) (by omega), cut_id (by omega) (by omega)]

/-- what each of two takes of what is left -/
def shA (n : Int) (a b : Bool) : Int := if n ≤ 0 then 0 else if a then (if b then n / 2 else n) else 0
def shB (n : Int) (a b : Bool) : Int := if n ≤ 0 then 0 else if b then (if a then sub n (n / 2) else n) else 0
/-- what is left, and both margins: f, l are what both come to by themselves; x, y tell whether they are fixed -/
def left (room size f l : Int) : Int := sub (sub room size) (add f l)
def autoA (room size f l : Int) (x y : Bool) : Int := add f (shA (left room size f l) (!x) (!y))
def autoB (room size f l : Int) (x y : Bool) : Int := add l (shB (left room size f l) (!x) (!y))
theorem sub_ge (a b : Int) : -1099511627776 ≤ sub a b := cut_ge _
theorem sub_le (a b : Int) : sub a b ≤ 1099511627776 := cut_le _
theorem left_ge (room size f l : Int) : -1099511627776 ≤ left room size f l := cut_ge _
theorem left_le (room size f l : Int) : left room size f l ≤ 1099511627776 := cut_le _
theorem add_zero_cut {f : Int} (h : cut f = f) : add f 0 = f := by
  have h0 : cut 0 = 0 := by decide
  unfold add; rw [h, h0, Int.add_zero, h]
theorem zero_add_cut {f : Int} (h : cut f = f) : add 0 f = f := by rw [add_comm, add_zero_cut h]
theorem sub_zero_cut {f : Int} (h : cut f = f) : sub f 0 = f := by
  have h0 : cut 0 = 0 := by decide
  unfold sub; rw [h, h0, Int.sub_zero, h]
theorem sub_cut (a b : Int) : cut (sub a b) = sub a b := cut_cut _
/-- what is left by the document: of both, one behind the other; the same where one of both is nothing -/
theorem left_one (room size f l : Int) (hf : cut f = f) (hl : cut l = l) (h : f = 0 ∨ l = 0) : sub (sub (sub room size) f) l = left room size f l := by
  unfold left
  rcases h with rfl | rfl
  · rw [zero_add_cut hl, sub_zero_cut (sub_cut _ _)]
  · rw [add_zero_cut hf, sub_zero_cut (sub_cut _ _)]
theorem div_two (a b : Int) : div (sub a b) 2 = sub a b / 2 := by
  have h2 : cut 2 = 2 := by decide
  unfold div
  rw [if_neg (by omega), sub_cut, h2]
def rautoA (n f : Int) (x y : Bool) : Int := if n ≤ 0 then f else if x then f else if y then n else n / 2
def rautoB (n l : Int) (x y : Bool) : Int := if n ≤ 0 then l else if y then l else if x then n else n - n / 2
theorem rautoA_eq (room size f l : Int) (x y : Bool) (hf : cut f = f) (hl : cut l = l) (hx : x = false → f = 0) (hy : y = false → l = 0) :
    rautoA (sub (sub (sub room size) f) l) f x y = autoA room size f l x y := by
  unfold autoA
  by_cases hxy : x = true ∧ y = true
  · obtain ⟨rfl, rfl⟩ := hxy
    have e : shA (left room size f l) (!true) (!true) = 0 := by unfold shA; split <;> rfl
    rw [e, add_zero_cut hf]; unfold rautoA; split <;> rfl
  · have h0 : f = 0 ∨ l = 0 := by
      cases x
      · exact .inl (hx rfl)
      · cases y
        · exact .inr (hy rfl)
        · exact absurd ⟨rfl, rfl⟩ hxy
    rw [left_one room size f l hf hl h0]
    have l1 := left_le room size f l
    have l2 := left_ge room size f l
    generalize left room size f l = n at *
    unfold rautoA shA
    by_cases hn : n ≤ 0
    · rw [if_pos hn, if_pos hn, add_zero_cut hf]
    · rw [if_neg hn, if_neg hn]
      cases x
      · obtain rfl := hx rfl
        cases y
        · simp; rw [zero_add_cut (cut_id (by omega) (by omega))]
        · simp; rw [zero_add_cut (cut_id (by omega) (by omega))]
      · simp; rw [add_zero_cut hf]
theorem rautoB_eq (room size f l : Int) (x y : Bool) (hf : cut f = f) (hl : cut l = l) (hx : x = false → f = 0) (hy : y = false → l = 0) :
    rautoB (sub (sub (sub room size) f) l) l x y = autoB room size f l x y := by
  unfold autoB
  by_cases hxy : x = true ∧ y = true
  · obtain ⟨rfl, rfl⟩ := hxy
    have e : shB (left room size f l) (!true) (!true) = 0 := by unfold shB; split <;> rfl
    rw [e, add_zero_cut hl]; unfold rautoB; split <;> rfl
  · have h0 : f = 0 ∨ l = 0 := by
      cases x
      · exact .inl (hx rfl)
      · cases y
        · exact .inr (hy rfl)
        · exact absurd ⟨rfl, rfl⟩ hxy
    rw [left_one room size f l hf hl h0]
    have l1 := left_le room size f l
    have l2 := left_ge room size f l
    generalize left room size f l = n at *
    unfold rautoB shB
    by_cases hn : n ≤ 0
    · rw [if_pos hn, if_pos hn, add_zero_cut hl]
    · rw [if_neg hn, if_neg hn]
      cases y
      · obtain rfl := hy rfl
        cases x
        · simp
          have e : sub n (n / 2) = n - n / 2 := by unfold sub; rw [cut_id (n := n) (by omega) (by omega), cut_id (n := n / 2) (by omega) (by omega), cut_id (by omega) (by omega)]
          rw [e, zero_add_cut (cut_id (by omega) (by omega))]
        · simp; rw [zero_add_cut (cut_id (by omega) (by omega))]
      · simp; rw [add_zero_cut hl]

/-- within small bounds: both margins, and what is left -/
theorem left_plain {room size f l : Int} (h1 : 0 ≤ room) (h2 : room ≤ 1073741824) (h3 : 0 ≤ size) (h4 : size ≤ 1073741824) (h5 : -1073741824 ≤ f) (h6 : f ≤ 1073741824) (h7 : -1073741824 ≤ l) (h8 : l ≤ 1073741824) :
    left room size f l = room - size - (f + l) := by
  unfold left
  rw [sub_plain (a := room) (b := size) (by omega) (by omega) (by omega) (by omega), add_plain (by omega) (by omega) (by omega) (by omega), sub_plain (by omega) (by omega) (by omega) (by omega)]
def roomy (room size f l a b : Int) (x y : Bool) : Prop :=
  (((x && y) = true ∨ room ≤ size + f + l) → a = f ∧ b = l) ∧
  (¬((x && y) = true ∨ room ≤ size + f + l) → size + a + b = room ∧ (x = false → y = false → b - a ≤ 1 ∧ a ≤ b) ∧ min f 0 ≤ a ∧ min l 0 ≤ b ∧ a ≤ 8589934592 ∧ b ≤ 8589934592)
theorem auto_roomy (room size f l : Int) (x y : Bool) (hx : x = false → f = 0) (hy : y = false → l = 0) (h1 : 0 ≤ room) (h2 : room ≤ 1073741824) (h3 : 0 ≤ size) (h4 : size ≤ 1073741824) (h5 : -1073741824 ≤ f) (h6 : f ≤ 1073741824) (h7 : -1073741824 ≤ l) (h8 : l ≤ 1073741824) :
    roomy room size f l (autoA room size f l x y) (autoB room size f l x y) x y := by
  have hf : cut f = f := cut_id (by omega) (by omega)
  have hl : cut l = l := cut_id (by omega) (by omega)
  have e := left_plain h1 h2 h3 h4 h5 h6 h7 h8
  unfold autoA autoB
  rw [e]
  have b1 : -8589934592 ≤ room - size - (f + l) := by omega
  have b2 : room - size - (f + l) ≤ 8589934592 := by omega
  generalize hn : room - size - (f + l) = n at *
  unfold roomy shA shB
  by_cases h0 : n ≤ 0
  · rw [if_pos h0, if_pos h0, add_zero_cut hf, add_zero_cut hl]
    exact ⟨fun _ => ⟨rfl, rfl⟩, fun h => absurd (Or.inr (by omega)) h⟩
  · rw [if_neg h0, if_neg h0]
    have hnn : cut n = n := cut_id (by omega) (by omega)
    cases x <;> cases y
    · obtain rfl := hx rfl
      obtain rfl := hy rfl
      have e2 : sub n (n / 2) = n - n / 2 := by unfold sub; rw [hnn, cut_id (n := n / 2) (by omega) (by omega), cut_id (by omega) (by omega)]
      simp
      rw [e2, zero_add_cut (cut_id (by omega) (by omega)), zero_add_cut (cut_id (by omega) (by omega))]
      omega
    · obtain rfl := hx rfl
      simp
      rw [zero_add_cut hnn, add_zero_cut hl]
      omega
    · obtain rfl := hy rfl
      simp
      rw [zero_add_cut hnn, add_zero_cut hf]
      omega
    · simp
      rw [add_zero_cut hf, add_zero_cut hl]
      exact ⟨rfl, rfl⟩

/-- where boxes begin, one below the other, and where the one ahead of number k ends -/
def stEnd (s t b : List Int) : Nat → Int
  | 0 => 0
  | k + 1 => add (if k = 0 then 0 else add (stEnd s t b k) (coll [b.getD (k - 1) 0, t.getD k 0])) (s.getD k 0)
def stBeg (s t b : List Int) (k : Nat) : Int := if k = 0 then 0 else add (stEnd s t b k) (coll [b.getD (k - 1) 0, t.getD k 0])
def stBegs (s t b : List Int) (n : Nat) : List Int := (List.range n).map (stBeg s t b)
theorem stEnd_succ (s t b : List Int) (k : Nat) : stEnd s t b (k + 1) = add (stBeg s t b k) (s.getD k 0) := rfl
theorem stBeg_zero (s t b : List Int) : stBeg s t b 0 = 0 := rfl
theorem stBeg_pos (s t b : List Int) {k : Nat} (h : 0 < k) : stBeg s t b k = add (stEnd s t b k) (coll [b.getD (k - 1) 0, t.getD k 0]) := by unfold stBeg; rw [if_neg (by omega)]
theorem stBegs_length (s t b : List Int) (n : Nat) : (stBegs s t b n).length = n := by simp [stBegs]
theorem stBegs_get (s t b : List Int) {n k : Nat} (h : k < n) : (stBegs s t b n).getD k 0 = stBeg s t b k := by simp [stBegs, h]
theorem stBegs_succ (s t b : List Int) (n : Nat) : stBegs s t b (n + 1) = stBegs s t b n ++ [stBeg s t b n] := by simp [stBegs, List.range_succ]
theorem getD_app (l : List Int) (x : Int) {k : Nat} (h : k < l.length) : (l ++ [x]).getD k 0 = l.getD k 0 := by
  simp [h]
  rw [List.getElem?_append_left h]; simp [h]
theorem getD_last (l : List Int) (x : Int) : (l ++ [x]).getD l.length 0 = x := by simp
theorem stEnd_app (s t b : List Int) (x y z : Int) (n : Nat) (h1 : s.length = n) (h2 : t.length = n) (h3 : b.length = n) : ∀ k, k ≤ n → stEnd (s ++ [x]) (t ++ [y]) (b ++ [z]) k = stEnd s t b k
  | 0, _ => rfl
  | k + 1, h => by
    unfold stEnd
    rw [stEnd_app s t b x y z n h1 h2 h3 k (by omega), getD_app s x (by omega), getD_app t y (by omega), getD_app b z (by omega)]
theorem stBeg_app (s t b : List Int) (x y z : Int) (n : Nat) (h1 : s.length = n) (h2 : t.length = n) (h3 : b.length = n) {k : Nat} (h : k < n) : stBeg (s ++ [x]) (t ++ [y]) (b ++ [z]) k = stBeg s t b k := by
  unfold stBeg
  rw [stEnd_app s t b x y z n h1 h2 h3 k (by omega), getD_app t y (by omega), getD_app b z (by omega)]
theorem stBeg_new (s t b : List Int) (x y z : Int) (n : Nat) (h1 : s.length = n) (h2 : t.length = n) (h3 : b.length = n) (h : 0 < n) : stBeg (s ++ [x]) (t ++ [y]) (b ++ [z]) n = add (stEnd s t b n) (coll [b.getD (n - 1) 0, y]) := by
  unfold stBeg
  have e : (t ++ [y]).getD n 0 = y := by rw [← h2]; exact getD_last t y
  rw [if_neg (by omega), stEnd_app s t b x y z n h1 h2 h3 n (by omega), getD_app b z (by omega), e]
end Fx
end Go.Proofs.Ytbmidmpooooheaa
