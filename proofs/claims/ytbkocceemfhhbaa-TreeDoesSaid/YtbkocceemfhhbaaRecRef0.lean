/- The document's own answer for record: the small ones; two rows of one's own grown in turns. -/
import Derived.Test.YtbkocceemfhhbaaRecOps
import Derived.Test.YtbkocceemfhhbaaMarStackR
import Derived.Test.YtbkocceemfhhbaaLen
import Derived.Test.YtbkocceemfhhbaaCut
import Derived.Test.YtbkocceemfhhbaaDrawnGen
import Derived.Deep.RegionWith
import Derived.Deep.Cut
namespace Go.Proofs.Ytbkocceemfhhbaa.Fix
open Go.ChangeShapes Go.WideShapes Go.ChangeAt Go.RowKit
set_option linter.unusedVariables false

theorem recin_any (n lo hi : Int) (w : World) : Calls Try.prog 60 #[.int .i64 n, .int .i64 lo, .int .i64 hi] w fun e w' => e = .returned (.bool (Re.inn n lo hi)) ∧ w = w' := by
  by_cases h1 : lo ≤ n
  · have e1 : decide (lo ≤ n) = true := decide_eq_true h1
    by_cases h2 : n ≤ hi
    · have e2 : decide (n ≤ hi) = true := decide_eq_true h2
      have HIN := Lib.hid (show Re.inn n lo hi = true by unfold Re.inn; rw [e1, e2]; rfl)
      go_enter Try.func60, Try.ntmps60
      go_wp2
      go_ret
      exact ⟨ret_bool HIN.out.symm, rfl⟩
    · have e2 : decide (n ≤ hi) = false := decide_eq_false h2
      have HIN := Lib.hid (show Re.inn n lo hi = false by unfold Re.inn; rw [e1, e2]; rfl)
      go_enter Try.func60, Try.ntmps60
      go_wp2
      go_ret
      exact ⟨ret_bool HIN.out.symm, rfl⟩
  · have e1 : decide (lo ≤ n) = false := decide_eq_false h1
    have HIN := Lib.hid (show Re.inn n lo hi = false by unfold Re.inn; rw [e1]; rfl)
    go_enter Try.func60, Try.ntmps60
    go_wp2
    go_ret
    exact ⟨ret_bool HIN.out.symm, rfl⟩

theorem run_append_op {P : Program} {w w' : World} {o : Oper} {a : Act} (s x : Operand) (t : TypeId) (ho : o.op = .call { callee := .builtin .append, args := #[s, x], argTypes := #[t, t] }) {v u v' : Value} (hs : a.eval s = v) (hx : a.eval x = u)
    (hrun : (Builtin.append_ #[t, t] o.type #[v, u]).run P w = .ok v' w') : (execOp a.eval o).run P w = .ok (.value v') w' := by
  unfold execOp
  simp only [ho, resolve, invoke, builtin, Sem.run_bind, Sem.run_pure, Result.andThen_ok, List.map_toArray, List.map_cons, List.map_nil, hs, hx, hrun]

/-- Two rows do not share a block. -/
def ApartR (v u : Value) : Prop := v.ownBlock = none ∨ u.ownBlock = none ∨ v.ownBlock ≠ u.ownBlock
theorem ApartR.symm {v u : Value} (h : ApartR v u) : ApartR u v := by
  rcases h with h | h | h
  · exact .inr (.inl h)
  · exact .inl h
  · exact .inr (.inr (Ne.symm h))

theorem own_sliceR {W : World} {base : Nat} {e : TypeId} {sz k : Nat} {v : Value} {xs : List Value} (h : W.ownsRow base e sz v k xs) : ∃ A c, v = .slice A k c := by
  rcases h.2 with ⟨rfl, h0⟩ | ⟨g, cap, cur, rfl, _⟩
  · exact ⟨none, 0, by rw [h0]⟩
  · exact ⟨_, _, rfl⟩

/-- What a new block holds behind one row of one's own: the other one stays, and what lies lower. -/
theorem append_own2 {t e T T2 : TypeId} {i0 : TypeInfo} {z : Value} {sz by_ : Nat} (ht : Try.prog.underlying t = some (.slice e)) (hi : Try.prog.info? e = some i0) (hz0 : i0.zero = some z) (hz1 : i0.size = sz) (hz2 : i0.bytes = by_) (hzc : z.cells.size = sz) (hsz : 0 < sz) (hby : by_ ≤ 100)
    {W : World} {base k m m2 sz2 : Nat} {v u : Value} {xs ys news : List Value} (hu : W.ownsRow base e sz u k xs) (hv : W.ownsRow base T2 sz2 v m2 ys) (ha : ApartR v u) (hbase : base ≤ W.heap.size) (hnl : news.length = m * sz) (h1 : ∀ x ∈ news, x.oneCell' = true) (hk : k + m ≤ 1000) :
    ∃ A' c' w', (Builtin.append_ #[t, t] t #[u, .slice (some ⟨W.heap.size, 0, none⟩) m m]).run Try.prog (W.alloc (.cells news.toArray T)) = .ok (.slice A' (k + m) c') w' ∧
      w'.ownsRow base e sz (.slice A' (k + m) c') (k + m) (xs ++ news) ∧ w'.ownsRow base T2 sz2 v m2 ys ∧ ApartR v (.slice A' (k + m) c') ∧ Below base W w' ∧ base ≤ w'.heap.size := by
  have hA := At.new W (.cells news.toArray T)
  obtain ⟨v', w', hr, ho, hg, _, hblk⟩ := run_append_own_at (P := Try.prog) (w := W.alloc (.cells news.toArray T)) base t t e i0 z sz by_ ht hi hz0 hz1 hz2 hzc hsz u k _ (hu.alloc _) ⟨W.heap.size, 0, none⟩ m m news hnl
    (by intro j x hj
        have e : (⟨W.heap.size, 0, none⟩ : Addr).add j = ⟨W.heap.size, 0 + j, none⟩ := Addr.add_mid _ _ _
        rw [e, Nat.zero_add, hA.cell, ← hj]
        simp)
    h1 (by simp only [maxLen]; omega) (Nat.le_trans (Nat.mul_le_mul hk hby) (by decide)) (by simp; omega)
  obtain ⟨A', c', rfl⟩ := own_sliceR ho
  have hvb : v.ownBlock = none ∨ v.ownBlock ≠ u.ownBlock := by
    rcases ha with h | h | h
    · exact .inl h
    · by_cases hv0 : v.ownBlock = none
      · exact .inl hv0
      · exact .inr (by rw [h]; exact hv0)
    · exact .inr h
  refine ⟨A', c', w', hr, ho, (hv.alloc _).kept hg hvb, ?_, (Below.alloc (Below.refl base W) hbase _).grown hg (by simp; omega) (fun j ej => (hu.lt j ej).1), ?_⟩
  · by_cases hv0 : v.ownBlock = none
    · exact .inl hv0
    · refine .inr (.inr ?_)
      rcases hblk with h | h
      · rw [h]
        exact hvb.resolve_left hv0
      · rw [h]
        intro e
        have := (hv.lt _ e).2
        simp at this
        omega
  · have := hg.size
    simp at this
    omega

/-- A block that was made is a row of one's own. -/
theorem own_made {W : World} {base sz n : Nat} {xs : List Value} {e : TypeId} (hb : base ≤ W.heap.size) (hl : xs.length = n * sz) (hn : n ≤ 1000) : (W.alloc (.cells xs.toArray e)).ownsRow base e sz (.slice (some ⟨W.heap.size, 0, none⟩) n n) n xs := by
  refine ⟨hl, .inr ⟨W.heap.size, n, xs.toArray, rfl, hb, At.new W _, Nat.le_refl _, by unfold maxLen; omega, by simpa using hl, ?_⟩⟩
  simp [← hl]

theorem own_made' {W : World} {base sz n g : Nat} {xs : List Value} {e : TypeId} (hg : g = W.heap.size) (hb : base ≤ W.heap.size) (hl : xs.length = n * sz) (hn : n ≤ 1000) : (W.alloc (.cells xs.toArray e)).ownsRow base e sz (.slice (some ⟨g, 0, none⟩) n n) n xs := by
  subst hg; exact own_made hb hl hn

/-- The cells of a row of one's own. -/
theorem own_cells {W : World} {base sz n c : Nat} {A : Option Addr} {xs : List Value} {e : TypeId} (h : W.ownsRow base e sz (.slice A n c) n xs) (h0 : 0 < n) : ∃ g, A = some ⟨g, 0, none⟩ ∧ base ≤ g ∧ g < W.heap.size ∧ ∀ (j : Nat) (v : Value), xs[j]? = some v → W.cell? ⟨g, j, none⟩ = some v := by
  rcases h.2 with ⟨e1, h1⟩ | ⟨g, cap, cur, e1, hb, hg, _, _, _, hx⟩
  · omega
  · injection e1 with e1
    refine ⟨g, e1, hb, (Array.getElem?_eq_some_iff.1 hg).1, fun j v hj => ?_⟩
    rw [cell_of_row W g j cur e (0, 0) hg]
    rw [← hx, List.getElem?_take] at hj
    split at hj
    · simpa using hj
    · cases hj

/-- Two rows of as many numbers: whether they are the same. -/
theorem rowgen_any (A B : Option Addr) (xs ys : List Int) (n d1 d2 : Nat) (r : Bool) (w : World) (hA : Ints w A xs) (hB : Ints w B ys) (hn : xs.length = n) (hn2 : ys.length = n) (hm : n ≤ 100000) (hr : r = decide (xs = ys)) : Calls Try.prog 22 #[.slice A n d1, .slice B n d2] w fun e w' => e = .returned (.bool r) ∧ Below w.heap.size w w' := by
  have HA := Lib.hid hA; clear hA
  have HB := Lib.hid hB; clear hB
  have HN := Lib.hid hn; clear hn
  have HN2 := Lib.hid hn2; clear hn2
  have HR := Lib.hid hr; clear hr
  go_enter Try.func22, Try.ntmps22
  go_wp2
  go_loopw [5] (fun i wr => ∃ k : Nat, k ≤ n ∧ i = .int .i64 k ∧ Hid (∀ j, j < k → xs.getD j 0 = ys.getD j 0) ∧ Below w.heap.size w wr) (fun i _ => n - (intOf i).toNat)
  case atStart => exact ⟨0, by omega, rfl, Lib.hid (fun _ h => by omega), Below.refl _ _⟩
  case round =>
    obtain ⟨k, hk, rfl, HE, hB⟩ := hrel
    by_cases hlt : k < n
    · obtain ⟨b1, o1, hA1, l1, c1⟩ := (HA.out.after hB).at_ (k := k) (by rw [HN.out]; exact hlt)
      obtain ⟨b2, o2, hA2, l2, c2⟩ := (HB.out.after hB).at_ (k := k) (by rw [HN2.out]; exact hlt)
      by_cases he : xs.getD k 0 = ys.getD k 0
      · have HE2 : Hid (∀ j, j < k + 1 → xs.getD j 0 = ys.getD j 0) := Lib.hid (fun j hj => by
          by_cases h : j = k
          · rw [h]; exact he
          · exact HE.out j (by omega))
        rw [← he] at c2
        clear he
        generalize xs.getD k 0 = z at *
        subst hA1 hA2
        go_upto_region 6 with (fail)
        refine Drawn.wp_region_from (Below.refl _ _) (by kernel_rfl) (by kernel_rfl) (by kernel_rfl) ?_
        (repeat (first | (refine Drawn.seq_skip (by rfl) ?_; (try simp only [Act.put, List.setIfInBounds_toArray, List.set_cons_zero, List.set_cons_succ])) | (refine Drawn.seq_call (o := ⟨_, .call ⟨.value _, _, _⟩, _, _, _, _⟩) (by rfl) (by intro w2 hS; go_simp; first | done | with_reducible rfl | exact ⟨rfl, rfl⟩) (by intro w2 hS; first | ((with_reducible refine (cut_any _ _).mono ?_); rintro e w' ⟨rfl, rfl⟩; exact ⟨rfl, hS⟩)) ?_; (try simp only [Act.put, List.setIfInBounds_toArray, List.set_cons_zero, List.set_cons_succ])) | (refine Drawn.seq_value (by rfl) (by intro w2 hS; obtain ⟨hc, hf⟩ := bcell hS; go_simp; first | done | with_reducible rfl | exact ⟨rfl, rfl⟩) ?_; (try simp only [Act.put, List.setIfInBounds_toArray, List.set_cons_zero, List.set_cons_succ]))))
        refine Drawn.seq_end ?_; intro w2 hS
        go_wp2
        go_roundw
        case rel => exact ⟨k + 1, by omega, by go_num, HE2, Below.after2 hB (Nat.le_refl _) hS⟩
        case measure => simp [intOf]; omega
      · have hrf : Hid (r = false) := Lib.hid (by rw [HR.out]; exact decide_eq_false fun h => he (by rw [h]))
        generalize xs.getD k 0 = z1 at *
        generalize ys.getD k 0 = z2 at *
        have e1 : (z1 == z2) = false := by simpa using he
        have e2 : decide (z1 = z2) = false := by simpa using he
        subst hA1 hA2
        go_upto_region 6 with (fail)
        refine Drawn.wp_region_from (Below.refl _ _) (by kernel_rfl) (by kernel_rfl) (by kernel_rfl) ?_
        (repeat (first | (refine Drawn.seq_skip (by rfl) ?_; (try simp only [Act.put, List.setIfInBounds_toArray, List.set_cons_zero, List.set_cons_succ])) | (refine Drawn.seq_call (o := ⟨_, .call ⟨.value _, _, _⟩, _, _, _, _⟩) (by rfl) (by intro w2 hS; go_simp; first | done | with_reducible rfl | exact ⟨rfl, rfl⟩) (by intro w2 hS; first | ((with_reducible refine (cut_any _ _).mono ?_); rintro e w' ⟨rfl, rfl⟩; exact ⟨rfl, hS⟩)) ?_; (try simp only [Act.put, List.setIfInBounds_toArray, List.set_cons_zero, List.set_cons_succ])) | (refine Drawn.seq_value (by rfl) (by intro w2 hS; obtain ⟨hc, hf⟩ := bcell hS; go_simp; first | done | with_reducible rfl | exact ⟨rfl, rfl⟩) ?_; (try simp only [Act.put, List.setIfInBounds_toArray, List.set_cons_zero, List.set_cons_succ]))))
        refine Drawn.seq_end ?_; intro w2 hS
        go_wp2
        go_ret
        exact ⟨ret_bool hrf.out.symm, Below.after2 hB (Nat.le_refl _) hS⟩
    · obtain rfl : k = n := by omega
      have hrt : Hid (r = true) := Lib.hid (by
        rw [HR.out]
        refine decide_eq_true (List.ext_getElem (by rw [HN.out, HN2.out]) fun j h1 h2 => ?_)
        have := HE.out j (by rw [← HN.out]; exact h1)
        simpa [List.getD_eq_getElem?_getD, List.getElem?_eq_getElem h1, List.getElem?_eq_getElem h2] using this)
      go_wp2
      go_ret
      exact ⟨ret_bool hrt.out.symm, hB⟩

end Go.Proofs.Ytbkocceemfhhbaa.Fix
