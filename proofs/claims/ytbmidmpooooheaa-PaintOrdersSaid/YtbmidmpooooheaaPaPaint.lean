/- The document's painting: a layer as a whole; Order. -/
import Derived.Test.YtbmidmpooooheaaPaSel
namespace Go.Proofs.Ytbmidmpooooheaa.Fix
open Go.ChangeShapes Go.WideShapes Go.ChangeAt Go.RowKit Go.Deep Go.Joins
set_option linter.unusedVariables false
set_option linter.unusedSimpArgs false
set_option maxRecDepth 100000

theorem rown_made {W : World} {base sz n : Nat} {xs : List Value} {e : TypeId} (hb : base ≤ W.heap.size) (hl : xs.length = n * sz) (hn : n ≤ 1000) : (W.alloc (.cells xs.toArray e)).ownsRow base e sz (.slice (some ⟨W.heap.size, 0, none⟩) n n) n xs := by
  refine ⟨hl, .inr ⟨W.heap.size, n, xs.toArray, rfl, hb, At.new W _, Nat.le_refl _, by unfold maxLen; omega, by simpa using hl, ?_⟩⟩
  simp [← hl]
theorem rown_ints {W : World} {base n c : Nat} {A : Option Addr} {l : List Int} (h : W.ownsRow base 3 1 (.slice A n c) n (l.map (Value.int .i64))) (hn : n ≤ 100000 := by omega) : Ints W A l := by
  obtain ⟨A', c', e, hI, _⟩ := rints h hn
  injection e with e _ _
  subst e
  exact hI
/-- several more: all other rows of one's own stay -/
theorem append_more {W : World} {base k m c : Nat} {u : Value} {xs l : List Int} {A : Option Addr} (hu : W.ownsRow base 3 1 u k (xs.map (Value.int .i64))) (hbase : base ≤ W.heap.size) (hI : Ints W A l) (hl : l.length = m) (hc : A = none → c = 0) (hkm : k + m ≤ 100000) :
    ∃ u' W', (Builtin.append_ #[26, 26] 26 #[u, .slice A m c]).run Try.prog W = .ok u' W' ∧ W'.ownsRow base 3 1 u' (k + m) ((xs ++ l).map (Value.int .i64)) ∧
      (∀ (v : Value) (q : Nat) (ys : List Value), W.ownsRow base 3 1 v q ys → ApartI v u → W'.ownsRow base 3 1 v q ys ∧ ApartI v u') ∧ Below base W W' ∧ base ≤ W'.heap.size := by
  obtain ⟨i0, hi0, hz0, hz1, hz2⟩ := info_parts intZero
  rcases A with _ | ad
  · have h0 : l = [] := by
      rcases Nat.eq_zero_or_pos l.length with h | h
      · exact List.eq_nil_of_length_eq_zero h
      · obtain ⟨b, o, e, _⟩ := hI.2 h; cases e
    subst h0
    subst hl
    rw [hc rfl]
    exact ⟨_, _, run_append_owned_none _ _ 26 26 3 i0 1 Try.underlying26 hi0 _ k _ hu, by simpa using hu, fun v q ys hv ha => ⟨hv, ha⟩, Below.refl _ _, hbase⟩
  · obtain ⟨v', w', hr, ho, hg, _, hblk⟩ := run_append_own_at (P := Try.prog) W base 26 26 3 i0 (.int .i64 0) 1 8 Try.underlying26 hi0 hz0 hz1 hz2 rfl (by decide) _ k _ hu ad m c (l.map (Value.int .i64)) (by simp [hl])
      (by
        intro j y hy
        have hj : j < l.length := by
          rcases Nat.lt_or_ge j l.length with h | h
          · exact h
          · rw [List.getElem?_eq_none (by simpa using h)] at hy; cases hy
        obtain ⟨b, o, e, hcell⟩ := hI.2 (by omega)
        injection e with e
        subst e
        rw [addr_add, hcell j hj, ← hy]
        simp [List.getElem?_eq_getElem hj])
      (by intro y hy; obtain ⟨z, _, rfl⟩ := List.mem_map.1 hy; rfl) (by simp only [maxLen]; omega) (by omega) hbase
    refine ⟨v', w', hr, by rw [List.map_append]; exact ho, fun v q ys hv ha => ?_, (Below.refl base W).grown hg hbase (fun j ej => (hu.lt j ej).1), Nat.le_trans hbase hg.size⟩
    have hvb : v.ownBlock = none ∨ v.ownBlock ≠ u.ownBlock := by
      rcases ha with h | h | h
      · exact .inl h
      · by_cases hv0 : v.ownBlock = none
        · exact .inl hv0
        · exact .inr (by rw [h]; exact hv0)
      · exact .inr h
    refine ⟨hv.kept hg hvb, ?_⟩
    by_cases hv0 : v.ownBlock = none
    · exact .inl hv0
    · refine .inr (.inr ?_)
      rcases hblk with h | h
      · rw [h]; exact hvb.resolve_left hv0
      · rw [h]
        intro e
        have := (hv.lt _ e).2
        omega

/-! those in a layer, of the first i nodes -/
theorem ins_succ (la : Nat → Nat) (a i : Nat) : Pa.ins_ (i + 1) la a = Pa.ins_ i la a ++ if 0 < i ∧ la i = a then [i] else [] := by
  unfold Pa.ins_
  rw [List.range_succ, List.filter_append]
  congr 1
  by_cases h : 0 < i ∧ la i = a
  · rw [if_pos h]; simp [h.1, h.2]
  · rw [if_neg h]
    simp only [List.filter_cons, List.filter_nil, Bool.and_eq_true, decide_eq_true_eq, beq_iff_eq]
    rw [if_neg h]
def loI (l : Nat → PNd) (a i : Nat) : List Nat := (Pa.ins_ i (pla l) a).filter fun j => ply l j && decide (pz l j < 0)
def plI (l : Nat → PNd) (a i : Nat) : List Nat := (Pa.ins_ i (pla l) a).filter fun j => !ply l j
def hiI (l : Nat → PNd) (a i : Nat) : List Nat := (Pa.ins_ i (pla l) a).filter fun j => ply l j && !decide (pz l j < 0)
theorem tri_out {l : Nat → PNd} {a i : Nat} (h : pla l i ≠ a) : loI l a (i + 1) = loI l a i ∧ plI l a (i + 1) = plI l a i ∧ hiI l a (i + 1) = hiI l a i := by
  unfold loI plI hiI
  rw [ins_succ, if_neg (fun q => h q.2), List.append_nil]
  exact ⟨rfl, rfl, rfl⟩
theorem tri_plain {l : Nat → PNd} {a i : Nat} (h0 : 0 < i) (h : pla l i = a) (hy : (l i).ly = false) : loI l a (i + 1) = loI l a i ∧ plI l a (i + 1) = plI l a i ++ [i] ∧ hiI l a (i + 1) = hiI l a i := by
  have : ply l i = false := hy
  unfold loI plI hiI
  rw [ins_succ, if_pos ⟨h0, h⟩]
  simp [List.filter_append, this]
theorem tri_low {l : Nat → PNd} {a i : Nat} (h0 : 0 < i) (h : pla l i = a) (hy : (l i).ly = true) (hz : (l i).z < 0) : loI l a (i + 1) = loI l a i ++ [i] ∧ plI l a (i + 1) = plI l a i ∧ hiI l a (i + 1) = hiI l a i := by
  have e1 : ply l i = true := hy
  have e2 : pz l i < 0 := hz
  unfold loI plI hiI
  rw [ins_succ, if_pos ⟨h0, h⟩]
  simp [List.filter_append, e1, e2]
theorem tri_high {l : Nat → PNd} {a i : Nat} (h0 : 0 < i) (h : pla l i = a) (hy : (l i).ly = true) (hz : ¬ (l i).z < 0) : loI l a (i + 1) = loI l a i ∧ plI l a (i + 1) = plI l a i ∧ hiI l a (i + 1) = hiI l a i ++ [i] := by
  have e1 : ply l i = true := hy
  have e2 : ¬ pz l i < 0 := hz
  unfold loI plI hiI
  rw [ins_succ, if_pos ⟨h0, h⟩]
  simp [List.filter_append, e1, e2]
theorem tri_one (l : Nat → PNd) (a : Nat) : loI l a 1 = [] ∧ plI l a 1 = [] ∧ hiI l a 1 = [] := by
  have : Pa.ins_ 1 (pla l) a = [] := by simp [Pa.ins_, List.range_succ]
  unfold loI plI hiI
  rw [this]
  exact ⟨rfl, rfl, rfl⟩
theorem ins_len (la : Nat → Nat) (a i : Nat) : (Pa.ins_ i la a).length ≤ i := Nat.le_trans (List.length_filter_le _ _) (by simp)
theorem inc_getD {L : List Nat} (h : L.Pairwise (· < ·)) : ∀ i j, i < j → j < L.length → L.getD i 0 < L.getD j 0 := fun i j hij hj => by
  rw [List.pairwise_iff_getElem] at h
  have := h i j (by omega) hj hij
  simpa [List.getD, List.getElem?_eq_getElem hj, List.getElem?_eq_getElem (show i < L.length by omega)] using this
/-- what there is to know of a layer's two rows of layers -/
theorem tri_rows {l : Nat → PNd} {n a f : Nat} (H : PV l n) (hn : n ≤ 1000) (ha : a < n) (hf : n ≤ a + (f + 1)) :
    (∀ x ∈ loI l a n, x < n ∧ n ≤ x + f) ∧ (∀ x ∈ hiI l a n, x < n ∧ n ≤ x + f) ∧ (loI l a n).Pairwise (· < ·) ∧ (hiI l a n).Pairwise (· < ·) ∧
    Pa.paint n (pla l) (ply l) (pz l) (f + 1) a = a :: ((Pa.srt (pz l) (loI l a n)).flatMap (Pa.paint n (pla l) (ply l) (pz l) f) ++ plI l a n ++ (Pa.srt (pz l) (hiI l a n)).flatMap (Pa.paint n (pla l) (ply l) (pz l) f)) ∧
    (Pa.paint n (pla l) (ply l) (pz l) (f + 1) a).length ≤ n := by
  have key : ∀ x ∈ Pa.ins_ n (pla l) a, x < n ∧ n ≤ x + f := fun x hx => by
    obtain ⟨h1, h2, h3⟩ := Pa.mem_ins.1 hx
    have := H.ok.lt x h2 h1
    omega
  refine ⟨fun x hx => key x (List.mem_filter.1 hx).1, fun x hx => key x (List.mem_filter.1 hx).1, (Pa.sorted_ins a).filter _, (Pa.sorted_ins a).filter _, rfl, ?_⟩
  have hnd := Pa.nodup_paint (z := pz l) H.ok (f + 1) a hf ha
  have hm := Pa.mem_paint (z := pz l) H.ok (f + 1) a hf ha
  have := hnd.length_le_of_subset (l₂ := List.range n) fun x hx => List.mem_range.2 ((hm x).1 hx).1
  simpa using this

set_option maxHeartbeats 16000000 in
theorem rpaint_step {A : Option Addr} {l : Nat → PNd} {n c f : Nat} (hn : n ≤ 1000) (V : PV l n) (HP : RPaint A l n c f) : RPaint A l n c (f + 1) := by
  intro w a h ha hf
  obtain ⟨tl, th, tls, ths, teq, tlen⟩ := tri_rows (f := f) V hn ha hf
  rw [teq] at tlen ⊢
  have HS := Lib.hid h
  have HV := Lib.hid V
  have HPP := Lib.hid HP
  have HTL := Lib.hid tl
  have HTH := Lib.hid th
  have HLS := Lib.hid (inc_getD tls)
  have HHS := Lib.hid (inc_getD ths)
  simp only [List.length_cons, List.length_append] at tlen
  have HLEN := Lib.hid tlen
  clear h V HP tl th tls ths teq tlen
  obtain ⟨b0, o0, rfl, hc0⟩ := HS.out.nodes.some (by omega)
  have HC := Lib.hid hc0
  clear hc0
  have ho := rown_made (W := w) (base := w.heap.size) (sz := 1) (n := 1) (xs := (pints [a]).map (Value.int .i64)) (e := 3) (Nat.le_refl _) rfl (by omega)
  have ho' : (w.alloc (.cells #[.int .i64 (a : Int)] 3)).ownsRow w.heap.size 3 1 (.slice (some ⟨w.heap.size, 0, none⟩) 1 1) 1 ((pints [a]).map (Value.int .i64)) := ho
  have hB1 : Below w.heap.size w (w.alloc (.cells #[.int .i64 (a : Int)] 3)) := Below.alloc' (Below.refl _ _) _
  have HO1 := Lib.hid ho'
  have HB1 := Lib.hid hB1
  clear ho ho' hB1
  go_enter Try.func22, Try.ntmps22
  go_upto_region 6 with (fail)
  generalize w.alloc (.cells #[.int .i64 (a : Int)] 3) = w1 at *
  generalize hov : (Value.slice (some ⟨w.heap.size, 0, none⟩) 1 1) = ov at *
  clear hov
  go_loopw [6, 7, 8, 9] (fun lv pv hv iv wr => ∃ i : Nat, 0 < i ∧ i ≤ n ∧ iv = .int .i64 (i : Int) ∧ wr.ownsRow w.heap.size 3 1 ov 1 ((pints [a]).map (Value.int .i64)) ∧ wr.ownsRow w.heap.size 3 1 lv (loI l a i).length ((pints (loI l a i)).map (Value.int .i64)) ∧ wr.ownsRow w.heap.size 3 1 pv (plI l a i).length ((pints (plI l a i)).map (Value.int .i64)) ∧ wr.ownsRow w.heap.size 3 1 hv (hiI l a i).length ((pints (hiI l a i)).map (Value.int .i64)) ∧ (ApartI ov lv ∧ ApartI ov pv ∧ ApartI ov hv) ∧ (ApartI lv pv ∧ ApartI lv hv ∧ ApartI pv hv) ∧ Below w.heap.size w wr) (fun _ _ _ iv _ => n - (intOf iv).toNat)
  case atStart =>
    obtain ⟨e1, e2, e3⟩ := tri_one l a
    refine ⟨1, by omega, by omega, rfl, HO1.out, ?_, ?_, ?_, ⟨.inr (.inl rfl), .inr (.inl rfl), .inr (.inl rfl)⟩, ⟨.inl rfl, .inl rfl, .inl rfl⟩, HB1.out⟩
    · rw [e1]; simpa [pints] using World.ownsRow_nil _ _ _ _
    · rw [e2]; simpa [pints] using World.ownsRow_nil _ _ _ _
    · rw [e3]; simpa [pints] using World.ownsRow_nil _ _ _ _
  case round =>
    clear HO1 HB1
    obtain ⟨i, hi0, hi, rfl, hoo, hlo, hpl, hhi, ⟨a1, a2, a3⟩, ⟨a4, a5, a6⟩, hb⟩ := hrel
    by_cases hlt : i < n
    · have hltz : (i : Int) < (n : Int) := by omega
      have pk := playI_some HV.out hi0 hlt
      have hin : (i : Int) ≤ 1000 := by omega
      have HB := Lib.hid hb
      by_cases e : pla l i = a
      · obtain ⟨c0, c1, c2⟩ := HC.out _ hb i hlt
        have ll := ins_len (pla l) a i
        have l1 : (loI l a i).length ≤ 1000 := Nat.le_trans (List.length_filter_le _ _) (by omega)
        have l2 : (plI l a i).length ≤ 1000 := Nat.le_trans (List.length_filter_le _ _) (by omega)
        have l3 : (hiI l a i).length ≤ 1000 := Nat.le_trans (List.length_filter_le _ _) (by omega)
        cases hy : (l i).ly with
        | false =>
          obtain ⟨t1, t2, t3⟩ := tri_plain hi0 e hy
          rw [hy] at c1
          obtain ⟨v', w', hr, ho', hk, hb', hs'⟩ := append_besides (i : Int) hpl hb.size (by omega)
          obtain ⟨k1, k2⟩ := hk _ _ _ hoo a2
          obtain ⟨k3, k4⟩ := hk _ _ _ hlo a4
          obtain ⟨k5, k6⟩ := hk _ _ _ hhi a6.symm
          have HALL : Hid (∃ i2 : Nat, 0 < i2 ∧ i2 ≤ n ∧ (i : Int) + 1 = (i2 : Int) ∧ w'.ownsRow w.heap.size 3 1 ov 1 ((pints [a]).map (Value.int .i64)) ∧ w'.ownsRow w.heap.size 3 1 u6 (loI l a i2).length ((pints (loI l a i2)).map (Value.int .i64)) ∧ w'.ownsRow w.heap.size 3 1 v' (plI l a i2).length ((pints (plI l a i2)).map (Value.int .i64)) ∧ w'.ownsRow w.heap.size 3 1 u8 (hiI l a i2).length ((pints (hiI l a i2)).map (Value.int .i64)) ∧ (ApartI ov u6 ∧ ApartI ov v' ∧ ApartI ov u8) ∧ (ApartI u6 v' ∧ ApartI u6 u8 ∧ ApartI v' u8) ∧ Below w.heap.size w w') := Lib.hid ⟨i + 1, by omega, by omega, by omega, k1, by rw [t1]; exact k3, by rw [t2, List.length_append, show pints (plI l a i ++ [i]) = pints (plI l a i) ++ [(i : Int)] by simp [pints]]; exact ho', by rw [t3]; exact k5, ⟨a1, k2, a3⟩, ⟨k4, a5, k6.symm⟩, hb.trans hb'⟩
          have HR := Lib.hid hr
          rw [e] at pk
          clear hoo hlo hpl hhi a1 a2 a3 a4 a5 a6 hr ho' hk hb' hs' k1 k2 k3 k4 k5 k6 t1 t2 t3 e
          go_wp2_with (first | (go_at_call 19; (with_reducible refine (rplayer_any (HS.out.after hb) hn _).mono ?_); rintro e w' ⟨rfl, rfl⟩) | (at_builtin; refine wpList_append_run (by rfl) _ _ 26 rfl rfl rfl HR.out ?_))
          go_roundw
          case rel =>
            obtain ⟨i2, q1, q2, q3, q4⟩ := HALL.out
            exact ⟨i2, q1, q2, by rw [← q3], q4⟩
          case measure => simp [intOf] <;> omega
        | true =>
          rw [hy] at c1
          by_cases hz : (l i).z < 0
          · obtain ⟨t1, t2, t3⟩ := tri_low hi0 e hy hz
            obtain ⟨v', w', hr, ho', hk, hb', hs'⟩ := append_besides (i : Int) hlo hb.size (by omega)
            obtain ⟨k1, k2⟩ := hk _ _ _ hoo a1
            obtain ⟨k3, k4⟩ := hk _ _ _ hpl a4.symm
            obtain ⟨k5, k6⟩ := hk _ _ _ hhi a5.symm
            have HALL : Hid (∃ i2 : Nat, 0 < i2 ∧ i2 ≤ n ∧ (i : Int) + 1 = (i2 : Int) ∧ w'.ownsRow w.heap.size 3 1 ov 1 ((pints [a]).map (Value.int .i64)) ∧ w'.ownsRow w.heap.size 3 1 v' (loI l a i2).length ((pints (loI l a i2)).map (Value.int .i64)) ∧ w'.ownsRow w.heap.size 3 1 u7 (plI l a i2).length ((pints (plI l a i2)).map (Value.int .i64)) ∧ w'.ownsRow w.heap.size 3 1 u8 (hiI l a i2).length ((pints (hiI l a i2)).map (Value.int .i64)) ∧ (ApartI ov v' ∧ ApartI ov u7 ∧ ApartI ov u8) ∧ (ApartI v' u7 ∧ ApartI v' u8 ∧ ApartI u7 u8) ∧ Below w.heap.size w w') := Lib.hid ⟨i + 1, by omega, by omega, by omega, k1, by rw [t1, List.length_append, show pints (loI l a i ++ [i]) = pints (loI l a i) ++ [(i : Int)] by simp [pints]]; exact ho', by rw [t2]; exact k3, by rw [t3]; exact k5, ⟨k2, a2, a3⟩, ⟨k4.symm, k6.symm, a6⟩, hb.trans hb'⟩
            have HR := Lib.hid hr
            rw [e] at pk
            clear hoo hlo hpl hhi a1 a2 a3 a4 a5 a6 hr ho' hk hb' hs' k1 k2 k3 k4 k5 k6 t1 t2 t3 e
            go_wp2_with (first | (go_at_call 19; (with_reducible refine (rplayer_any (HS.out.after hb) hn _).mono ?_); rintro e w' ⟨rfl, rfl⟩) | (at_builtin; refine wpList_append_run (by rfl) _ _ 26 rfl rfl rfl HR.out ?_))
            go_roundw
            case rel =>
              obtain ⟨i2, q1, q2, q3, q4⟩ := HALL.out
              exact ⟨i2, q1, q2, by rw [← q3], q4⟩
            case measure => simp [intOf] <;> omega
          · obtain ⟨t1, t2, t3⟩ := tri_high hi0 e hy hz
            obtain ⟨v', w', hr, ho', hk, hb', hs'⟩ := append_besides (i : Int) hhi hb.size (by omega)
            obtain ⟨k1, k2⟩ := hk _ _ _ hoo a3
            obtain ⟨k3, k4⟩ := hk _ _ _ hlo a5
            obtain ⟨k5, k6⟩ := hk _ _ _ hpl a6
            have HALL : Hid (∃ i2 : Nat, 0 < i2 ∧ i2 ≤ n ∧ (i : Int) + 1 = (i2 : Int) ∧ w'.ownsRow w.heap.size 3 1 ov 1 ((pints [a]).map (Value.int .i64)) ∧ w'.ownsRow w.heap.size 3 1 u6 (loI l a i2).length ((pints (loI l a i2)).map (Value.int .i64)) ∧ w'.ownsRow w.heap.size 3 1 u7 (plI l a i2).length ((pints (plI l a i2)).map (Value.int .i64)) ∧ w'.ownsRow w.heap.size 3 1 v' (hiI l a i2).length ((pints (hiI l a i2)).map (Value.int .i64)) ∧ (ApartI ov u6 ∧ ApartI ov u7 ∧ ApartI ov v') ∧ (ApartI u6 u7 ∧ ApartI u6 v' ∧ ApartI u7 v') ∧ Below w.heap.size w w') := Lib.hid ⟨i + 1, by omega, by omega, by omega, k1, by rw [t1]; exact k3, by rw [t2]; exact k5, by rw [t3, List.length_append, show pints (hiI l a i ++ [i]) = pints (hiI l a i) ++ [(i : Int)] by simp [pints]]; exact ho', ⟨a1, a2, k2⟩, ⟨a4, k4, k6⟩, hb.trans hb'⟩
            have HR := Lib.hid hr
            rw [e] at pk
            clear hoo hlo hpl hhi a1 a2 a3 a4 a5 a6 hr ho' hk hb' hs' k1 k2 k3 k4 k5 k6 t1 t2 t3 e
            go_wp2_with (first | (go_at_call 19; (with_reducible refine (rplayer_any (HS.out.after hb) hn _).mono ?_); rintro e w' ⟨rfl, rfl⟩) | (at_builtin; refine wpList_append_run (by rfl) _ _ 26 rfl rfl rfl HR.out ?_))
            go_roundw
            case rel =>
              obtain ⟨i2, q1, q2, q3, q4⟩ := HALL.out
              exact ⟨i2, q1, q2, by rw [← q3], q4⟩
            case measure => simp [intOf] <;> omega
      · obtain ⟨t1, t2, t3⟩ := tri_out e
        have eb : (((pla l i : Nat) : Int) != (a : Int)) = true := by simp; omega
        have HALL : Hid (∃ i2 : Nat, 0 < i2 ∧ i2 ≤ n ∧ (i : Int) + 1 = (i2 : Int) ∧ wr.ownsRow w.heap.size 3 1 ov 1 ((pints [a]).map (Value.int .i64)) ∧ wr.ownsRow w.heap.size 3 1 u6 (loI l a i2).length ((pints (loI l a i2)).map (Value.int .i64)) ∧ wr.ownsRow w.heap.size 3 1 u7 (plI l a i2).length ((pints (plI l a i2)).map (Value.int .i64)) ∧ wr.ownsRow w.heap.size 3 1 u8 (hiI l a i2).length ((pints (hiI l a i2)).map (Value.int .i64)) ∧ (ApartI ov u6 ∧ ApartI ov u7 ∧ ApartI ov u8) ∧ (ApartI u6 u7 ∧ ApartI u6 u8 ∧ ApartI u7 u8) ∧ Below w.heap.size w wr) := Lib.hid ⟨i + 1, by omega, by omega, by omega, hoo, by rw [t1]; exact hlo, by rw [t2]; exact hpl, by rw [t3]; exact hhi, ⟨a1, a2, a3⟩, ⟨a4, a5, a6⟩, hb⟩
        clear hoo hlo hpl hhi a1 a2 a3 a4 a5 a6 t1 t2 t3 e
        generalize pla l i = m at *
        go_wp2_with (first | (go_at_call 19; (with_reducible refine (rplayer_any (HS.out.after hb) hn _).mono ?_); rintro e w' ⟨rfl, rfl⟩))
        go_roundw
        case rel =>
          obtain ⟨i2, q1, q2, q3, q4⟩ := HALL.out
          exact ⟨i2, q1, q2, by rw [← q3], q4⟩
        case measure => simp [intOf] <;> omega
    · obtain rfl : i = n := by omega
      obtain ⟨A6, c6, rfl, hI6, _, hn6⟩ := rints hlo (Nat.le_trans (List.length_filter_le _ _) (Nat.le_trans (ins_len _ _ _) (by omega)))
      obtain ⟨A7, c7, rfl, _, _, hn7⟩ := rints hpl (Nat.le_trans (List.length_filter_le _ _) (Nat.le_trans (ins_len _ _ _) (by omega)))
      obtain ⟨A8, c8, rfl, _, _, hn8⟩ := rints hhi (Nat.le_trans (List.length_filter_le _ _) (Nat.le_trans (ins_len _ _ _) (by omega)))
      have l1 : (loI l a i).length ≤ 1000 := Nat.le_trans (List.length_filter_le _ _) (Nat.le_trans (ins_len _ _ _) (by omega))
      have l2 : (plI l a i).length ≤ 1000 := Nat.le_trans (List.length_filter_le _ _) (Nat.le_trans (ins_len _ _ _) (by omega))
      have l3 : (hiI l a i).length ≤ 1000 := Nat.le_trans (List.length_filter_le _ _) (Nat.le_trans (ins_len _ _ _) (by omega))
      have hLL := HLEN.out
      have kS1 := rpsorted_any hn HPP.out (HS.out.after hb) hI6 rfl l1 hn6 HLS.out HTL.out (by omega)
      have KS2 := Lib.hid fun W (hb : Below w.heap.size w W) (hI : Ints W A8 (pints (hiI l a i))) => rpsorted_any hn HPP.out (HS.out.after hb) hI rfl l3 hn8 HHS.out HTH.out (by omega)
      have HOO := Lib.hid hoo
      have HPL := Lib.hid hpl
      have HHI := Lib.hid hhi
      have HB := Lib.hid hb
      clear hLL hI6 hoo hpl hhi hlo hb HTL HTH HLS HHS hn6 hn8
      generalize hF1 : (Pa.srt (pz l) (loI l a i)).flatMap (Pa.paint i (pla l) (ply l) (pz l) f) = F1 at *
      generalize hF2 : (Pa.srt (pz l) (hiI l a i)).flatMap (Pa.paint i (pla l) (ply l) (pz l) f) = F2 at *
      have HF1 := Lib.hid hF1
      have HF2 := Lib.hid hF2
      clear hF1 hF2
      generalize hLO : loI l a i = LO at *
      generalize hPLo : plI l a i = PL at *
      generalize hHIo : hiI l a i = HI at *
      have HLOo := Lib.hid hLO
      have HPLo := Lib.hid hPLo
      have HHIo := Lib.hid hHIo
      clear hLO hPLo hHIo
      have f1 : Hid (F1.length ≤ 1000 ∧ F2.length ≤ 1000 ∧ PL.length ≤ 1000) := Lib.hid (by have := HLEN.out; omega)
      have f2 : Hid (F1.length ≤ 100000) := Lib.hid (by have := f1.out; omega)
      have f3 : Hid (F2.length ≤ 100000) := Lib.hid (by have := f1.out; omega)
      have g1 : Hid (1 + F1.length ≤ 100000) := Lib.hid (by have := f1.out; omega)
      have g2 : Hid (1 + F1.length + PL.length ≤ 100000) := Lib.hid (by have := f1.out; omega)
      have g3 : Hid (1 + F1.length + PL.length + F2.length ≤ 100000) := Lib.hid (by have := f1.out; omega)
      have N7 := Lib.hid hn7
      have L3 : Hid (HI.length ≤ 100000) := Lib.hid (by omega)
      have B2 := Lib.hid a2
      have B3 := Lib.hid a3
      have B6 := Lib.hid a6
      clear l1 l2 l3 hn7 a1 a2 a3 a4 a5 a6
      go_upto_region 15 with (first | (go_at_call 28; (with_reducible refine kS1.mono ?_); rintro e w2 ⟨⟨v2, rfl, ho2⟩, hb2⟩; obtain ⟨Aa, ca, rfl, hIa, hla, hna⟩ := rints ho2 f2.out; obtain ⟨v3, w3, hr3, ho3, hk3, hb3, hs3⟩ := append_more (rown_below HOO.out hb2) (Nat.le_trans HB.out.size hb2.size) hIa hla hna g1.out; have HR3 := Lib.hid hr3; obtain ⟨p1, p2⟩ := hk3 _ _ _ (rown_below HPL.out hb2) B2.out.symm; obtain ⟨p3, p4⟩ := hk3 _ _ _ (rown_below HHI.out hb2) B3.out.symm; have HO3 := Lib.hid ho3; have HP3 := Lib.hid p1; have HH3 := Lib.hid p3; have Q2 := Lib.hid p2; have Q3 := Lib.hid p4; have HB3 := Lib.hid ((HB.out.trans (hb2.mono HB.out.size)).trans hb3); have HZ3 := Lib.hid hs3; clear hr3 ho3 hk3 hb3 hs3 p1 p2 p3 p4 ho2 hIa hla hna hb2) | (at_builtin; refine wpList_append_run (by rfl) _ _ 26 rfl rfl rfl HR3.out ?_))
      obtain ⟨v5, w5, hr5, ho5, hk5, hb5, hs5⟩ := append_more HO3.out HZ3.out (rown_ints HP3.out (by have := f1.out; omega)) (by rw [pints_len]) N7.out g2.out
      obtain ⟨p3, p4⟩ := hk5 _ _ _ HH3.out Q3.out
      have HR5 := Lib.hid hr5
      have HO5 := Lib.hid ho5
      have HB5 := Lib.hid (HB3.out.trans hb5)
      have HZ5 := Lib.hid hs5
      have kS2 := KS2.out w5 HB5.out (rown_ints p3 L3.out)
      clear hr5 ho5 hk5 hb5 hs5 p3 p4 kS1 KS2
      go_upto_region 16 with (at_builtin; refine wpList_append_run (by rfl) _ _ 26 rfl rfl rfl HR5.out ?_)
      go_wp2_with (first | (go_at_call 28; (with_reducible refine kS2.mono ?_); rintro e w6 ⟨⟨v6, rfl, ho6⟩, hb6⟩; obtain ⟨Aa, ca, rfl, hIa, hla, hna⟩ := rints ho6 f3.out; obtain ⟨v7, w7, hr7, ho7, hk7, hb7, hs7⟩ := append_more (rown_below HO5.out hb6) (Nat.le_trans HZ5.out hb6.size) hIa hla hna g3.out; have HR7 := Lib.hid hr7; have HO7 := Lib.hid ho7; have HB7 := Lib.hid ((HB5.out.trans (hb6.mono HB5.out.size)).trans hb7); clear hr7 ho7 hk7 hb7 hs7 ho6 hIa hla hna hb6) | (at_builtin; refine wpList_append_run (by rfl) _ _ 26 rfl rfl rfl HR7.out ?_))
      go_ret
      have e1 : 1 + F1.length + PL.length + F2.length = (F1 ++ PL ++ F2).length + 1 := by simp; omega
      have e2 : pints [a] ++ pints F1 ++ pints PL ++ pints F2 = pints (a :: (F1 ++ PL ++ F2)) := by simp [pints]
      have ho7 := HO7.out
      rw [e1, e2] at ho7
      obtain rfl := HLOo.out
      obtain rfl := HPLo.out
      obtain rfl := HHIo.out
      obtain rfl := HF1.out
      obtain rfl := HF2.out
      exact ⟨⟨_, rfl, ho7⟩, HB7.out⟩

end Go.Proofs.Ytbmidmpooooheaa.Fix
