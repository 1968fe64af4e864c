/- The document's tree: all that is in a box; a list without one, and with one more. -/
import Derived.Test.YtbkocceemfhhbaaTrDoc
namespace Go.Proofs.Ytbkocceemfhhbaa.Fix
open Go.ChangeShapes Go.WideShapes Go.ChangeAt Go.RowKit Go.Deep Go.Joins Go.Shelf
set_option linter.unusedVariables false
set_option linter.unusedSimpArgs false
set_option maxRecDepth 100000

/-- what is told of a box, and of its first k kids -/
def insideK (T : Tr.T) (f : Nat) (x : Int) (l : List Int) (k : Nat) : List Int := x :: (l.take k).flatMap (Tr.sub T f)
theorem insideK_succ (T : Tr.T) (f : Nat) (x : Int) {l : List Int} {k : Nat} (h : k < l.length) : insideK T f x l (k + 1) = insideK T f x l k ++ Tr.sub T f (l.getD k 0) := by
  unfold insideK
  rw [take_snoc_int l k h, List.flatMap_append]
  simp
theorem insideK_le (T : Tr.T) (f : Nat) (x : Int) (l : List Int) {k : Nat} (h : k ≤ l.length) : (insideK T f x l k).length ≤ (insideK T f x l l.length).length := by
  unfold insideK
  rw [List.take_length]
  have e : l = l.take k ++ l.drop k := (List.take_append_drop k l).symm
  have := congrArg (fun z : List Int => (z.flatMap (Tr.sub T f)).length) e
  simp only [List.flatMap_append, List.length_append] at this
  simp only [List.length_cons]
  omega

set_option maxHeartbeats 4000000 in
theorem dinside_any (f : Nat) : ∀ (x : Int) {W : World} {r g c m : Nat} {K : Int → Value} {T : Tr.T}, Doc W r g c m K T → Tr.Fit T f x → (Tr.sub T f x).length ≤ 10000 → Calls Try.prog 25 #[.pointer (some ⟨r, 0, none⟩), .int .i64 x] W fun e w' => (∃ v, e = .returned v ∧ w'.ownsRow W.heap.size 3 1 v (Tr.sub T f x).length ((Tr.sub T f x).map (Value.int .i64))) ∧ Below W.heap.size W w' := by
  induction f with
  | zero => intro x W r g c m K T _ h; exact h.elim
  | succ f ih =>
    intro x W r g c m K T h hfit hlen
    obtain ⟨nd, hT, hk⟩ := hfit
    have key := dhas_any h x
    rw [isSome_of hT] at key
    have hsub := Tr.sub_some (f := f) hT
    have hall : Hid (Tr.sub T (f + 1) x = insideK T f x nd.kids nd.kids.length) := Lib.hid (by rw [hsub]; unfold insideK; rw [List.take_length])
    have hrow := h.row _ _ hT
    rw [hall.out] at hlen
    rw [hall.out]
    have hle := fun k (hk : k ≤ nd.kids.length) => insideK_le T f x nd.kids hk
    have hkl : nd.kids.length ≤ 10000 := by
      have : ∀ (l : List Int), (∀ y ∈ l, Tr.Fit T f y) → l.length ≤ (l.flatMap (Tr.sub T f)).length := fun l => by
        induction l with
        | nil => intro _; simp
        | cons y l ihl =>
          intro hy
          have h1 := ihl fun z hz => hy z (List.mem_cons_of_mem _ hz)
          have h2 : 0 < (Tr.sub T f y).length := by
            cases f with
            | zero => exact (hy y List.mem_cons_self).elim
            | succ f => obtain ⟨yd, hyd, _⟩ := hy y List.mem_cons_self; rw [Tr.sub_some hyd]; simp
          simp only [List.flatMap_cons, List.length_append, List.length_cons]
          omega
      have h1 := this nd.kids hk
      unfold insideK at hlen
      rw [List.take_length, List.length_cons] at hlen
      omega
    obtain ⟨i, rfl, him⟩ := h.nat hT
    have c0 := h.cT
    have hB0 : Below W.heap.size W (W.alloc (.cells #[.int .i64 (i : Int)] 3)) := Below.alloc' (Below.refl _ _) _
    have hown0 : (W.alloc (.cells #[.int .i64 (i : Int)] 3)).ownsRow W.heap.size 3 1 (.slice (some ⟨W.heap.size, 0, none⟩) 1 1) 1 [.int .i64 (i : Int)] := own_made (Nat.le_refl _) rfl (by omega)
    have HD := Lib.hid h
    have HT := Lib.hid hT
    have HLE := Lib.hid hle
    have HK := Lib.hid hk
    have HLEN := Lib.hid hlen
    clear h hrow hsub hall hk hle hlen
    generalize hl : nd.kids = l at *
    have HL := Lib.hid hl
    go_enter Try.func25, Try.ntmps25
    go_wp2_with (go_at_call 15; (with_reducible refine key.mono ?_); rintro e w' ⟨rfl, rfl⟩)
    generalize hn : l.length = n at *
    have HN := Lib.hid hn
    clear hl hn c0 key
    go_loopw [5, 6] (fun lv iv wr => ∃ k : Nat, k ≤ n ∧ iv = .int .i64 (k : Int) ∧ wr.ownsRow W.heap.size 3 1 lv (insideK T f (i : Int) l k).length ((insideK T f (i : Int) l k).map (Value.int .i64)) ∧ Below W.heap.size W wr) (fun _ iv _ => n - (intOf iv).toNat)
    case atStart => exact ⟨0, by omega, rfl, hown0, hB0⟩
    case round =>
      clear hown0 hB0
      obtain ⟨k, hk, rfl, hown, hb⟩ := hrel
      have hd := HD.out.after hb
      have c0 := hd.cT
      have c1 := hd.cKids HT.out
      have hks := hd.row _ _ HT.out
      obtain ⟨A, cc, hs, hI, _⟩ := hks.ints
      rw [hs] at c1
      rw [HL.out, HN.out] at c1
      rw [HL.out] at hI
      have HB := Lib.hid hb
      have HOWN := Lib.hid hown
      have hsz := hb.size
      by_cases hlt : k < n
      · have hltz : (k : Int) < (n : Int) := by omega
        obtain ⟨b6, o6, rfl, lb6, hcell6⟩ := hI.at_ (k := k) (by rw [HN.out]; exact hlt)
        have hmem : l.getD k 0 ∈ l := by
          rw [List.getD, List.getElem?_eq_getElem (by rw [HN.out]; exact hlt)]; exact List.getElem_mem _
        have hfk := HK.out _ hmem
        have hstep := Lib.hid (insideK_succ T f (i : Int) (k := k) (by rw [HN.out]; exact hlt) (l := l))
        have hl1 := HLE.out (k + 1) (by omega)
        have hl2 := HLEN.out
        rw [hstep.out, List.length_append] at hl1
        have keyI := ih (l.getD k 0) hd hfk (by omega)
        generalize l.getD k 0 = y at *
        have hlim : Hid ((insideK T f (i : Int) l k).length + (Tr.sub T f y).length ≤ 100000) := Lib.hid (by omega)
        clear hd hks hs hI hown hb hmem hfk hl1 hl2
        go_wp2_with (first | (go_at_call 25; (with_reducible refine keyI.mono ?_); rintro e w5 ⟨⟨v2, rfl, ho2⟩, hb5⟩; obtain ⟨A2, c2, rfl, hI2, _, _, hcn2⟩ := KS.ints (rowBase ho2 (Nat.zero_le _)); obtain ⟨v', w', hr, ho', hb', hs'⟩ := append_ints (w0 := W) (base := W.heap.size) (ownsRow_out (M := fun _ => False) HOWN.out (fun _ _ q => q) (Out.of_below hb5)) (HB.out.trans (hb5.mono hsz)) (Nat.le_trans hsz hb5.size) hI2 rfl hcn2 hlim.out; have HR := Lib.hid hr; have HO := Lib.hid ho'; have HB' := Lib.hid hb'; clear hr ho' hb' hs' ho2 hI2 hb5) | (at_builtin; refine wpList_append_run (by rfl) _ _ 50 rfl rfl rfl HR.out ?_))
        go_roundw
        case rel => exact ⟨k + 1, by omega, by go_num, by rw [hstep.out, List.length_append]; exact HO.out, HB'.out⟩
        case measure => simp [intOf]; omega
      · have hltz : ¬ (k : Int) < (n : Int) := by omega
        obtain rfl : k = n := by omega
        clear hd hks hs hI hown hb
        go_wp2
        go_ret
        rw [HN.out]
        exact ⟨⟨_, rfl, HOWN.out⟩, HB.out⟩

theorem dlen_any {W : World} {r g c m : Nat} {K : Int → Value} {T : Tr.T} (h : Doc W r g c m K T) (H : Tr.WF T) : Calls Try.prog 52 #[.pointer (some ⟨r, 0, none⟩)] W fun e w' => e = .returned (.int .i64 ((Tr.ord T).length : Int)) ∧ Below W.heap.size W w' := by
  have key := dinside_any 64 0 h H.fit0 (by have := H.ord_small; unfold Tr.ord at this; omega)
  change Calls _ _ _ _ (fun e w' => (∃ v, e = .returned v ∧ w'.ownsRow _ _ 1 v (Tr.ord T).length ((Tr.ord T).map (Value.int .i64))) ∧ _) at key
  generalize Tr.ord T = l at *
  clear h
  go_enter Try.func52, Try.ntmps52
  go_wp2_with (go_at_call 25; (with_reducible refine key.mono ?_); rintro e w1 ⟨⟨v, rfl, ho⟩, hb⟩; obtain ⟨A, c1, rfl⟩ := own_sliceR ho)
  go_ret
  exact ⟨rfl, hb⟩

set_option maxHeartbeats 4000000 in
theorem dwithout_any {w : World} {v : Value} {l : List Int} (h : KS w v l) (hl : l.length ≤ 10000) (x : Int) : Calls Try.prog 49 #[v, .int .i64 x] w fun e w' => (∃ v', e = .returned v' ∧ w'.ownsRow w.heap.size 3 1 v' (Tr.wo l x).length ((Tr.wo l x).map (Value.int .i64))) ∧ Below w.heap.size w w' := by
  obtain ⟨A, c, rfl, hI, _⟩ := h.ints
  have HI := Lib.hid hI
  clear h hI
  generalize hn : l.length = n at *
  have HN := Lib.hid hn
  clear hn
  go_enter Try.func49, Try.ntmps49
  go_wp2
  go_loopw [5, 6] (fun ov iv wr => ∃ k : Nat, k ≤ n ∧ iv = .int .i64 (k : Int) ∧ wr.ownsRow w.heap.size 3 1 ov (Tr.wo (l.take k) x).length ((Tr.wo (l.take k) x).map (Value.int .i64)) ∧ Below w.heap.size w wr) (fun _ iv _ => n - (intOf iv).toNat)
  case atStart => exact ⟨0, by omega, rfl, World.ownsRow_nil _ _ _ _, Below.refl _ _⟩
  case round =>
    obtain ⟨k, hk, rfl, hown, hb⟩ := hrel
    by_cases hlt : k < n
    · have hltz : (k : Int) < (n : Int) := by omega
      obtain ⟨b6, o6, rfl, lb6, hcell6⟩ := (HI.out.after hb).at_ (k := k) (by rw [HN.out]; exact hlt)
      have hstep : Hid (Tr.wo (l.take (k + 1)) x = Tr.wo (l.take k) x ++ if l.getD k 0 = x then [] else [l.getD k 0]) := Lib.hid (by
        rw [take_snoc_int l k (by rw [HN.out]; exact hlt)]
        unfold Tr.wo
        rw [List.filter_append]
        congr 1
        generalize l.getD k 0 = y
        by_cases e : y = x
        · rw [if_pos e]; simp [e]
        · rw [if_neg e]; simp [e])
      have hlw : (Tr.wo (l.take k) x).length ≤ 10000 := Nat.le_trans (List.length_filter_le _ _) (by rw [List.length_take]; omega)
      generalize l.getD k 0 = y at *
      have HB := Lib.hid hb
      have HOWN := Lib.hid hown
      by_cases hyx : y = x
      · rw [if_pos hyx, List.append_nil] at hstep
        subst hyx
        clear hown hb
        go_wp2
        go_roundw
        case rel => exact ⟨k + 1, by omega, by go_num, by rw [hstep.out]; exact HOWN.out, HB.out⟩
        case measure => simp [intOf]; omega
      · rw [if_neg hyx] at hstep
        have hyxb : (y == x) = false := by simpa using hyx
        have hll : Hid ((Tr.wo (l.take (k + 1)) x).length = (Tr.wo (l.take k) x).length + 1) := Lib.hid (by rw [hstep.out]; simp)
        obtain ⟨v', w', hr, ho', hb', hs'⟩ := append_int y hown hb hb.size hlw
        have HR := Lib.hid hr
        have HO := Lib.hid ho'
        have HB' := Lib.hid hb'
        clear hown hb hr ho' hb' hs'
        go_wp2_with (at_builtin; refine wpList_append_run (by rfl) _ _ 50 rfl rfl rfl HR.out ?_)
        go_roundw
        case rel => exact ⟨k + 1, by omega, by go_num, by rw [hll.out, hstep.out]; exact HO.out, HB'.out⟩
        case measure => simp [intOf]; omega
    · have hltz : ¬ (k : Int) < (n : Int) := by omega
      obtain rfl : k = n := by omega
      rw [List.take_of_length_le (by rw [HN.out]; exact Nat.le_refl _)] at hown
      have HB := Lib.hid hb
      have HOWN := Lib.hid hown
      clear hown hb
      go_wp2
      go_ret
      exact ⟨⟨_, rfl, HOWN.out⟩, HB.out⟩

set_option maxHeartbeats 4000000 in
theorem dwith_any {w : World} {v : Value} {l : List Int} {i : Nat} (h : KS w v l) (hl : l.length ≤ 10000) (hi : i ≤ l.length) (x : Int) : Calls Try.prog 50 #[v, .int .i64 (i : Int), .int .i64 x] w fun e w' => (∃ v', e = .returned v' ∧ w'.ownsRow w.heap.size 3 1 v' (Tr.wi l i x).length ((Tr.wi l i x).map (Value.int .i64))) ∧ Below w.heap.size w w' := by
  obtain ⟨A, c, rfl, hI, hlc, _, hcn⟩ := h.ints
  have F1 := Lib.hid (slice_upto A l.length c i (by omega))
  have F2 := Lib.hid (slice_from A l.length c i hi)
  have U1 := hI.upto i c hi hlc
  have U2 := fun W (hb : Below w.heap.size w W) => (hI.after hb).from_ i c hi hlc
  have N1 : (if c = 0 then A else A.map (·.add (0 * 1))) = none → c = 0 := fun h => by
    split at h
    · assumption
    · cases A with
      | none => exact hcn rfl
      | some _ => cases h
  have N2 : (if c = i then A else A.map (·.add (i * 1))) = none → c - i = 0 := fun h => by
    split at h
    · omega
    · cases A with
      | none => have := hcn rfl; omega
      | some _ => cases h
  generalize (if c = 0 then A else A.map (·.add (0 * 1))) = B1 at *
  generalize (if c = i then A else A.map (·.add (i * 1))) = B2 at *
  obtain ⟨v1, w1, hr1, ho1, hb1, hs1⟩ := append_ints (w0 := w) (base := w.heap.size) (xs := []) (World.ownsRow_nil _ _ _ _) (Below.refl _ _) (Nat.le_refl _) U1 (m := i) (by rw [List.length_take]; omega) N1 (by omega)
  obtain ⟨v2, w2, hr2, ho2, hb2, hs2⟩ := append_int x ho1 hb1 hs1 (by omega)
  obtain ⟨v3, w3, hr3, ho3, hb3, hs3⟩ := append_ints ho2 hb2 hs2 (U2 w2 hb2) (m := l.length - i) (by rw [List.length_drop]) N2 (by omega)
  have e : (([] ++ l.take i) ++ [x]) ++ l.drop i = Tr.wi l i x := by unfold Tr.wi; simp
  have e2 : 0 + i + 1 + (l.length - i) = (Tr.wi l i x).length := by rw [Tr.length_wi]; omega
  rw [e, e2] at ho3
  have HR1 := Lib.hid hr1
  have HR2 := Lib.hid hr2
  have HR3 := Lib.hid hr3
  have HO := Lib.hid ho3
  have HB := Lib.hid hb3
  clear hr1 hr2 hr3 ho1 ho2 ho3 hb1 hb2 hb3 hs1 hs2 hs3 U1 U2 N1 N2 h hI hcn e e2 hlc
  generalize Tr.wi l i x = l2 at *
  generalize l.length = n at *
  go_enter Try.func50, Try.ntmps50
  go_upto_region 3 with (first | (refine wpList_sliced rfl (by rfl) (F1.out _) ?_) | (at_builtin; refine wpList_append_run (by rfl) _ _ 50 rfl rfl rfl HR1.out ?_))
  go_upto_region 4 with (at_builtin; refine wpList_append_run (by rfl) _ _ 50 rfl rfl rfl HR2.out ?_)
  go_wp2_with (first | (refine wpList_sliced rfl (by rfl) (F2.out _) ?_) | (at_builtin; refine wpList_append_run (by rfl) _ _ 50 rfl rfl rfl HR3.out ?_))
  go_ret
  exact ⟨⟨_, rfl, HO.out⟩, HB.out⟩

end Go.Proofs.Ytbkocceemfhhbaa.Fix
