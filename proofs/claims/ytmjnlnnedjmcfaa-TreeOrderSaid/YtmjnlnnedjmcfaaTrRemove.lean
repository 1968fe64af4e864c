/- The contract of Remove of a tree. -/
import Derived.Test.YtmjnlnnedjmcfaaTrMove
namespace Go.Proofs.Ytmjnlnnedjmcfaa.Fix
open Go.ChangeShapes Go.WideShapes Go.ChangeAt Go.RowKit Go.Shelf
set_option linter.unusedVariables false
set_option linter.unusedSimpArgs false
set_option maxRecDepth 100000

theorem del_del (T : Tr.T) (l : List Int) {k : Nat} {z : Int} (hz : l[k]? = some z) : Tr.del (Tr.del T (l.take k)) [z] = Tr.del T (l.take (k + 1)) := by
  funext y
  have : y ∈ l.take (k + 1) ↔ y ∈ l.take k ∨ y = z := by rw [List.take_add_one, hz]; simp
  simp only [Tr.del, List.mem_singleton, this]
  by_cases h1 : y = z <;> by_cases h2 : y ∈ l.take k <;> simp [h1, h2]
theorem del_nil (T : Tr.T) : Tr.del T [] = T := by funext y; simp [Tr.del]
theorem owned_del {t : Nat} {L : Lay} {T : Tr.T} {l : List Int} {b : Nat} (h : owned t L (Tr.del T l) b) : owned t L T b := by
  rcases h with h | h | ⟨z, nd, hz, h⟩
  · exact .inl h
  · exact .inr (.inl h)
  · refine .inr (.inr ⟨z, nd, ?_, h⟩)
    unfold Tr.del at hz
    split at hz
    · cases hz
    · exact hz

/-- v is a row of the numbers l, and none of a tree's blocks -/
structure Kept (W : World) (t : Nat) (L : Lay) (T : Tr.T) (v : Value) (l : List Int) : Prop where
  row : KS W v l
  own : ∀ g, v.ownBlock = some g → ¬ owned t L T g
theorem Kept.grow {W W' : World} {t : Nat} {L L' : Lay} {T T' : Tr.T} {v : Value} {l : List Int} (h : Kept W t L T v l) (k : Grow t L L' T T' W W') : Kept W' t L' T' v l :=
  ⟨h.row.out h.own k.1, fun g hg ho => (k.2 g ho).elim (h.own g hg) fun q => absurd (h.row.lt hg) (by omega)⟩
theorem Kept.after {W W' : World} {t : Nat} {L : Lay} {T : Tr.T} {v : Value} {l : List Int} (h : Kept W t L T v l) (hb : Below W.heap.size W W') : Kept W' t L T v l := ⟨h.row.after hb, h.own⟩
theorem Kept.new {W W' : World} {t n base : Nat} {L : Lay} {T : Tr.T} {v : Value} {l : List Int} (hR : Rep W t L T n) (h : W'.ownsRow base 3 1 v l.length (l.map (Value.int .i64))) (hb : W.heap.size ≤ base) : Kept W' t L T v l :=
  ⟨rowBase h (Nat.zero_le _), fun g hg ho => by have h1 := (World.ownsRow.lt h g hg).1; have h2 := hR.lt ho; omega⟩

set_option maxHeartbeats 4000000 in
theorem tremove_any {w : World} {t n : Nat} {L : Lay} {T : Tr.T} (h : Inv w t L T n) {x : Int} (hxw : Wf x) : Calls Try.prog 30 #[.pointer (some ⟨t, 0, none⟩), .int .i64 x] w fun e w' => e = .returned (.tuple #[.int .i64 (Tr.remI T x), .int .i64 (Tr.remE T x)]) ∧ ∃ L' n', Inv w' t L' (Tr.remR T x) n' ∧ n' ≤ n ∧ Grow t L L' T (Tr.remR T x) w w' := by
  have key := thas_any h.rep hxw
  have same : ∀ e, Tr.remE T x = e → e ≠ 0 → Tr.remR T x = T ∧ Tr.remI T x = 0 := fun e he hne => by unfold Tr.remR Tr.remI; rw [he, if_neg hne, if_neg hne]; exact ⟨rfl, rfl⟩
  cases hX : T x with
  | none =>
    have hE : Tr.remE T x = 2 := by unfold Tr.remE; rw [hX]
    rw [hE, (same _ hE (by decide)).1, (same _ hE (by decide)).2]
    rw [hX] at key
    have HR := Lib.hid h
    clear h same hE
    go_enter Try.func30, Try.ntmps30
    go_wp2_with (go_at_call 14; (with_reducible refine key.mono ?_); rintro e w' ⟨rfl, rfl⟩)
    go_ret2
    exact ⟨rfl, L, n, HR.out, Nat.le_refl _, Grow.refl _ _ _ _⟩
  | some nd =>
  rw [hX] at key
  by_cases h0 : x = 0
  · have hE : Tr.remE T x = 1 := by unfold Tr.remE; rw [hX]; dsimp only; rw [if_pos h0]
    rw [hE, (same _ hE (by decide)).1, (same _ hE (by decide)).2]
    have HR := Lib.hid h
    clear h same hE
    subst h0
    go_enter Try.func30, Try.ntmps30
    go_wp2_with (go_at_call 14; (with_reducible refine key.mono ?_); rintro e w' ⟨rfl, rfl⟩)
    go_ret2
    exact ⟨rfl, L, n, HR.out, Nat.le_refl _, Grow.refl _ _ _ _⟩
  have h0b : (x == 0) = false := by simpa using h0
  have hE : Tr.remE T x = 0 := by unfold Tr.remE; rw [hX]; dsimp only; rw [if_neg h0]
  have hI : Tr.remI T x = (Tr.sub T 64 x).length := by unfold Tr.remI; rw [hE, if_pos rfl]
  have hR : Tr.remR T x = Tr.del (Tr.leave T x) (Tr.sub T 64 x) := by unfold Tr.remR; rw [hE, if_pos rfl]; rfl
  have HWR := h.wf.remR x
  rw [hE, hI, hR]
  rw [hI, hR] at HWR
  obtain ⟨q, hq, hqm⟩ := h.wf.up x nd hX h0
  obtain ⟨i, hi⟩ := List.mem_iff_getElem?.1 hqm
  have keyL := tleave_any h.rep hX hq hi (h.wf.nodup _ _ hq)
  obtain ⟨hfit, hsub, _⟩ := h.wf.leave_sub hX h0
  have hnd := h.wf.nodup_sub (h.wf.fit64 hX)
  have hlive : ∀ z, z ∈ Tr.sub T 64 x → Tr.leave T x z ≠ none := fun z hz => by
    obtain ⟨zd, hzd⟩ := ((h.wf.mem_sub (h.wf.fit64 hX)).1 hz).live
    rw [Tr.leave_at hX hq]
    split
    · simp
    · rw [hzd]; simp
  have hlen : (Tr.sub T 64 x).length ≤ n := by have := h.wf.rem_ord hX h0; have := h.num; omega
  have hos := h.wf.ord_small
  have hn := h.num
  have KC := Lib.hid fun W L' tb ib (hb : Rep W t L' (Tr.leave T x) n) htb hib => collect_any (tb := tb) (ib := ib) hb hfit (by rw [hsub]; omega) htb hib
  rw [hsub] at KC
  have HN := Lib.hid hn
  have HWR2 := Lib.hid HWR
  have HND := Lib.hid hnd
  have HLIVE := Lib.hid hlive
  have hn4 : n ≤ 4096 := by omega
  clear h same hE hI hR HWR hq hqm hi hX hfit hsub hnd hos hn hlive h0
  generalize Tr.sub T 64 x = l at *
  generalize Tr.leave T x = T1 at *
  generalize hm : l.length = m at *
  have HM := Lib.hid hm
  clear hm
  go_enter Try.func30, Try.ntmps30
  go_upto_region 7 with (first | (go_at_call 14; (with_reducible refine key.mono ?_); rintro e w' ⟨rfl, rfl⟩) | (go_at_call 42; (with_reducible refine keyL.mono ?_); rintro e w1 ⟨⟨v, rfl⟩, L1, hr1, hg1⟩; have HR1 := Lib.hid hr1; have HG1 := Lib.hid hg1; clear hr1 hg1) | (go_at_call 41; (with_reducible refine (whole_any _ _ _).mono ?_); rintro e w2 ⟨rfl, rfl⟩) | (go_at_call 40; (with_reducible refine (KC.out _ _ _ _ (HR1.out.after (Below.alloc' (Below.alloc' (Below.refl _ _) _) _)) ((At.new w1 _).alloc _) (At.new' (b := w1.heap.size + 1) _ (by simp))).mono ?_); rintro e w3 ⟨⟨v3, rfl, ho⟩, hb3⟩))
  have hb13 := (Below.alloc' (Below.alloc' (Below.refl w1.heap.size w1) (.cells #[.pointer (some ⟨t, 0, none⟩)] 24)) (.cells #[.int .i64 x] 3)).trans (hb3.mono (by simp; omega))
  have hr3 := HR1.out.after hb13
  have hK : Kept w3 t L1 T1 v3 l := Kept.new HR1.out (by rw [HM.out]; exact ho) (by simp; omega)
  have HG3 := Lib.hid (HG1.out.trans (Grow.of_below hb13))
  have HR3 := Lib.hid hr3
  have HK3 := Lib.hid hK
  obtain ⟨A, c, hv, _⟩ := hK.row.ints
  rw [HM.out] at hv
  subst hv
  clear HG1 HR1 ho hb3 hb13 hr3 hK KC key keyL
  go_wp2
  go_loopw [26] (fun i wr => ∃ k : Nat, k ≤ m ∧ i = .int .i64 k ∧ Rep wr t L1 (Tr.del T1 (l.take k)) (n - k) ∧ Kept wr t L1 T1 (.slice A m c) l ∧ Grow t L1 L1 T1 (Tr.del T1 (l.take k)) w3 wr) (fun i _ => m - (intOf i).toNat)
  case atStart => exact ⟨0, by omega, rfl, by rw [List.take_zero, del_nil]; exact HR3.out, HK3.out, by rw [List.take_zero, del_nil]; exact Grow.refl _ _ _ _⟩
  case round =>
    obtain ⟨k, hk, rfl, hRr, hKr, hGr⟩ := hrel
    by_cases hlt : k < m
    · have hltz : (k : Int) < (m : Int) := by omega
      obtain ⟨b, o, rfl, lb, hcell⟩ := (KS.ints_of hKr.row).1.at_ (k := k) (by rw [HM.out]; exact hlt)
      have hgk : l[k]? = some (l.getD k 0) := by rw [List.getD, List.getElem?_eq_getElem (by rw [HM.out]; exact hlt)]; rfl
      have hzl : l.getD k 0 ∈ l := List.mem_iff_getElem?.2 ⟨k, hgk⟩
      have hlv : Tr.del T1 (l.take k) (l.getD k 0) ≠ none := by
        have hnt : l.getD k 0 ∉ l.take k := fun hm => by
          obtain ⟨j, hj⟩ := List.mem_iff_getElem?.1 hm
          have hjk : j < k := by
            obtain ⟨hj2, _⟩ := List.getElem?_eq_some_iff.1 hj
            simp at hj2; omega
          rw [List.getElem?_take, if_pos hjk] at hj
          obtain ⟨h1, h2⟩ := List.getElem?_eq_some_iff.1 hj
          obtain ⟨h3, h4⟩ := List.getElem?_eq_some_iff.1 hgk
          have := (List.getElem_inj HND.out).1 (h2.trans h4.symm)
          omega
        unfold Tr.del
        rw [if_neg hnt]
        exact HLIVE.out _ hzl
      have hdd := del_del T1 l hgk
      generalize l.getD k 0 = z at *
      obtain ⟨zd, hzd⟩ := Option.ne_none_iff_exists'.1 hlv
      obtain ⟨W', hdel, hp, hO, _⟩ := hRr.map.drop (hRr.wf hzd) (by rw [hzd]; rfl) 0
      obtain ⟨hr2, hg2⟩ := hRr.drop hO hp
      rw [hdd] at hr2 hg2
      have c0 := hRr.cT
      have hR2 := Lib.hid hr2
      have hG2 := Lib.hid (hGr.trans hg2)
      have hK2 := Lib.hid (hKr.grow (T' := T1) (L' := L1) ⟨hg2.1.mono fun b _ ho => owned_del ho, fun b ho => .inl ho⟩)
      clear hRr hKr hGr hr2 hg2 hdd hp hO hzd hlv hzl hgk
      go_wp2
      go_round
      case rel => exact ⟨k + 1, by omega, by go_num, by rw [show n - (k + 1) = n - k - 1 by omega]; exact hR2.out, hK2.out, hG2.out⟩
      case measure => simp [intOf]; omega
    · obtain rfl : k = m := by omega
      go_wp2
      go_ret2
      rw [List.take_of_length_le (by rw [HM.out]; exact Nat.le_refl _)] at hRr hGr
      refine ⟨rfl, L1, n - k, ⟨hRr, HWR2.out.1, ?_⟩, by omega, HG3.out.trans hGr⟩
      have h1 := HWR2.out.2
      have h2 := HN.out
      omega

end Go.Proofs.Ytmjnlnnedjmcfaa.Fix
