/- The statement PaintOrders, walked. -/
import Derived.Test.YtbmidmpooooheaaPaPaint
namespace Go.Proofs.Ytbmidmpooooheaa.Fix
open Go.ChangeShapes Go.WideShapes Go.ChangeAt Go.RowKit Go.Deep Go.Joins
set_option linter.unusedVariables false
set_option linter.unusedSimpArgs false
set_option maxRecDepth 100000

theorem rpaint_any {A : Option Addr} {l : Nat → PNd} {n c : Nat} (hn : n ≤ 1000) (V : PV l n) : ∀ f, RPaint A l n c f := by
  intro f
  induction f with
  | zero => intro w a _ h1 h2; omega
  | succ f ih => exact rpaint_step hn V ih
set_option maxHeartbeats 4000000 in
theorem rporder_any {w : World} {A : Option Addr} {l : Nat → PNd} {n c : Nat} (h : PSl w A l n c) (hn : n ≤ 1000) : Calls Try.prog 12 #[.slice A n c] w fun e w' => (∃ v, e = .returned v ∧ w'.ownsRow w.heap.size 3 1 v (pord l n).length ((pints (pord l n)).map (Value.int .i64))) ∧ Below w.heap.size w w' := by
  have HS := Lib.hid h
  clear h
  by_cases h0 : n = 0
  · have e : pord l n = [] := by
      subst h0
      rw [pord_some (fun i hi => absurd hi (by omega))]
      rfl
    rw [e]
    subst h0
    go_enter Try.func12, Try.ntmps12
    go_wp2
    go_ret
    exact ⟨⟨_, rfl, by simpa [pints] using World.ownsRow_nil _ _ _ _⟩, Below.refl _ _⟩
  have hnz : ((n : Int) == 0) = false := by simpa using h0
  cases hv : pvB l n with
  | false =>
    have e : pord l n = [] := by unfold pord; rw [if_neg (by rw [hv]; simp)]
    rw [e]
    go_enter Try.func12, Try.ntmps12
    go_wp2_with (go_at_call 14; (with_reducible refine (rpvalid_any HS.out hn).mono ?_); rintro e w' ⟨rfl, rfl⟩)
    go_ret
    exact ⟨⟨_, rfl, by simpa [pints] using World.ownsRow_nil _ _ _ _⟩, Below.refl _ _⟩
  | true =>
    have V := pvB_iff.1 hv
    have e : pord l n = Pa.paint n (pla l) (ply l) (pz l) n 0 := by rw [pord_some V]; unfold Pa.order; rw [if_neg h0]
    have kP := rpaint_any (A := A) (c := c) hn V n w 0 HS.out (by omega) (by omega)
    rw [← e, show ((0 : Nat) : Int) = 0 from rfl] at kP
    generalize pord l n = o at *
    clear e V
    go_enter Try.func12, Try.ntmps12
    go_wp2_with (first | (go_at_call 14; (with_reducible refine (rpvalid_any HS.out hn).mono ?_); rintro e w' ⟨rfl, rfl⟩) | (go_at_call 22; (with_reducible refine kP.mono ?_); rintro e w2 ⟨⟨v2, rfl, ho2⟩, hb2⟩))
    go_ret
    exact ⟨⟨_, rfl, ho2⟩, hb2⟩

/-- what Find answers -/
def Fnd (o : List Nat) (n : Nat) (x r : Int) : Prop := (∃ i : Nat, r = i ∧ i < n ∧ ((o.getD i 0 : Nat) : Int) = x ∧ ∀ j, j < i → ((o.getD j 0 : Nat) : Int) ≠ x) ∨ (r = -1 ∧ ∀ j, j < n → ((o.getD j 0 : Nat) : Int) ≠ x)
theorem fnd_ex (o : List Nat) (x : Int) : ∀ n, ∃ r, Fnd o n x r := by
  intro n
  induction n with
  | zero => exact ⟨-1, .inr ⟨rfl, fun j hj => absurd hj (by omega)⟩⟩
  | succ n ih =>
    obtain ⟨r, h⟩ := ih
    rcases h with ⟨i, e, h1, h2, h3⟩ | ⟨e, h⟩
    · exact ⟨r, .inl ⟨i, e, by omega, h2, h3⟩⟩
    · by_cases q : ((o.getD n 0 : Nat) : Int) = x
      · exact ⟨n, .inl ⟨n, rfl, by omega, q, h⟩⟩
      · exact ⟨-1, .inr ⟨rfl, fun j hj => by rcases (by omega : j < n ∨ j = n) with k | rfl; · exact h j k
                                             · exact q⟩⟩
/-- who is ahead, by where both are -/
theorem fnd_bef {l : Nat → PNd} {n m : Nat} (hm : (pord l n).length = m) {a b p q : Int} (hp : Fnd (pord l n) m a p) (hq : Fnd (pord l n) m b q) : (pbef l n a b = true ↔ 0 ≤ p ∧ 0 ≤ q ∧ p < q) ∧ -1 ≤ p ∧ -1 ≤ q := by
  have nd : (pord l n).Nodup := by
    by_cases h : PV l n
    · exact pord_nodup h
    · unfold pord; rw [if_neg (fun q => h (pvB_iff.1 q))]; exact List.nodup_nil
  have at_ : ∀ i, i < m → (pord l n)[i]? = some ((pord l n).getD i 0) := fun i hi => by rw [List.getD, List.getElem?_eq_getElem (by rw [hm]; exact hi)]; rfl
  have out : ∀ x : Int, (∀ j, j < m → (((pord l n).getD j 0 : Nat) : Int) ≠ x) → 0 ≤ x → x.toNat ∉ pord l n := fun x h h0 hx => by
    obtain ⟨i, hi⟩ := List.mem_iff_getElem?.1 hx
    have him : i < m := by have := (List.getElem?_eq_some_iff.1 hi).1; omega
    rw [at_ i him] at hi
    injection hi with hi
    exact h i him (by rw [hi]; omega)
  have hB : pbef l n a b = true ↔ 0 ≤ a ∧ 0 ≤ b ∧ Pa.Ah (pord l n) a.toNat b.toNat := by unfold pbef; simp
  rw [hB]
  rcases hp with ⟨i, rfl, i1, i2, _⟩ | ⟨rfl, h⟩
  · rcases hq with ⟨j, rfl, j1, j2, _⟩ | ⟨rfl, h⟩
    · subst i2 j2
      have := Pa.ah_places nd (at_ i i1) (at_ j j1)
      rw [Int.toNat_natCast, Int.toNat_natCast, this]
      omega
    · refine ⟨⟨fun ⟨_, h0, k⟩ => absurd k.right (out b h h0), fun q => by omega⟩, by omega, by omega⟩
  · refine ⟨⟨fun ⟨h0, _, k⟩ => absurd k.left (out a h h0), fun q => by omega⟩, by omega, ?_⟩
    rcases hq with ⟨j, rfl, _⟩ | ⟨rfl, _⟩ <;> omega

set_option maxHeartbeats 16000000 in
theorem paorders_walk (C : PaintCode) (a0 : Option Addr) (len0 cap0 : Nat) (a1 a2 : Int) (w : World) (w0 : PRow w a0 len0 cap0) : Calls Try.prog 3 #[.slice a0 len0 cap0, .int .i64 a1, .int .i64 a2] w fun e w' => e = .returned (.bool true) ∧ Below w.heap.size w w' := by
  obtain ⟨l, hS⟩ := w0.sl
  have hn63 := w0.cap
  clear w0
  generalize len0 = n at *
  generalize cap0 = c at *
  have HS := Lib.hid hS
  clear hS
  by_cases hbig : (40 : Int) < (n : Int)
  · go_enter Try.func3, Try.ntmps3
    go_wp2_with (first | (go_at_call 10; (with_reducible refine (paworks_any C _).mono ?_); rintro e w1 ⟨rfl, hB⟩))
    go_ret; exact ⟨rfl, hB⟩
  have hn50 : n ≤ 50 := by omega
  have hn : n ≤ 1000 := by omega
  have hom : (pord l n).length ≤ 1000 := Nat.le_trans pord_le hn
  obtain ⟨p, hp⟩ := fnd_ex (pord l n) a1 (pord l n).length
  obtain ⟨q, hq⟩ := fnd_ex (pord l n) a2 (pord l n).length
  obtain ⟨hbe, hp1, hq1⟩ := fnd_bef rfl hp hq
  have HF1 := Lib.hid hp
  have HF2 := Lib.hid hq
  have HBE := Lib.hid hbe
  have HOM := Lib.hid hom
  have KO := Lib.hid fun W (hb : Below w.heap.size w W) => C.order W _ l n c (HS.out.after hb) hn50
  clear hp hq hbe hom
  go_enter Try.func3, Try.ntmps3
  go_upto_region 8 with (first | (go_at_call 10; (with_reducible refine (paworks_any C _).mono ?_); rintro e w1 ⟨rfl, hB⟩) | (go_at_call 11; (with_reducible refine (paof_any _ l n c _ (HS.out.after hB) (by omega)).mono ?_); rintro e w2 ⟨⟨D, d, rfl, hD⟩, hb2⟩; have HD2 := Lib.hid hD; have HB2 := Lib.hid (hB.trans (hb2.mono hB.size)); clear hD hb2 hB) | (go_at_call 12; (with_reducible refine (rporder_any HD2.out hn).mono ?_); rintro e w3 ⟨⟨v3, rfl, ho3⟩, hb3⟩))
  obtain ⟨Ao, co, rfl, hIo, hlo, _⟩ := rints ho3 (by have := HOM.out; omega)
  have hB := HB2.out.trans (hb3.mono HB2.out.size)
  have HD := Lib.hid (HD2.out.after hb3)
  have HIo := Lib.hid hIo
  have KA := Lib.hid (rpfind_any (c := co) hIo rfl HOM.out a1 p HF1.out)
  have KB := Lib.hid (rpfind_any (c := co) hIo rfl HOM.out a2 q HF2.out)
  have kO := KO.out _ hB
  clear ho3 hb3 HD2 HB2 hIo hlo KO HF1 HF2
  generalize pord l n = o at *
  generalize hom : o.length = m at *
  have HOML := Lib.hid hom
  clear hom
  go_upto_region 11 with (first | (go_at_call 13; first | ((with_reducible refine KA.out.mono ?_); rintro e w' ⟨rfl, rfl⟩) | ((with_reducible refine KB.out.mono ?_); rintro e w' ⟨rfl, rfl⟩)) | (go_at_call 14; (with_reducible refine (rpvalid_any HD.out hn).mono ?_); rintro e w' ⟨rfl, rfl⟩))
  have HBB := Lib.hid hB
  have hM := Below.refl w3.heap.size w3
  have hmm : m ≤ 100000 := by have := HOM.out; omega
  clear KA KB hB
  by_cases x1 : (0 : Int) ≤ p
  · by_cases x2 : (0 : Int) ≤ q
    · by_cases x3 : p < q
      · skip
        have hbe : pbef l n a1 a2 = true := HBE.out.2 ⟨by omega, by omega, by omega⟩
        clear HBE
        go_wp2_with (first | (go_at_call 16; (with_reducible refine kO.mono ?_); rintro e w4 ⟨⟨B4, d4, rfl, hI4⟩, hb⟩; replace hM := hM.trans (hb.mono hM.size); have kR := row_any B4 Ao (pints o) m d4 co _ hI4 (HIo.out.after hM) (by rw [pints_len]; exact HOML.out) (by omega); clear hb) | (go_at_call 15; (with_reducible refine kR.mono ?_); rintro e w5 ⟨rfl, hb⟩; replace hM := hM.trans (hb.mono hM.size); clear hb) | (go_at_call 17; (with_reducible refine (C.valid _ _ l n c (HS.out.after (HBB.out.trans (hM.mono HBB.out.size))) hn50).mono ?_); rintro e w6 ⟨rfl, hb⟩; replace hM := hM.trans (hb.mono hM.size); clear hb) | (go_at_call 18; (with_reducible refine (C.layer _ _ l n c _ (HS.out.after (HBB.out.trans (hM.mono HBB.out.size))) hn50).mono ?_); rintro e w7 ⟨rfl, hb⟩; replace hM := hM.trans (hb.mono hM.size); clear hb) | (go_at_call 19; (with_reducible refine (rplayer_any (HD.out.after hM) hn _).mono ?_); rintro e w' ⟨rfl, rfl⟩) | (go_at_call 20; (with_reducible refine (C.before _ _ l n c _ _ (HS.out.after (HBB.out.trans (hM.mono HBB.out.size))) hn50).mono ?_); rintro e w8 ⟨rfl, hb⟩; replace hM := hM.trans (hb.mono hM.size); clear hb))
        go_ret
        exact ⟨rfl, HBB.out.trans (hM.mono HBB.out.size)⟩
      · have x4 : decide (p < q) = false := decide_eq_false x3
        have hbe : pbef l n a1 a2 = false := by
          cases e : pbef l n a1 a2 with
          | false => rfl
          | true => have := HBE.out.1 e; omega
        clear HBE
        go_wp2_with (first | (go_at_call 16; (with_reducible refine kO.mono ?_); rintro e w4 ⟨⟨B4, d4, rfl, hI4⟩, hb⟩; replace hM := hM.trans (hb.mono hM.size); have kR := row_any B4 Ao (pints o) m d4 co _ hI4 (HIo.out.after hM) (by rw [pints_len]; exact HOML.out) (by omega); clear hb) | (go_at_call 15; (with_reducible refine kR.mono ?_); rintro e w5 ⟨rfl, hb⟩; replace hM := hM.trans (hb.mono hM.size); clear hb) | (go_at_call 17; (with_reducible refine (C.valid _ _ l n c (HS.out.after (HBB.out.trans (hM.mono HBB.out.size))) hn50).mono ?_); rintro e w6 ⟨rfl, hb⟩; replace hM := hM.trans (hb.mono hM.size); clear hb) | (go_at_call 18; (with_reducible refine (C.layer _ _ l n c _ (HS.out.after (HBB.out.trans (hM.mono HBB.out.size))) hn50).mono ?_); rintro e w7 ⟨rfl, hb⟩; replace hM := hM.trans (hb.mono hM.size); clear hb) | (go_at_call 19; (with_reducible refine (rplayer_any (HD.out.after hM) hn _).mono ?_); rintro e w' ⟨rfl, rfl⟩) | (go_at_call 20; (with_reducible refine (C.before _ _ l n c _ _ (HS.out.after (HBB.out.trans (hM.mono HBB.out.size))) hn50).mono ?_); rintro e w8 ⟨rfl, hb⟩; replace hM := hM.trans (hb.mono hM.size); clear hb))
        go_ret
        exact ⟨rfl, HBB.out.trans (hM.mono HBB.out.size)⟩
    · skip
      have hbe : pbef l n a1 a2 = false := by
        cases e : pbef l n a1 a2 with
        | false => rfl
        | true => have := HBE.out.1 e; omega
      clear HBE
      go_wp2_with (first | (go_at_call 16; (with_reducible refine kO.mono ?_); rintro e w4 ⟨⟨B4, d4, rfl, hI4⟩, hb⟩; replace hM := hM.trans (hb.mono hM.size); have kR := row_any B4 Ao (pints o) m d4 co _ hI4 (HIo.out.after hM) (by rw [pints_len]; exact HOML.out) (by omega); clear hb) | (go_at_call 15; (with_reducible refine kR.mono ?_); rintro e w5 ⟨rfl, hb⟩; replace hM := hM.trans (hb.mono hM.size); clear hb) | (go_at_call 17; (with_reducible refine (C.valid _ _ l n c (HS.out.after (HBB.out.trans (hM.mono HBB.out.size))) hn50).mono ?_); rintro e w6 ⟨rfl, hb⟩; replace hM := hM.trans (hb.mono hM.size); clear hb) | (go_at_call 18; (with_reducible refine (C.layer _ _ l n c _ (HS.out.after (HBB.out.trans (hM.mono HBB.out.size))) hn50).mono ?_); rintro e w7 ⟨rfl, hb⟩; replace hM := hM.trans (hb.mono hM.size); clear hb) | (go_at_call 19; (with_reducible refine (rplayer_any (HD.out.after hM) hn _).mono ?_); rintro e w' ⟨rfl, rfl⟩) | (go_at_call 20; (with_reducible refine (C.before _ _ l n c _ _ (HS.out.after (HBB.out.trans (hM.mono HBB.out.size))) hn50).mono ?_); rintro e w8 ⟨rfl, hb⟩; replace hM := hM.trans (hb.mono hM.size); clear hb))
      go_ret
      exact ⟨rfl, HBB.out.trans (hM.mono HBB.out.size)⟩
  · skip
    have hbe : pbef l n a1 a2 = false := by
      cases e : pbef l n a1 a2 with
      | false => rfl
      | true => have := HBE.out.1 e; omega
    clear HBE
    go_wp2_with (first | (go_at_call 16; (with_reducible refine kO.mono ?_); rintro e w4 ⟨⟨B4, d4, rfl, hI4⟩, hb⟩; replace hM := hM.trans (hb.mono hM.size); have kR := row_any B4 Ao (pints o) m d4 co _ hI4 (HIo.out.after hM) (by rw [pints_len]; exact HOML.out) (by omega); clear hb) | (go_at_call 15; (with_reducible refine kR.mono ?_); rintro e w5 ⟨rfl, hb⟩; replace hM := hM.trans (hb.mono hM.size); clear hb) | (go_at_call 17; (with_reducible refine (C.valid _ _ l n c (HS.out.after (HBB.out.trans (hM.mono HBB.out.size))) hn50).mono ?_); rintro e w6 ⟨rfl, hb⟩; replace hM := hM.trans (hb.mono hM.size); clear hb) | (go_at_call 18; (with_reducible refine (C.layer _ _ l n c _ (HS.out.after (HBB.out.trans (hM.mono HBB.out.size))) hn50).mono ?_); rintro e w7 ⟨rfl, hb⟩; replace hM := hM.trans (hb.mono hM.size); clear hb) | (go_at_call 19; (with_reducible refine (rplayer_any (HD.out.after hM) hn _).mono ?_); rintro e w' ⟨rfl, rfl⟩) | (go_at_call 20; (with_reducible refine (C.before _ _ l n c _ _ (HS.out.after (HBB.out.trans (hM.mono HBB.out.size))) hn50).mono ?_); rintro e w8 ⟨rfl, hb⟩; replace hM := hM.trans (hb.mono hM.size); clear hb))
    go_ret
    exact ⟨rfl, HBB.out.trans (hM.mono HBB.out.size)⟩

end Go.Proofs.Ytbmidmpooooheaa.Fix
