/- The contract of the library's symmetric merge over places that are compared by their keys. -/
import Derived.Test.YtbmidmpooooheaaPaSortSym
set_option maxRecDepth 100000
namespace Go.Proofs.Ytbmidmpooooheaa.Fix
open Go.ChangeShapes Go.WideShapes Go.ChangeAt Go.RowKit
set_option linter.unusedVariables false

/-- Where the search for the cut stands. -/
structure Cut (K : Nat → Int) (X : Nat → Nat) (a m e lo hi s r : Nat) : Prop where
  ahead : ∀ q, lo ≤ q → q < s → So.lt K (X q) (X ((a + e) / 2 + m - 1 - q))
  behind : ∀ q, r ≤ q → q < hi → So.lt K (X ((a + e) / 2 + m - 1 - q)) (X q)

theorem Cut.start (K : Nat → Int) (X : Nat → Nat) (a m e lo hi : Nat) : Cut K X a m e lo hi lo hi := ⟨fun q h1 h2 => by omega, fun q h1 h2 => by omega⟩

theorem Cut.up {K : Nat → Int} {X : Nat → Nat} {a m e lo hi s r h : Nat} (hs : Cut K X a m e lo hi s r) (hX : So.Parts K a m e X) (h1 : a < m) (h2 : m < e) (el : So.cutLo a m e = lo) (eh : So.cutHi a m e = hi) (g1 : lo ≤ h) (g2 : h < hi)
    (hl : So.lt K (X h) (X ((a + e) / 2 + m - 1 - h))) : Cut K X a m e lo hi (h + 1) r :=
  ⟨fun q q1 q2 => by
    have p1 := So.cut_probe h1 h2 (s := h) (by omega) (by omega)
    have p2 := So.cut_probe h1 h2 (s := q) (by omega) (by omega)
    exact hX.right.ge (by omega) (by omega) (by omega) (hX.left.le (by omega) (by omega) (by omega) hl), hs.behind⟩

theorem Cut.down {K : Nat → Int} {X : Nat → Nat} {a m e lo hi s r h : Nat} (hs : Cut K X a m e lo hi s r) (hX : So.Parts K a m e X) (h1 : a < m) (h2 : m < e) (el : So.cutLo a m e = lo) (eh : So.cutHi a m e = hi) (g1 : lo ≤ h) (g2 : h < hi)
    (hl : So.lt K (X ((a + e) / 2 + m - 1 - h)) (X h)) : Cut K X a m e lo hi s h :=
  ⟨hs.ahead, fun q q1 q2 => by
    have p1 := So.cut_probe h1 h2 (s := h) (by omega) (by omega)
    have p2 := So.cut_probe h1 h2 (s := q) (by omega) (by omega)
    exact hX.left.ge (by omega) (by omega) (by omega) (hX.right.le (by omega) (by omega) (by omega) hl)⟩

theorem rot_none (X : Nat → Nat) {s m e : Nat} (h1 : s ≤ m) (h2 : m ≤ e) (h : s = m ∨ m = e) : So.rot X s m e = X := by
  funext k
  unfold So.rot
  (repeat' split) <;> first | rfl | (congr 1; omega)

theorem Parts.congr {K : Nat → Int} {X Y : Nat → Nat} {a m e : Nat} (h : So.Parts K a m e X) (h1 : a ≤ m) (h2 : m ≤ e) (he : ∀ p, a ≤ p → p < e → Y p = X p) : So.Parts K a m e Y :=
  ⟨h.left.congr fun p h1 h2 => he p h1 (by omega), h.right.congr fun p h1 h2 => he p (by omega) h2, fun p q h1 h2 h3 h4 => by rw [he p h1 (by omega), he q (by omega) h4]; exact h.less p q h1 h2 h3 h4⟩

/-- The two halves behind the cut, and all of the one ahead of all of the other. -/
structure Halves (K : Nat → Int) (a s mid en e : Nat) (Z : Nat → Nat) : Prop where
  one : So.Parts K a s mid Z
  two : So.Parts K mid en e Z
  cross : ∀ p q, a ≤ p → p < mid → mid ≤ q → q < e → So.lt K (Z p) (Z q)

theorem halves_end {K : Nat → Int} {a s mid en e : Nat} {Z Y1 Y2 : Nat → Nat} (h : Halves K a s mid en e Z) (h1 : a ≤ mid) (h2 : mid ≤ e) (s1 : So.Sorted K a mid Y1) (k1 : So.Same a mid Z Y1) (s2 : So.Sorted K mid e Y2) (k2 : So.Same mid e Y1 Y2) : So.Sorted K a e Y2 ∧ So.Same a e Z Y2 := by
  refine ⟨So.Sorted.join (s1.congr fun p _ hp => k2.1 p (by omega)) s2 (So.cross_keep2 (So.cross_keep h.cross k1) k2), (k1.mono (Nat.le_refl _) h2).trans (k2.mono h1 (Nat.le_refl _))⟩

/-- What the merge is held to, for stretches no longer than d. -/
abbrev SymOk (b kb : Nat) (A : Option Addr) (ks : PKS) (n c cn d : Nat) : Prop :=
  ∀ (X : Nat → Nat) (a m e : Nat) (w : World), e ≤ a + d → PKeys w b kb A ks n c → IsV ks w b X n → So.Parts (pkey ks) a m e X → (∀ p, a ≤ p → p < e → X p < n) → a < m → m < e → e ≤ n →
    Calls Try.prog 41 #[.slice (some ⟨b, 0, none⟩) n cn, .int .i64 a, .int .i64 m, .int .i64 e, .func (.func 32) #[] #[.pointer (some ⟨kb, 0, none⟩)]] w fun x w' => x = .returned (.tuple #[]) ∧ Only b w w' ∧ ∃ Y, IsV ks w' b Y n ∧ So.Sorted (pkey ks) a e Y ∧ So.Same a e X Y

set_option maxRecDepth 100000 in
set_option maxHeartbeats 4000000 in
theorem psym_midA (b kb : Nat) (A : Option Addr) (ks : PKS) (X : Nat → Nat) (n c cn a m e d : Nat) (w : World) (hi0 : SymOk b kb A ks n c cn d) (hd : e ≤ a + (d + 1)) (hk : PKeys w b kb A ks n c) (hA : IsV ks w b X n) (hX : So.Parts (pkey ks) a m e X) (hb : ∀ p, a ≤ p → p < e → X p < n) (h1 : a + 1 < m) (h2 : m + 1 < e) (h3 : e ≤ n) (hn : n ≤ 100000) (hc0 : (a + e) / 2 < m) :
    Calls Try.prog 41 #[.slice (some ⟨b, 0, none⟩) n cn, .int .i64 a, .int .i64 m, .int .i64 e, .func (.func 32) #[] #[.pointer (some ⟨kb, 0, none⟩)]] w fun x w' => x = .returned (.tuple #[]) ∧ Only b w w' ∧ ∃ Y, IsV ks w' b Y n ∧ So.Sorted (pkey ks) a e Y ∧ So.Same a e X Y := by
  have HX := Lib.hid hX
  have HB := Lib.hid hb
  have HK0 := Lib.hid hk
  have IH := Lib.hid hi0
  clear hX hk hb hi0
  obtain ⟨d1, d11, d12⟩ : ∃ d1, d1 + a ≤ m ∧ m ≤ d1 + a := ⟨m - a, by omega, by omega⟩
  have v0 : IntKind.i64.wrap ((m : Int) - (a : Int)) = (d1 : Int) := by rw [IntWalk.i64_in _ (by omega)]; omega
  have v2 : ((d1 : Int) == 1) = false := by simp; omega
  obtain ⟨d2, d21, d22⟩ : ∃ d2, d2 + m ≤ e ∧ e ≤ d2 + m := ⟨e - m, by omega, by omega⟩
  have v1 : IntKind.i64.wrap ((e : Int) - (m : Int)) = (d2 : Int) := by rw [IntWalk.i64_in _ (by omega)]; omega
  have v3 : ((d2 : Int) == 1) = false := by simp; omega
  obtain ⟨t, t1, t2⟩ : ∃ t, t ≤ a + e ∧ a + e ≤ t := ⟨a + e, by omega, by omega⟩
  have w1 : IntKind.i64.wrap ((a : Int) + (e : Int)) = (t : Int) := by rw [IntWalk.i64_in _ (by omega)]; omega
  obtain ⟨mid, g1, g2⟩ : ∃ h, 2 * h ≤ t ∧ t ≤ 2 * h + 1 := ⟨t / 2, by omega, by omega⟩
  have wh : (t : Int) / 2 = (mid : Int) := by omega
  have HMID : Hid ((a + e) / 2 = mid) := Lib.hid (by omega)
  obtain ⟨N, n1, n2⟩ : ∃ N, N ≤ mid + m ∧ mid + m ≤ N := ⟨mid + m, by omega, by omega⟩
  have w2 : IntKind.i64.wrap ((mid : Int) + (m : Int)) = (N : Int) := by rw [IntWalk.i64_in _ (by omega)]; omega
  obtain ⟨p, p1, p2⟩ : ∃ p, p + 1 ≤ N ∧ N ≤ p + 1 := ⟨N - 1, by omega, by omega⟩
  have w3 : IntKind.i64.wrap ((N : Int) - 1) = (p : Int) := by rw [IntWalk.i64_in _ (by omega)]; omega
  obtain ⟨lo, hlo⟩ : ∃ lo, So.cutLo a m e = lo := ⟨_, rfl⟩
  obtain ⟨hi, hhi⟩ : ∃ hi, So.cutHi a m e = hi := ⟨_, rfl⟩
  have HLO := Lib.hid hlo
  have HHI := Lib.hid hhi
  have lohi : lo ≤ hi := by
    rw [← hlo, ← hhi]; unfold So.cutLo So.cutHi; split <;> omega
  have hiN : hi ≤ n := by
    rw [← hhi]; unfold So.cutHi; split <;> omega
  unfold So.cutLo at hlo
  unfold So.cutHi at hhi
  rw [HMID.out] at hlo hhi
  have hc : mid < m := by omega
  rw [if_pos hc] at hlo hhi
  have w4 : IntKind.i64.wrap ((N : Int) - (e : Int)) = (lo : Int) := by rw [IntWalk.i64_in _ (by omega)]; omega
  subst hhi
  have l1 : lo + e ≤ N := by omega
  have hcz : (mid : Int) < (m : Int) := by omega
  clear hlo hc0
  go_enter Try.func41, Try.ntmps41
  go_wp2
  go_loopw [20, 21] (fun vi vj wr => ∃ s r : Nat, vi = .int .i64 s ∧ vj = .int .i64 r ∧ lo ≤ s ∧ s ≤ r ∧ r ≤ mid ∧ IsV ks wr b X n ∧ Only b w wr ∧ Hid (Cut (pkey ks) X a m e lo mid s r)) (fun vi vj _ => (intOf vj).toNat - (intOf vi).toNat)
  case atStart => exact ⟨lo, mid, rfl, rfl, Nat.le_refl _, by omega, Nat.le_refl _, hA, Only.refl _ _, Lib.hid (Cut.start _ _ _ _ _ _ _)⟩
  case round =>
    obtain ⟨s, r, rfl, rfl, los, hsr, hrh, hY, hB, HS⟩ := hrel
    by_cases hlt : s < r
    · have hltz : (s : Int) < (r : Int) := by omega
      obtain ⟨t', t1', t2'⟩ : ∃ t', t' ≤ s + r ∧ s + r ≤ t' := ⟨s + r, by omega, by omega⟩
      have w5 : IntKind.i64.wrap ((s : Int) + (r : Int)) = (t' : Int) := by rw [IntWalk.i64_in _ (by omega)]; omega
      obtain ⟨h, g1', g2'⟩ : ∃ h, 2 * h ≤ t' ∧ t' ≤ 2 * h + 1 := ⟨t' / 2, by omega, by omega⟩
      have wh' : (t' : Int) / 2 = (h : Int) := by omega
      obtain ⟨b1, b2, b3, b4, b5⟩ := So.cut_probe (a := a) (m := m) (c := e) (s := h) (by omega) (by omega) (by rw [HLO.out]; omega) (by rw [HHI.out]; omega)
      rw [HMID.out] at b3 b4 b5
      have w6 : IntKind.i64.wrap ((h : Int) + 1) = ((h + 1 : Nat) : Int) := by rw [IntWalk.i64_in _ (by omega)]; omega
      obtain ⟨pc, pc1, pc2⟩ : ∃ pc, pc + h ≤ p ∧ p ≤ pc + h := ⟨p - h, by omega, by omega⟩
      have w7 : IntKind.i64.wrap ((p : Int) - (h : Int)) = (pc : Int) := by rw [IntWalk.i64_in _ (by omega)]; omega
      have HPC : Hid ((a + e) / 2 + m - 1 - h = pc) := Lib.hid (by rw [HMID.out]; omega)
      have b4' : m ≤ pc := by omega
      have b5' : pc < e := by omega
      clear b4 b5
      have hn' : h < n := by omega
      have pn' : pc < n := by omega
      have c1 := hY.cell hn'
      have c2 := hY.cell pn'
      have lb := hY.lt
      have HK := Lib.hid (HK0.out.keep hB)
      obtain ⟨u, hu⟩ : ∃ u, u = X pc := ⟨_, rfl⟩
      obtain ⟨v, hv⟩ : ∃ v, v = X h := ⟨_, rfl⟩
      have un : u < n := by rw [hu]; exact HB.out _ (by omega) (by omega)
      have vn : v < n := by rw [hv]; exact HB.out _ (by omega) (by omega)
      rw [← hv] at c1
      rw [← hu] at c2
      have HU := Lib.hid hu
      have HV := Lib.hid hv
      clear hu hv
      obtain ⟨z, hz⟩ : ∃ z, cmp3 (pkey ks u) (pkey ks v) = z := ⟨_, rfl⟩
      have HZ := Lib.hid hz
      clear hz
      have HL : Hid (X h < X pc) := Lib.hid (HX.out.less h pc (by omega) (by omega) (by omega) (by omega))
      by_cases hz0 : z < 0
      · go_upto_region 35 with (fail)
        refine Drawn.wp_region_from (Below.refl _ _) (by kernel_rfl) (by kernel_rfl) (by kernel_rfl) ?_
        (repeat (first | (refine Drawn.seq_skip (by rfl) ?_; (try simp only [Act.put, List.setIfInBounds_toArray, List.set_cons_zero, List.set_cons_succ])) | (refine Drawn.seq_call (o := ⟨_, .call ⟨.value _, _, _⟩, _, _, _, _⟩) (by rfl) (by intro w2 hS; go_simp; first | done | with_reducible rfl | exact ⟨rfl, rfl⟩) (by intro w2 hS; first | ((with_reducible refine (plow_any _ _ _ _ _ _ _ _ _ _ (HK.out.after hS) (by assumption) (by assumption) HZ.out).mono ?_); rintro e w' ⟨rfl, hb⟩; exact ⟨rfl, Below.after hS hb⟩)) ?_; (try simp only [Act.put, List.setIfInBounds_toArray, List.set_cons_zero, List.set_cons_succ])) | (refine Drawn.seq_value (by rfl) (by intro w2 hS; obtain ⟨hc, hf⟩ := bcell hS; go_simp; first | done | with_reducible rfl | exact ⟨rfl, rfl⟩) ?_; (try simp only [Act.put, List.setIfInBounds_toArray, List.set_cons_zero, List.set_cons_succ]))))
        refine Drawn.seq_end ?_; intro w2 hS
        have hY2 := hY.keep hS
        have hB2 : Only b w w2 := hB.trans (Only.of_below hS)
        clear c1 c2 lb hS hY hB HK
        go_wp2
        go_roundw
        case rel => exact ⟨s, h, rfl, by go_num, los, by omega, by omega, hY2, hB2, Lib.hid (HS.out.down HX.out (by omega) (by omega) HLO.out HHI.out (by omega) (by omega) (by rw [HPC.out]; exact (So.lt_later HL.out).2 (by rw [← HU.out, ← HV.out]; exact cmp3_neg.1 (by rw [HZ.out]; exact hz0))))⟩
        case measure => simp [intOf]; omega
      · have hz1 : decide (z < 0) = false := decide_eq_false hz0
        go_upto_region 35 with (fail)
        refine Drawn.wp_region_from (Below.refl _ _) (by kernel_rfl) (by kernel_rfl) (by kernel_rfl) ?_
        (repeat (first | (refine Drawn.seq_skip (by rfl) ?_; (try simp only [Act.put, List.setIfInBounds_toArray, List.set_cons_zero, List.set_cons_succ])) | (refine Drawn.seq_call (o := ⟨_, .call ⟨.value _, _, _⟩, _, _, _, _⟩) (by rfl) (by intro w2 hS; go_simp; first | done | with_reducible rfl | exact ⟨rfl, rfl⟩) (by intro w2 hS; first | ((with_reducible refine (plow_any _ _ _ _ _ _ _ _ _ _ (HK.out.after hS) (by assumption) (by assumption) HZ.out).mono ?_); rintro e w' ⟨rfl, hb⟩; exact ⟨rfl, Below.after hS hb⟩)) ?_; (try simp only [Act.put, List.setIfInBounds_toArray, List.set_cons_zero, List.set_cons_succ])) | (refine Drawn.seq_value (by rfl) (by intro w2 hS; obtain ⟨hc, hf⟩ := bcell hS; go_simp; first | done | with_reducible rfl | exact ⟨rfl, rfl⟩) ?_; (try simp only [Act.put, List.setIfInBounds_toArray, List.set_cons_zero, List.set_cons_succ]))))
        refine Drawn.seq_end ?_; intro w2 hS
        have hY2 := hY.keep hS
        have hB2 : Only b w w2 := hB.trans (Only.of_below hS)
        clear c1 c2 lb hS hY hB HK
        go_wp2
        go_roundw
        case rel => exact ⟨h + 1, r, by go_num, rfl, by omega, by omega, hrh, hY2, hB2, Lib.hid (HS.out.up HX.out (by omega) (by omega) HLO.out HHI.out (by omega) (by omega) (by rw [HPC.out]; exact So.lt_not HL.out (by rw [← HU.out, ← HV.out, ← cmp3_neg, HZ.out]; exact hz0)))⟩
        case measure => simp [intOf]; omega
    · have hltz : ¬ (s : Int) < (r : Int) := by omega
      have HE : Hid (r = s) := Lib.hid (by omega)
      obtain ⟨b1, b2, b3, b4, b5, b6⟩ := So.cut_bounds (a := a) (m := m) (c := e) (s := s) (by rw [HLO.out]; omega) (by rw [HHI.out]; omega)
      have hcut := So.merge_cut HX.out (s := s) (by omega) (by omega) (by rw [HLO.out]; omega) (by rw [HHI.out]; omega) (by rw [HLO.out]; exact HS.out.ahead) (by rw [HHI.out, ← HE.out]; exact HS.out.behind)
      rw [HMID.out] at b3 b4 b5 b6 hcut
      obtain ⟨en, e1, e2⟩ : ∃ en, en + s ≤ N ∧ N ≤ en + s := ⟨N - s, by omega, by omega⟩
      have w5 : IntKind.i64.wrap ((N : Int) - (s : Int)) = (en : Int) := by rw [IntWalk.i64_in _ (by omega)]; omega
      have e3 : mid + m - s = en := by omega
      rw [e3] at hcut
      have HH : Hid (Halves (pkey ks) a s mid en e (So.rot X s m en)) := Lib.hid ⟨hcut.1, hcut.2.1, hcut.2.2⟩
      have HR : Hid (So.Same a e X (So.rot X s m en)) := Lib.hid ((So.Same.rot X (s := s) (m := m) (e := en) b2 (by omega)).mono b1 (by omega))
      have m1 : m ≤ en := by omega
      have m2 : en ≤ e := by omega
      have m3 : mid ≤ en := by omega
      clear e3 hcut b4 b5 b6 HS
      by_cases q1 : s < m ∧ m < en
      · obtain ⟨q11, q12⟩ := q1
        have q11z : (s : Int) < (m : Int) := by omega
        have q12z : (m : Int) < (en : Int) := by omega
        have q1d1 : decide ((s : Int) < (m : Int)) = true := decide_eq_true q11z
        have q1d2 : decide ((m : Int) < (en : Int)) = true := decide_eq_true q12z
        go_upto_region 41 with (go_at_call 42; (with_reducible refine (prot_any ks X b n cn s m en _ _ hY (by omega) (by omega) (by omega) hn).mono ?_); rintro x wz ⟨rfl, hB2, hZ⟩)
        have hBz := hB.trans hB2
        clear hB hB2 hY q1d1 q1d2
        generalize So.rot X s m en = Z at *
        have HBZ : Hid (∀ q, a ≤ q → q < e → Z q < n) := Lib.hid (HR.out.all (p := fun v => v < n) HB.out)
        have HKZ := Lib.hid (HK0.out.keep hBz)
        by_cases q3 : a < s ∧ s < mid
        · obtain ⟨q31, q32⟩ := q3
          have q31z : (a : Int) < (s : Int) := by omega
          have q32z : (s : Int) < (mid : Int) := by omega
          have q3d1 : decide ((a : Int) < (s : Int)) = true := decide_eq_true q31z
          have q3d2 : decide ((s : Int) < (mid : Int)) = true := decide_eq_true q32z
          go_upto_region 43 with (go_at_call 41; (with_reducible refine (IH.out Z a s mid _ (by omega) HKZ.out hZ HH.out.one (fun q h1 h2 => HBZ.out q h1 (by omega)) (by omega) (by omega) (by omega)).mono ?_); rintro x w3 ⟨rfl, hB3, Y1, hY1, HS1, HM1⟩)
          have HS1 := Lib.hid HS1
          have HM1 := Lib.hid HM1
          have hBy := hBz.trans hB3
          clear hB3 hZ hBz q3d1 q3d2
          have HKY := Lib.hid (HK0.out.keep hBy)
          have HP2 : Hid (So.Parts (pkey ks) mid en e Y1) := Lib.hid (Parts.congr HH.out.two (by omega) (by omega) fun q g1 g2 => HM1.out.1 q (Or.inr g1))
          have HBY : Hid (∀ q, mid ≤ q → q < e → Y1 q < n) := Lib.hid (fun q g1 g2 => by rw [HM1.out.1 q (Or.inr g1)]; exact HBZ.out q (by omega) g2)
          by_cases q4 : mid < en ∧ en < e
          · obtain ⟨q41, q42⟩ := q4
            have q41z : (mid : Int) < (en : Int) := by omega
            have q42z : (en : Int) < (e : Int) := by omega
            have q4d1 : decide ((mid : Int) < (en : Int)) = true := decide_eq_true q41z
            have q4d2 : decide ((en : Int) < (e : Int)) = true := decide_eq_true q42z
            go_wp2_with (go_at_call 41; (with_reducible refine (IH.out Y1 mid en e _ (by omega) HKY.out hY1 HP2.out HBY.out (by omega) (by omega) (by omega)).mono ?_); rintro x w4 ⟨rfl, hB4, Y2, hY2, HS2, HM2⟩)
            go_end0
            obtain ⟨r1, r2⟩ := halves_end HH.out (by omega) (by omega) HS1.out HM1.out HS2 HM2
            exact ⟨rfl, hBy.trans hB4, Y2, hY2, r1, HR.out.trans r2⟩
          · have HS2 : Hid (So.Sorted (pkey ks) mid e Y1) := Lib.hid (by
              rcases Nat.lt_or_ge mid en with h | h
              · have : en = e := by omega
                exact this ▸ HP2.out.left
              · have : en = mid := by omega
                exact this ▸ HP2.out.right)
            obtain ⟨r1, r2⟩ := halves_end HH.out (by omega) (by omega) HS1.out HM1.out HS2.out (So.Same.refl _ _ _)
            have HR1 := Lib.hid r1
            have HR2 := Lib.hid r2
            clear r1 r2
            by_cases q41 : mid < en
            · have q41z : (mid : Int) < (en : Int) := by omega
              have q42z : ¬ (en : Int) < (e : Int) := by omega
              have q4d1 : decide ((mid : Int) < (en : Int)) = true := decide_eq_true q41z
              have q4d2 : decide ((en : Int) < (e : Int)) = false := decide_eq_false q42z
              clear q4
              go_wp2
              go_end0
              exact ⟨rfl, hBy, _, hY1, HR1.out, HR.out.trans HR2.out⟩
            · have q41z : ¬ (mid : Int) < (en : Int) := by omega
              have q4d1 : decide ((mid : Int) < (en : Int)) = false := decide_eq_false q41z
              clear q4
              go_wp2
              go_end0
              exact ⟨rfl, hBy, _, hY1, HR1.out, HR.out.trans HR2.out⟩
        · have HS1 : Hid (So.Sorted (pkey ks) a mid Z) := Lib.hid (by
            rcases Nat.lt_or_ge a s with h | h
            · have : s = mid := by omega
              exact this ▸ HH.out.one.left
            · have : s = a := by omega
              exact this ▸ HH.out.one.right)
          have HM1 : Hid (So.Same a mid Z Z) := Lib.hid (So.Same.refl _ _ _)
          have hY1 := hZ
          have hBy := hBz
          clear hZ hBz
          by_cases q31 : a < s
          · have q31z : (a : Int) < (s : Int) := by omega
            have q32z : ¬ (s : Int) < (mid : Int) := by omega
            have q3d1 : decide ((a : Int) < (s : Int)) = true := decide_eq_true q31z
            have q3d2 : decide ((s : Int) < (mid : Int)) = false := decide_eq_false q32z
            clear q3
            go_upto_region 43 with (fail)
            clear q3d1 q3d2
            have HKY := Lib.hid (HK0.out.keep hBy)
            have HP2 : Hid (So.Parts (pkey ks) mid en e Z) := Lib.hid (Parts.congr HH.out.two (by omega) (by omega) fun q g1 g2 => HM1.out.1 q (Or.inr g1))
            have HBY : Hid (∀ q, mid ≤ q → q < e → Z q < n) := Lib.hid (fun q g1 g2 => by rw [HM1.out.1 q (Or.inr g1)]; exact HBZ.out q (by omega) g2)
            by_cases q4 : mid < en ∧ en < e
            · obtain ⟨q41, q42⟩ := q4
              have q41z : (mid : Int) < (en : Int) := by omega
              have q42z : (en : Int) < (e : Int) := by omega
              have q4d1 : decide ((mid : Int) < (en : Int)) = true := decide_eq_true q41z
              have q4d2 : decide ((en : Int) < (e : Int)) = true := decide_eq_true q42z
              go_wp2_with (go_at_call 41; (with_reducible refine (IH.out Z mid en e _ (by omega) HKY.out hY1 HP2.out HBY.out (by omega) (by omega) (by omega)).mono ?_); rintro x w4 ⟨rfl, hB4, Y2, hY2, HS2, HM2⟩)
              go_end0
              obtain ⟨r1, r2⟩ := halves_end HH.out (by omega) (by omega) HS1.out HM1.out HS2 HM2
              exact ⟨rfl, hBy.trans hB4, Y2, hY2, r1, HR.out.trans r2⟩
            · have HS2 : Hid (So.Sorted (pkey ks) mid e Z) := Lib.hid (by
                rcases Nat.lt_or_ge mid en with h | h
                · have : en = e := by omega
                  exact this ▸ HP2.out.left
                · have : en = mid := by omega
                  exact this ▸ HP2.out.right)
              obtain ⟨r1, r2⟩ := halves_end HH.out (by omega) (by omega) HS1.out HM1.out HS2.out (So.Same.refl _ _ _)
              have HR1 := Lib.hid r1
              have HR2 := Lib.hid r2
              clear r1 r2
              by_cases q41 : mid < en
              · have q41z : (mid : Int) < (en : Int) := by omega
                have q42z : ¬ (en : Int) < (e : Int) := by omega
                have q4d1 : decide ((mid : Int) < (en : Int)) = true := decide_eq_true q41z
                have q4d2 : decide ((en : Int) < (e : Int)) = false := decide_eq_false q42z
                clear q4
                go_wp2
                go_end0
                exact ⟨rfl, hBy, _, hY1, HR1.out, HR.out.trans HR2.out⟩
              · have q41z : ¬ (mid : Int) < (en : Int) := by omega
                have q4d1 : decide ((mid : Int) < (en : Int)) = false := decide_eq_false q41z
                clear q4
                go_wp2
                go_end0
                exact ⟨rfl, hBy, _, hY1, HR1.out, HR.out.trans HR2.out⟩
          · have q31z : ¬ (a : Int) < (s : Int) := by omega
            have q3d1 : decide ((a : Int) < (s : Int)) = false := decide_eq_false q31z
            clear q3
            go_upto_region 43 with (fail)
            clear q3d1
            have HKY := Lib.hid (HK0.out.keep hBy)
            have HP2 : Hid (So.Parts (pkey ks) mid en e Z) := Lib.hid (Parts.congr HH.out.two (by omega) (by omega) fun q g1 g2 => HM1.out.1 q (Or.inr g1))
            have HBY : Hid (∀ q, mid ≤ q → q < e → Z q < n) := Lib.hid (fun q g1 g2 => by rw [HM1.out.1 q (Or.inr g1)]; exact HBZ.out q (by omega) g2)
            by_cases q4 : mid < en ∧ en < e
            · obtain ⟨q41, q42⟩ := q4
              have q41z : (mid : Int) < (en : Int) := by omega
              have q42z : (en : Int) < (e : Int) := by omega
              have q4d1 : decide ((mid : Int) < (en : Int)) = true := decide_eq_true q41z
              have q4d2 : decide ((en : Int) < (e : Int)) = true := decide_eq_true q42z
              go_wp2_with (go_at_call 41; (with_reducible refine (IH.out Z mid en e _ (by omega) HKY.out hY1 HP2.out HBY.out (by omega) (by omega) (by omega)).mono ?_); rintro x w4 ⟨rfl, hB4, Y2, hY2, HS2, HM2⟩)
              go_end0
              obtain ⟨r1, r2⟩ := halves_end HH.out (by omega) (by omega) HS1.out HM1.out HS2 HM2
              exact ⟨rfl, hBy.trans hB4, Y2, hY2, r1, HR.out.trans r2⟩
            · have HS2 : Hid (So.Sorted (pkey ks) mid e Z) := Lib.hid (by
                rcases Nat.lt_or_ge mid en with h | h
                · have : en = e := by omega
                  exact this ▸ HP2.out.left
                · have : en = mid := by omega
                  exact this ▸ HP2.out.right)
              obtain ⟨r1, r2⟩ := halves_end HH.out (by omega) (by omega) HS1.out HM1.out HS2.out (So.Same.refl _ _ _)
              have HR1 := Lib.hid r1
              have HR2 := Lib.hid r2
              clear r1 r2
              by_cases q41 : mid < en
              · have q41z : (mid : Int) < (en : Int) := by omega
                have q42z : ¬ (en : Int) < (e : Int) := by omega
                have q4d1 : decide ((mid : Int) < (en : Int)) = true := decide_eq_true q41z
                have q4d2 : decide ((en : Int) < (e : Int)) = false := decide_eq_false q42z
                clear q4
                go_wp2
                go_end0
                exact ⟨rfl, hBy, _, hY1, HR1.out, HR.out.trans HR2.out⟩
              · have q41z : ¬ (mid : Int) < (en : Int) := by omega
                have q4d1 : decide ((mid : Int) < (en : Int)) = false := decide_eq_false q41z
                clear q4
                go_wp2
                go_end0
                exact ⟨rfl, hBy, _, hY1, HR1.out, HR.out.trans HR2.out⟩
      · have HRN : Hid (So.rot X s m en = X) := Lib.hid (rot_none X b2 m1 (by omega))
        rw [HRN.out] at HH HR
        clear HRN
        have hZ := hY
        have hBz := hB
        clear hY hB
        by_cases q11 : s < m
        · have q11z : (s : Int) < (m : Int) := by omega
          have q12z : ¬ (m : Int) < (en : Int) := by omega
          have q1d1 : decide ((s : Int) < (m : Int)) = true := decide_eq_true q11z
          have q1d2 : decide ((m : Int) < (en : Int)) = false := decide_eq_false q12z
          clear q1
          go_upto_region 41 with (fail)
          clear q1d1 q1d2
          have HBZ : Hid (∀ q, a ≤ q → q < e → X q < n) := Lib.hid (HR.out.all (p := fun v => v < n) HB.out)
          have HKZ := Lib.hid (HK0.out.keep hBz)
          by_cases q3 : a < s ∧ s < mid
          · obtain ⟨q31, q32⟩ := q3
            have q31z : (a : Int) < (s : Int) := by omega
            have q32z : (s : Int) < (mid : Int) := by omega
            have q3d1 : decide ((a : Int) < (s : Int)) = true := decide_eq_true q31z
            have q3d2 : decide ((s : Int) < (mid : Int)) = true := decide_eq_true q32z
            go_upto_region 43 with (go_at_call 41; (with_reducible refine (IH.out X a s mid _ (by omega) HKZ.out hZ HH.out.one (fun q h1 h2 => HBZ.out q h1 (by omega)) (by omega) (by omega) (by omega)).mono ?_); rintro x w3 ⟨rfl, hB3, Y1, hY1, HS1, HM1⟩)
            have HS1 := Lib.hid HS1
            have HM1 := Lib.hid HM1
            have hBy := hBz.trans hB3
            clear hB3 hZ hBz q3d1 q3d2
            have HKY := Lib.hid (HK0.out.keep hBy)
            have HP2 : Hid (So.Parts (pkey ks) mid en e Y1) := Lib.hid (Parts.congr HH.out.two (by omega) (by omega) fun q g1 g2 => HM1.out.1 q (Or.inr g1))
            have HBY : Hid (∀ q, mid ≤ q → q < e → Y1 q < n) := Lib.hid (fun q g1 g2 => by rw [HM1.out.1 q (Or.inr g1)]; exact HBZ.out q (by omega) g2)
            by_cases q4 : mid < en ∧ en < e
            · obtain ⟨q41, q42⟩ := q4
              have q41z : (mid : Int) < (en : Int) := by omega
              have q42z : (en : Int) < (e : Int) := by omega
              have q4d1 : decide ((mid : Int) < (en : Int)) = true := decide_eq_true q41z
              have q4d2 : decide ((en : Int) < (e : Int)) = true := decide_eq_true q42z
              go_wp2_with (go_at_call 41; (with_reducible refine (IH.out Y1 mid en e _ (by omega) HKY.out hY1 HP2.out HBY.out (by omega) (by omega) (by omega)).mono ?_); rintro x w4 ⟨rfl, hB4, Y2, hY2, HS2, HM2⟩)
              go_end0
              obtain ⟨r1, r2⟩ := halves_end HH.out (by omega) (by omega) HS1.out HM1.out HS2 HM2
              exact ⟨rfl, hBy.trans hB4, Y2, hY2, r1, HR.out.trans r2⟩
            · have HS2 : Hid (So.Sorted (pkey ks) mid e Y1) := Lib.hid (by
                rcases Nat.lt_or_ge mid en with h | h
                · have : en = e := by omega
                  exact this ▸ HP2.out.left
                · have : en = mid := by omega
                  exact this ▸ HP2.out.right)
              obtain ⟨r1, r2⟩ := halves_end HH.out (by omega) (by omega) HS1.out HM1.out HS2.out (So.Same.refl _ _ _)
              have HR1 := Lib.hid r1
              have HR2 := Lib.hid r2
              clear r1 r2
              by_cases q41 : mid < en
              · have q41z : (mid : Int) < (en : Int) := by omega
                have q42z : ¬ (en : Int) < (e : Int) := by omega
                have q4d1 : decide ((mid : Int) < (en : Int)) = true := decide_eq_true q41z
                have q4d2 : decide ((en : Int) < (e : Int)) = false := decide_eq_false q42z
                clear q4
                go_wp2
                go_end0
                exact ⟨rfl, hBy, _, hY1, HR1.out, HR.out.trans HR2.out⟩
              · have q41z : ¬ (mid : Int) < (en : Int) := by omega
                have q4d1 : decide ((mid : Int) < (en : Int)) = false := decide_eq_false q41z
                clear q4
                go_wp2
                go_end0
                exact ⟨rfl, hBy, _, hY1, HR1.out, HR.out.trans HR2.out⟩
          · have HS1 : Hid (So.Sorted (pkey ks) a mid X) := Lib.hid (by
              rcases Nat.lt_or_ge a s with h | h
              · have : s = mid := by omega
                exact this ▸ HH.out.one.left
              · have : s = a := by omega
                exact this ▸ HH.out.one.right)
            have HM1 : Hid (So.Same a mid X X) := Lib.hid (So.Same.refl _ _ _)
            have hY1 := hZ
            have hBy := hBz
            clear hZ hBz
            by_cases q31 : a < s
            · have q31z : (a : Int) < (s : Int) := by omega
              have q32z : ¬ (s : Int) < (mid : Int) := by omega
              have q3d1 : decide ((a : Int) < (s : Int)) = true := decide_eq_true q31z
              have q3d2 : decide ((s : Int) < (mid : Int)) = false := decide_eq_false q32z
              clear q3
              go_upto_region 43 with (fail)
              clear q3d1 q3d2
              have HKY := Lib.hid (HK0.out.keep hBy)
              have HP2 : Hid (So.Parts (pkey ks) mid en e X) := Lib.hid (Parts.congr HH.out.two (by omega) (by omega) fun q g1 g2 => HM1.out.1 q (Or.inr g1))
              have HBY : Hid (∀ q, mid ≤ q → q < e → X q < n) := Lib.hid (fun q g1 g2 => by rw [HM1.out.1 q (Or.inr g1)]; exact HBZ.out q (by omega) g2)
              by_cases q4 : mid < en ∧ en < e
              · obtain ⟨q41, q42⟩ := q4
                have q41z : (mid : Int) < (en : Int) := by omega
                have q42z : (en : Int) < (e : Int) := by omega
                have q4d1 : decide ((mid : Int) < (en : Int)) = true := decide_eq_true q41z
                have q4d2 : decide ((en : Int) < (e : Int)) = true := decide_eq_true q42z
                go_wp2_with (go_at_call 41; (with_reducible refine (IH.out X mid en e _ (by omega) HKY.out hY1 HP2.out HBY.out (by omega) (by omega) (by omega)).mono ?_); rintro x w4 ⟨rfl, hB4, Y2, hY2, HS2, HM2⟩)
                go_end0
                obtain ⟨r1, r2⟩ := halves_end HH.out (by omega) (by omega) HS1.out HM1.out HS2 HM2
                exact ⟨rfl, hBy.trans hB4, Y2, hY2, r1, HR.out.trans r2⟩
              · have HS2 : Hid (So.Sorted (pkey ks) mid e X) := Lib.hid (by
                  rcases Nat.lt_or_ge mid en with h | h
                  · have : en = e := by omega
                    exact this ▸ HP2.out.left
                  · have : en = mid := by omega
                    exact this ▸ HP2.out.right)
                obtain ⟨r1, r2⟩ := halves_end HH.out (by omega) (by omega) HS1.out HM1.out HS2.out (So.Same.refl _ _ _)
                have HR1 := Lib.hid r1
                have HR2 := Lib.hid r2
                clear r1 r2
                by_cases q41 : mid < en
                · have q41z : (mid : Int) < (en : Int) := by omega
                  have q42z : ¬ (en : Int) < (e : Int) := by omega
                  have q4d1 : decide ((mid : Int) < (en : Int)) = true := decide_eq_true q41z
                  have q4d2 : decide ((en : Int) < (e : Int)) = false := decide_eq_false q42z
                  clear q4
                  go_wp2
                  go_end0
                  exact ⟨rfl, hBy, _, hY1, HR1.out, HR.out.trans HR2.out⟩
                · have q41z : ¬ (mid : Int) < (en : Int) := by omega
                  have q4d1 : decide ((mid : Int) < (en : Int)) = false := decide_eq_false q41z
                  clear q4
                  go_wp2
                  go_end0
                  exact ⟨rfl, hBy, _, hY1, HR1.out, HR.out.trans HR2.out⟩
            · have q31z : ¬ (a : Int) < (s : Int) := by omega
              have q3d1 : decide ((a : Int) < (s : Int)) = false := decide_eq_false q31z
              clear q3
              go_upto_region 43 with (fail)
              clear q3d1
              have HKY := Lib.hid (HK0.out.keep hBy)
              have HP2 : Hid (So.Parts (pkey ks) mid en e X) := Lib.hid (Parts.congr HH.out.two (by omega) (by omega) fun q g1 g2 => HM1.out.1 q (Or.inr g1))
              have HBY : Hid (∀ q, mid ≤ q → q < e → X q < n) := Lib.hid (fun q g1 g2 => by rw [HM1.out.1 q (Or.inr g1)]; exact HBZ.out q (by omega) g2)
              by_cases q4 : mid < en ∧ en < e
              · obtain ⟨q41, q42⟩ := q4
                have q41z : (mid : Int) < (en : Int) := by omega
                have q42z : (en : Int) < (e : Int) := by omega
                have q4d1 : decide ((mid : Int) < (en : Int)) = true := decide_eq_true q41z
                have q4d2 : decide ((en : Int) < (e : Int)) = true := decide_eq_true q42z
                go_wp2_with (go_at_call 41; (with_reducible refine (IH.out X mid en e _ (by omega) HKY.out hY1 HP2.out HBY.out (by omega) (by omega) (by omega)).mono ?_); rintro x w4 ⟨rfl, hB4, Y2, hY2, HS2, HM2⟩)
                go_end0
                obtain ⟨r1, r2⟩ := halves_end HH.out (by omega) (by omega) HS1.out HM1.out HS2 HM2
                exact ⟨rfl, hBy.trans hB4, Y2, hY2, r1, HR.out.trans r2⟩
              · have HS2 : Hid (So.Sorted (pkey ks) mid e X) := Lib.hid (by
                  rcases Nat.lt_or_ge mid en with h | h
                  · have : en = e := by omega
                    exact this ▸ HP2.out.left
                  · have : en = mid := by omega
                    exact this ▸ HP2.out.right)
                obtain ⟨r1, r2⟩ := halves_end HH.out (by omega) (by omega) HS1.out HM1.out HS2.out (So.Same.refl _ _ _)
                have HR1 := Lib.hid r1
                have HR2 := Lib.hid r2
                clear r1 r2
                by_cases q41 : mid < en
                · have q41z : (mid : Int) < (en : Int) := by omega
                  have q42z : ¬ (en : Int) < (e : Int) := by omega
                  have q4d1 : decide ((mid : Int) < (en : Int)) = true := decide_eq_true q41z
                  have q4d2 : decide ((en : Int) < (e : Int)) = false := decide_eq_false q42z
                  clear q4
                  go_wp2
                  go_end0
                  exact ⟨rfl, hBy, _, hY1, HR1.out, HR.out.trans HR2.out⟩
                · have q41z : ¬ (mid : Int) < (en : Int) := by omega
                  have q4d1 : decide ((mid : Int) < (en : Int)) = false := decide_eq_false q41z
                  clear q4
                  go_wp2
                  go_end0
                  exact ⟨rfl, hBy, _, hY1, HR1.out, HR.out.trans HR2.out⟩
        · have q11z : ¬ (s : Int) < (m : Int) := by omega
          have q1d1 : decide ((s : Int) < (m : Int)) = false := decide_eq_false q11z
          clear q1
          go_upto_region 41 with (fail)
          clear q1d1
          have HBZ : Hid (∀ q, a ≤ q → q < e → X q < n) := Lib.hid (HR.out.all (p := fun v => v < n) HB.out)
          have HKZ := Lib.hid (HK0.out.keep hBz)
          by_cases q3 : a < s ∧ s < mid
          · obtain ⟨q31, q32⟩ := q3
            have q31z : (a : Int) < (s : Int) := by omega
            have q32z : (s : Int) < (mid : Int) := by omega
            have q3d1 : decide ((a : Int) < (s : Int)) = true := decide_eq_true q31z
            have q3d2 : decide ((s : Int) < (mid : Int)) = true := decide_eq_true q32z
            go_upto_region 43 with (go_at_call 41; (with_reducible refine (IH.out X a s mid _ (by omega) HKZ.out hZ HH.out.one (fun q h1 h2 => HBZ.out q h1 (by omega)) (by omega) (by omega) (by omega)).mono ?_); rintro x w3 ⟨rfl, hB3, Y1, hY1, HS1, HM1⟩)
            have HS1 := Lib.hid HS1
            have HM1 := Lib.hid HM1
            have hBy := hBz.trans hB3
            clear hB3 hZ hBz q3d1 q3d2
            have HKY := Lib.hid (HK0.out.keep hBy)
            have HP2 : Hid (So.Parts (pkey ks) mid en e Y1) := Lib.hid (Parts.congr HH.out.two (by omega) (by omega) fun q g1 g2 => HM1.out.1 q (Or.inr g1))
            have HBY : Hid (∀ q, mid ≤ q → q < e → Y1 q < n) := Lib.hid (fun q g1 g2 => by rw [HM1.out.1 q (Or.inr g1)]; exact HBZ.out q (by omega) g2)
            by_cases q4 : mid < en ∧ en < e
            · obtain ⟨q41, q42⟩ := q4
              have q41z : (mid : Int) < (en : Int) := by omega
              have q42z : (en : Int) < (e : Int) := by omega
              have q4d1 : decide ((mid : Int) < (en : Int)) = true := decide_eq_true q41z
              have q4d2 : decide ((en : Int) < (e : Int)) = true := decide_eq_true q42z
              go_wp2_with (go_at_call 41; (with_reducible refine (IH.out Y1 mid en e _ (by omega) HKY.out hY1 HP2.out HBY.out (by omega) (by omega) (by omega)).mono ?_); rintro x w4 ⟨rfl, hB4, Y2, hY2, HS2, HM2⟩)
              go_end0
              obtain ⟨r1, r2⟩ := halves_end HH.out (by omega) (by omega) HS1.out HM1.out HS2 HM2
              exact ⟨rfl, hBy.trans hB4, Y2, hY2, r1, HR.out.trans r2⟩
            · have HS2 : Hid (So.Sorted (pkey ks) mid e Y1) := Lib.hid (by
                rcases Nat.lt_or_ge mid en with h | h
                · have : en = e := by omega
                  exact this ▸ HP2.out.left
                · have : en = mid := by omega
                  exact this ▸ HP2.out.right)
              obtain ⟨r1, r2⟩ := halves_end HH.out (by omega) (by omega) HS1.out HM1.out HS2.out (So.Same.refl _ _ _)
              have HR1 := Lib.hid r1
              have HR2 := Lib.hid r2
              clear r1 r2
              by_cases q41 : mid < en
              · have q41z : (mid : Int) < (en : Int) := by omega
                have q42z : ¬ (en : Int) < (e : Int) := by omega
                have q4d1 : decide ((mid : Int) < (en : Int)) = true := decide_eq_true q41z
                have q4d2 : decide ((en : Int) < (e : Int)) = false := decide_eq_false q42z
                clear q4
                go_wp2
                go_end0
                exact ⟨rfl, hBy, _, hY1, HR1.out, HR.out.trans HR2.out⟩
              · have q41z : ¬ (mid : Int) < (en : Int) := by omega
                have q4d1 : decide ((mid : Int) < (en : Int)) = false := decide_eq_false q41z
                clear q4
                go_wp2
                go_end0
                exact ⟨rfl, hBy, _, hY1, HR1.out, HR.out.trans HR2.out⟩
          · have HS1 : Hid (So.Sorted (pkey ks) a mid X) := Lib.hid (by
              rcases Nat.lt_or_ge a s with h | h
              · have : s = mid := by omega
                exact this ▸ HH.out.one.left
              · have : s = a := by omega
                exact this ▸ HH.out.one.right)
            have HM1 : Hid (So.Same a mid X X) := Lib.hid (So.Same.refl _ _ _)
            have hY1 := hZ
            have hBy := hBz
            clear hZ hBz
            by_cases q31 : a < s
            · have q31z : (a : Int) < (s : Int) := by omega
              have q32z : ¬ (s : Int) < (mid : Int) := by omega
              have q3d1 : decide ((a : Int) < (s : Int)) = true := decide_eq_true q31z
              have q3d2 : decide ((s : Int) < (mid : Int)) = false := decide_eq_false q32z
              clear q3
              go_upto_region 43 with (fail)
              clear q3d1 q3d2
              have HKY := Lib.hid (HK0.out.keep hBy)
              have HP2 : Hid (So.Parts (pkey ks) mid en e X) := Lib.hid (Parts.congr HH.out.two (by omega) (by omega) fun q g1 g2 => HM1.out.1 q (Or.inr g1))
              have HBY : Hid (∀ q, mid ≤ q → q < e → X q < n) := Lib.hid (fun q g1 g2 => by rw [HM1.out.1 q (Or.inr g1)]; exact HBZ.out q (by omega) g2)
              by_cases q4 : mid < en ∧ en < e
              · obtain ⟨q41, q42⟩ := q4
                have q41z : (mid : Int) < (en : Int) := by omega
                have q42z : (en : Int) < (e : Int) := by omega
                have q4d1 : decide ((mid : Int) < (en : Int)) = true := decide_eq_true q41z
                have q4d2 : decide ((en : Int) < (e : Int)) = true := decide_eq_true q42z
                go_wp2_with (go_at_call 41; (with_reducible refine (IH.out X mid en e _ (by omega) HKY.out hY1 HP2.out HBY.out (by omega) (by omega) (by omega)).mono ?_); rintro x w4 ⟨rfl, hB4, Y2, hY2, HS2, HM2⟩)
                go_end0
                obtain ⟨r1, r2⟩ := halves_end HH.out (by omega) (by omega) HS1.out HM1.out HS2 HM2
                exact ⟨rfl, hBy.trans hB4, Y2, hY2, r1, HR.out.trans r2⟩
              · have HS2 : Hid (So.Sorted (pkey ks) mid e X) := Lib.hid (by
                  rcases Nat.lt_or_ge mid en with h | h
                  · have : en = e := by omega
                    exact this ▸ HP2.out.left
                  · have : en = mid := by omega
                    exact this ▸ HP2.out.right)
                obtain ⟨r1, r2⟩ := halves_end HH.out (by omega) (by omega) HS1.out HM1.out HS2.out (So.Same.refl _ _ _)
                have HR1 := Lib.hid r1
                have HR2 := Lib.hid r2
                clear r1 r2
                by_cases q41 : mid < en
                · have q41z : (mid : Int) < (en : Int) := by omega
                  have q42z : ¬ (en : Int) < (e : Int) := by omega
                  have q4d1 : decide ((mid : Int) < (en : Int)) = true := decide_eq_true q41z
                  have q4d2 : decide ((en : Int) < (e : Int)) = false := decide_eq_false q42z
                  clear q4
                  go_wp2
                  go_end0
                  exact ⟨rfl, hBy, _, hY1, HR1.out, HR.out.trans HR2.out⟩
                · have q41z : ¬ (mid : Int) < (en : Int) := by omega
                  have q4d1 : decide ((mid : Int) < (en : Int)) = false := decide_eq_false q41z
                  clear q4
                  go_wp2
                  go_end0
                  exact ⟨rfl, hBy, _, hY1, HR1.out, HR.out.trans HR2.out⟩
            · have q31z : ¬ (a : Int) < (s : Int) := by omega
              have q3d1 : decide ((a : Int) < (s : Int)) = false := decide_eq_false q31z
              clear q3
              go_upto_region 43 with (fail)
              clear q3d1
              have HKY := Lib.hid (HK0.out.keep hBy)
              have HP2 : Hid (So.Parts (pkey ks) mid en e X) := Lib.hid (Parts.congr HH.out.two (by omega) (by omega) fun q g1 g2 => HM1.out.1 q (Or.inr g1))
              have HBY : Hid (∀ q, mid ≤ q → q < e → X q < n) := Lib.hid (fun q g1 g2 => by rw [HM1.out.1 q (Or.inr g1)]; exact HBZ.out q (by omega) g2)
              by_cases q4 : mid < en ∧ en < e
              · obtain ⟨q41, q42⟩ := q4
                have q41z : (mid : Int) < (en : Int) := by omega
                have q42z : (en : Int) < (e : Int) := by omega
                have q4d1 : decide ((mid : Int) < (en : Int)) = true := decide_eq_true q41z
                have q4d2 : decide ((en : Int) < (e : Int)) = true := decide_eq_true q42z
                go_wp2_with (go_at_call 41; (with_reducible refine (IH.out X mid en e _ (by omega) HKY.out hY1 HP2.out HBY.out (by omega) (by omega) (by omega)).mono ?_); rintro x w4 ⟨rfl, hB4, Y2, hY2, HS2, HM2⟩)
                go_end0
                obtain ⟨r1, r2⟩ := halves_end HH.out (by omega) (by omega) HS1.out HM1.out HS2 HM2
                exact ⟨rfl, hBy.trans hB4, Y2, hY2, r1, HR.out.trans r2⟩
              · have HS2 : Hid (So.Sorted (pkey ks) mid e X) := Lib.hid (by
                  rcases Nat.lt_or_ge mid en with h | h
                  · have : en = e := by omega
                    exact this ▸ HP2.out.left
                  · have : en = mid := by omega
                    exact this ▸ HP2.out.right)
                obtain ⟨r1, r2⟩ := halves_end HH.out (by omega) (by omega) HS1.out HM1.out HS2.out (So.Same.refl _ _ _)
                have HR1 := Lib.hid r1
                have HR2 := Lib.hid r2
                clear r1 r2
                by_cases q41 : mid < en
                · have q41z : (mid : Int) < (en : Int) := by omega
                  have q42z : ¬ (en : Int) < (e : Int) := by omega
                  have q4d1 : decide ((mid : Int) < (en : Int)) = true := decide_eq_true q41z
                  have q4d2 : decide ((en : Int) < (e : Int)) = false := decide_eq_false q42z
                  clear q4
                  go_wp2
                  go_end0
                  exact ⟨rfl, hBy, _, hY1, HR1.out, HR.out.trans HR2.out⟩
                · have q41z : ¬ (mid : Int) < (en : Int) := by omega
                  have q4d1 : decide ((mid : Int) < (en : Int)) = false := decide_eq_false q41z
                  clear q4
                  go_wp2
                  go_end0
                  exact ⟨rfl, hBy, _, hY1, HR1.out, HR.out.trans HR2.out⟩

set_option maxRecDepth 100000 in
set_option maxHeartbeats 4000000 in
theorem psym_midB (b kb : Nat) (A : Option Addr) (ks : PKS) (X : Nat → Nat) (n c cn a m e d : Nat) (w : World) (hi0 : SymOk b kb A ks n c cn d) (hd : e ≤ a + (d + 1)) (hk : PKeys w b kb A ks n c) (hA : IsV ks w b X n) (hX : So.Parts (pkey ks) a m e X) (hb : ∀ p, a ≤ p → p < e → X p < n) (h1 : a + 1 < m) (h2 : m + 1 < e) (h3 : e ≤ n) (hn : n ≤ 100000) (hc0 : ¬ (a + e) / 2 < m) :
    Calls Try.prog 41 #[.slice (some ⟨b, 0, none⟩) n cn, .int .i64 a, .int .i64 m, .int .i64 e, .func (.func 32) #[] #[.pointer (some ⟨kb, 0, none⟩)]] w fun x w' => x = .returned (.tuple #[]) ∧ Only b w w' ∧ ∃ Y, IsV ks w' b Y n ∧ So.Sorted (pkey ks) a e Y ∧ So.Same a e X Y := by
  have HX := Lib.hid hX
  have HB := Lib.hid hb
  have HK0 := Lib.hid hk
  have IH := Lib.hid hi0
  clear hX hk hb hi0
  obtain ⟨d1, d11, d12⟩ : ∃ d1, d1 + a ≤ m ∧ m ≤ d1 + a := ⟨m - a, by omega, by omega⟩
  have v0 : IntKind.i64.wrap ((m : Int) - (a : Int)) = (d1 : Int) := by rw [IntWalk.i64_in _ (by omega)]; omega
  have v2 : ((d1 : Int) == 1) = false := by simp; omega
  obtain ⟨d2, d21, d22⟩ : ∃ d2, d2 + m ≤ e ∧ e ≤ d2 + m := ⟨e - m, by omega, by omega⟩
  have v1 : IntKind.i64.wrap ((e : Int) - (m : Int)) = (d2 : Int) := by rw [IntWalk.i64_in _ (by omega)]; omega
  have v3 : ((d2 : Int) == 1) = false := by simp; omega
  obtain ⟨t, t1, t2⟩ : ∃ t, t ≤ a + e ∧ a + e ≤ t := ⟨a + e, by omega, by omega⟩
  have w1 : IntKind.i64.wrap ((a : Int) + (e : Int)) = (t : Int) := by rw [IntWalk.i64_in _ (by omega)]; omega
  obtain ⟨mid, g1, g2⟩ : ∃ h, 2 * h ≤ t ∧ t ≤ 2 * h + 1 := ⟨t / 2, by omega, by omega⟩
  have wh : (t : Int) / 2 = (mid : Int) := by omega
  have HMID : Hid ((a + e) / 2 = mid) := Lib.hid (by omega)
  obtain ⟨N, n1, n2⟩ : ∃ N, N ≤ mid + m ∧ mid + m ≤ N := ⟨mid + m, by omega, by omega⟩
  have w2 : IntKind.i64.wrap ((mid : Int) + (m : Int)) = (N : Int) := by rw [IntWalk.i64_in _ (by omega)]; omega
  obtain ⟨p, p1, p2⟩ : ∃ p, p + 1 ≤ N ∧ N ≤ p + 1 := ⟨N - 1, by omega, by omega⟩
  have w3 : IntKind.i64.wrap ((N : Int) - 1) = (p : Int) := by rw [IntWalk.i64_in _ (by omega)]; omega
  obtain ⟨lo, hlo⟩ : ∃ lo, So.cutLo a m e = lo := ⟨_, rfl⟩
  obtain ⟨hi, hhi⟩ : ∃ hi, So.cutHi a m e = hi := ⟨_, rfl⟩
  have HLO := Lib.hid hlo
  have HHI := Lib.hid hhi
  have lohi : lo ≤ hi := by
    rw [← hlo, ← hhi]; unfold So.cutLo So.cutHi; split <;> omega
  have hiN : hi ≤ n := by
    rw [← hhi]; unfold So.cutHi; split <;> omega
  unfold So.cutLo at hlo
  unfold So.cutHi at hhi
  rw [HMID.out] at hlo hhi
  have hc : ¬ mid < m := by omega
  rw [if_neg hc] at hlo hhi
  subst hlo hhi
  have hcz : ¬ (mid : Int) < (m : Int) := by omega
  clear hc0
  go_enter Try.func41, Try.ntmps41
  go_wp2
  go_loopw [20, 21] (fun vi vj wr => ∃ s r : Nat, vi = .int .i64 s ∧ vj = .int .i64 r ∧ a ≤ s ∧ s ≤ r ∧ r ≤ m ∧ IsV ks wr b X n ∧ Only b w wr ∧ Hid (Cut (pkey ks) X a m e a m s r)) (fun vi vj _ => (intOf vj).toNat - (intOf vi).toNat)
  case atStart => exact ⟨a, m, rfl, rfl, Nat.le_refl _, by omega, Nat.le_refl _, hA, Only.refl _ _, Lib.hid (Cut.start _ _ _ _ _ _ _)⟩
  case round =>
    obtain ⟨s, r, rfl, rfl, los, hsr, hrh, hY, hB, HS⟩ := hrel
    by_cases hlt : s < r
    · have hltz : (s : Int) < (r : Int) := by omega
      obtain ⟨t', t1', t2'⟩ : ∃ t', t' ≤ s + r ∧ s + r ≤ t' := ⟨s + r, by omega, by omega⟩
      have w5 : IntKind.i64.wrap ((s : Int) + (r : Int)) = (t' : Int) := by rw [IntWalk.i64_in _ (by omega)]; omega
      obtain ⟨h, g1', g2'⟩ : ∃ h, 2 * h ≤ t' ∧ t' ≤ 2 * h + 1 := ⟨t' / 2, by omega, by omega⟩
      have wh' : (t' : Int) / 2 = (h : Int) := by omega
      obtain ⟨b1, b2, b3, b4, b5⟩ := So.cut_probe (a := a) (m := m) (c := e) (s := h) (by omega) (by omega) (by rw [HLO.out]; omega) (by rw [HHI.out]; omega)
      rw [HMID.out] at b3 b4 b5
      have w6 : IntKind.i64.wrap ((h : Int) + 1) = ((h + 1 : Nat) : Int) := by rw [IntWalk.i64_in _ (by omega)]; omega
      obtain ⟨pc, pc1, pc2⟩ : ∃ pc, pc + h ≤ p ∧ p ≤ pc + h := ⟨p - h, by omega, by omega⟩
      have w7 : IntKind.i64.wrap ((p : Int) - (h : Int)) = (pc : Int) := by rw [IntWalk.i64_in _ (by omega)]; omega
      have HPC : Hid ((a + e) / 2 + m - 1 - h = pc) := Lib.hid (by rw [HMID.out]; omega)
      have b4' : m ≤ pc := by omega
      have b5' : pc < e := by omega
      clear b4 b5
      have hn' : h < n := by omega
      have pn' : pc < n := by omega
      have c1 := hY.cell hn'
      have c2 := hY.cell pn'
      have lb := hY.lt
      have HK := Lib.hid (HK0.out.keep hB)
      obtain ⟨u, hu⟩ : ∃ u, u = X pc := ⟨_, rfl⟩
      obtain ⟨v, hv⟩ : ∃ v, v = X h := ⟨_, rfl⟩
      have un : u < n := by rw [hu]; exact HB.out _ (by omega) (by omega)
      have vn : v < n := by rw [hv]; exact HB.out _ (by omega) (by omega)
      rw [← hv] at c1
      rw [← hu] at c2
      have HU := Lib.hid hu
      have HV := Lib.hid hv
      clear hu hv
      obtain ⟨z, hz⟩ : ∃ z, cmp3 (pkey ks u) (pkey ks v) = z := ⟨_, rfl⟩
      have HZ := Lib.hid hz
      clear hz
      have HL : Hid (X h < X pc) := Lib.hid (HX.out.less h pc (by omega) (by omega) (by omega) (by omega))
      by_cases hz0 : z < 0
      · go_upto_region 35 with (fail)
        refine Drawn.wp_region_from (Below.refl _ _) (by kernel_rfl) (by kernel_rfl) (by kernel_rfl) ?_
        (repeat (first | (refine Drawn.seq_skip (by rfl) ?_; (try simp only [Act.put, List.setIfInBounds_toArray, List.set_cons_zero, List.set_cons_succ])) | (refine Drawn.seq_call (o := ⟨_, .call ⟨.value _, _, _⟩, _, _, _, _⟩) (by rfl) (by intro w2 hS; go_simp; first | done | with_reducible rfl | exact ⟨rfl, rfl⟩) (by intro w2 hS; first | ((with_reducible refine (plow_any _ _ _ _ _ _ _ _ _ _ (HK.out.after hS) (by assumption) (by assumption) HZ.out).mono ?_); rintro e w' ⟨rfl, hb⟩; exact ⟨rfl, Below.after hS hb⟩)) ?_; (try simp only [Act.put, List.setIfInBounds_toArray, List.set_cons_zero, List.set_cons_succ])) | (refine Drawn.seq_value (by rfl) (by intro w2 hS; obtain ⟨hc, hf⟩ := bcell hS; go_simp; first | done | with_reducible rfl | exact ⟨rfl, rfl⟩) ?_; (try simp only [Act.put, List.setIfInBounds_toArray, List.set_cons_zero, List.set_cons_succ]))))
        refine Drawn.seq_end ?_; intro w2 hS
        have hY2 := hY.keep hS
        have hB2 : Only b w w2 := hB.trans (Only.of_below hS)
        clear c1 c2 lb hS hY hB HK
        go_wp2
        go_roundw
        case rel => exact ⟨s, h, rfl, by go_num, los, by omega, by omega, hY2, hB2, Lib.hid (HS.out.down HX.out (by omega) (by omega) HLO.out HHI.out (by omega) (by omega) (by rw [HPC.out]; exact (So.lt_later HL.out).2 (by rw [← HU.out, ← HV.out]; exact cmp3_neg.1 (by rw [HZ.out]; exact hz0))))⟩
        case measure => simp [intOf]; omega
      · have hz1 : decide (z < 0) = false := decide_eq_false hz0
        go_upto_region 35 with (fail)
        refine Drawn.wp_region_from (Below.refl _ _) (by kernel_rfl) (by kernel_rfl) (by kernel_rfl) ?_
        (repeat (first | (refine Drawn.seq_skip (by rfl) ?_; (try simp only [Act.put, List.setIfInBounds_toArray, List.set_cons_zero, List.set_cons_succ])) | (refine Drawn.seq_call (o := ⟨_, .call ⟨.value _, _, _⟩, _, _, _, _⟩) (by rfl) (by intro w2 hS; go_simp; first | done | with_reducible rfl | exact ⟨rfl, rfl⟩) (by intro w2 hS; first | ((with_reducible refine (plow_any _ _ _ _ _ _ _ _ _ _ (HK.out.after hS) (by assumption) (by assumption) HZ.out).mono ?_); rintro e w' ⟨rfl, hb⟩; exact ⟨rfl, Below.after hS hb⟩)) ?_; (try simp only [Act.put, List.setIfInBounds_toArray, List.set_cons_zero, List.set_cons_succ])) | (refine Drawn.seq_value (by rfl) (by intro w2 hS; obtain ⟨hc, hf⟩ := bcell hS; go_simp; first | done | with_reducible rfl | exact ⟨rfl, rfl⟩) ?_; (try simp only [Act.put, List.setIfInBounds_toArray, List.set_cons_zero, List.set_cons_succ]))))
        refine Drawn.seq_end ?_; intro w2 hS
        have hY2 := hY.keep hS
        have hB2 : Only b w w2 := hB.trans (Only.of_below hS)
        clear c1 c2 lb hS hY hB HK
        go_wp2
        go_roundw
        case rel => exact ⟨h + 1, r, by go_num, rfl, by omega, by omega, hrh, hY2, hB2, Lib.hid (HS.out.up HX.out (by omega) (by omega) HLO.out HHI.out (by omega) (by omega) (by rw [HPC.out]; exact So.lt_not HL.out (by rw [← HU.out, ← HV.out, ← cmp3_neg, HZ.out]; exact hz0)))⟩
        case measure => simp [intOf]; omega
    · have hltz : ¬ (s : Int) < (r : Int) := by omega
      have HE : Hid (r = s) := Lib.hid (by omega)
      obtain ⟨b1, b2, b3, b4, b5, b6⟩ := So.cut_bounds (a := a) (m := m) (c := e) (s := s) (by rw [HLO.out]; omega) (by rw [HHI.out]; omega)
      have hcut := So.merge_cut HX.out (s := s) (by omega) (by omega) (by rw [HLO.out]; omega) (by rw [HHI.out]; omega) (by rw [HLO.out]; exact HS.out.ahead) (by rw [HHI.out, ← HE.out]; exact HS.out.behind)
      rw [HMID.out] at b3 b4 b5 b6 hcut
      obtain ⟨en, e1, e2⟩ : ∃ en, en + s ≤ N ∧ N ≤ en + s := ⟨N - s, by omega, by omega⟩
      have w5 : IntKind.i64.wrap ((N : Int) - (s : Int)) = (en : Int) := by rw [IntWalk.i64_in _ (by omega)]; omega
      have e3 : mid + m - s = en := by omega
      rw [e3] at hcut
      have HH : Hid (Halves (pkey ks) a s mid en e (So.rot X s m en)) := Lib.hid ⟨hcut.1, hcut.2.1, hcut.2.2⟩
      have HR : Hid (So.Same a e X (So.rot X s m en)) := Lib.hid ((So.Same.rot X (s := s) (m := m) (e := en) b2 (by omega)).mono b1 (by omega))
      have m1 : m ≤ en := by omega
      have m2 : en ≤ e := by omega
      have m3 : mid ≤ en := by omega
      clear e3 hcut b4 b5 b6 HS
      by_cases q1 : s < m ∧ m < en
      · obtain ⟨q11, q12⟩ := q1
        have q11z : (s : Int) < (m : Int) := by omega
        have q12z : (m : Int) < (en : Int) := by omega
        have q1d1 : decide ((s : Int) < (m : Int)) = true := decide_eq_true q11z
        have q1d2 : decide ((m : Int) < (en : Int)) = true := decide_eq_true q12z
        go_upto_region 41 with (go_at_call 42; (with_reducible refine (prot_any ks X b n cn s m en _ _ hY (by omega) (by omega) (by omega) hn).mono ?_); rintro x wz ⟨rfl, hB2, hZ⟩)
        have hBz := hB.trans hB2
        clear hB hB2 hY q1d1 q1d2
        generalize So.rot X s m en = Z at *
        have HBZ : Hid (∀ q, a ≤ q → q < e → Z q < n) := Lib.hid (HR.out.all (p := fun v => v < n) HB.out)
        have HKZ := Lib.hid (HK0.out.keep hBz)
        by_cases q3 : a < s ∧ s < mid
        · obtain ⟨q31, q32⟩ := q3
          have q31z : (a : Int) < (s : Int) := by omega
          have q32z : (s : Int) < (mid : Int) := by omega
          have q3d1 : decide ((a : Int) < (s : Int)) = true := decide_eq_true q31z
          have q3d2 : decide ((s : Int) < (mid : Int)) = true := decide_eq_true q32z
          go_upto_region 43 with (go_at_call 41; (with_reducible refine (IH.out Z a s mid _ (by omega) HKZ.out hZ HH.out.one (fun q h1 h2 => HBZ.out q h1 (by omega)) (by omega) (by omega) (by omega)).mono ?_); rintro x w3 ⟨rfl, hB3, Y1, hY1, HS1, HM1⟩)
          have HS1 := Lib.hid HS1
          have HM1 := Lib.hid HM1
          have hBy := hBz.trans hB3
          clear hB3 hZ hBz q3d1 q3d2
          have HKY := Lib.hid (HK0.out.keep hBy)
          have HP2 : Hid (So.Parts (pkey ks) mid en e Y1) := Lib.hid (Parts.congr HH.out.two (by omega) (by omega) fun q g1 g2 => HM1.out.1 q (Or.inr g1))
          have HBY : Hid (∀ q, mid ≤ q → q < e → Y1 q < n) := Lib.hid (fun q g1 g2 => by rw [HM1.out.1 q (Or.inr g1)]; exact HBZ.out q (by omega) g2)
          by_cases q4 : mid < en ∧ en < e
          · obtain ⟨q41, q42⟩ := q4
            have q41z : (mid : Int) < (en : Int) := by omega
            have q42z : (en : Int) < (e : Int) := by omega
            have q4d1 : decide ((mid : Int) < (en : Int)) = true := decide_eq_true q41z
            have q4d2 : decide ((en : Int) < (e : Int)) = true := decide_eq_true q42z
            go_wp2_with (go_at_call 41; (with_reducible refine (IH.out Y1 mid en e _ (by omega) HKY.out hY1 HP2.out HBY.out (by omega) (by omega) (by omega)).mono ?_); rintro x w4 ⟨rfl, hB4, Y2, hY2, HS2, HM2⟩)
            go_end0
            obtain ⟨r1, r2⟩ := halves_end HH.out (by omega) (by omega) HS1.out HM1.out HS2 HM2
            exact ⟨rfl, hBy.trans hB4, Y2, hY2, r1, HR.out.trans r2⟩
          · have HS2 : Hid (So.Sorted (pkey ks) mid e Y1) := Lib.hid (by
              rcases Nat.lt_or_ge mid en with h | h
              · have : en = e := by omega
                exact this ▸ HP2.out.left
              · have : en = mid := by omega
                exact this ▸ HP2.out.right)
            obtain ⟨r1, r2⟩ := halves_end HH.out (by omega) (by omega) HS1.out HM1.out HS2.out (So.Same.refl _ _ _)
            have HR1 := Lib.hid r1
            have HR2 := Lib.hid r2
            clear r1 r2
            by_cases q41 : mid < en
            · have q41z : (mid : Int) < (en : Int) := by omega
              have q42z : ¬ (en : Int) < (e : Int) := by omega
              have q4d1 : decide ((mid : Int) < (en : Int)) = true := decide_eq_true q41z
              have q4d2 : decide ((en : Int) < (e : Int)) = false := decide_eq_false q42z
              clear q4
              go_wp2
              go_end0
              exact ⟨rfl, hBy, _, hY1, HR1.out, HR.out.trans HR2.out⟩
            · have q41z : ¬ (mid : Int) < (en : Int) := by omega
              have q4d1 : decide ((mid : Int) < (en : Int)) = false := decide_eq_false q41z
              clear q4
              go_wp2
              go_end0
              exact ⟨rfl, hBy, _, hY1, HR1.out, HR.out.trans HR2.out⟩
        · have HS1 : Hid (So.Sorted (pkey ks) a mid Z) := Lib.hid (by
            rcases Nat.lt_or_ge a s with h | h
            · have : s = mid := by omega
              exact this ▸ HH.out.one.left
            · have : s = a := by omega
              exact this ▸ HH.out.one.right)
          have HM1 : Hid (So.Same a mid Z Z) := Lib.hid (So.Same.refl _ _ _)
          have hY1 := hZ
          have hBy := hBz
          clear hZ hBz
          by_cases q31 : a < s
          · have q31z : (a : Int) < (s : Int) := by omega
            have q32z : ¬ (s : Int) < (mid : Int) := by omega
            have q3d1 : decide ((a : Int) < (s : Int)) = true := decide_eq_true q31z
            have q3d2 : decide ((s : Int) < (mid : Int)) = false := decide_eq_false q32z
            clear q3
            go_upto_region 43 with (fail)
            clear q3d1 q3d2
            have HKY := Lib.hid (HK0.out.keep hBy)
            have HP2 : Hid (So.Parts (pkey ks) mid en e Z) := Lib.hid (Parts.congr HH.out.two (by omega) (by omega) fun q g1 g2 => HM1.out.1 q (Or.inr g1))
            have HBY : Hid (∀ q, mid ≤ q → q < e → Z q < n) := Lib.hid (fun q g1 g2 => by rw [HM1.out.1 q (Or.inr g1)]; exact HBZ.out q (by omega) g2)
            by_cases q4 : mid < en ∧ en < e
            · obtain ⟨q41, q42⟩ := q4
              have q41z : (mid : Int) < (en : Int) := by omega
              have q42z : (en : Int) < (e : Int) := by omega
              have q4d1 : decide ((mid : Int) < (en : Int)) = true := decide_eq_true q41z
              have q4d2 : decide ((en : Int) < (e : Int)) = true := decide_eq_true q42z
              go_wp2_with (go_at_call 41; (with_reducible refine (IH.out Z mid en e _ (by omega) HKY.out hY1 HP2.out HBY.out (by omega) (by omega) (by omega)).mono ?_); rintro x w4 ⟨rfl, hB4, Y2, hY2, HS2, HM2⟩)
              go_end0
              obtain ⟨r1, r2⟩ := halves_end HH.out (by omega) (by omega) HS1.out HM1.out HS2 HM2
              exact ⟨rfl, hBy.trans hB4, Y2, hY2, r1, HR.out.trans r2⟩
            · have HS2 : Hid (So.Sorted (pkey ks) mid e Z) := Lib.hid (by
                rcases Nat.lt_or_ge mid en with h | h
                · have : en = e := by omega
                  exact this ▸ HP2.out.left
                · have : en = mid := by omega
                  exact this ▸ HP2.out.right)
              obtain ⟨r1, r2⟩ := halves_end HH.out (by omega) (by omega) HS1.out HM1.out HS2.out (So.Same.refl _ _ _)
              have HR1 := Lib.hid r1
              have HR2 := Lib.hid r2
              clear r1 r2
              by_cases q41 : mid < en
              · have q41z : (mid : Int) < (en : Int) := by omega
                have q42z : ¬ (en : Int) < (e : Int) := by omega
                have q4d1 : decide ((mid : Int) < (en : Int)) = true := decide_eq_true q41z
                have q4d2 : decide ((en : Int) < (e : Int)) = false := decide_eq_false q42z
                clear q4
                go_wp2
                go_end0
                exact ⟨rfl, hBy, _, hY1, HR1.out, HR.out.trans HR2.out⟩
              · have q41z : ¬ (mid : Int) < (en : Int) := by omega
                have q4d1 : decide ((mid : Int) < (en : Int)) = false := decide_eq_false q41z
                clear q4
                go_wp2
                go_end0
                exact ⟨rfl, hBy, _, hY1, HR1.out, HR.out.trans HR2.out⟩
          · have q31z : ¬ (a : Int) < (s : Int) := by omega
            have q3d1 : decide ((a : Int) < (s : Int)) = false := decide_eq_false q31z
            clear q3
            go_upto_region 43 with (fail)
            clear q3d1
            have HKY := Lib.hid (HK0.out.keep hBy)
            have HP2 : Hid (So.Parts (pkey ks) mid en e Z) := Lib.hid (Parts.congr HH.out.two (by omega) (by omega) fun q g1 g2 => HM1.out.1 q (Or.inr g1))
            have HBY : Hid (∀ q, mid ≤ q → q < e → Z q < n) := Lib.hid (fun q g1 g2 => by rw [HM1.out.1 q (Or.inr g1)]; exact HBZ.out q (by omega) g2)
            by_cases q4 : mid < en ∧ en < e
            · obtain ⟨q41, q42⟩ := q4
              have q41z : (mid : Int) < (en : Int) := by omega
              have q42z : (en : Int) < (e : Int) := by omega
              have q4d1 : decide ((mid : Int) < (en : Int)) = true := decide_eq_true q41z
              have q4d2 : decide ((en : Int) < (e : Int)) = true := decide_eq_true q42z
              go_wp2_with (go_at_call 41; (with_reducible refine (IH.out Z mid en e _ (by omega) HKY.out hY1 HP2.out HBY.out (by omega) (by omega) (by omega)).mono ?_); rintro x w4 ⟨rfl, hB4, Y2, hY2, HS2, HM2⟩)
              go_end0
              obtain ⟨r1, r2⟩ := halves_end HH.out (by omega) (by omega) HS1.out HM1.out HS2 HM2
              exact ⟨rfl, hBy.trans hB4, Y2, hY2, r1, HR.out.trans r2⟩
            · have HS2 : Hid (So.Sorted (pkey ks) mid e Z) := Lib.hid (by
                rcases Nat.lt_or_ge mid en with h | h
                · have : en = e := by omega
                  exact this ▸ HP2.out.left
                · have : en = mid := by omega
                  exact this ▸ HP2.out.right)
              obtain ⟨r1, r2⟩ := halves_end HH.out (by omega) (by omega) HS1.out HM1.out HS2.out (So.Same.refl _ _ _)
              have HR1 := Lib.hid r1
              have HR2 := Lib.hid r2
              clear r1 r2
              by_cases q41 : mid < en
              · have q41z : (mid : Int) < (en : Int) := by omega
                have q42z : ¬ (en : Int) < (e : Int) := by omega
                have q4d1 : decide ((mid : Int) < (en : Int)) = true := decide_eq_true q41z
                have q4d2 : decide ((en : Int) < (e : Int)) = false := decide_eq_false q42z
                clear q4
                go_wp2
                go_end0
                exact ⟨rfl, hBy, _, hY1, HR1.out, HR.out.trans HR2.out⟩
              · have q41z : ¬ (mid : Int) < (en : Int) := by omega
                have q4d1 : decide ((mid : Int) < (en : Int)) = false := decide_eq_false q41z
                clear q4
                go_wp2
                go_end0
                exact ⟨rfl, hBy, _, hY1, HR1.out, HR.out.trans HR2.out⟩
      · have HRN : Hid (So.rot X s m en = X) := Lib.hid (rot_none X b2 m1 (by omega))
        rw [HRN.out] at HH HR
        clear HRN
        have hZ := hY
        have hBz := hB
        clear hY hB
        by_cases q11 : s < m
        · have q11z : (s : Int) < (m : Int) := by omega
          have q12z : ¬ (m : Int) < (en : Int) := by omega
          have q1d1 : decide ((s : Int) < (m : Int)) = true := decide_eq_true q11z
          have q1d2 : decide ((m : Int) < (en : Int)) = false := decide_eq_false q12z
          clear q1
          go_upto_region 41 with (fail)
          clear q1d1 q1d2
          have HBZ : Hid (∀ q, a ≤ q → q < e → X q < n) := Lib.hid (HR.out.all (p := fun v => v < n) HB.out)
          have HKZ := Lib.hid (HK0.out.keep hBz)
          by_cases q3 : a < s ∧ s < mid
          · obtain ⟨q31, q32⟩ := q3
            have q31z : (a : Int) < (s : Int) := by omega
            have q32z : (s : Int) < (mid : Int) := by omega
            have q3d1 : decide ((a : Int) < (s : Int)) = true := decide_eq_true q31z
            have q3d2 : decide ((s : Int) < (mid : Int)) = true := decide_eq_true q32z
            go_upto_region 43 with (go_at_call 41; (with_reducible refine (IH.out X a s mid _ (by omega) HKZ.out hZ HH.out.one (fun q h1 h2 => HBZ.out q h1 (by omega)) (by omega) (by omega) (by omega)).mono ?_); rintro x w3 ⟨rfl, hB3, Y1, hY1, HS1, HM1⟩)
            have HS1 := Lib.hid HS1
            have HM1 := Lib.hid HM1
            have hBy := hBz.trans hB3
            clear hB3 hZ hBz q3d1 q3d2
            have HKY := Lib.hid (HK0.out.keep hBy)
            have HP2 : Hid (So.Parts (pkey ks) mid en e Y1) := Lib.hid (Parts.congr HH.out.two (by omega) (by omega) fun q g1 g2 => HM1.out.1 q (Or.inr g1))
            have HBY : Hid (∀ q, mid ≤ q → q < e → Y1 q < n) := Lib.hid (fun q g1 g2 => by rw [HM1.out.1 q (Or.inr g1)]; exact HBZ.out q (by omega) g2)
            by_cases q4 : mid < en ∧ en < e
            · obtain ⟨q41, q42⟩ := q4
              have q41z : (mid : Int) < (en : Int) := by omega
              have q42z : (en : Int) < (e : Int) := by omega
              have q4d1 : decide ((mid : Int) < (en : Int)) = true := decide_eq_true q41z
              have q4d2 : decide ((en : Int) < (e : Int)) = true := decide_eq_true q42z
              go_wp2_with (go_at_call 41; (with_reducible refine (IH.out Y1 mid en e _ (by omega) HKY.out hY1 HP2.out HBY.out (by omega) (by omega) (by omega)).mono ?_); rintro x w4 ⟨rfl, hB4, Y2, hY2, HS2, HM2⟩)
              go_end0
              obtain ⟨r1, r2⟩ := halves_end HH.out (by omega) (by omega) HS1.out HM1.out HS2 HM2
              exact ⟨rfl, hBy.trans hB4, Y2, hY2, r1, HR.out.trans r2⟩
            · have HS2 : Hid (So.Sorted (pkey ks) mid e Y1) := Lib.hid (by
                rcases Nat.lt_or_ge mid en with h | h
                · have : en = e := by omega
                  exact this ▸ HP2.out.left
                · have : en = mid := by omega
                  exact this ▸ HP2.out.right)
              obtain ⟨r1, r2⟩ := halves_end HH.out (by omega) (by omega) HS1.out HM1.out HS2.out (So.Same.refl _ _ _)
              have HR1 := Lib.hid r1
              have HR2 := Lib.hid r2
              clear r1 r2
              by_cases q41 : mid < en
              · have q41z : (mid : Int) < (en : Int) := by omega
                have q42z : ¬ (en : Int) < (e : Int) := by omega
                have q4d1 : decide ((mid : Int) < (en : Int)) = true := decide_eq_true q41z
                have q4d2 : decide ((en : Int) < (e : Int)) = false := decide_eq_false q42z
                clear q4
                go_wp2
                go_end0
                exact ⟨rfl, hBy, _, hY1, HR1.out, HR.out.trans HR2.out⟩
              · have q41z : ¬ (mid : Int) < (en : Int) := by omega
                have q4d1 : decide ((mid : Int) < (en : Int)) = false := decide_eq_false q41z
                clear q4
                go_wp2
                go_end0
                exact ⟨rfl, hBy, _, hY1, HR1.out, HR.out.trans HR2.out⟩
          · have HS1 : Hid (So.Sorted (pkey ks) a mid X) := Lib.hid (by
              rcases Nat.lt_or_ge a s with h | h
              · have : s = mid := by omega
                exact this ▸ HH.out.one.left
              · have : s = a := by omega
                exact this ▸ HH.out.one.right)
            have HM1 : Hid (So.Same a mid X X) := Lib.hid (So.Same.refl _ _ _)
            have hY1 := hZ
            have hBy := hBz
            clear hZ hBz
            by_cases q31 : a < s
            · have q31z : (a : Int) < (s : Int) := by omega
              have q32z : ¬ (s : Int) < (mid : Int) := by omega
              have q3d1 : decide ((a : Int) < (s : Int)) = true := decide_eq_true q31z
              have q3d2 : decide ((s : Int) < (mid : Int)) = false := decide_eq_false q32z
              clear q3
              go_upto_region 43 with (fail)
              clear q3d1 q3d2
              have HKY := Lib.hid (HK0.out.keep hBy)
              have HP2 : Hid (So.Parts (pkey ks) mid en e X) := Lib.hid (Parts.congr HH.out.two (by omega) (by omega) fun q g1 g2 => HM1.out.1 q (Or.inr g1))
              have HBY : Hid (∀ q, mid ≤ q → q < e → X q < n) := Lib.hid (fun q g1 g2 => by rw [HM1.out.1 q (Or.inr g1)]; exact HBZ.out q (by omega) g2)
              by_cases q4 : mid < en ∧ en < e
              · obtain ⟨q41, q42⟩ := q4
                have q41z : (mid : Int) < (en : Int) := by omega
                have q42z : (en : Int) < (e : Int) := by omega
                have q4d1 : decide ((mid : Int) < (en : Int)) = true := decide_eq_true q41z
                have q4d2 : decide ((en : Int) < (e : Int)) = true := decide_eq_true q42z
                go_wp2_with (go_at_call 41; (with_reducible refine (IH.out X mid en e _ (by omega) HKY.out hY1 HP2.out HBY.out (by omega) (by omega) (by omega)).mono ?_); rintro x w4 ⟨rfl, hB4, Y2, hY2, HS2, HM2⟩)
                go_end0
                obtain ⟨r1, r2⟩ := halves_end HH.out (by omega) (by omega) HS1.out HM1.out HS2 HM2
                exact ⟨rfl, hBy.trans hB4, Y2, hY2, r1, HR.out.trans r2⟩
              · have HS2 : Hid (So.Sorted (pkey ks) mid e X) := Lib.hid (by
                  rcases Nat.lt_or_ge mid en with h | h
                  · have : en = e := by omega
                    exact this ▸ HP2.out.left
                  · have : en = mid := by omega
                    exact this ▸ HP2.out.right)
                obtain ⟨r1, r2⟩ := halves_end HH.out (by omega) (by omega) HS1.out HM1.out HS2.out (So.Same.refl _ _ _)
                have HR1 := Lib.hid r1
                have HR2 := Lib.hid r2
                clear r1 r2
                by_cases q41 : mid < en
                · have q41z : (mid : Int) < (en : Int) := by omega
                  have q42z : ¬ (en : Int) < (e : Int) := by omega
                  have q4d1 : decide ((mid : Int) < (en : Int)) = true := decide_eq_true q41z
                  have q4d2 : decide ((en : Int) < (e : Int)) = false := decide_eq_false q42z
                  clear q4
                  go_wp2
                  go_end0
                  exact ⟨rfl, hBy, _, hY1, HR1.out, HR.out.trans HR2.out⟩
                · have q41z : ¬ (mid : Int) < (en : Int) := by omega
                  have q4d1 : decide ((mid : Int) < (en : Int)) = false := decide_eq_false q41z
                  clear q4
                  go_wp2
                  go_end0
                  exact ⟨rfl, hBy, _, hY1, HR1.out, HR.out.trans HR2.out⟩
            · have q31z : ¬ (a : Int) < (s : Int) := by omega
              have q3d1 : decide ((a : Int) < (s : Int)) = false := decide_eq_false q31z
              clear q3
              go_upto_region 43 with (fail)
              clear q3d1
              have HKY := Lib.hid (HK0.out.keep hBy)
              have HP2 : Hid (So.Parts (pkey ks) mid en e X) := Lib.hid (Parts.congr HH.out.two (by omega) (by omega) fun q g1 g2 => HM1.out.1 q (Or.inr g1))
              have HBY : Hid (∀ q, mid ≤ q → q < e → X q < n) := Lib.hid (fun q g1 g2 => by rw [HM1.out.1 q (Or.inr g1)]; exact HBZ.out q (by omega) g2)
              by_cases q4 : mid < en ∧ en < e
              · obtain ⟨q41, q42⟩ := q4
                have q41z : (mid : Int) < (en : Int) := by omega
                have q42z : (en : Int) < (e : Int) := by omega
                have q4d1 : decide ((mid : Int) < (en : Int)) = true := decide_eq_true q41z
                have q4d2 : decide ((en : Int) < (e : Int)) = true := decide_eq_true q42z
                go_wp2_with (go_at_call 41; (with_reducible refine (IH.out X mid en e _ (by omega) HKY.out hY1 HP2.out HBY.out (by omega) (by omega) (by omega)).mono ?_); rintro x w4 ⟨rfl, hB4, Y2, hY2, HS2, HM2⟩)
                go_end0
                obtain ⟨r1, r2⟩ := halves_end HH.out (by omega) (by omega) HS1.out HM1.out HS2 HM2
                exact ⟨rfl, hBy.trans hB4, Y2, hY2, r1, HR.out.trans r2⟩
              · have HS2 : Hid (So.Sorted (pkey ks) mid e X) := Lib.hid (by
                  rcases Nat.lt_or_ge mid en with h | h
                  · have : en = e := by omega
                    exact this ▸ HP2.out.left
                  · have : en = mid := by omega
                    exact this ▸ HP2.out.right)
                obtain ⟨r1, r2⟩ := halves_end HH.out (by omega) (by omega) HS1.out HM1.out HS2.out (So.Same.refl _ _ _)
                have HR1 := Lib.hid r1
                have HR2 := Lib.hid r2
                clear r1 r2
                by_cases q41 : mid < en
                · have q41z : (mid : Int) < (en : Int) := by omega
                  have q42z : ¬ (en : Int) < (e : Int) := by omega
                  have q4d1 : decide ((mid : Int) < (en : Int)) = true := decide_eq_true q41z
                  have q4d2 : decide ((en : Int) < (e : Int)) = false := decide_eq_false q42z
                  clear q4
                  go_wp2
                  go_end0
                  exact ⟨rfl, hBy, _, hY1, HR1.out, HR.out.trans HR2.out⟩
                · have q41z : ¬ (mid : Int) < (en : Int) := by omega
                  have q4d1 : decide ((mid : Int) < (en : Int)) = false := decide_eq_false q41z
                  clear q4
                  go_wp2
                  go_end0
                  exact ⟨rfl, hBy, _, hY1, HR1.out, HR.out.trans HR2.out⟩
        · have q11z : ¬ (s : Int) < (m : Int) := by omega
          have q1d1 : decide ((s : Int) < (m : Int)) = false := decide_eq_false q11z
          clear q1
          go_upto_region 41 with (fail)
          clear q1d1
          have HBZ : Hid (∀ q, a ≤ q → q < e → X q < n) := Lib.hid (HR.out.all (p := fun v => v < n) HB.out)
          have HKZ := Lib.hid (HK0.out.keep hBz)
          by_cases q3 : a < s ∧ s < mid
          · obtain ⟨q31, q32⟩ := q3
            have q31z : (a : Int) < (s : Int) := by omega
            have q32z : (s : Int) < (mid : Int) := by omega
            have q3d1 : decide ((a : Int) < (s : Int)) = true := decide_eq_true q31z
            have q3d2 : decide ((s : Int) < (mid : Int)) = true := decide_eq_true q32z
            go_upto_region 43 with (go_at_call 41; (with_reducible refine (IH.out X a s mid _ (by omega) HKZ.out hZ HH.out.one (fun q h1 h2 => HBZ.out q h1 (by omega)) (by omega) (by omega) (by omega)).mono ?_); rintro x w3 ⟨rfl, hB3, Y1, hY1, HS1, HM1⟩)
            have HS1 := Lib.hid HS1
            have HM1 := Lib.hid HM1
            have hBy := hBz.trans hB3
            clear hB3 hZ hBz q3d1 q3d2
            have HKY := Lib.hid (HK0.out.keep hBy)
            have HP2 : Hid (So.Parts (pkey ks) mid en e Y1) := Lib.hid (Parts.congr HH.out.two (by omega) (by omega) fun q g1 g2 => HM1.out.1 q (Or.inr g1))
            have HBY : Hid (∀ q, mid ≤ q → q < e → Y1 q < n) := Lib.hid (fun q g1 g2 => by rw [HM1.out.1 q (Or.inr g1)]; exact HBZ.out q (by omega) g2)
            by_cases q4 : mid < en ∧ en < e
            · obtain ⟨q41, q42⟩ := q4
              have q41z : (mid : Int) < (en : Int) := by omega
              have q42z : (en : Int) < (e : Int) := by omega
              have q4d1 : decide ((mid : Int) < (en : Int)) = true := decide_eq_true q41z
              have q4d2 : decide ((en : Int) < (e : Int)) = true := decide_eq_true q42z
              go_wp2_with (go_at_call 41; (with_reducible refine (IH.out Y1 mid en e _ (by omega) HKY.out hY1 HP2.out HBY.out (by omega) (by omega) (by omega)).mono ?_); rintro x w4 ⟨rfl, hB4, Y2, hY2, HS2, HM2⟩)
              go_end0
              obtain ⟨r1, r2⟩ := halves_end HH.out (by omega) (by omega) HS1.out HM1.out HS2 HM2
              exact ⟨rfl, hBy.trans hB4, Y2, hY2, r1, HR.out.trans r2⟩
            · have HS2 : Hid (So.Sorted (pkey ks) mid e Y1) := Lib.hid (by
                rcases Nat.lt_or_ge mid en with h | h
                · have : en = e := by omega
                  exact this ▸ HP2.out.left
                · have : en = mid := by omega
                  exact this ▸ HP2.out.right)
              obtain ⟨r1, r2⟩ := halves_end HH.out (by omega) (by omega) HS1.out HM1.out HS2.out (So.Same.refl _ _ _)
              have HR1 := Lib.hid r1
              have HR2 := Lib.hid r2
              clear r1 r2
              by_cases q41 : mid < en
              · have q41z : (mid : Int) < (en : Int) := by omega
                have q42z : ¬ (en : Int) < (e : Int) := by omega
                have q4d1 : decide ((mid : Int) < (en : Int)) = true := decide_eq_true q41z
                have q4d2 : decide ((en : Int) < (e : Int)) = false := decide_eq_false q42z
                clear q4
                go_wp2
                go_end0
                exact ⟨rfl, hBy, _, hY1, HR1.out, HR.out.trans HR2.out⟩
              · have q41z : ¬ (mid : Int) < (en : Int) := by omega
                have q4d1 : decide ((mid : Int) < (en : Int)) = false := decide_eq_false q41z
                clear q4
                go_wp2
                go_end0
                exact ⟨rfl, hBy, _, hY1, HR1.out, HR.out.trans HR2.out⟩
          · have HS1 : Hid (So.Sorted (pkey ks) a mid X) := Lib.hid (by
              rcases Nat.lt_or_ge a s with h | h
              · have : s = mid := by omega
                exact this ▸ HH.out.one.left
              · have : s = a := by omega
                exact this ▸ HH.out.one.right)
            have HM1 : Hid (So.Same a mid X X) := Lib.hid (So.Same.refl _ _ _)
            have hY1 := hZ
            have hBy := hBz
            clear hZ hBz
            by_cases q31 : a < s
            · have q31z : (a : Int) < (s : Int) := by omega
              have q32z : ¬ (s : Int) < (mid : Int) := by omega
              have q3d1 : decide ((a : Int) < (s : Int)) = true := decide_eq_true q31z
              have q3d2 : decide ((s : Int) < (mid : Int)) = false := decide_eq_false q32z
              clear q3
              go_upto_region 43 with (fail)
              clear q3d1 q3d2
              have HKY := Lib.hid (HK0.out.keep hBy)
              have HP2 : Hid (So.Parts (pkey ks) mid en e X) := Lib.hid (Parts.congr HH.out.two (by omega) (by omega) fun q g1 g2 => HM1.out.1 q (Or.inr g1))
              have HBY : Hid (∀ q, mid ≤ q → q < e → X q < n) := Lib.hid (fun q g1 g2 => by rw [HM1.out.1 q (Or.inr g1)]; exact HBZ.out q (by omega) g2)
              by_cases q4 : mid < en ∧ en < e
              · obtain ⟨q41, q42⟩ := q4
                have q41z : (mid : Int) < (en : Int) := by omega
                have q42z : (en : Int) < (e : Int) := by omega
                have q4d1 : decide ((mid : Int) < (en : Int)) = true := decide_eq_true q41z
                have q4d2 : decide ((en : Int) < (e : Int)) = true := decide_eq_true q42z
                go_wp2_with (go_at_call 41; (with_reducible refine (IH.out X mid en e _ (by omega) HKY.out hY1 HP2.out HBY.out (by omega) (by omega) (by omega)).mono ?_); rintro x w4 ⟨rfl, hB4, Y2, hY2, HS2, HM2⟩)
                go_end0
                obtain ⟨r1, r2⟩ := halves_end HH.out (by omega) (by omega) HS1.out HM1.out HS2 HM2
                exact ⟨rfl, hBy.trans hB4, Y2, hY2, r1, HR.out.trans r2⟩
              · have HS2 : Hid (So.Sorted (pkey ks) mid e X) := Lib.hid (by
                  rcases Nat.lt_or_ge mid en with h | h
                  · have : en = e := by omega
                    exact this ▸ HP2.out.left
                  · have : en = mid := by omega
                    exact this ▸ HP2.out.right)
                obtain ⟨r1, r2⟩ := halves_end HH.out (by omega) (by omega) HS1.out HM1.out HS2.out (So.Same.refl _ _ _)
                have HR1 := Lib.hid r1
                have HR2 := Lib.hid r2
                clear r1 r2
                by_cases q41 : mid < en
                · have q41z : (mid : Int) < (en : Int) := by omega
                  have q42z : ¬ (en : Int) < (e : Int) := by omega
                  have q4d1 : decide ((mid : Int) < (en : Int)) = true := decide_eq_true q41z
                  have q4d2 : decide ((en : Int) < (e : Int)) = false := decide_eq_false q42z
                  clear q4
                  go_wp2
                  go_end0
                  exact ⟨rfl, hBy, _, hY1, HR1.out, HR.out.trans HR2.out⟩
                · have q41z : ¬ (mid : Int) < (en : Int) := by omega
                  have q4d1 : decide ((mid : Int) < (en : Int)) = false := decide_eq_false q41z
                  clear q4
                  go_wp2
                  go_end0
                  exact ⟨rfl, hBy, _, hY1, HR1.out, HR.out.trans HR2.out⟩
            · have q31z : ¬ (a : Int) < (s : Int) := by omega
              have q3d1 : decide ((a : Int) < (s : Int)) = false := decide_eq_false q31z
              clear q3
              go_upto_region 43 with (fail)
              clear q3d1
              have HKY := Lib.hid (HK0.out.keep hBy)
              have HP2 : Hid (So.Parts (pkey ks) mid en e X) := Lib.hid (Parts.congr HH.out.two (by omega) (by omega) fun q g1 g2 => HM1.out.1 q (Or.inr g1))
              have HBY : Hid (∀ q, mid ≤ q → q < e → X q < n) := Lib.hid (fun q g1 g2 => by rw [HM1.out.1 q (Or.inr g1)]; exact HBZ.out q (by omega) g2)
              by_cases q4 : mid < en ∧ en < e
              · obtain ⟨q41, q42⟩ := q4
                have q41z : (mid : Int) < (en : Int) := by omega
                have q42z : (en : Int) < (e : Int) := by omega
                have q4d1 : decide ((mid : Int) < (en : Int)) = true := decide_eq_true q41z
                have q4d2 : decide ((en : Int) < (e : Int)) = true := decide_eq_true q42z
                go_wp2_with (go_at_call 41; (with_reducible refine (IH.out X mid en e _ (by omega) HKY.out hY1 HP2.out HBY.out (by omega) (by omega) (by omega)).mono ?_); rintro x w4 ⟨rfl, hB4, Y2, hY2, HS2, HM2⟩)
                go_end0
                obtain ⟨r1, r2⟩ := halves_end HH.out (by omega) (by omega) HS1.out HM1.out HS2 HM2
                exact ⟨rfl, hBy.trans hB4, Y2, hY2, r1, HR.out.trans r2⟩
              · have HS2 : Hid (So.Sorted (pkey ks) mid e X) := Lib.hid (by
                  rcases Nat.lt_or_ge mid en with h | h
                  · have : en = e := by omega
                    exact this ▸ HP2.out.left
                  · have : en = mid := by omega
                    exact this ▸ HP2.out.right)
                obtain ⟨r1, r2⟩ := halves_end HH.out (by omega) (by omega) HS1.out HM1.out HS2.out (So.Same.refl _ _ _)
                have HR1 := Lib.hid r1
                have HR2 := Lib.hid r2
                clear r1 r2
                by_cases q41 : mid < en
                · have q41z : (mid : Int) < (en : Int) := by omega
                  have q42z : ¬ (en : Int) < (e : Int) := by omega
                  have q4d1 : decide ((mid : Int) < (en : Int)) = true := decide_eq_true q41z
                  have q4d2 : decide ((en : Int) < (e : Int)) = false := decide_eq_false q42z
                  clear q4
                  go_wp2
                  go_end0
                  exact ⟨rfl, hBy, _, hY1, HR1.out, HR.out.trans HR2.out⟩
                · have q41z : ¬ (mid : Int) < (en : Int) := by omega
                  have q4d1 : decide ((mid : Int) < (en : Int)) = false := decide_eq_false q41z
                  clear q4
                  go_wp2
                  go_end0
                  exact ⟨rfl, hBy, _, hY1, HR1.out, HR.out.trans HR2.out⟩

theorem psym_any (b kb : Nat) (A : Option Addr) (ks : PKS) (n c cn : Nat) (hn : n ≤ 100000) : ∀ d, SymOk b kb A ks n c cn d := by
  intro d
  induction d with
  | zero => intro X a m e w hd _ _ _ _ h1 h2 _; omega
  | succ d ih =>
    intro X a m e w hd hk hA hX hb h1 h2 h3
    by_cases hl : m ≤ a + 1
    · exact psym_left b kb A ks X n c cn a m e w hk hA hX hb (by omega) hl h2 h3 hn
    · by_cases hr : e ≤ m + 1
      · exact psym_right b kb A ks X n c cn a m e w hk hA hX hb (by omega) (by omega) hr h3 hn
      · by_cases hc : (a + e) / 2 < m
        · exact psym_midA b kb A ks X n c cn a m e d w ih hd hk hA hX hb (by omega) (by omega) h3 hn hc
        · exact psym_midB b kb A ks X n c cn a m e d w ih hd hk hA hX hb (by omega) (by omega) h3 hn hc

end Go.Proofs.Ytbmidmpooooheaa.Fix
