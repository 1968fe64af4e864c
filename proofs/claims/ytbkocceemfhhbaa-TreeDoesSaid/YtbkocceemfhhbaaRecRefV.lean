/- The document's own answer for record: Valid. -/
import Derived.Test.YtbkocceemfhhbaaRecRef0
import Derived.BigRegion
import Derived.Deep.CutRange
namespace Go.Proofs.Ytbkocceemfhhbaa.Fix
open Go.ChangeShapes Go.WideShapes Go.ChangeAt Go.RowKit
set_option linter.unusedVariables false

theorem At.st {W : World} {b : Nat} {t : Re.St} {T : TypeId} (h : At W b (.cells (cells t) T)) (i : Nat) (hi : i < 55) (hb : Re.isB i = false) : W.cell? ⟨b, i, none⟩ = some (.int .i64 (t.c i)) := (h.cell i).trans (cells_int t hi hb)
theorem At.bt {W : World} {b : Nat} {t : Re.St} {T : TypeId} (h : At W b (.cells (cells t) T)) (i : Nat) (hi : i < 55) (hb : Re.isB i = true) : W.cell? ⟨b, i, none⟩ = some (.bool (t.b i)) := (h.cell i).trans (cells_bool t hi hb)

def lp (k : Nat) : List Nat := [3, 5, 7, 9, 11, 13, 41] ++ (List.range k).flatMap fun j => [15 + 2 * j, 23 + 2 * j]
def sp (k : Nat) : List Nat := [46, 53, 54] ++ (List.range k).flatMap fun j => [31 + j, 35 + j]
def lenVals (t : Re.St) (l : List Nat) : List Value := l.flatMap fun p => [.int .i64 (t.c p), .int .i64 (t.c (p + 1))]
def sizeVals (t : Re.St) (l : List Nat) : List Value := l.map fun p => .int .i64 (t.c p)
theorem lenVals_get (t : Re.St) : ∀ {l : List Nat} {k p : Nat}, l[k]? = some p → (lenVals t l)[k * 2]? = some (.int .i64 (t.c p)) ∧ (lenVals t l)[k * 2 + 1]? = some (.int .i64 (t.c (p + 1)))
  | [], _, _, h => by simp at h
  | a :: l, 0, p, h => by
    simp at h
    subst h
    exact ⟨rfl, rfl⟩
  | a :: l, k + 1, p, h => by
    have ih := lenVals_get t (l := l) (k := k) (p := p) (by simpa using h)
    have e : lenVals t (a :: l) = .int .i64 (t.c a) :: .int .i64 (t.c (a + 1)) :: lenVals t l := rfl
    rw [e, show (k + 1) * 2 = k * 2 + 1 + 1 by omega]
    simpa using ih
theorem lenInfo : (Try.prog.info? 34).map (fun i => (i.zero, i.size, i.bytes)) = some (some (.agg #[.int .i64 0, .int .i64 0]), 2, 16) := by kernel_rfl

theorem atLowR {W W' : World} {b base : Nat} {o : Obj} (h : At W b o) (hl : b < base) (hb : Below base W W') : At W' b o := (hb.block b hl).trans h

set_option maxRecDepth 100000 in
set_option maxHeartbeats 4000000 in
theorem rrecvalid_any (t : Re.St) (w : World) : Calls Try.prog 51 #[.agg (cells t)] w fun e w' => e = .returned (.bool (Re.valid t)) ∧ Below w.heap.size w w' := by
  go_enter Try.func51, Try.ntmps51
  go_upto_region 1 with (fail)
  have hA : At (w.alloc (.cells (cells t) 43)) w.heap.size (.cells (cells t) 43) := At.new _ _
  have hB : Below w.heap.size w (w.alloc (.cells (cells t) 43)) := Below.alloc' (Below.refl _ _) _
  generalize w.alloc (.cells (cells t) 43) = W1 at *
  generalize hbox : w.heap.size = bx at *
  have lb := hA.lt
  have HBOX := Lib.hid hbox
  clear hbox
  have d0 := hA.st 0 (by decide) rfl
  have d1 := hA.st 1 (by decide) rfl
  have d2 := hA.st 2 (by decide) rfl
  have d43 := hA.st 43 (by decide) rfl
  have d44 := hA.st 44 (by decide) rfl
  have d49 := hA.st 49 (by decide) rfl
  have d50 := hA.st 50 (by decide) rfl
  go_cut [3] from 9 (fun v w2 => v = .bool (Re.kindsV t) ∧ w2 = W1)
  case first =>
    cases e0 : Re.inn (t.c 0) 0 3
    · have HK := Lib.hid (show Re.kindsV t = false by unfold Re.kindsV; simp only [e0, Bool.false_and])
      go_wp2_with (first | (go_at_call 60; (with_reducible refine (recin_any _ _ _ _).mono ?_); rintro e w' ⟨rfl, rfl⟩))
      go_meet
      case rel => exact ⟨by rw [HK.out], rfl⟩
    · skip
      cases e1 : Re.inn (t.c 1) 0 4
      · have HK := Lib.hid (show Re.kindsV t = false by unfold Re.kindsV; simp only [e0, e1, Bool.false_and, Bool.and_false])
        go_wp2_with (first | (go_at_call 60; (with_reducible refine (recin_any _ _ _ _).mono ?_); rintro e w' ⟨rfl, rfl⟩))
        go_meet
        case rel => exact ⟨by rw [HK.out], rfl⟩
      · skip
        cases e2 : Re.inn (t.c 2) 0 2
        · have HK := Lib.hid (show Re.kindsV t = false by unfold Re.kindsV; simp only [e0, e1, e2, Bool.false_and, Bool.and_false])
          go_wp2_with (first | (go_at_call 60; (with_reducible refine (recin_any _ _ _ _).mono ?_); rintro e w' ⟨rfl, rfl⟩))
          go_meet
          case rel => exact ⟨by rw [HK.out], rfl⟩
        · skip
          cases e3 : Re.inn (t.c 43) 0 5
          · have HK := Lib.hid (show Re.kindsV t = false by unfold Re.kindsV; simp only [e0, e1, e2, e3, Bool.false_and, Bool.and_false])
            go_wp2_with (first | (go_at_call 60; (with_reducible refine (recin_any _ _ _ _).mono ?_); rintro e w' ⟨rfl, rfl⟩))
            go_meet
            case rel => exact ⟨by rw [HK.out], rfl⟩
          · skip
            cases e4 : Re.inn (t.c 44) 0 3
            · have HK := Lib.hid (show Re.kindsV t = false by unfold Re.kindsV; simp only [e0, e1, e2, e3, e4, Bool.false_and, Bool.and_false])
              go_wp2_with (first | (go_at_call 60; (with_reducible refine (recin_any _ _ _ _).mono ?_); rintro e w' ⟨rfl, rfl⟩))
              go_meet
              case rel => exact ⟨by rw [HK.out], rfl⟩
            · skip
              cases e5 : Re.inn (t.c 49) 0 2
              · have HK := Lib.hid (show Re.kindsV t = false by unfold Re.kindsV; simp only [e0, e1, e2, e3, e4, e5, Bool.false_and, Bool.and_false])
                go_wp2_with (first | (go_at_call 60; (with_reducible refine (recin_any _ _ _ _).mono ?_); rintro e w' ⟨rfl, rfl⟩))
                go_meet
                case rel => exact ⟨by rw [HK.out], rfl⟩
              · skip
                cases e6 : Re.inn (t.c 50) 0 3
                · have HK := Lib.hid (show Re.kindsV t = false by unfold Re.kindsV; simp only [e0, e1, e2, e3, e4, e5, e6, Bool.and_false])
                  go_wp2_with (first | (go_at_call 60; (with_reducible refine (recin_any _ _ _ _).mono ?_); rintro e w' ⟨rfl, rfl⟩))
                  go_meet
                  case rel => exact ⟨by rw [HK.out], rfl⟩
                · have HK := Lib.hid (show Re.kindsV t = true by unfold Re.kindsV; simp only [e0, e1, e2, e3, e4, e5, e6, Bool.and_true])
                  go_wp2_with (first | (go_at_call 60; (with_reducible refine (recin_any _ _ _ _).mono ?_); rintro e w' ⟨rfl, rfl⟩))
                  go_meet
                  case rel => exact ⟨by rw [HK.out], rfl⟩
  case rest =>
    obtain ⟨rfl, rfl⟩ := hcut
    clear d0 d1 d2 d43 d44 d49 d50
    generalize hkq : Re.kindsV t = q at *
    have HQ := Lib.hid hkq
    clear hkq
    have d3 := hA.st 3 (by decide) rfl
    have d4 := hA.st 4 (by decide) rfl
    have d5 := hA.st 5 (by decide) rfl
    have d6 := hA.st 6 (by decide) rfl
    have d7 := hA.st 7 (by decide) rfl
    have d8 := hA.st 8 (by decide) rfl
    have d9 := hA.st 9 (by decide) rfl
    have d10 := hA.st 10 (by decide) rfl
    have d11 := hA.st 11 (by decide) rfl
    have d12 := hA.st 12 (by decide) rfl
    have d13 := hA.st 13 (by decide) rfl
    have d14 := hA.st 14 (by decide) rfl
    have d41 := hA.st 41 (by decide) rfl
    have d42 := hA.st 42 (by decide) rfl
    have d46 := hA.st 46 (by decide) rfl
    have d53 := hA.st 53 (by decide) rfl
    have d54 := hA.st 54 (by decide) rfl
    have n1 : (wc.alloc (.cells #[.int .i64 (t.c 3), .int .i64 (t.c 4), .int .i64 (t.c 5), .int .i64 (t.c 6), .int .i64 (t.c 7), .int .i64 (t.c 8), .int .i64 (t.c 9), .int .i64 (t.c 10), .int .i64 (t.c 11), .int .i64 (t.c 12), .int .i64 (t.c 13), .int .i64 (t.c 14), .int .i64 (t.c 41), .int .i64 (t.c 42)] 34)).ownsRow wc.heap.size 34 2 (.slice (some ⟨wc.heap.size, 0, none⟩) 7 7) 7 (lenVals t (lp 0)) := own_made (Nat.le_refl _) rfl (by decide)
    have n2 : ((wc.alloc (.cells #[.int .i64 (t.c 3), .int .i64 (t.c 4), .int .i64 (t.c 5), .int .i64 (t.c 6), .int .i64 (t.c 7), .int .i64 (t.c 8), .int .i64 (t.c 9), .int .i64 (t.c 10), .int .i64 (t.c 11), .int .i64 (t.c 12), .int .i64 (t.c 13), .int .i64 (t.c 14), .int .i64 (t.c 41), .int .i64 (t.c 42)] 34)).alloc (.cells #[.int .i64 (t.c 46), .int .i64 (t.c 53), .int .i64 (t.c 54)] 3)).ownsRow wc.heap.size 3 1 (.slice (some ⟨wc.heap.size + 1, 0, none⟩) 3 3) 3 (sizeVals t (sp 0)) := own_made' (by simp) (by simp) rfl (by decide)
    have N1 := Lib.hid (n1.alloc (.cells #[.int .i64 (t.c 46), .int .i64 (t.c 53), .int .i64 (t.c 54)] 3))
    have N2 := Lib.hid n2
    clear n1 n2
    obtain ⟨i0, hi0, hz0, hz1, hz2⟩ := info_parts lenInfo
    obtain ⟨g0, gi0, gz0, gz1, gz2⟩ := info_parts intZero
    go_upto_region 4 with (fail)
    have hA2 : At ((wc.alloc (.cells #[.int .i64 (t.c 3), .int .i64 (t.c 4), .int .i64 (t.c 5), .int .i64 (t.c 6), .int .i64 (t.c 7), .int .i64 (t.c 8), .int .i64 (t.c 9), .int .i64 (t.c 10), .int .i64 (t.c 11), .int .i64 (t.c 12), .int .i64 (t.c 13), .int .i64 (t.c 14), .int .i64 (t.c 41), .int .i64 (t.c 42)] 34)).alloc (.cells #[.int .i64 (t.c 46), .int .i64 (t.c 53), .int .i64 (t.c 54)] 3)) bx (.cells (cells t) 43) := (hA.alloc _).alloc _
    have hB2 : Below wc.heap.size wc ((wc.alloc (.cells #[.int .i64 (t.c 3), .int .i64 (t.c 4), .int .i64 (t.c 5), .int .i64 (t.c 6), .int .i64 (t.c 7), .int .i64 (t.c 8), .int .i64 (t.c 9), .int .i64 (t.c 10), .int .i64 (t.c 11), .int .i64 (t.c 12), .int .i64 (t.c 13), .int .i64 (t.c 14), .int .i64 (t.c 41), .int .i64 (t.c 42)] 34)).alloc (.cells #[.int .i64 (t.c 46), .int .i64 (t.c 53), .int .i64 (t.c 54)] 3)) := Below.alloc' (Below.alloc' (Below.refl _ _) _) _
    generalize hbase : wc.heap.size = base at *
    have HBASE := Lib.hid hbase
    generalize World.alloc (World.alloc _ _) _ = W2 at *
    have lbx := Lib.hid (show bx < base from hbase ▸ lb)
    have hsz2 : base ≤ W2.heap.size := hbase ▸ hB2.size
    clear hbase
    go_wp2
    go_loopw [4, 5, 6] (fun v u i wr => ∃ (k n m : Nat) (A : Option Addr) (c : Nat) (B : Option Addr) (e : Nat), k ≤ 4 ∧ i = .int .i64 k ∧ v = .slice A n c ∧ u = .slice B m e ∧ Hid (n = 7 + 2 * k) ∧ Hid (m = 3 + 2 * k) ∧ Hid (wr.ownsRow base 34 2 (.slice A n c) n (lenVals t (lp k))) ∧ Hid (wr.ownsRow base 3 1 (.slice B m e) m (sizeVals t (sp k))) ∧ Hid (ApartR (.slice B m e) (.slice A n c)) ∧ At wr bx (.cells (cells t) 43) ∧ Below base wc wr ∧ base ≤ wr.heap.size) (fun _ _ i _ => 4 - (intOf i).toNat)
    case atStart => exact ⟨0, 7, 3, _, _, _, _, by omega, rfl, rfl, rfl, Lib.hid rfl, Lib.hid rfl, N1, N2, Lib.hid (.inr (.inr (by simp [Value.ownBlock]))), hA2, hB2, hsz2⟩
    case round =>
      obtain ⟨k, n, m, A, c, B, e, hk, rfl, rfl, rfl, HN, HM, O1, O2, AP, a, hB3, hsz⟩ := hrel
      obtain rfl | rfl | rfl | rfl | rfl : k = 0 ∨ k = 1 ∨ k = 2 ∨ k = 3 ∨ k = 4 := by omega
      · obtain rfl : n = 7 := by have := HN.out; omega
        obtain rfl : m = 3 := by have := HM.out; omega
        obtain ⟨A', c', w1, hrun1, s1, s2, s3, s4, s5⟩ := append_own2 (t := 97) (T := 34) (W := wr.drew) (m := 2) (news := [.int .i64 (t.c 15), .int .i64 (t.c 16), .int .i64 (t.c 23), .int .i64 (t.c 24)]) Try.underlying97 hi0 hz0 hz1 hz2 rfl (by decide) (by decide) O1.out O2.out AP.out hsz rfl (by simp [Value.oneCell']) (by decide)
        have a1 : At w1 bx _ := atLowR (W := wr.drew) a lbx.out s4
        obtain ⟨B', e', w2, hrun2, t1, t2, t3, t4, t5⟩ := append_own2 (t := 50) (T := 3) (W := w1.drew) (m := 2) (news := [.int .i64 (t.c 31), .int .i64 (t.c 35)]) Try.underlying50 gi0 gz0 gz1 gz2 rfl (by decide) (by decide) s2 s1 s3.symm s5 rfl (by simp [Value.oneCell']) (by decide)
        have a2 : At w2 bx _ := atLowR (W := w1.drew) a1 lbx.out t4
        have B1 : Below base wr w1 := (Below.drew (Below.refl base wr)).trans s4
        have B2 : Below base w1 w2 := (Below.drew (Below.refl base w1)).trans t4
        have keep1 : ∀ W', Below base wr W' → W'.cell? ⟨bx, 15, none⟩ = some (.int .i64 (t.c 15)) ∧ W'.cell? ⟨bx, 16, none⟩ = some (.int .i64 (t.c 16)) ∧ W'.cell? ⟨bx, 23, none⟩ = some (.int .i64 (t.c 23)) ∧ W'.cell? ⟨bx, 24, none⟩ = some (.int .i64 (t.c 24)) := fun W' h => ⟨(atLowR a lbx.out h).st 15 (by decide) rfl, (atLowR a lbx.out h).st 16 (by decide) rfl, (atLowR a lbx.out h).st 23 (by decide) rfl, (atLowR a lbx.out h).st 24 (by decide) rfl⟩
        have keep2 : ∀ W', Below base w1 W' → W'.cell? ⟨bx, 31, none⟩ = some (.int .i64 (t.c 31)) ∧ W'.cell? ⟨bx, 35, none⟩ = some (.int .i64 (t.c 35)) := fun W' h => ⟨(atLowR a1 lbx.out h).st 31 (by decide) rfl, (atLowR a1 lbx.out h).st 35 (by decide) rfl⟩
        have E1 : Hid (w2.ownsRow base 34 2 (.slice A' 9 c') 9 (lenVals t (lp 1))) := Lib.hid t2
        have E2 : Hid (w2.ownsRow base 3 1 (.slice B' 5 e') 5 (sizeVals t (sp 1))) := Lib.hid t1
        have E3 : Hid (ApartR (.slice B' 5 e') (.slice A' 9 c')) := Lib.hid t3.symm
        have hB4 : Below base wc w2 := hB3.trans (B1.trans B2)
        have hs2 : base ≤ w2.heap.size := t5
        have HA2 := Lib.hid a2
        have K1 := Lib.hid keep1
        have K2 := Lib.hid keep2
        have R1 := Lib.hid hrun1
        have R2 := Lib.hid hrun2
        have hsd : base ≤ w1.heap.size := s5
        clear t1 t2 t3 t4 t5 s1 s2 s3 s4 s5 a1 a2 a keep1 keep2 hrun1 hrun2
        go_upto_region 7 with (fail)
        refine Drawn.wp_region_gen (S := (fun W' => W'.cell? ⟨bx, 15, none⟩ = some (.int .i64 (t.c 15)) ∧ W'.cell? ⟨bx, 16, none⟩ = some (.int .i64 (t.c 16)) ∧ W'.cell? ⟨bx, 23, none⟩ = some (.int .i64 (t.c 23)) ∧ W'.cell? ⟨bx, 24, none⟩ = some (.int .i64 (t.c 24)))) 11 (by kernel_rfl) ?_ ?_
        · exact K1.out _ (Below.drew (Below.refl _ _))
        intro hS0
        (refine Drawn.gen_take (i := 0) rfl (by kernel_rfl) (by kernel_rfl) (by kernel_rfl) (by kernel_rfl) (by omega) (by first | assumption | exact hS0) (by first | exact .inr ⟨by rfl, rfl⟩ | exact .inl ⟨by rfl, by intro w2 hS; obtain ⟨q0, q1, q2, q3⟩ := hS; go_simp; first | done | with_reducible rfl | exact ⟨rfl, rfl⟩⟩) ?_; (try simp only [Act.put, List.setIfInBounds_toArray, List.set_cons_zero, List.set_cons_succ]))
        (refine Drawn.gen_take (i := 1) rfl (by kernel_rfl) (by kernel_rfl) (by kernel_rfl) (by kernel_rfl) (by omega) (by first | assumption | exact hS0) (by first | exact .inr ⟨by rfl, rfl⟩ | exact .inl ⟨by rfl, by intro w2 hS; obtain ⟨q0, q1, q2, q3⟩ := hS; go_simp; first | done | with_reducible rfl | exact ⟨rfl, rfl⟩⟩) ?_; (try simp only [Act.put, List.setIfInBounds_toArray, List.set_cons_zero, List.set_cons_succ]))
        (refine Drawn.gen_take (i := 2) rfl (by kernel_rfl) (by kernel_rfl) (by kernel_rfl) (by kernel_rfl) (by omega) (by first | assumption | exact hS0) (by first | exact .inr ⟨by rfl, rfl⟩ | exact .inl ⟨by rfl, by intro w2 hS; obtain ⟨q0, q1, q2, q3⟩ := hS; go_simp; first | done | with_reducible rfl | exact ⟨rfl, rfl⟩⟩) ?_; (try simp only [Act.put, List.setIfInBounds_toArray, List.set_cons_zero, List.set_cons_succ]))
        (refine Drawn.gen_take (i := 3) rfl (by kernel_rfl) (by kernel_rfl) (by kernel_rfl) (by kernel_rfl) (by omega) (by first | assumption | exact hS0) (by first | exact .inr ⟨by rfl, rfl⟩ | exact .inl ⟨by rfl, by intro w2 hS; obtain ⟨q0, q1, q2, q3⟩ := hS; go_simp; first | done | with_reducible rfl | exact ⟨rfl, rfl⟩⟩) ?_; (try simp only [Act.put, List.setIfInBounds_toArray, List.set_cons_zero, List.set_cons_succ]))
        (refine Drawn.gen_take (i := 4) rfl (by kernel_rfl) (by kernel_rfl) (by kernel_rfl) (by kernel_rfl) (by omega) (by first | assumption | exact hS0) (by first | exact .inr ⟨by rfl, rfl⟩ | exact .inl ⟨by rfl, by intro w2 hS; obtain ⟨q0, q1, q2, q3⟩ := hS; go_simp; first | done | with_reducible rfl | exact ⟨rfl, rfl⟩⟩) ?_; (try simp only [Act.put, List.setIfInBounds_toArray, List.set_cons_zero, List.set_cons_succ]))
        (refine Drawn.gen_take (i := 5) rfl (by kernel_rfl) (by kernel_rfl) (by kernel_rfl) (by kernel_rfl) (by omega) (by first | assumption | exact hS0) (by first | exact .inr ⟨by rfl, rfl⟩ | exact .inl ⟨by rfl, by intro w2 hS; obtain ⟨q0, q1, q2, q3⟩ := hS; go_simp; first | done | with_reducible rfl | exact ⟨rfl, rfl⟩⟩) ?_; (try simp only [Act.put, List.setIfInBounds_toArray, List.set_cons_zero, List.set_cons_succ]))
        (refine Drawn.gen_take (i := 6) rfl (by kernel_rfl) (by kernel_rfl) (by kernel_rfl) (by kernel_rfl) (by omega) (by first | assumption | exact hS0) (by first | exact .inr ⟨by rfl, rfl⟩ | exact .inl ⟨by rfl, by intro w2 hS; obtain ⟨q0, q1, q2, q3⟩ := hS; go_simp; first | done | with_reducible rfl | exact ⟨rfl, rfl⟩⟩) ?_; (try simp only [Act.put, List.setIfInBounds_toArray, List.set_cons_zero, List.set_cons_succ]))
        (refine Drawn.gen_take (i := 7) rfl (by kernel_rfl) (by kernel_rfl) (by kernel_rfl) (by kernel_rfl) (by omega) (by first | assumption | exact hS0) (by first | exact .inr ⟨by rfl, rfl⟩ | exact .inl ⟨by rfl, by intro w2 hS; obtain ⟨q0, q1, q2, q3⟩ := hS; go_simp; first | done | with_reducible rfl | exact ⟨rfl, rfl⟩⟩) ?_; (try simp only [Act.put, List.setIfInBounds_toArray, List.set_cons_zero, List.set_cons_succ]))
        (refine Drawn.gen_take (i := 8) rfl (by kernel_rfl) (by kernel_rfl) (by kernel_rfl) (by kernel_rfl) (by omega) (by first | assumption | exact hS0) (by first | exact .inr ⟨by rfl, rfl⟩ | exact .inl ⟨by rfl, by intro w2 hS; obtain ⟨q0, q1, q2, q3⟩ := hS; go_simp; first | done | with_reducible rfl | exact ⟨rfl, rfl⟩⟩) ?_; (try simp only [Act.put, List.setIfInBounds_toArray, List.set_cons_zero, List.set_cons_succ]))
        refine Drawn.gen_one (i := 9) (by kernel_rfl) rfl (by rfl) ?_
        refine Drawn.Step.value (by go_simp; first | done | with_reducible rfl | exact ⟨rfl, rfl⟩) ?_; refine ⟨by first | (intro hlt; exact absurd hlt (by decide)) | (intro _; exact K1.out _ (Below.alloc (Below.drew (Below.refl _ _)) hsz _)), ?_⟩; (try simp only [Act.put, List.setIfInBounds_toArray, List.set_cons_zero, List.set_cons_succ])
        refine Drawn.gen_one (i := 10) (by kernel_rfl) rfl (by rfl) ?_
        refine Drawn.Step.value (run_append_op (.tmp 70) (.tmp 79) 97 rfl rfl rfl R1.out) ⟨fun _ => K1.out _ (by assumption), ?_⟩
        (try simp only [Act.put, List.setIfInBounds_toArray, List.set_cons_zero, List.set_cons_succ])
        refine Drawn.gen_one (i := 11) (by kernel_rfl) rfl (by rfl) ?_
        refine Drawn.Step.value (by go_simp; first | done | with_reducible rfl | exact ⟨rfl, rfl⟩) ?_; refine ⟨by first | (intro hlt; exact absurd hlt (by decide)) | (intro _; omega), ?_⟩; (try simp only [Act.put, List.setIfInBounds_toArray, List.set_cons_zero, List.set_cons_succ])
        refine Drawn.gen_end (by kernel_rfl) ?_
        go_upto_region 8 with (fail)
        refine Drawn.wp_region_gen (S := (fun W' => W'.cell? ⟨bx, 31, none⟩ = some (.int .i64 (t.c 31)) ∧ W'.cell? ⟨bx, 35, none⟩ = some (.int .i64 (t.c 35)))) 11 (by kernel_rfl) ?_ ?_
        · exact K2.out _ (Below.drew (Below.refl _ _))
        intro hS0
        (refine Drawn.gen_take (i := 0) rfl (by kernel_rfl) (by kernel_rfl) (by kernel_rfl) (by kernel_rfl) (by omega) (by first | assumption | exact hS0) (by first | exact .inr ⟨by rfl, rfl⟩ | exact .inl ⟨by rfl, by intro w2 hS; obtain ⟨q0, q1⟩ := hS; go_simp; first | done | with_reducible rfl | exact ⟨rfl, rfl⟩⟩) ?_; (try simp only [Act.put, List.setIfInBounds_toArray, List.set_cons_zero, List.set_cons_succ]))
        (refine Drawn.gen_take (i := 1) rfl (by kernel_rfl) (by kernel_rfl) (by kernel_rfl) (by kernel_rfl) (by omega) (by first | assumption | exact hS0) (by first | exact .inr ⟨by rfl, rfl⟩ | exact .inl ⟨by rfl, by intro w2 hS; obtain ⟨q0, q1⟩ := hS; go_simp; first | done | with_reducible rfl | exact ⟨rfl, rfl⟩⟩) ?_; (try simp only [Act.put, List.setIfInBounds_toArray, List.set_cons_zero, List.set_cons_succ]))
        (refine Drawn.gen_take (i := 2) rfl (by kernel_rfl) (by kernel_rfl) (by kernel_rfl) (by kernel_rfl) (by omega) (by first | assumption | exact hS0) (by first | exact .inr ⟨by rfl, rfl⟩ | exact .inl ⟨by rfl, by intro w2 hS; obtain ⟨q0, q1⟩ := hS; go_simp; first | done | with_reducible rfl | exact ⟨rfl, rfl⟩⟩) ?_; (try simp only [Act.put, List.setIfInBounds_toArray, List.set_cons_zero, List.set_cons_succ]))
        (refine Drawn.gen_take (i := 3) rfl (by kernel_rfl) (by kernel_rfl) (by kernel_rfl) (by kernel_rfl) (by omega) (by first | assumption | exact hS0) (by first | exact .inr ⟨by rfl, rfl⟩ | exact .inl ⟨by rfl, by intro w2 hS; obtain ⟨q0, q1⟩ := hS; go_simp; first | done | with_reducible rfl | exact ⟨rfl, rfl⟩⟩) ?_; (try simp only [Act.put, List.setIfInBounds_toArray, List.set_cons_zero, List.set_cons_succ]))
        (refine Drawn.gen_take (i := 4) rfl (by kernel_rfl) (by kernel_rfl) (by kernel_rfl) (by kernel_rfl) (by omega) (by first | assumption | exact hS0) (by first | exact .inr ⟨by rfl, rfl⟩ | exact .inl ⟨by rfl, by intro w2 hS; obtain ⟨q0, q1⟩ := hS; go_simp; first | done | with_reducible rfl | exact ⟨rfl, rfl⟩⟩) ?_; (try simp only [Act.put, List.setIfInBounds_toArray, List.set_cons_zero, List.set_cons_succ]))
        (refine Drawn.gen_take (i := 5) rfl (by kernel_rfl) (by kernel_rfl) (by kernel_rfl) (by kernel_rfl) (by omega) (by first | assumption | exact hS0) (by first | exact .inr ⟨by rfl, rfl⟩ | exact .inl ⟨by rfl, by intro w2 hS; obtain ⟨q0, q1⟩ := hS; go_simp; first | done | with_reducible rfl | exact ⟨rfl, rfl⟩⟩) ?_; (try simp only [Act.put, List.setIfInBounds_toArray, List.set_cons_zero, List.set_cons_succ]))
        (refine Drawn.gen_take (i := 6) rfl (by kernel_rfl) (by kernel_rfl) (by kernel_rfl) (by kernel_rfl) (by omega) (by first | assumption | exact hS0) (by first | exact .inr ⟨by rfl, rfl⟩ | exact .inl ⟨by rfl, by intro w2 hS; obtain ⟨q0, q1⟩ := hS; go_simp; first | done | with_reducible rfl | exact ⟨rfl, rfl⟩⟩) ?_; (try simp only [Act.put, List.setIfInBounds_toArray, List.set_cons_zero, List.set_cons_succ]))
        (refine Drawn.gen_take (i := 7) rfl (by kernel_rfl) (by kernel_rfl) (by kernel_rfl) (by kernel_rfl) (by omega) (by first | assumption | exact hS0) (by first | exact .inr ⟨by rfl, rfl⟩ | exact .inl ⟨by rfl, by intro w2 hS; obtain ⟨q0, q1⟩ := hS; go_simp; first | done | with_reducible rfl | exact ⟨rfl, rfl⟩⟩) ?_; (try simp only [Act.put, List.setIfInBounds_toArray, List.set_cons_zero, List.set_cons_succ]))
        (refine Drawn.gen_take (i := 8) rfl (by kernel_rfl) (by kernel_rfl) (by kernel_rfl) (by kernel_rfl) (by omega) (by first | assumption | exact hS0) (by first | exact .inr ⟨by rfl, rfl⟩ | exact .inl ⟨by rfl, by intro w2 hS; obtain ⟨q0, q1⟩ := hS; go_simp; first | done | with_reducible rfl | exact ⟨rfl, rfl⟩⟩) ?_; (try simp only [Act.put, List.setIfInBounds_toArray, List.set_cons_zero, List.set_cons_succ]))
        refine Drawn.gen_one (i := 9) (by kernel_rfl) rfl (by rfl) ?_
        refine Drawn.Step.value (by go_simp; first | done | with_reducible rfl | exact ⟨rfl, rfl⟩) ?_; refine ⟨by first | (intro hlt; exact absurd hlt (by decide)) | (intro _; exact K2.out _ (Below.alloc (Below.drew (Below.refl _ _)) hsd _)), ?_⟩; (try simp only [Act.put, List.setIfInBounds_toArray, List.set_cons_zero, List.set_cons_succ])
        refine Drawn.gen_one (i := 10) (by kernel_rfl) rfl (by rfl) ?_
        refine Drawn.Step.value (run_append_op (.tmp 81) (.tmp 90) 50 rfl rfl rfl R2.out) ⟨fun _ => K2.out _ (by assumption), ?_⟩
        (try simp only [Act.put, List.setIfInBounds_toArray, List.set_cons_zero, List.set_cons_succ])
        refine Drawn.gen_one (i := 11) (by kernel_rfl) rfl (by rfl) ?_
        refine Drawn.Step.value (by go_simp; first | done | with_reducible rfl | exact ⟨rfl, rfl⟩) ?_; refine ⟨by first | (intro hlt; exact absurd hlt (by decide)) | (intro _; omega), ?_⟩; (try simp only [Act.put, List.setIfInBounds_toArray, List.set_cons_zero, List.set_cons_succ])
        refine Drawn.gen_end (by kernel_rfl) ?_
        go_wp2
        go_roundw
        case rel => exact ⟨1, 9, 5, _, _, _, _, by omega, by go_num, rfl, rfl, Lib.hid rfl, Lib.hid rfl, E1, E2, E3, HA2.out, hB4, hs2⟩
        case measure => simp [intOf]
      · obtain rfl : n = 9 := by have := HN.out; omega
        obtain rfl : m = 5 := by have := HM.out; omega
        obtain ⟨A', c', w1, hrun1, s1, s2, s3, s4, s5⟩ := append_own2 (t := 97) (T := 34) (W := wr.drew) (m := 2) (news := [.int .i64 (t.c 17), .int .i64 (t.c 18), .int .i64 (t.c 25), .int .i64 (t.c 26)]) Try.underlying97 hi0 hz0 hz1 hz2 rfl (by decide) (by decide) O1.out O2.out AP.out hsz rfl (by simp [Value.oneCell']) (by decide)
        have a1 : At w1 bx _ := atLowR (W := wr.drew) a lbx.out s4
        obtain ⟨B', e', w2, hrun2, t1, t2, t3, t4, t5⟩ := append_own2 (t := 50) (T := 3) (W := w1.drew) (m := 2) (news := [.int .i64 (t.c 32), .int .i64 (t.c 36)]) Try.underlying50 gi0 gz0 gz1 gz2 rfl (by decide) (by decide) s2 s1 s3.symm s5 rfl (by simp [Value.oneCell']) (by decide)
        have a2 : At w2 bx _ := atLowR (W := w1.drew) a1 lbx.out t4
        have B1 : Below base wr w1 := (Below.drew (Below.refl base wr)).trans s4
        have B2 : Below base w1 w2 := (Below.drew (Below.refl base w1)).trans t4
        have keep1 : ∀ W', Below base wr W' → W'.cell? ⟨bx, 17, none⟩ = some (.int .i64 (t.c 17)) ∧ W'.cell? ⟨bx, 18, none⟩ = some (.int .i64 (t.c 18)) ∧ W'.cell? ⟨bx, 25, none⟩ = some (.int .i64 (t.c 25)) ∧ W'.cell? ⟨bx, 26, none⟩ = some (.int .i64 (t.c 26)) := fun W' h => ⟨(atLowR a lbx.out h).st 17 (by decide) rfl, (atLowR a lbx.out h).st 18 (by decide) rfl, (atLowR a lbx.out h).st 25 (by decide) rfl, (atLowR a lbx.out h).st 26 (by decide) rfl⟩
        have keep2 : ∀ W', Below base w1 W' → W'.cell? ⟨bx, 32, none⟩ = some (.int .i64 (t.c 32)) ∧ W'.cell? ⟨bx, 36, none⟩ = some (.int .i64 (t.c 36)) := fun W' h => ⟨(atLowR a1 lbx.out h).st 32 (by decide) rfl, (atLowR a1 lbx.out h).st 36 (by decide) rfl⟩
        have E1 : Hid (w2.ownsRow base 34 2 (.slice A' 11 c') 11 (lenVals t (lp 2))) := Lib.hid t2
        have E2 : Hid (w2.ownsRow base 3 1 (.slice B' 7 e') 7 (sizeVals t (sp 2))) := Lib.hid t1
        have E3 : Hid (ApartR (.slice B' 7 e') (.slice A' 11 c')) := Lib.hid t3.symm
        have hB4 : Below base wc w2 := hB3.trans (B1.trans B2)
        have hs2 : base ≤ w2.heap.size := t5
        have HA2 := Lib.hid a2
        have K1 := Lib.hid keep1
        have K2 := Lib.hid keep2
        have R1 := Lib.hid hrun1
        have R2 := Lib.hid hrun2
        have hsd : base ≤ w1.heap.size := s5
        clear t1 t2 t3 t4 t5 s1 s2 s3 s4 s5 a1 a2 a keep1 keep2 hrun1 hrun2
        go_upto_region 7 with (fail)
        refine Drawn.wp_region_gen (S := (fun W' => W'.cell? ⟨bx, 17, none⟩ = some (.int .i64 (t.c 17)) ∧ W'.cell? ⟨bx, 18, none⟩ = some (.int .i64 (t.c 18)) ∧ W'.cell? ⟨bx, 25, none⟩ = some (.int .i64 (t.c 25)) ∧ W'.cell? ⟨bx, 26, none⟩ = some (.int .i64 (t.c 26)))) 11 (by kernel_rfl) ?_ ?_
        · exact K1.out _ (Below.drew (Below.refl _ _))
        intro hS0
        (refine Drawn.gen_take (i := 0) rfl (by kernel_rfl) (by kernel_rfl) (by kernel_rfl) (by kernel_rfl) (by omega) (by first | assumption | exact hS0) (by first | exact .inr ⟨by rfl, rfl⟩ | exact .inl ⟨by rfl, by intro w2 hS; obtain ⟨q0, q1, q2, q3⟩ := hS; go_simp; first | done | with_reducible rfl | exact ⟨rfl, rfl⟩⟩) ?_; (try simp only [Act.put, List.setIfInBounds_toArray, List.set_cons_zero, List.set_cons_succ]))
        (refine Drawn.gen_take (i := 1) rfl (by kernel_rfl) (by kernel_rfl) (by kernel_rfl) (by kernel_rfl) (by omega) (by first | assumption | exact hS0) (by first | exact .inr ⟨by rfl, rfl⟩ | exact .inl ⟨by rfl, by intro w2 hS; obtain ⟨q0, q1, q2, q3⟩ := hS; go_simp; first | done | with_reducible rfl | exact ⟨rfl, rfl⟩⟩) ?_; (try simp only [Act.put, List.setIfInBounds_toArray, List.set_cons_zero, List.set_cons_succ]))
        (refine Drawn.gen_take (i := 2) rfl (by kernel_rfl) (by kernel_rfl) (by kernel_rfl) (by kernel_rfl) (by omega) (by first | assumption | exact hS0) (by first | exact .inr ⟨by rfl, rfl⟩ | exact .inl ⟨by rfl, by intro w2 hS; obtain ⟨q0, q1, q2, q3⟩ := hS; go_simp; first | done | with_reducible rfl | exact ⟨rfl, rfl⟩⟩) ?_; (try simp only [Act.put, List.setIfInBounds_toArray, List.set_cons_zero, List.set_cons_succ]))
        (refine Drawn.gen_take (i := 3) rfl (by kernel_rfl) (by kernel_rfl) (by kernel_rfl) (by kernel_rfl) (by omega) (by first | assumption | exact hS0) (by first | exact .inr ⟨by rfl, rfl⟩ | exact .inl ⟨by rfl, by intro w2 hS; obtain ⟨q0, q1, q2, q3⟩ := hS; go_simp; first | done | with_reducible rfl | exact ⟨rfl, rfl⟩⟩) ?_; (try simp only [Act.put, List.setIfInBounds_toArray, List.set_cons_zero, List.set_cons_succ]))
        (refine Drawn.gen_take (i := 4) rfl (by kernel_rfl) (by kernel_rfl) (by kernel_rfl) (by kernel_rfl) (by omega) (by first | assumption | exact hS0) (by first | exact .inr ⟨by rfl, rfl⟩ | exact .inl ⟨by rfl, by intro w2 hS; obtain ⟨q0, q1, q2, q3⟩ := hS; go_simp; first | done | with_reducible rfl | exact ⟨rfl, rfl⟩⟩) ?_; (try simp only [Act.put, List.setIfInBounds_toArray, List.set_cons_zero, List.set_cons_succ]))
        (refine Drawn.gen_take (i := 5) rfl (by kernel_rfl) (by kernel_rfl) (by kernel_rfl) (by kernel_rfl) (by omega) (by first | assumption | exact hS0) (by first | exact .inr ⟨by rfl, rfl⟩ | exact .inl ⟨by rfl, by intro w2 hS; obtain ⟨q0, q1, q2, q3⟩ := hS; go_simp; first | done | with_reducible rfl | exact ⟨rfl, rfl⟩⟩) ?_; (try simp only [Act.put, List.setIfInBounds_toArray, List.set_cons_zero, List.set_cons_succ]))
        (refine Drawn.gen_take (i := 6) rfl (by kernel_rfl) (by kernel_rfl) (by kernel_rfl) (by kernel_rfl) (by omega) (by first | assumption | exact hS0) (by first | exact .inr ⟨by rfl, rfl⟩ | exact .inl ⟨by rfl, by intro w2 hS; obtain ⟨q0, q1, q2, q3⟩ := hS; go_simp; first | done | with_reducible rfl | exact ⟨rfl, rfl⟩⟩) ?_; (try simp only [Act.put, List.setIfInBounds_toArray, List.set_cons_zero, List.set_cons_succ]))
        (refine Drawn.gen_take (i := 7) rfl (by kernel_rfl) (by kernel_rfl) (by kernel_rfl) (by kernel_rfl) (by omega) (by first | assumption | exact hS0) (by first | exact .inr ⟨by rfl, rfl⟩ | exact .inl ⟨by rfl, by intro w2 hS; obtain ⟨q0, q1, q2, q3⟩ := hS; go_simp; first | done | with_reducible rfl | exact ⟨rfl, rfl⟩⟩) ?_; (try simp only [Act.put, List.setIfInBounds_toArray, List.set_cons_zero, List.set_cons_succ]))
        (refine Drawn.gen_take (i := 8) rfl (by kernel_rfl) (by kernel_rfl) (by kernel_rfl) (by kernel_rfl) (by omega) (by first | assumption | exact hS0) (by first | exact .inr ⟨by rfl, rfl⟩ | exact .inl ⟨by rfl, by intro w2 hS; obtain ⟨q0, q1, q2, q3⟩ := hS; go_simp; first | done | with_reducible rfl | exact ⟨rfl, rfl⟩⟩) ?_; (try simp only [Act.put, List.setIfInBounds_toArray, List.set_cons_zero, List.set_cons_succ]))
        refine Drawn.gen_one (i := 9) (by kernel_rfl) rfl (by rfl) ?_
        refine Drawn.Step.value (by go_simp; first | done | with_reducible rfl | exact ⟨rfl, rfl⟩) ?_; refine ⟨by first | (intro hlt; exact absurd hlt (by decide)) | (intro _; exact K1.out _ (Below.alloc (Below.drew (Below.refl _ _)) hsz _)), ?_⟩; (try simp only [Act.put, List.setIfInBounds_toArray, List.set_cons_zero, List.set_cons_succ])
        refine Drawn.gen_one (i := 10) (by kernel_rfl) rfl (by rfl) ?_
        refine Drawn.Step.value (run_append_op (.tmp 70) (.tmp 79) 97 rfl rfl rfl R1.out) ⟨fun _ => K1.out _ (by assumption), ?_⟩
        (try simp only [Act.put, List.setIfInBounds_toArray, List.set_cons_zero, List.set_cons_succ])
        refine Drawn.gen_one (i := 11) (by kernel_rfl) rfl (by rfl) ?_
        refine Drawn.Step.value (by go_simp; first | done | with_reducible rfl | exact ⟨rfl, rfl⟩) ?_; refine ⟨by first | (intro hlt; exact absurd hlt (by decide)) | (intro _; omega), ?_⟩; (try simp only [Act.put, List.setIfInBounds_toArray, List.set_cons_zero, List.set_cons_succ])
        refine Drawn.gen_end (by kernel_rfl) ?_
        go_upto_region 8 with (fail)
        refine Drawn.wp_region_gen (S := (fun W' => W'.cell? ⟨bx, 32, none⟩ = some (.int .i64 (t.c 32)) ∧ W'.cell? ⟨bx, 36, none⟩ = some (.int .i64 (t.c 36)))) 11 (by kernel_rfl) ?_ ?_
        · exact K2.out _ (Below.drew (Below.refl _ _))
        intro hS0
        (refine Drawn.gen_take (i := 0) rfl (by kernel_rfl) (by kernel_rfl) (by kernel_rfl) (by kernel_rfl) (by omega) (by first | assumption | exact hS0) (by first | exact .inr ⟨by rfl, rfl⟩ | exact .inl ⟨by rfl, by intro w2 hS; obtain ⟨q0, q1⟩ := hS; go_simp; first | done | with_reducible rfl | exact ⟨rfl, rfl⟩⟩) ?_; (try simp only [Act.put, List.setIfInBounds_toArray, List.set_cons_zero, List.set_cons_succ]))
        (refine Drawn.gen_take (i := 1) rfl (by kernel_rfl) (by kernel_rfl) (by kernel_rfl) (by kernel_rfl) (by omega) (by first | assumption | exact hS0) (by first | exact .inr ⟨by rfl, rfl⟩ | exact .inl ⟨by rfl, by intro w2 hS; obtain ⟨q0, q1⟩ := hS; go_simp; first | done | with_reducible rfl | exact ⟨rfl, rfl⟩⟩) ?_; (try simp only [Act.put, List.setIfInBounds_toArray, List.set_cons_zero, List.set_cons_succ]))
        (refine Drawn.gen_take (i := 2) rfl (by kernel_rfl) (by kernel_rfl) (by kernel_rfl) (by kernel_rfl) (by omega) (by first | assumption | exact hS0) (by first | exact .inr ⟨by rfl, rfl⟩ | exact .inl ⟨by rfl, by intro w2 hS; obtain ⟨q0, q1⟩ := hS; go_simp; first | done | with_reducible rfl | exact ⟨rfl, rfl⟩⟩) ?_; (try simp only [Act.put, List.setIfInBounds_toArray, List.set_cons_zero, List.set_cons_succ]))
        (refine Drawn.gen_take (i := 3) rfl (by kernel_rfl) (by kernel_rfl) (by kernel_rfl) (by kernel_rfl) (by omega) (by first | assumption | exact hS0) (by first | exact .inr ⟨by rfl, rfl⟩ | exact .inl ⟨by rfl, by intro w2 hS; obtain ⟨q0, q1⟩ := hS; go_simp; first | done | with_reducible rfl | exact ⟨rfl, rfl⟩⟩) ?_; (try simp only [Act.put, List.setIfInBounds_toArray, List.set_cons_zero, List.set_cons_succ]))
        (refine Drawn.gen_take (i := 4) rfl (by kernel_rfl) (by kernel_rfl) (by kernel_rfl) (by kernel_rfl) (by omega) (by first | assumption | exact hS0) (by first | exact .inr ⟨by rfl, rfl⟩ | exact .inl ⟨by rfl, by intro w2 hS; obtain ⟨q0, q1⟩ := hS; go_simp; first | done | with_reducible rfl | exact ⟨rfl, rfl⟩⟩) ?_; (try simp only [Act.put, List.setIfInBounds_toArray, List.set_cons_zero, List.set_cons_succ]))
        (refine Drawn.gen_take (i := 5) rfl (by kernel_rfl) (by kernel_rfl) (by kernel_rfl) (by kernel_rfl) (by omega) (by first | assumption | exact hS0) (by first | exact .inr ⟨by rfl, rfl⟩ | exact .inl ⟨by rfl, by intro w2 hS; obtain ⟨q0, q1⟩ := hS; go_simp; first | done | with_reducible rfl | exact ⟨rfl, rfl⟩⟩) ?_; (try simp only [Act.put, List.setIfInBounds_toArray, List.set_cons_zero, List.set_cons_succ]))
        (refine Drawn.gen_take (i := 6) rfl (by kernel_rfl) (by kernel_rfl) (by kernel_rfl) (by kernel_rfl) (by omega) (by first | assumption | exact hS0) (by first | exact .inr ⟨by rfl, rfl⟩ | exact .inl ⟨by rfl, by intro w2 hS; obtain ⟨q0, q1⟩ := hS; go_simp; first | done | with_reducible rfl | exact ⟨rfl, rfl⟩⟩) ?_; (try simp only [Act.put, List.setIfInBounds_toArray, List.set_cons_zero, List.set_cons_succ]))
        (refine Drawn.gen_take (i := 7) rfl (by kernel_rfl) (by kernel_rfl) (by kernel_rfl) (by kernel_rfl) (by omega) (by first | assumption | exact hS0) (by first | exact .inr ⟨by rfl, rfl⟩ | exact .inl ⟨by rfl, by intro w2 hS; obtain ⟨q0, q1⟩ := hS; go_simp; first | done | with_reducible rfl | exact ⟨rfl, rfl⟩⟩) ?_; (try simp only [Act.put, List.setIfInBounds_toArray, List.set_cons_zero, List.set_cons_succ]))
        (refine Drawn.gen_take (i := 8) rfl (by kernel_rfl) (by kernel_rfl) (by kernel_rfl) (by kernel_rfl) (by omega) (by first | assumption | exact hS0) (by first | exact .inr ⟨by rfl, rfl⟩ | exact .inl ⟨by rfl, by intro w2 hS; obtain ⟨q0, q1⟩ := hS; go_simp; first | done | with_reducible rfl | exact ⟨rfl, rfl⟩⟩) ?_; (try simp only [Act.put, List.setIfInBounds_toArray, List.set_cons_zero, List.set_cons_succ]))
        refine Drawn.gen_one (i := 9) (by kernel_rfl) rfl (by rfl) ?_
        refine Drawn.Step.value (by go_simp; first | done | with_reducible rfl | exact ⟨rfl, rfl⟩) ?_; refine ⟨by first | (intro hlt; exact absurd hlt (by decide)) | (intro _; exact K2.out _ (Below.alloc (Below.drew (Below.refl _ _)) hsd _)), ?_⟩; (try simp only [Act.put, List.setIfInBounds_toArray, List.set_cons_zero, List.set_cons_succ])
        refine Drawn.gen_one (i := 10) (by kernel_rfl) rfl (by rfl) ?_
        refine Drawn.Step.value (run_append_op (.tmp 81) (.tmp 90) 50 rfl rfl rfl R2.out) ⟨fun _ => K2.out _ (by assumption), ?_⟩
        (try simp only [Act.put, List.setIfInBounds_toArray, List.set_cons_zero, List.set_cons_succ])
        refine Drawn.gen_one (i := 11) (by kernel_rfl) rfl (by rfl) ?_
        refine Drawn.Step.value (by go_simp; first | done | with_reducible rfl | exact ⟨rfl, rfl⟩) ?_; refine ⟨by first | (intro hlt; exact absurd hlt (by decide)) | (intro _; omega), ?_⟩; (try simp only [Act.put, List.setIfInBounds_toArray, List.set_cons_zero, List.set_cons_succ])
        refine Drawn.gen_end (by kernel_rfl) ?_
        go_wp2
        go_roundw
        case rel => exact ⟨2, 11, 7, _, _, _, _, by omega, by go_num, rfl, rfl, Lib.hid rfl, Lib.hid rfl, E1, E2, E3, HA2.out, hB4, hs2⟩
        case measure => simp [intOf]
      · obtain rfl : n = 11 := by have := HN.out; omega
        obtain rfl : m = 7 := by have := HM.out; omega
        obtain ⟨A', c', w1, hrun1, s1, s2, s3, s4, s5⟩ := append_own2 (t := 97) (T := 34) (W := wr.drew) (m := 2) (news := [.int .i64 (t.c 19), .int .i64 (t.c 20), .int .i64 (t.c 27), .int .i64 (t.c 28)]) Try.underlying97 hi0 hz0 hz1 hz2 rfl (by decide) (by decide) O1.out O2.out AP.out hsz rfl (by simp [Value.oneCell']) (by decide)
        have a1 : At w1 bx _ := atLowR (W := wr.drew) a lbx.out s4
        obtain ⟨B', e', w2, hrun2, t1, t2, t3, t4, t5⟩ := append_own2 (t := 50) (T := 3) (W := w1.drew) (m := 2) (news := [.int .i64 (t.c 33), .int .i64 (t.c 37)]) Try.underlying50 gi0 gz0 gz1 gz2 rfl (by decide) (by decide) s2 s1 s3.symm s5 rfl (by simp [Value.oneCell']) (by decide)
        have a2 : At w2 bx _ := atLowR (W := w1.drew) a1 lbx.out t4
        have B1 : Below base wr w1 := (Below.drew (Below.refl base wr)).trans s4
        have B2 : Below base w1 w2 := (Below.drew (Below.refl base w1)).trans t4
        have keep1 : ∀ W', Below base wr W' → W'.cell? ⟨bx, 19, none⟩ = some (.int .i64 (t.c 19)) ∧ W'.cell? ⟨bx, 20, none⟩ = some (.int .i64 (t.c 20)) ∧ W'.cell? ⟨bx, 27, none⟩ = some (.int .i64 (t.c 27)) ∧ W'.cell? ⟨bx, 28, none⟩ = some (.int .i64 (t.c 28)) := fun W' h => ⟨(atLowR a lbx.out h).st 19 (by decide) rfl, (atLowR a lbx.out h).st 20 (by decide) rfl, (atLowR a lbx.out h).st 27 (by decide) rfl, (atLowR a lbx.out h).st 28 (by decide) rfl⟩
        have keep2 : ∀ W', Below base w1 W' → W'.cell? ⟨bx, 33, none⟩ = some (.int .i64 (t.c 33)) ∧ W'.cell? ⟨bx, 37, none⟩ = some (.int .i64 (t.c 37)) := fun W' h => ⟨(atLowR a1 lbx.out h).st 33 (by decide) rfl, (atLowR a1 lbx.out h).st 37 (by decide) rfl⟩
        have E1 : Hid (w2.ownsRow base 34 2 (.slice A' 13 c') 13 (lenVals t (lp 3))) := Lib.hid t2
        have E2 : Hid (w2.ownsRow base 3 1 (.slice B' 9 e') 9 (sizeVals t (sp 3))) := Lib.hid t1
        have E3 : Hid (ApartR (.slice B' 9 e') (.slice A' 13 c')) := Lib.hid t3.symm
        have hB4 : Below base wc w2 := hB3.trans (B1.trans B2)
        have hs2 : base ≤ w2.heap.size := t5
        have HA2 := Lib.hid a2
        have K1 := Lib.hid keep1
        have K2 := Lib.hid keep2
        have R1 := Lib.hid hrun1
        have R2 := Lib.hid hrun2
        have hsd : base ≤ w1.heap.size := s5
        clear t1 t2 t3 t4 t5 s1 s2 s3 s4 s5 a1 a2 a keep1 keep2 hrun1 hrun2
        go_upto_region 7 with (fail)
        refine Drawn.wp_region_gen (S := (fun W' => W'.cell? ⟨bx, 19, none⟩ = some (.int .i64 (t.c 19)) ∧ W'.cell? ⟨bx, 20, none⟩ = some (.int .i64 (t.c 20)) ∧ W'.cell? ⟨bx, 27, none⟩ = some (.int .i64 (t.c 27)) ∧ W'.cell? ⟨bx, 28, none⟩ = some (.int .i64 (t.c 28)))) 11 (by kernel_rfl) ?_ ?_
        · exact K1.out _ (Below.drew (Below.refl _ _))
        intro hS0
        (refine Drawn.gen_take (i := 0) rfl (by kernel_rfl) (by kernel_rfl) (by kernel_rfl) (by kernel_rfl) (by omega) (by first | assumption | exact hS0) (by first | exact .inr ⟨by rfl, rfl⟩ | exact .inl ⟨by rfl, by intro w2 hS; obtain ⟨q0, q1, q2, q3⟩ := hS; go_simp; first | done | with_reducible rfl | exact ⟨rfl, rfl⟩⟩) ?_; (try simp only [Act.put, List.setIfInBounds_toArray, List.set_cons_zero, List.set_cons_succ]))
        (refine Drawn.gen_take (i := 1) rfl (by kernel_rfl) (by kernel_rfl) (by kernel_rfl) (by kernel_rfl) (by omega) (by first | assumption | exact hS0) (by first | exact .inr ⟨by rfl, rfl⟩ | exact .inl ⟨by rfl, by intro w2 hS; obtain ⟨q0, q1, q2, q3⟩ := hS; go_simp; first | done | with_reducible rfl | exact ⟨rfl, rfl⟩⟩) ?_; (try simp only [Act.put, List.setIfInBounds_toArray, List.set_cons_zero, List.set_cons_succ]))
        (refine Drawn.gen_take (i := 2) rfl (by kernel_rfl) (by kernel_rfl) (by kernel_rfl) (by kernel_rfl) (by omega) (by first | assumption | exact hS0) (by first | exact .inr ⟨by rfl, rfl⟩ | exact .inl ⟨by rfl, by intro w2 hS; obtain ⟨q0, q1, q2, q3⟩ := hS; go_simp; first | done | with_reducible rfl | exact ⟨rfl, rfl⟩⟩) ?_; (try simp only [Act.put, List.setIfInBounds_toArray, List.set_cons_zero, List.set_cons_succ]))
        (refine Drawn.gen_take (i := 3) rfl (by kernel_rfl) (by kernel_rfl) (by kernel_rfl) (by kernel_rfl) (by omega) (by first | assumption | exact hS0) (by first | exact .inr ⟨by rfl, rfl⟩ | exact .inl ⟨by rfl, by intro w2 hS; obtain ⟨q0, q1, q2, q3⟩ := hS; go_simp; first | done | with_reducible rfl | exact ⟨rfl, rfl⟩⟩) ?_; (try simp only [Act.put, List.setIfInBounds_toArray, List.set_cons_zero, List.set_cons_succ]))
        (refine Drawn.gen_take (i := 4) rfl (by kernel_rfl) (by kernel_rfl) (by kernel_rfl) (by kernel_rfl) (by omega) (by first | assumption | exact hS0) (by first | exact .inr ⟨by rfl, rfl⟩ | exact .inl ⟨by rfl, by intro w2 hS; obtain ⟨q0, q1, q2, q3⟩ := hS; go_simp; first | done | with_reducible rfl | exact ⟨rfl, rfl⟩⟩) ?_; (try simp only [Act.put, List.setIfInBounds_toArray, List.set_cons_zero, List.set_cons_succ]))
        (refine Drawn.gen_take (i := 5) rfl (by kernel_rfl) (by kernel_rfl) (by kernel_rfl) (by kernel_rfl) (by omega) (by first | assumption | exact hS0) (by first | exact .inr ⟨by rfl, rfl⟩ | exact .inl ⟨by rfl, by intro w2 hS; obtain ⟨q0, q1, q2, q3⟩ := hS; go_simp; first | done | with_reducible rfl | exact ⟨rfl, rfl⟩⟩) ?_; (try simp only [Act.put, List.setIfInBounds_toArray, List.set_cons_zero, List.set_cons_succ]))
        (refine Drawn.gen_take (i := 6) rfl (by kernel_rfl) (by kernel_rfl) (by kernel_rfl) (by kernel_rfl) (by omega) (by first | assumption | exact hS0) (by first | exact .inr ⟨by rfl, rfl⟩ | exact .inl ⟨by rfl, by intro w2 hS; obtain ⟨q0, q1, q2, q3⟩ := hS; go_simp; first | done | with_reducible rfl | exact ⟨rfl, rfl⟩⟩) ?_; (try simp only [Act.put, List.setIfInBounds_toArray, List.set_cons_zero, List.set_cons_succ]))
        (refine Drawn.gen_take (i := 7) rfl (by kernel_rfl) (by kernel_rfl) (by kernel_rfl) (by kernel_rfl) (by omega) (by first | assumption | exact hS0) (by first | exact .inr ⟨by rfl, rfl⟩ | exact .inl ⟨by rfl, by intro w2 hS; obtain ⟨q0, q1, q2, q3⟩ := hS; go_simp; first | done | with_reducible rfl | exact ⟨rfl, rfl⟩⟩) ?_; (try simp only [Act.put, List.setIfInBounds_toArray, List.set_cons_zero, List.set_cons_succ]))
        (refine Drawn.gen_take (i := 8) rfl (by kernel_rfl) (by kernel_rfl) (by kernel_rfl) (by kernel_rfl) (by omega) (by first | assumption | exact hS0) (by first | exact .inr ⟨by rfl, rfl⟩ | exact .inl ⟨by rfl, by intro w2 hS; obtain ⟨q0, q1, q2, q3⟩ := hS; go_simp; first | done | with_reducible rfl | exact ⟨rfl, rfl⟩⟩) ?_; (try simp only [Act.put, List.setIfInBounds_toArray, List.set_cons_zero, List.set_cons_succ]))
        refine Drawn.gen_one (i := 9) (by kernel_rfl) rfl (by rfl) ?_
        refine Drawn.Step.value (by go_simp; first | done | with_reducible rfl | exact ⟨rfl, rfl⟩) ?_; refine ⟨by first | (intro hlt; exact absurd hlt (by decide)) | (intro _; exact K1.out _ (Below.alloc (Below.drew (Below.refl _ _)) hsz _)), ?_⟩; (try simp only [Act.put, List.setIfInBounds_toArray, List.set_cons_zero, List.set_cons_succ])
        refine Drawn.gen_one (i := 10) (by kernel_rfl) rfl (by rfl) ?_
        refine Drawn.Step.value (run_append_op (.tmp 70) (.tmp 79) 97 rfl rfl rfl R1.out) ⟨fun _ => K1.out _ (by assumption), ?_⟩
        (try simp only [Act.put, List.setIfInBounds_toArray, List.set_cons_zero, List.set_cons_succ])
        refine Drawn.gen_one (i := 11) (by kernel_rfl) rfl (by rfl) ?_
        refine Drawn.Step.value (by go_simp; first | done | with_reducible rfl | exact ⟨rfl, rfl⟩) ?_; refine ⟨by first | (intro hlt; exact absurd hlt (by decide)) | (intro _; omega), ?_⟩; (try simp only [Act.put, List.setIfInBounds_toArray, List.set_cons_zero, List.set_cons_succ])
        refine Drawn.gen_end (by kernel_rfl) ?_
        go_upto_region 8 with (fail)
        refine Drawn.wp_region_gen (S := (fun W' => W'.cell? ⟨bx, 33, none⟩ = some (.int .i64 (t.c 33)) ∧ W'.cell? ⟨bx, 37, none⟩ = some (.int .i64 (t.c 37)))) 11 (by kernel_rfl) ?_ ?_
        · exact K2.out _ (Below.drew (Below.refl _ _))
        intro hS0
        (refine Drawn.gen_take (i := 0) rfl (by kernel_rfl) (by kernel_rfl) (by kernel_rfl) (by kernel_rfl) (by omega) (by first | assumption | exact hS0) (by first | exact .inr ⟨by rfl, rfl⟩ | exact .inl ⟨by rfl, by intro w2 hS; obtain ⟨q0, q1⟩ := hS; go_simp; first | done | with_reducible rfl | exact ⟨rfl, rfl⟩⟩) ?_; (try simp only [Act.put, List.setIfInBounds_toArray, List.set_cons_zero, List.set_cons_succ]))
        (refine Drawn.gen_take (i := 1) rfl (by kernel_rfl) (by kernel_rfl) (by kernel_rfl) (by kernel_rfl) (by omega) (by first | assumption | exact hS0) (by first | exact .inr ⟨by rfl, rfl⟩ | exact .inl ⟨by rfl, by intro w2 hS; obtain ⟨q0, q1⟩ := hS; go_simp; first | done | with_reducible rfl | exact ⟨rfl, rfl⟩⟩) ?_; (try simp only [Act.put, List.setIfInBounds_toArray, List.set_cons_zero, List.set_cons_succ]))
        (refine Drawn.gen_take (i := 2) rfl (by kernel_rfl) (by kernel_rfl) (by kernel_rfl) (by kernel_rfl) (by omega) (by first | assumption | exact hS0) (by first | exact .inr ⟨by rfl, rfl⟩ | exact .inl ⟨by rfl, by intro w2 hS; obtain ⟨q0, q1⟩ := hS; go_simp; first | done | with_reducible rfl | exact ⟨rfl, rfl⟩⟩) ?_; (try simp only [Act.put, List.setIfInBounds_toArray, List.set_cons_zero, List.set_cons_succ]))
        (refine Drawn.gen_take (i := 3) rfl (by kernel_rfl) (by kernel_rfl) (by kernel_rfl) (by kernel_rfl) (by omega) (by first | assumption | exact hS0) (by first | exact .inr ⟨by rfl, rfl⟩ | exact .inl ⟨by rfl, by intro w2 hS; obtain ⟨q0, q1⟩ := hS; go_simp; first | done | with_reducible rfl | exact ⟨rfl, rfl⟩⟩) ?_; (try simp only [Act.put, List.setIfInBounds_toArray, List.set_cons_zero, List.set_cons_succ]))
        (refine Drawn.gen_take (i := 4) rfl (by kernel_rfl) (by kernel_rfl) (by kernel_rfl) (by kernel_rfl) (by omega) (by first | assumption | exact hS0) (by first | exact .inr ⟨by rfl, rfl⟩ | exact .inl ⟨by rfl, by intro w2 hS; obtain ⟨q0, q1⟩ := hS; go_simp; first | done | with_reducible rfl | exact ⟨rfl, rfl⟩⟩) ?_; (try simp only [Act.put, List.setIfInBounds_toArray, List.set_cons_zero, List.set_cons_succ]))
        (refine Drawn.gen_take (i := 5) rfl (by kernel_rfl) (by kernel_rfl) (by kernel_rfl) (by kernel_rfl) (by omega) (by first | assumption | exact hS0) (by first | exact .inr ⟨by rfl, rfl⟩ | exact .inl ⟨by rfl, by intro w2 hS; obtain ⟨q0, q1⟩ := hS; go_simp; first | done | with_reducible rfl | exact ⟨rfl, rfl⟩⟩) ?_; (try simp only [Act.put, List.setIfInBounds_toArray, List.set_cons_zero, List.set_cons_succ]))
        (refine Drawn.gen_take (i := 6) rfl (by kernel_rfl) (by kernel_rfl) (by kernel_rfl) (by kernel_rfl) (by omega) (by first | assumption | exact hS0) (by first | exact .inr ⟨by rfl, rfl⟩ | exact .inl ⟨by rfl, by intro w2 hS; obtain ⟨q0, q1⟩ := hS; go_simp; first | done | with_reducible rfl | exact ⟨rfl, rfl⟩⟩) ?_; (try simp only [Act.put, List.setIfInBounds_toArray, List.set_cons_zero, List.set_cons_succ]))
        (refine Drawn.gen_take (i := 7) rfl (by kernel_rfl) (by kernel_rfl) (by kernel_rfl) (by kernel_rfl) (by omega) (by first | assumption | exact hS0) (by first | exact .inr ⟨by rfl, rfl⟩ | exact .inl ⟨by rfl, by intro w2 hS; obtain ⟨q0, q1⟩ := hS; go_simp; first | done | with_reducible rfl | exact ⟨rfl, rfl⟩⟩) ?_; (try simp only [Act.put, List.setIfInBounds_toArray, List.set_cons_zero, List.set_cons_succ]))
        (refine Drawn.gen_take (i := 8) rfl (by kernel_rfl) (by kernel_rfl) (by kernel_rfl) (by kernel_rfl) (by omega) (by first | assumption | exact hS0) (by first | exact .inr ⟨by rfl, rfl⟩ | exact .inl ⟨by rfl, by intro w2 hS; obtain ⟨q0, q1⟩ := hS; go_simp; first | done | with_reducible rfl | exact ⟨rfl, rfl⟩⟩) ?_; (try simp only [Act.put, List.setIfInBounds_toArray, List.set_cons_zero, List.set_cons_succ]))
        refine Drawn.gen_one (i := 9) (by kernel_rfl) rfl (by rfl) ?_
        refine Drawn.Step.value (by go_simp; first | done | with_reducible rfl | exact ⟨rfl, rfl⟩) ?_; refine ⟨by first | (intro hlt; exact absurd hlt (by decide)) | (intro _; exact K2.out _ (Below.alloc (Below.drew (Below.refl _ _)) hsd _)), ?_⟩; (try simp only [Act.put, List.setIfInBounds_toArray, List.set_cons_zero, List.set_cons_succ])
        refine Drawn.gen_one (i := 10) (by kernel_rfl) rfl (by rfl) ?_
        refine Drawn.Step.value (run_append_op (.tmp 81) (.tmp 90) 50 rfl rfl rfl R2.out) ⟨fun _ => K2.out _ (by assumption), ?_⟩
        (try simp only [Act.put, List.setIfInBounds_toArray, List.set_cons_zero, List.set_cons_succ])
        refine Drawn.gen_one (i := 11) (by kernel_rfl) rfl (by rfl) ?_
        refine Drawn.Step.value (by go_simp; first | done | with_reducible rfl | exact ⟨rfl, rfl⟩) ?_; refine ⟨by first | (intro hlt; exact absurd hlt (by decide)) | (intro _; omega), ?_⟩; (try simp only [Act.put, List.setIfInBounds_toArray, List.set_cons_zero, List.set_cons_succ])
        refine Drawn.gen_end (by kernel_rfl) ?_
        go_wp2
        go_roundw
        case rel => exact ⟨3, 13, 9, _, _, _, _, by omega, by go_num, rfl, rfl, Lib.hid rfl, Lib.hid rfl, E1, E2, E3, HA2.out, hB4, hs2⟩
        case measure => simp [intOf]
      · obtain rfl : n = 13 := by have := HN.out; omega
        obtain rfl : m = 9 := by have := HM.out; omega
        obtain ⟨A', c', w1, hrun1, s1, s2, s3, s4, s5⟩ := append_own2 (t := 97) (T := 34) (W := wr.drew) (m := 2) (news := [.int .i64 (t.c 21), .int .i64 (t.c 22), .int .i64 (t.c 29), .int .i64 (t.c 30)]) Try.underlying97 hi0 hz0 hz1 hz2 rfl (by decide) (by decide) O1.out O2.out AP.out hsz rfl (by simp [Value.oneCell']) (by decide)
        have a1 : At w1 bx _ := atLowR (W := wr.drew) a lbx.out s4
        obtain ⟨B', e', w2, hrun2, t1, t2, t3, t4, t5⟩ := append_own2 (t := 50) (T := 3) (W := w1.drew) (m := 2) (news := [.int .i64 (t.c 34), .int .i64 (t.c 38)]) Try.underlying50 gi0 gz0 gz1 gz2 rfl (by decide) (by decide) s2 s1 s3.symm s5 rfl (by simp [Value.oneCell']) (by decide)
        have a2 : At w2 bx _ := atLowR (W := w1.drew) a1 lbx.out t4
        have B1 : Below base wr w1 := (Below.drew (Below.refl base wr)).trans s4
        have B2 : Below base w1 w2 := (Below.drew (Below.refl base w1)).trans t4
        have keep1 : ∀ W', Below base wr W' → W'.cell? ⟨bx, 21, none⟩ = some (.int .i64 (t.c 21)) ∧ W'.cell? ⟨bx, 22, none⟩ = some (.int .i64 (t.c 22)) ∧ W'.cell? ⟨bx, 29, none⟩ = some (.int .i64 (t.c 29)) ∧ W'.cell? ⟨bx, 30, none⟩ = some (.int .i64 (t.c 30)) := fun W' h => ⟨(atLowR a lbx.out h).st 21 (by decide) rfl, (atLowR a lbx.out h).st 22 (by decide) rfl, (atLowR a lbx.out h).st 29 (by decide) rfl, (atLowR a lbx.out h).st 30 (by decide) rfl⟩
        have keep2 : ∀ W', Below base w1 W' → W'.cell? ⟨bx, 34, none⟩ = some (.int .i64 (t.c 34)) ∧ W'.cell? ⟨bx, 38, none⟩ = some (.int .i64 (t.c 38)) := fun W' h => ⟨(atLowR a1 lbx.out h).st 34 (by decide) rfl, (atLowR a1 lbx.out h).st 38 (by decide) rfl⟩
        have E1 : Hid (w2.ownsRow base 34 2 (.slice A' 15 c') 15 (lenVals t (lp 4))) := Lib.hid t2
        have E2 : Hid (w2.ownsRow base 3 1 (.slice B' 11 e') 11 (sizeVals t (sp 4))) := Lib.hid t1
        have E3 : Hid (ApartR (.slice B' 11 e') (.slice A' 15 c')) := Lib.hid t3.symm
        have hB4 : Below base wc w2 := hB3.trans (B1.trans B2)
        have hs2 : base ≤ w2.heap.size := t5
        have HA2 := Lib.hid a2
        have K1 := Lib.hid keep1
        have K2 := Lib.hid keep2
        have R1 := Lib.hid hrun1
        have R2 := Lib.hid hrun2
        have hsd : base ≤ w1.heap.size := s5
        clear t1 t2 t3 t4 t5 s1 s2 s3 s4 s5 a1 a2 a keep1 keep2 hrun1 hrun2
        go_upto_region 7 with (fail)
        refine Drawn.wp_region_gen (S := (fun W' => W'.cell? ⟨bx, 21, none⟩ = some (.int .i64 (t.c 21)) ∧ W'.cell? ⟨bx, 22, none⟩ = some (.int .i64 (t.c 22)) ∧ W'.cell? ⟨bx, 29, none⟩ = some (.int .i64 (t.c 29)) ∧ W'.cell? ⟨bx, 30, none⟩ = some (.int .i64 (t.c 30)))) 11 (by kernel_rfl) ?_ ?_
        · exact K1.out _ (Below.drew (Below.refl _ _))
        intro hS0
        (refine Drawn.gen_take (i := 0) rfl (by kernel_rfl) (by kernel_rfl) (by kernel_rfl) (by kernel_rfl) (by omega) (by first | assumption | exact hS0) (by first | exact .inr ⟨by rfl, rfl⟩ | exact .inl ⟨by rfl, by intro w2 hS; obtain ⟨q0, q1, q2, q3⟩ := hS; go_simp; first | done | with_reducible rfl | exact ⟨rfl, rfl⟩⟩) ?_; (try simp only [Act.put, List.setIfInBounds_toArray, List.set_cons_zero, List.set_cons_succ]))
        (refine Drawn.gen_take (i := 1) rfl (by kernel_rfl) (by kernel_rfl) (by kernel_rfl) (by kernel_rfl) (by omega) (by first | assumption | exact hS0) (by first | exact .inr ⟨by rfl, rfl⟩ | exact .inl ⟨by rfl, by intro w2 hS; obtain ⟨q0, q1, q2, q3⟩ := hS; go_simp; first | done | with_reducible rfl | exact ⟨rfl, rfl⟩⟩) ?_; (try simp only [Act.put, List.setIfInBounds_toArray, List.set_cons_zero, List.set_cons_succ]))
        (refine Drawn.gen_take (i := 2) rfl (by kernel_rfl) (by kernel_rfl) (by kernel_rfl) (by kernel_rfl) (by omega) (by first | assumption | exact hS0) (by first | exact .inr ⟨by rfl, rfl⟩ | exact .inl ⟨by rfl, by intro w2 hS; obtain ⟨q0, q1, q2, q3⟩ := hS; go_simp; first | done | with_reducible rfl | exact ⟨rfl, rfl⟩⟩) ?_; (try simp only [Act.put, List.setIfInBounds_toArray, List.set_cons_zero, List.set_cons_succ]))
        (refine Drawn.gen_take (i := 3) rfl (by kernel_rfl) (by kernel_rfl) (by kernel_rfl) (by kernel_rfl) (by omega) (by first | assumption | exact hS0) (by first | exact .inr ⟨by rfl, rfl⟩ | exact .inl ⟨by rfl, by intro w2 hS; obtain ⟨q0, q1, q2, q3⟩ := hS; go_simp; first | done | with_reducible rfl | exact ⟨rfl, rfl⟩⟩) ?_; (try simp only [Act.put, List.setIfInBounds_toArray, List.set_cons_zero, List.set_cons_succ]))
        (refine Drawn.gen_take (i := 4) rfl (by kernel_rfl) (by kernel_rfl) (by kernel_rfl) (by kernel_rfl) (by omega) (by first | assumption | exact hS0) (by first | exact .inr ⟨by rfl, rfl⟩ | exact .inl ⟨by rfl, by intro w2 hS; obtain ⟨q0, q1, q2, q3⟩ := hS; go_simp; first | done | with_reducible rfl | exact ⟨rfl, rfl⟩⟩) ?_; (try simp only [Act.put, List.setIfInBounds_toArray, List.set_cons_zero, List.set_cons_succ]))
        (refine Drawn.gen_take (i := 5) rfl (by kernel_rfl) (by kernel_rfl) (by kernel_rfl) (by kernel_rfl) (by omega) (by first | assumption | exact hS0) (by first | exact .inr ⟨by rfl, rfl⟩ | exact .inl ⟨by rfl, by intro w2 hS; obtain ⟨q0, q1, q2, q3⟩ := hS; go_simp; first | done | with_reducible rfl | exact ⟨rfl, rfl⟩⟩) ?_; (try simp only [Act.put, List.setIfInBounds_toArray, List.set_cons_zero, List.set_cons_succ]))
        (refine Drawn.gen_take (i := 6) rfl (by kernel_rfl) (by kernel_rfl) (by kernel_rfl) (by kernel_rfl) (by omega) (by first | assumption | exact hS0) (by first | exact .inr ⟨by rfl, rfl⟩ | exact .inl ⟨by rfl, by intro w2 hS; obtain ⟨q0, q1, q2, q3⟩ := hS; go_simp; first | done | with_reducible rfl | exact ⟨rfl, rfl⟩⟩) ?_; (try simp only [Act.put, List.setIfInBounds_toArray, List.set_cons_zero, List.set_cons_succ]))
        (refine Drawn.gen_take (i := 7) rfl (by kernel_rfl) (by kernel_rfl) (by kernel_rfl) (by kernel_rfl) (by omega) (by first | assumption | exact hS0) (by first | exact .inr ⟨by rfl, rfl⟩ | exact .inl ⟨by rfl, by intro w2 hS; obtain ⟨q0, q1, q2, q3⟩ := hS; go_simp; first | done | with_reducible rfl | exact ⟨rfl, rfl⟩⟩) ?_; (try simp only [Act.put, List.setIfInBounds_toArray, List.set_cons_zero, List.set_cons_succ]))
        (refine Drawn.gen_take (i := 8) rfl (by kernel_rfl) (by kernel_rfl) (by kernel_rfl) (by kernel_rfl) (by omega) (by first | assumption | exact hS0) (by first | exact .inr ⟨by rfl, rfl⟩ | exact .inl ⟨by rfl, by intro w2 hS; obtain ⟨q0, q1, q2, q3⟩ := hS; go_simp; first | done | with_reducible rfl | exact ⟨rfl, rfl⟩⟩) ?_; (try simp only [Act.put, List.setIfInBounds_toArray, List.set_cons_zero, List.set_cons_succ]))
        refine Drawn.gen_one (i := 9) (by kernel_rfl) rfl (by rfl) ?_
        refine Drawn.Step.value (by go_simp; first | done | with_reducible rfl | exact ⟨rfl, rfl⟩) ?_; refine ⟨by first | (intro hlt; exact absurd hlt (by decide)) | (intro _; exact K1.out _ (Below.alloc (Below.drew (Below.refl _ _)) hsz _)), ?_⟩; (try simp only [Act.put, List.setIfInBounds_toArray, List.set_cons_zero, List.set_cons_succ])
        refine Drawn.gen_one (i := 10) (by kernel_rfl) rfl (by rfl) ?_
        refine Drawn.Step.value (run_append_op (.tmp 70) (.tmp 79) 97 rfl rfl rfl R1.out) ⟨fun _ => K1.out _ (by assumption), ?_⟩
        (try simp only [Act.put, List.setIfInBounds_toArray, List.set_cons_zero, List.set_cons_succ])
        refine Drawn.gen_one (i := 11) (by kernel_rfl) rfl (by rfl) ?_
        refine Drawn.Step.value (by go_simp; first | done | with_reducible rfl | exact ⟨rfl, rfl⟩) ?_; refine ⟨by first | (intro hlt; exact absurd hlt (by decide)) | (intro _; omega), ?_⟩; (try simp only [Act.put, List.setIfInBounds_toArray, List.set_cons_zero, List.set_cons_succ])
        refine Drawn.gen_end (by kernel_rfl) ?_
        go_upto_region 8 with (fail)
        refine Drawn.wp_region_gen (S := (fun W' => W'.cell? ⟨bx, 34, none⟩ = some (.int .i64 (t.c 34)) ∧ W'.cell? ⟨bx, 38, none⟩ = some (.int .i64 (t.c 38)))) 11 (by kernel_rfl) ?_ ?_
        · exact K2.out _ (Below.drew (Below.refl _ _))
        intro hS0
        (refine Drawn.gen_take (i := 0) rfl (by kernel_rfl) (by kernel_rfl) (by kernel_rfl) (by kernel_rfl) (by omega) (by first | assumption | exact hS0) (by first | exact .inr ⟨by rfl, rfl⟩ | exact .inl ⟨by rfl, by intro w2 hS; obtain ⟨q0, q1⟩ := hS; go_simp; first | done | with_reducible rfl | exact ⟨rfl, rfl⟩⟩) ?_; (try simp only [Act.put, List.setIfInBounds_toArray, List.set_cons_zero, List.set_cons_succ]))
        (refine Drawn.gen_take (i := 1) rfl (by kernel_rfl) (by kernel_rfl) (by kernel_rfl) (by kernel_rfl) (by omega) (by first | assumption | exact hS0) (by first | exact .inr ⟨by rfl, rfl⟩ | exact .inl ⟨by rfl, by intro w2 hS; obtain ⟨q0, q1⟩ := hS; go_simp; first | done | with_reducible rfl | exact ⟨rfl, rfl⟩⟩) ?_; (try simp only [Act.put, List.setIfInBounds_toArray, List.set_cons_zero, List.set_cons_succ]))
        (refine Drawn.gen_take (i := 2) rfl (by kernel_rfl) (by kernel_rfl) (by kernel_rfl) (by kernel_rfl) (by omega) (by first | assumption | exact hS0) (by first | exact .inr ⟨by rfl, rfl⟩ | exact .inl ⟨by rfl, by intro w2 hS; obtain ⟨q0, q1⟩ := hS; go_simp; first | done | with_reducible rfl | exact ⟨rfl, rfl⟩⟩) ?_; (try simp only [Act.put, List.setIfInBounds_toArray, List.set_cons_zero, List.set_cons_succ]))
        (refine Drawn.gen_take (i := 3) rfl (by kernel_rfl) (by kernel_rfl) (by kernel_rfl) (by kernel_rfl) (by omega) (by first | assumption | exact hS0) (by first | exact .inr ⟨by rfl, rfl⟩ | exact .inl ⟨by rfl, by intro w2 hS; obtain ⟨q0, q1⟩ := hS; go_simp; first | done | with_reducible rfl | exact ⟨rfl, rfl⟩⟩) ?_; (try simp only [Act.put, List.setIfInBounds_toArray, List.set_cons_zero, List.set_cons_succ]))
        (refine Drawn.gen_take (i := 4) rfl (by kernel_rfl) (by kernel_rfl) (by kernel_rfl) (by kernel_rfl) (by omega) (by first | assumption | exact hS0) (by first | exact .inr ⟨by rfl, rfl⟩ | exact .inl ⟨by rfl, by intro w2 hS; obtain ⟨q0, q1⟩ := hS; go_simp; first | done | with_reducible rfl | exact ⟨rfl, rfl⟩⟩) ?_; (try simp only [Act.put, List.setIfInBounds_toArray, List.set_cons_zero, List.set_cons_succ]))
        (refine Drawn.gen_take (i := 5) rfl (by kernel_rfl) (by kernel_rfl) (by kernel_rfl) (by kernel_rfl) (by omega) (by first | assumption | exact hS0) (by first | exact .inr ⟨by rfl, rfl⟩ | exact .inl ⟨by rfl, by intro w2 hS; obtain ⟨q0, q1⟩ := hS; go_simp; first | done | with_reducible rfl | exact ⟨rfl, rfl⟩⟩) ?_; (try simp only [Act.put, List.setIfInBounds_toArray, List.set_cons_zero, List.set_cons_succ]))
        (refine Drawn.gen_take (i := 6) rfl (by kernel_rfl) (by kernel_rfl) (by kernel_rfl) (by kernel_rfl) (by omega) (by first | assumption | exact hS0) (by first | exact .inr ⟨by rfl, rfl⟩ | exact .inl ⟨by rfl, by intro w2 hS; obtain ⟨q0, q1⟩ := hS; go_simp; first | done | with_reducible rfl | exact ⟨rfl, rfl⟩⟩) ?_; (try simp only [Act.put, List.setIfInBounds_toArray, List.set_cons_zero, List.set_cons_succ]))
        (refine Drawn.gen_take (i := 7) rfl (by kernel_rfl) (by kernel_rfl) (by kernel_rfl) (by kernel_rfl) (by omega) (by first | assumption | exact hS0) (by first | exact .inr ⟨by rfl, rfl⟩ | exact .inl ⟨by rfl, by intro w2 hS; obtain ⟨q0, q1⟩ := hS; go_simp; first | done | with_reducible rfl | exact ⟨rfl, rfl⟩⟩) ?_; (try simp only [Act.put, List.setIfInBounds_toArray, List.set_cons_zero, List.set_cons_succ]))
        (refine Drawn.gen_take (i := 8) rfl (by kernel_rfl) (by kernel_rfl) (by kernel_rfl) (by kernel_rfl) (by omega) (by first | assumption | exact hS0) (by first | exact .inr ⟨by rfl, rfl⟩ | exact .inl ⟨by rfl, by intro w2 hS; obtain ⟨q0, q1⟩ := hS; go_simp; first | done | with_reducible rfl | exact ⟨rfl, rfl⟩⟩) ?_; (try simp only [Act.put, List.setIfInBounds_toArray, List.set_cons_zero, List.set_cons_succ]))
        refine Drawn.gen_one (i := 9) (by kernel_rfl) rfl (by rfl) ?_
        refine Drawn.Step.value (by go_simp; first | done | with_reducible rfl | exact ⟨rfl, rfl⟩) ?_; refine ⟨by first | (intro hlt; exact absurd hlt (by decide)) | (intro _; exact K2.out _ (Below.alloc (Below.drew (Below.refl _ _)) hsd _)), ?_⟩; (try simp only [Act.put, List.setIfInBounds_toArray, List.set_cons_zero, List.set_cons_succ])
        refine Drawn.gen_one (i := 10) (by kernel_rfl) rfl (by rfl) ?_
        refine Drawn.Step.value (run_append_op (.tmp 81) (.tmp 90) 50 rfl rfl rfl R2.out) ⟨fun _ => K2.out _ (by assumption), ?_⟩
        (try simp only [Act.put, List.setIfInBounds_toArray, List.set_cons_zero, List.set_cons_succ])
        refine Drawn.gen_one (i := 11) (by kernel_rfl) rfl (by rfl) ?_
        refine Drawn.Step.value (by go_simp; first | done | with_reducible rfl | exact ⟨rfl, rfl⟩) ?_; refine ⟨by first | (intro hlt; exact absurd hlt (by decide)) | (intro _; omega), ?_⟩; (try simp only [Act.put, List.setIfInBounds_toArray, List.set_cons_zero, List.set_cons_succ])
        refine Drawn.gen_end (by kernel_rfl) ?_
        go_wp2
        go_roundw
        case rel => exact ⟨4, 15, 11, _, _, _, _, by omega, by go_num, rfl, rfl, Lib.hid rfl, Lib.hid rfl, E1, E2, E3, HA2.out, hB4, hs2⟩
        case measure => simp [intOf]
      · obtain rfl : n = 15 := by have := HN.out; omega
        obtain rfl : m = 11 := by have := HM.out; omega
        obtain ⟨g, rfl, hg1, hg2, hgc⟩ := own_cells O1.out (by decide)
        obtain ⟨g', rfl, hg1', hg2', hgc'⟩ := own_cells O2.out (by decide)
        have CL : Hid (∀ W : World, Below wr.heap.size wr W → ∀ (k p : Nat), Re.lens[k]? = some p → W.cell? ⟨g, k * 2, none⟩ = some (.int .i64 (t.c p)) ∧ W.cell? ⟨g, k * 2 + 1, none⟩ = some (.int .i64 (t.c (p + 1)))) := Lib.hid fun W hb k p hp => by
          obtain ⟨q0, q1⟩ := lenVals_get t (l := Re.lens) hp
          exact ⟨(hb.cell (p := ⟨g, k * 2, none⟩) hg2).trans (hgc _ _ q0), (hb.cell (p := ⟨g, k * 2 + 1, none⟩) hg2).trans (hgc _ _ q1)⟩
        have CS : Hid (∀ W : World, Below wr.heap.size wr W → ∀ (k p : Nat), Re.sizes[k]? = some p → W.cell? ⟨g', k, none⟩ = some (.int .i64 (t.c p))) := Lib.hid fun W hb k p hp => (hb.cell (p := ⟨g', k, none⟩) hg2').trans (hgc' _ _ (by show (sizeVals t Re.sizes)[k]? = _; simp [sizeVals, hp]))
        have hBx : Below wr.heap.size wr wr := Below.refl _ _
        have AX := Lib.hid a
        have HBW := Lib.hid (hB.trans (hB3.mono (Nat.le_of_lt lbx.out)))
        clear O1 O2 AP N1 N2 hgc hgc' hi0 hz0 hz1 hz2 gi0 gz0 gz1 gz2 hA hA2 hB2 hB a hB3 hg1 hg1'
        generalize wr = W5 at *
        go_wp2
        go_loopw [3, 7] (fun f i wr => ∃ (k : Nat) (fl : Bool), k ≤ 15 ∧ i = .int .i64 k ∧ f = .bool fl ∧ Hid (fl = (q && (Re.lens.take k).all fun i => Fx.valid (t.c i) (t.c (i + 1)))) ∧ Below W5.heap.size W5 wr) (fun _ i _ => 15 - (intOf i).toNat)
        case atStart => exact ⟨0, q, by omega, rfl, rfl, Lib.hid (by simp), hBx⟩
        case round =>
          obtain ⟨k, fl, hk, rfl, rfl, HF, hB5⟩ := hrel
          by_cases hlt : k < 15
          · have hltz : (k : Int) < 15 := by omega
            obtain ⟨p, hp⟩ : ∃ p, Re.lens[k]? = some p := ⟨_, List.getElem?_eq_getElem (show k < Re.lens.length from hlt)⟩
            obtain ⟨c0, c1⟩ := CL.out wr hB5 k p hp
            have HS : Hid ((Re.lens.take (k + 1)).all (fun i => Fx.valid (t.c i) (t.c (i + 1))) = ((Re.lens.take k).all (fun i => Fx.valid (t.c i) (t.c (i + 1))) && Fx.valid (t.c p) (t.c (p + 1)))) := Lib.hid (by rw [List.take_add_one, hp, List.all_append]; simp)
            have hgl : g < wr.heap.size := Nat.lt_of_lt_of_le hg2 hB5.size
            clear hp
            generalize t.c p = x at *
            generalize t.c (p + 1) = y at *
            cases fl
            · go_wp2
              go_roundw
              case rel => exact ⟨k + 1, false, by omega, by go_num, rfl, Lib.hid (by rw [HS.out, ← Bool.and_assoc, ← HF.out]; rfl), hB5⟩
              case measure => simp [intOf]; omega
            · go_wp2_with (go_at_call 61; (with_reducible refine (rvalid_any _ _ _).mono ?_); rintro e w2 ⟨rfl, hb⟩; have hB6 := hB5.trans (hb.mono hB5.size))
              go_roundw
              case rel => exact ⟨k + 1, Fx.valid x y, by omega, by go_num, rfl, Lib.hid (by rw [HS.out, ← Bool.and_assoc, ← HF.out]; rfl), hB6⟩
              case measure => simp [intOf]; omega
          · have hltz : ¬ (k : Int) < 15 := by omega
            have HK15 := Lib.hid (show k = 15 by omega)
            have HF2 : Hid (fl = (q && Re.lensV t)) := Lib.hid (by rw [HF.out, HK15.out]; rfl)
            clear HF CL
            generalize k = k7 at *
            have HBX := hB5
            have hg6 : g' < wr.heap.size := Nat.lt_of_lt_of_le hg2' hB5.size
            rename_i W7
            go_wp2
            generalize wr = W6 at *
            go_loopw [3, 8] (fun f i wr => ∃ (k : Nat) (f2 : Bool), k ≤ 11 ∧ i = .int .i64 k ∧ f = .bool f2 ∧ Hid (f2 = (fl && (Re.sizes.take k).all fun i => Re.inn (t.c i) 0 1048576)) ∧ Below W6.heap.size W6 wr) (fun _ i _ => 11 - (intOf i).toNat)
            case atStart => exact ⟨0, fl, by omega, rfl, rfl, Lib.hid (by simp), Below.refl _ _⟩
            case round =>
              obtain ⟨k, f2, hk, rfl, rfl, HF, hB6⟩ := hrel
              have hB7 := HBX.trans (hB6.mono HBX.size)
              have hg7 : g' < wr.heap.size := Nat.lt_of_lt_of_le hg6 hB6.size
              by_cases hlt : k < 11
              · have hltz : (k : Int) < 11 := by omega
                obtain ⟨p, hp⟩ : ∃ p, Re.sizes[k]? = some p := ⟨_, List.getElem?_eq_getElem (show k < Re.sizes.length from hlt)⟩
                have c0 := CS.out _ hB7 k p hp
                have HS : Hid ((Re.sizes.take (k + 1)).all (fun i => Re.inn (t.c i) 0 1048576) = ((Re.sizes.take k).all (fun i => Re.inn (t.c i) 0 1048576) && Re.inn (t.c p) 0 1048576)) := Lib.hid (by rw [List.take_add_one, hp, List.all_append]; simp)
                clear hp
                generalize t.c p = x at *
                cases f2
                · go_wp2
                  go_roundw
                  case rel => exact ⟨k + 1, false, by omega, by go_num, rfl, Lib.hid (by rw [HS.out, ← Bool.and_assoc, ← HF.out]; rfl), hB6⟩
                  case measure => simp [intOf]; omega
                · go_wp2_with (first | (go_at_call 60; (with_reducible refine (recin_any _ _ _ _).mono ?_); rintro e w' ⟨rfl, rfl⟩))
                  go_roundw
                  case rel => exact ⟨k + 1, Re.inn x 0 1048576, by omega, by go_num, rfl, Lib.hid (by rw [HS.out, ← Bool.and_assoc, ← HF.out]; rfl), hB6⟩
                  case measure => simp [intOf]; omega
              · obtain rfl : k = 11 := by omega
                have HF3 : Hid (f2 = (Re.kindsV t && Re.lensV t && Re.sizesV t)) := Lib.hid (by rw [HF.out, HF2.out, HQ.out]; rfl)
                have AY := AX.out.keep hB7
                have d39 := AY.st 39 (by decide) rfl
                have d40 := AY.st 40 (by decide) rfl
                have d48 := AY.st 48 (by decide) rfl
                have HV : Hid (Re.valid t = (f2 && Re.inn (t.c 39) 0 1000 && Re.inn (t.c 40) 0 1000 && Re.inn (t.c 48) (-1048576) 1048576)) := Lib.hid (by rw [HF3.out]; rfl)
                have HE := Lib.hid (HBW.out.trans (hB7.mono (Nat.le_trans (Nat.le_of_lt lbx.out) hsz)))
                clear AY HF HF3 CS HBX hB7
                cases f2
                · go_wp2
                  go_ret
                  exact ⟨ret_bool (by rw [HV.out]; rfl), by rw [HBOX.out]; exact HE.out⟩
                · cases e1 : Re.inn (t.c 39) 0 1000
                  · rw [e1] at HV
                    go_wp2_with (first | (go_at_call 60; (with_reducible refine (recin_any _ _ _ _).mono ?_); rintro e w' ⟨rfl, rfl⟩))
                    go_ret
                    exact ⟨ret_bool (by rw [HV.out]; rfl), by rw [HBOX.out]; exact HE.out⟩
                  · rw [e1] at HV
                    cases e2 : Re.inn (t.c 40) 0 1000
                    · rw [e2] at HV
                      go_wp2_with (first | (go_at_call 60; (with_reducible refine (recin_any _ _ _ _).mono ?_); rintro e w' ⟨rfl, rfl⟩))
                      go_ret
                      exact ⟨ret_bool (by rw [HV.out]; rfl), by rw [HBOX.out]; exact HE.out⟩
                    · rw [e2] at HV
                      go_wp2_with (first | (go_at_call 60; (with_reducible refine (recin_any _ _ _ _).mono ?_); rintro e w' ⟨rfl, rfl⟩))
                      go_ret
                      exact ⟨ret_bool (by rw [HV.out]; rfl), by rw [HBOX.out]; exact HE.out⟩

end Go.Proofs.Ytbkocceemfhhbaa.Fix
