/- The contract of the document's own Sides of the layer stick. Written by wip/tools/genstc.py. -/
import Derived.Test.YtdgphjpjgldbaaaStickB
import Derived.LoopTactic
namespace Go.Proofs.Ytdgphjpjgldbaaa.Fix
open Go.ChangeShapes Go.WideShapes Go.ChangeAt Go.RowKit
set_option linter.unusedVariables false
set_option linter.unusedSimpArgs false

/-- what the row of sides is behind k rounds -/
def outs (k0 n0 k1 n1 k2 n2 k3 n3 wi hi : Int) (k : Nat) : Array Value := #[.bool (decide (0 < k) && Fx.fixd k0 hi), .int .i64 (if 0 < k then Fx.len k0 n0 hi 0 else 0), .bool (decide (1 < k) && Fx.fixd k1 wi), .int .i64 (if 1 < k then Fx.len k1 n1 wi 0 else 0), .bool (decide (2 < k) && Fx.fixd k2 hi), .int .i64 (if 2 < k then Fx.len k2 n2 hi 0 else 0), .bool (decide (3 < k) && Fx.fixd k3 wi), .int .i64 (if 3 < k then Fx.len k3 n3 wi 0 else 0)]

set_option maxRecDepth 100000 in
set_option maxHeartbeats 1000000 in
theorem rstsides_any (k0 n0 k1 n1 k2 n2 k3 n3 wi hi : Int) (w : World) : Calls Try.prog 14 #[.agg #[.int .i64 k0, .int .i64 n0, .int .i64 k1, .int .i64 n1, .int .i64 k2, .int .i64 n2, .int .i64 k3, .int .i64 n3], .int .i64 wi, .int .i64 hi] w fun e w' => e = .returned (.agg #[.bool (Fx.fixd k0 hi), .int .i64 (Fx.len k0 n0 hi 0), .bool (Fx.fixd k1 wi), .int .i64 (Fx.len k1 n1 wi 0), .bool (Fx.fixd k2 hi), .int .i64 (Fx.len k2 n2 hi 0), .bool (Fx.fixd k3 wi), .int .i64 (Fx.len k3 n3 wi 0)]) ∧ Below w.heap.size w w' := by
  go_enter Try.func14, Try.ntmps14
  go_upto_region 1 with (fail)
  (generalize hW : World.alloc (World.alloc w _) _ = W0; have A0 : At W0 (w.heap.size) (.cells #[.int .i64 k0, .int .i64 n0, .int .i64 k1, .int .i64 n1, .int .i64 k2, .int .i64 n2, .int .i64 k3, .int .i64 n3] 37) := (by ((rw [← hW]) <;> exact At.alloc (At.new' _ (by first | done | rfl | simp)) _)); have A1 : At W0 (w.heap.size + 1) (.cells #[.bool false, .int .i64 0, .bool false, .int .i64 0, .bool false, .int .i64 0, .bool false, .int .i64 0] 40) := (by ((rw [← hW]) <;> exact At.new' _ (by first | done | rfl | simp))); have hB : Below w.heap.size w W0 := (by ((rw [← hW]) <;> exact Below.alloc' (Below.alloc' (Below.refl _ _) _) _)); clear hW; obtain ⟨l0, c0_0, c0_1, c0_2, c0_3, c0_4, c0_5, c0_6, c0_7⟩ := At.eight A0; obtain ⟨l1, c1_0, c1_1, c1_2, c1_3, c1_4, c1_5, c1_6, c1_7⟩ := At.eight A1; have z1_0 := A1.thaw 0; have z1_1 := A1.thaw 1; have z1_2 := A1.thaw 2; have z1_3 := A1.thaw 3; have z1_4 := A1.thaw 4; have z1_5 := A1.thaw 5; have z1_6 := A1.thaw 6; have z1_7 := A1.thaw 7)
  go_upto_region 2 with (fail)
  have e0 := l0
  have e1 := l1
  generalize hb2 : W0.heap.size = b2 at e0 e1
  (generalize hW : World.alloc _ _ = W1; clear l0 c0_0 c0_1 c0_2 c0_3 c0_4 c0_5 c0_6 c0_7 l1 c1_0 c1_1 c1_2 c1_3 c1_4 c1_5 c1_6 c1_7 z1_0 z1_1 z1_2 z1_3 z1_4 z1_5 z1_6 z1_7; have A2 : At W1 _ _ := hW ▸ At.new _ _; replace A0 : At W1 _ _ := hW ▸ At.alloc A0 _; replace A1 : At W1 _ _ := hW ▸ At.alloc A1 _; replace hB : Below w.heap.size w W1 := hW ▸ Below.alloc' hB _; clear hW; obtain ⟨l0, c0_0, c0_1, c0_2, c0_3, c0_4, c0_5, c0_6, c0_7⟩ := At.eight A0; obtain ⟨l1, c1_0, c1_1, c1_2, c1_3, c1_4, c1_5, c1_6, c1_7⟩ := At.eight A1; have z1_0 := A1.thaw 0; have z1_1 := A1.thaw 1; have z1_2 := A1.thaw 2; have z1_3 := A1.thaw 3; have z1_4 := A1.thaw 4; have z1_5 := A1.thaw 5; have z1_6 := A1.thaw 6; have z1_7 := A1.thaw 7; obtain ⟨l2, c2_0, c2_1, c2_2, c2_3, c2_4, c2_5, c2_6, c2_7⟩ := At.eight A2; have z2_0 := A2.thaw 0; have z2_1 := A2.thaw 1; have z2_2 := A2.thaw 2; have z2_3 := A2.thaw 3; have z2_4 := A2.thaw 4; have z2_5 := A2.thaw 5; have z2_6 := A2.thaw 6; have z2_7 := A2.thaw 7)
  (clear l2 c2_0 c2_1 c2_2 c2_3 c2_4 c2_5 c2_6 c2_7 z2_0 z2_1 z2_2 z2_3 z2_4 z2_5 z2_6 z2_7; rw [hb2] at A2)
  go_wp2
  clear hb2
  (clear l0 c0_0 c0_1 c0_2 c0_3 c0_4 c0_5 c0_6 c0_7 l1 c1_0 c1_1 c1_2 c1_3 c1_4 c1_5 c1_6 c1_7 z1_0 z1_1 z1_2 z1_3 z1_4 z1_5 z1_6 z1_7)
  go_loopw [8] (fun i wr => ∃ k : Nat, k ≤ 4 ∧ i = .int .i64 k ∧ Hid (At wr w.heap.size (.cells #[.int .i64 k0, .int .i64 n0, .int .i64 k1, .int .i64 n1, .int .i64 k2, .int .i64 n2, .int .i64 k3, .int .i64 n3] 37)) ∧ Hid (At wr (w.heap.size + 1) (.cells #[.bool false, .int .i64 0, .bool false, .int .i64 0, .bool false, .int .i64 0, .bool false, .int .i64 0] 40)) ∧ Hid (At wr b2 (.cells (outs k0 n0 k1 n1 k2 n2 k3 n3 wi hi k) 40)) ∧ Hid (Below w.heap.size w wr)) (fun i _ => 4 - (intOf i).toNat)
  case atStart => exact ⟨0, by omega, rfl, Lib.hid A0, Lib.hid A1, Lib.hid A2, Lib.hid hB⟩
  case round =>
    clear A0 A1 A2 hB
    obtain ⟨k, hk, rfl, H0, H1, H2, HB⟩ := hrel
    have A0 := H0.out
    have A1 := H1.out
    have hB := HB.out
    obtain ⟨l0, c0_0, c0_1, c0_2, c0_3, c0_4, c0_5, c0_6, c0_7⟩ := At.eight A0
    rcases (by omega : k = 0 ∨ k = 1 ∨ k = 2 ∨ k = 3 ∨ k = 4) with hk' | hk' | hk' | hk' | hk'
    · subst hk'
      have A2 : At wr b2 (.cells #[.bool false, .int .i64 0, .bool false, .int .i64 0, .bool false, .int .i64 0, .bool false, .int .i64 0] 40) := H2.out
      clear H0 H1 H2 HB
      obtain ⟨l1, c1_0, c1_1, c1_2, c1_3, c1_4, c1_5, c1_6, c1_7⟩ := At.eight A1
      obtain ⟨l2, c2_0, c2_1, c2_2, c2_3, c2_4, c2_5, c2_6, c2_7⟩ := At.eight A2
      have z1_0 := A1.thaw 0
      have z1_1 := A1.thaw 1
      have z1_2 := A1.thaw 2
      have z1_3 := A1.thaw 3
      have z1_4 := A1.thaw 4
      have z1_5 := A1.thaw 5
      have z1_6 := A1.thaw 6
      have z1_7 := A1.thaw 7
      have z2_0 := A2.thaw 0
      have z2_1 := A2.thaw 1
      have z2_2 := A2.thaw 2
      have z2_3 := A2.thaw 3
      have z2_4 := A2.thaw 4
      have z2_5 := A2.thaw 5
      have z2_6 := A2.thaw 6
      have z2_7 := A2.thaw 7
      cases hx : Fx.fixd k0 hi with
      | false =>
        have hy := Fx.len_auto (n := n0) hx
        go_wp2_with (first | (go_at_call 27; (with_reducible refine (rfixed_any _ _ _ _).mono ?_); rintro e w' ⟨rfl, hb⟩; (clear l0 c0_0 c0_1 c0_2 c0_3 c0_4 c0_5 c0_6 c0_7 l1 c1_0 c1_1 c1_2 c1_3 c1_4 c1_5 c1_6 c1_7 z1_0 z1_1 z1_2 z1_3 z1_4 z1_5 z1_6 z1_7 l2 c2_0 c2_1 c2_2 c2_3 c2_4 c2_5 c2_6 c2_7 z2_0 z2_1 z2_2 z2_3 z2_4 z2_5 z2_6 z2_7); (replace hB := Below.after2 (by first | exact hB | exact Below.alloc' hB _ | exact Below.alloc' (Below.alloc' hB _) _) (Nat.le_refl _) hb); replace A0 := At.keep (by first | exact A0 | exact At.alloc A0 _ | exact At.alloc (At.alloc A0 _) _) hb; replace A1 := At.keep (by first | exact A1 | exact At.alloc A1 _ | exact At.alloc (At.alloc A1 _) _) hb; replace A2 := At.keep (by first | exact A2 | exact At.alloc A2 _ | exact At.alloc (At.alloc A2 _) _) hb; clear hb; obtain ⟨l0, c0_0, c0_1, c0_2, c0_3, c0_4, c0_5, c0_6, c0_7⟩ := At.eight A0; obtain ⟨l1, c1_0, c1_1, c1_2, c1_3, c1_4, c1_5, c1_6, c1_7⟩ := At.eight A1; have z1_0 := A1.thaw 0; have z1_1 := A1.thaw 1; have z1_2 := A1.thaw 2; have z1_3 := A1.thaw 3; have z1_4 := A1.thaw 4; have z1_5 := A1.thaw 5; have z1_6 := A1.thaw 6; have z1_7 := A1.thaw 7; obtain ⟨l2, c2_0, c2_1, c2_2, c2_3, c2_4, c2_5, c2_6, c2_7⟩ := At.eight A2; have z2_0 := A2.thaw 0; have z2_1 := A2.thaw 1; have z2_2 := A2.thaw 2; have z2_3 := A2.thaw 3; have z2_4 := A2.thaw 4; have z2_5 := A2.thaw 5; have z2_6 := A2.thaw 6; have z2_7 := A2.thaw 7) | (go_at_call 28; (with_reducible refine (rlen_any _ _ _ _ _).mono ?_); rintro e w' ⟨rfl, hb⟩; (clear l0 c0_0 c0_1 c0_2 c0_3 c0_4 c0_5 c0_6 c0_7 l1 c1_0 c1_1 c1_2 c1_3 c1_4 c1_5 c1_6 c1_7 z1_0 z1_1 z1_2 z1_3 z1_4 z1_5 z1_6 z1_7 l2 c2_0 c2_1 c2_2 c2_3 c2_4 c2_5 c2_6 c2_7 z2_0 z2_1 z2_2 z2_3 z2_4 z2_5 z2_6 z2_7); (replace hB := Below.after2 (by first | exact hB | exact Below.alloc' hB _ | exact Below.alloc' (Below.alloc' hB _) _) (Nat.le_refl _) hb); replace A0 := At.keep (by first | exact A0 | exact At.alloc A0 _ | exact At.alloc (At.alloc A0 _) _) hb; replace A1 := At.keep (by first | exact A1 | exact At.alloc A1 _ | exact At.alloc (At.alloc A1 _) _) hb; replace A2 := At.keep (by first | exact A2 | exact At.alloc A2 _ | exact At.alloc (At.alloc A2 _) _) hb; clear hb; obtain ⟨l0, c0_0, c0_1, c0_2, c0_3, c0_4, c0_5, c0_6, c0_7⟩ := At.eight A0; obtain ⟨l1, c1_0, c1_1, c1_2, c1_3, c1_4, c1_5, c1_6, c1_7⟩ := At.eight A1; have z1_0 := A1.thaw 0; have z1_1 := A1.thaw 1; have z1_2 := A1.thaw 2; have z1_3 := A1.thaw 3; have z1_4 := A1.thaw 4; have z1_5 := A1.thaw 5; have z1_6 := A1.thaw 6; have z1_7 := A1.thaw 7; obtain ⟨l2, c2_0, c2_1, c2_2, c2_3, c2_4, c2_5, c2_6, c2_7⟩ := At.eight A2; have z2_0 := A2.thaw 0; have z2_1 := A2.thaw 1; have z2_2 := A2.thaw 2; have z2_3 := A2.thaw 3; have z2_4 := A2.thaw 4; have z2_5 := A2.thaw 5; have z2_6 := A2.thaw 6; have z2_7 := A2.thaw 7))
        go_roundw
        case rel =>
          have A3 : At w' b2 (.cells (outs k0 n0 k1 n1 k2 n2 k3 n3 wi hi 1) 40) := by
            show At w' b2 (.cells #[.bool (Fx.fixd k0 hi), .int .i64 (Fx.len k0 n0 hi 0), .bool false, .int .i64 0, .bool false, .int .i64 0, .bool false, .int .i64 0] 40)
            rw [hx, hy]
            exact A2
          exact ⟨1, by omega, rfl, Lib.hid A0, Lib.hid A1, Lib.hid A3, Lib.hid hB⟩
        case measure => simp [intOf]
      | true =>
        go_wp2_with (first | (go_at_call 27; (with_reducible refine (rfixed_any _ _ _ _).mono ?_); rintro e w' ⟨rfl, hb⟩; (clear l0 c0_0 c0_1 c0_2 c0_3 c0_4 c0_5 c0_6 c0_7 l1 c1_0 c1_1 c1_2 c1_3 c1_4 c1_5 c1_6 c1_7 z1_0 z1_1 z1_2 z1_3 z1_4 z1_5 z1_6 z1_7 l2 c2_0 c2_1 c2_2 c2_3 c2_4 c2_5 c2_6 c2_7 z2_0 z2_1 z2_2 z2_3 z2_4 z2_5 z2_6 z2_7); (replace hB := Below.after2 (by first | exact hB | exact Below.alloc' hB _ | exact Below.alloc' (Below.alloc' hB _) _) (Nat.le_refl _) hb); replace A0 := At.keep (by first | exact A0 | exact At.alloc A0 _ | exact At.alloc (At.alloc A0 _) _) hb; replace A1 := At.keep (by first | exact A1 | exact At.alloc A1 _ | exact At.alloc (At.alloc A1 _) _) hb; replace A2 := At.keep (by first | exact A2 | exact At.alloc A2 _ | exact At.alloc (At.alloc A2 _) _) hb; clear hb; obtain ⟨l0, c0_0, c0_1, c0_2, c0_3, c0_4, c0_5, c0_6, c0_7⟩ := At.eight A0; obtain ⟨l1, c1_0, c1_1, c1_2, c1_3, c1_4, c1_5, c1_6, c1_7⟩ := At.eight A1; have z1_0 := A1.thaw 0; have z1_1 := A1.thaw 1; have z1_2 := A1.thaw 2; have z1_3 := A1.thaw 3; have z1_4 := A1.thaw 4; have z1_5 := A1.thaw 5; have z1_6 := A1.thaw 6; have z1_7 := A1.thaw 7; obtain ⟨l2, c2_0, c2_1, c2_2, c2_3, c2_4, c2_5, c2_6, c2_7⟩ := At.eight A2; have z2_0 := A2.thaw 0; have z2_1 := A2.thaw 1; have z2_2 := A2.thaw 2; have z2_3 := A2.thaw 3; have z2_4 := A2.thaw 4; have z2_5 := A2.thaw 5; have z2_6 := A2.thaw 6; have z2_7 := A2.thaw 7) | (go_at_call 28; (with_reducible refine (rlen_any _ _ _ _ _).mono ?_); rintro e w' ⟨rfl, hb⟩; (clear l0 c0_0 c0_1 c0_2 c0_3 c0_4 c0_5 c0_6 c0_7 l1 c1_0 c1_1 c1_2 c1_3 c1_4 c1_5 c1_6 c1_7 z1_0 z1_1 z1_2 z1_3 z1_4 z1_5 z1_6 z1_7 l2 c2_0 c2_1 c2_2 c2_3 c2_4 c2_5 c2_6 c2_7 z2_0 z2_1 z2_2 z2_3 z2_4 z2_5 z2_6 z2_7); (replace hB := Below.after2 (by first | exact hB | exact Below.alloc' hB _ | exact Below.alloc' (Below.alloc' hB _) _) (Nat.le_refl _) hb); replace A0 := At.keep (by first | exact A0 | exact At.alloc A0 _ | exact At.alloc (At.alloc A0 _) _) hb; replace A1 := At.keep (by first | exact A1 | exact At.alloc A1 _ | exact At.alloc (At.alloc A1 _) _) hb; replace A2 := At.keep (by first | exact A2 | exact At.alloc A2 _ | exact At.alloc (At.alloc A2 _) _) hb; clear hb; obtain ⟨l0, c0_0, c0_1, c0_2, c0_3, c0_4, c0_5, c0_6, c0_7⟩ := At.eight A0; obtain ⟨l1, c1_0, c1_1, c1_2, c1_3, c1_4, c1_5, c1_6, c1_7⟩ := At.eight A1; have z1_0 := A1.thaw 0; have z1_1 := A1.thaw 1; have z1_2 := A1.thaw 2; have z1_3 := A1.thaw 3; have z1_4 := A1.thaw 4; have z1_5 := A1.thaw 5; have z1_6 := A1.thaw 6; have z1_7 := A1.thaw 7; obtain ⟨l2, c2_0, c2_1, c2_2, c2_3, c2_4, c2_5, c2_6, c2_7⟩ := At.eight A2; have z2_0 := A2.thaw 0; have z2_1 := A2.thaw 1; have z2_2 := A2.thaw 2; have z2_3 := A2.thaw 3; have z2_4 := A2.thaw 4; have z2_5 := A2.thaw 5; have z2_6 := A2.thaw 6; have z2_7 := A2.thaw 7))
        go_roundw
        case rel =>
          have A3' := At.set (At.set A2 0 (.bool true)) 1 (.int .i64 (Fx.len k0 n0 hi 0))
          have A0' := At.off (At.off A0 (n := b2) (by omega) 0 (.bool true)) (n := b2) (by omega) 1 (.int .i64 (Fx.len k0 n0 hi 0))
          have A1' := At.off (At.off A1 (n := b2) (by omega) 0 (.bool true)) (n := b2) (by omega) 1 (.int .i64 (Fx.len k0 n0 hi 0))
          have hB' := Below.setCell (Below.setCell hB (p := ⟨b2, 0, none⟩) (by simp; omega) (.bool true)) (p := ⟨b2, 1, none⟩) (by simp; omega) (.int .i64 (Fx.len k0 n0 hi 0))
          generalize hW : World.setCell (World.setCell _ _ _) _ _ = V at *
          have A3 : At V b2 (.cells (outs k0 n0 k1 n1 k2 n2 k3 n3 wi hi 1) 40) := by
            show At V b2 (.cells #[.bool (Fx.fixd k0 hi), .int .i64 (Fx.len k0 n0 hi 0), .bool false, .int .i64 0, .bool false, .int .i64 0, .bool false, .int .i64 0] 40)
            rw [hx]
            exact A3'
          exact ⟨1, by omega, rfl, Lib.hid A0', Lib.hid A1', Lib.hid A3, Lib.hid hB'⟩
        case measure => simp [intOf]
    · subst hk'
      have A2 : At wr b2 (.cells #[.bool (Fx.fixd k0 hi), .int .i64 (Fx.len k0 n0 hi 0), .bool false, .int .i64 0, .bool false, .int .i64 0, .bool false, .int .i64 0] 40) := H2.out
      clear H0 H1 H2 HB
      obtain ⟨l1, c1_0, c1_1, c1_2, c1_3, c1_4, c1_5, c1_6, c1_7⟩ := At.eight A1
      obtain ⟨l2, c2_0, c2_1, c2_2, c2_3, c2_4, c2_5, c2_6, c2_7⟩ := At.eight A2
      have z1_0 := A1.thaw 0
      have z1_1 := A1.thaw 1
      have z1_2 := A1.thaw 2
      have z1_3 := A1.thaw 3
      have z1_4 := A1.thaw 4
      have z1_5 := A1.thaw 5
      have z1_6 := A1.thaw 6
      have z1_7 := A1.thaw 7
      have z2_0 := A2.thaw 0
      have z2_1 := A2.thaw 1
      have z2_2 := A2.thaw 2
      have z2_3 := A2.thaw 3
      have z2_4 := A2.thaw 4
      have z2_5 := A2.thaw 5
      have z2_6 := A2.thaw 6
      have z2_7 := A2.thaw 7
      cases hx : Fx.fixd k1 wi with
      | false =>
        have hy := Fx.len_auto (n := n1) hx
        go_wp2_with (first | (go_at_call 27; (with_reducible refine (rfixed_any _ _ _ _).mono ?_); rintro e w' ⟨rfl, hb⟩; (clear l0 c0_0 c0_1 c0_2 c0_3 c0_4 c0_5 c0_6 c0_7 l1 c1_0 c1_1 c1_2 c1_3 c1_4 c1_5 c1_6 c1_7 z1_0 z1_1 z1_2 z1_3 z1_4 z1_5 z1_6 z1_7 l2 c2_0 c2_1 c2_2 c2_3 c2_4 c2_5 c2_6 c2_7 z2_0 z2_1 z2_2 z2_3 z2_4 z2_5 z2_6 z2_7); (replace hB := Below.after2 (by first | exact hB | exact Below.alloc' hB _ | exact Below.alloc' (Below.alloc' hB _) _) (Nat.le_refl _) hb); replace A0 := At.keep (by first | exact A0 | exact At.alloc A0 _ | exact At.alloc (At.alloc A0 _) _) hb; replace A1 := At.keep (by first | exact A1 | exact At.alloc A1 _ | exact At.alloc (At.alloc A1 _) _) hb; replace A2 := At.keep (by first | exact A2 | exact At.alloc A2 _ | exact At.alloc (At.alloc A2 _) _) hb; clear hb; obtain ⟨l0, c0_0, c0_1, c0_2, c0_3, c0_4, c0_5, c0_6, c0_7⟩ := At.eight A0; obtain ⟨l1, c1_0, c1_1, c1_2, c1_3, c1_4, c1_5, c1_6, c1_7⟩ := At.eight A1; have z1_0 := A1.thaw 0; have z1_1 := A1.thaw 1; have z1_2 := A1.thaw 2; have z1_3 := A1.thaw 3; have z1_4 := A1.thaw 4; have z1_5 := A1.thaw 5; have z1_6 := A1.thaw 6; have z1_7 := A1.thaw 7; obtain ⟨l2, c2_0, c2_1, c2_2, c2_3, c2_4, c2_5, c2_6, c2_7⟩ := At.eight A2; have z2_0 := A2.thaw 0; have z2_1 := A2.thaw 1; have z2_2 := A2.thaw 2; have z2_3 := A2.thaw 3; have z2_4 := A2.thaw 4; have z2_5 := A2.thaw 5; have z2_6 := A2.thaw 6; have z2_7 := A2.thaw 7) | (go_at_call 28; (with_reducible refine (rlen_any _ _ _ _ _).mono ?_); rintro e w' ⟨rfl, hb⟩; (clear l0 c0_0 c0_1 c0_2 c0_3 c0_4 c0_5 c0_6 c0_7 l1 c1_0 c1_1 c1_2 c1_3 c1_4 c1_5 c1_6 c1_7 z1_0 z1_1 z1_2 z1_3 z1_4 z1_5 z1_6 z1_7 l2 c2_0 c2_1 c2_2 c2_3 c2_4 c2_5 c2_6 c2_7 z2_0 z2_1 z2_2 z2_3 z2_4 z2_5 z2_6 z2_7); (replace hB := Below.after2 (by first | exact hB | exact Below.alloc' hB _ | exact Below.alloc' (Below.alloc' hB _) _) (Nat.le_refl _) hb); replace A0 := At.keep (by first | exact A0 | exact At.alloc A0 _ | exact At.alloc (At.alloc A0 _) _) hb; replace A1 := At.keep (by first | exact A1 | exact At.alloc A1 _ | exact At.alloc (At.alloc A1 _) _) hb; replace A2 := At.keep (by first | exact A2 | exact At.alloc A2 _ | exact At.alloc (At.alloc A2 _) _) hb; clear hb; obtain ⟨l0, c0_0, c0_1, c0_2, c0_3, c0_4, c0_5, c0_6, c0_7⟩ := At.eight A0; obtain ⟨l1, c1_0, c1_1, c1_2, c1_3, c1_4, c1_5, c1_6, c1_7⟩ := At.eight A1; have z1_0 := A1.thaw 0; have z1_1 := A1.thaw 1; have z1_2 := A1.thaw 2; have z1_3 := A1.thaw 3; have z1_4 := A1.thaw 4; have z1_5 := A1.thaw 5; have z1_6 := A1.thaw 6; have z1_7 := A1.thaw 7; obtain ⟨l2, c2_0, c2_1, c2_2, c2_3, c2_4, c2_5, c2_6, c2_7⟩ := At.eight A2; have z2_0 := A2.thaw 0; have z2_1 := A2.thaw 1; have z2_2 := A2.thaw 2; have z2_3 := A2.thaw 3; have z2_4 := A2.thaw 4; have z2_5 := A2.thaw 5; have z2_6 := A2.thaw 6; have z2_7 := A2.thaw 7))
        go_roundw
        case rel =>
          have A3 : At w' b2 (.cells (outs k0 n0 k1 n1 k2 n2 k3 n3 wi hi 2) 40) := by
            show At w' b2 (.cells #[.bool (Fx.fixd k0 hi), .int .i64 (Fx.len k0 n0 hi 0), .bool (Fx.fixd k1 wi), .int .i64 (Fx.len k1 n1 wi 0), .bool false, .int .i64 0, .bool false, .int .i64 0] 40)
            rw [hx, hy]
            exact A2
          exact ⟨2, by omega, rfl, Lib.hid A0, Lib.hid A1, Lib.hid A3, Lib.hid hB⟩
        case measure => simp [intOf]
      | true =>
        go_wp2_with (first | (go_at_call 27; (with_reducible refine (rfixed_any _ _ _ _).mono ?_); rintro e w' ⟨rfl, hb⟩; (clear l0 c0_0 c0_1 c0_2 c0_3 c0_4 c0_5 c0_6 c0_7 l1 c1_0 c1_1 c1_2 c1_3 c1_4 c1_5 c1_6 c1_7 z1_0 z1_1 z1_2 z1_3 z1_4 z1_5 z1_6 z1_7 l2 c2_0 c2_1 c2_2 c2_3 c2_4 c2_5 c2_6 c2_7 z2_0 z2_1 z2_2 z2_3 z2_4 z2_5 z2_6 z2_7); (replace hB := Below.after2 (by first | exact hB | exact Below.alloc' hB _ | exact Below.alloc' (Below.alloc' hB _) _) (Nat.le_refl _) hb); replace A0 := At.keep (by first | exact A0 | exact At.alloc A0 _ | exact At.alloc (At.alloc A0 _) _) hb; replace A1 := At.keep (by first | exact A1 | exact At.alloc A1 _ | exact At.alloc (At.alloc A1 _) _) hb; replace A2 := At.keep (by first | exact A2 | exact At.alloc A2 _ | exact At.alloc (At.alloc A2 _) _) hb; clear hb; obtain ⟨l0, c0_0, c0_1, c0_2, c0_3, c0_4, c0_5, c0_6, c0_7⟩ := At.eight A0; obtain ⟨l1, c1_0, c1_1, c1_2, c1_3, c1_4, c1_5, c1_6, c1_7⟩ := At.eight A1; have z1_0 := A1.thaw 0; have z1_1 := A1.thaw 1; have z1_2 := A1.thaw 2; have z1_3 := A1.thaw 3; have z1_4 := A1.thaw 4; have z1_5 := A1.thaw 5; have z1_6 := A1.thaw 6; have z1_7 := A1.thaw 7; obtain ⟨l2, c2_0, c2_1, c2_2, c2_3, c2_4, c2_5, c2_6, c2_7⟩ := At.eight A2; have z2_0 := A2.thaw 0; have z2_1 := A2.thaw 1; have z2_2 := A2.thaw 2; have z2_3 := A2.thaw 3; have z2_4 := A2.thaw 4; have z2_5 := A2.thaw 5; have z2_6 := A2.thaw 6; have z2_7 := A2.thaw 7) | (go_at_call 28; (with_reducible refine (rlen_any _ _ _ _ _).mono ?_); rintro e w' ⟨rfl, hb⟩; (clear l0 c0_0 c0_1 c0_2 c0_3 c0_4 c0_5 c0_6 c0_7 l1 c1_0 c1_1 c1_2 c1_3 c1_4 c1_5 c1_6 c1_7 z1_0 z1_1 z1_2 z1_3 z1_4 z1_5 z1_6 z1_7 l2 c2_0 c2_1 c2_2 c2_3 c2_4 c2_5 c2_6 c2_7 z2_0 z2_1 z2_2 z2_3 z2_4 z2_5 z2_6 z2_7); (replace hB := Below.after2 (by first | exact hB | exact Below.alloc' hB _ | exact Below.alloc' (Below.alloc' hB _) _) (Nat.le_refl _) hb); replace A0 := At.keep (by first | exact A0 | exact At.alloc A0 _ | exact At.alloc (At.alloc A0 _) _) hb; replace A1 := At.keep (by first | exact A1 | exact At.alloc A1 _ | exact At.alloc (At.alloc A1 _) _) hb; replace A2 := At.keep (by first | exact A2 | exact At.alloc A2 _ | exact At.alloc (At.alloc A2 _) _) hb; clear hb; obtain ⟨l0, c0_0, c0_1, c0_2, c0_3, c0_4, c0_5, c0_6, c0_7⟩ := At.eight A0; obtain ⟨l1, c1_0, c1_1, c1_2, c1_3, c1_4, c1_5, c1_6, c1_7⟩ := At.eight A1; have z1_0 := A1.thaw 0; have z1_1 := A1.thaw 1; have z1_2 := A1.thaw 2; have z1_3 := A1.thaw 3; have z1_4 := A1.thaw 4; have z1_5 := A1.thaw 5; have z1_6 := A1.thaw 6; have z1_7 := A1.thaw 7; obtain ⟨l2, c2_0, c2_1, c2_2, c2_3, c2_4, c2_5, c2_6, c2_7⟩ := At.eight A2; have z2_0 := A2.thaw 0; have z2_1 := A2.thaw 1; have z2_2 := A2.thaw 2; have z2_3 := A2.thaw 3; have z2_4 := A2.thaw 4; have z2_5 := A2.thaw 5; have z2_6 := A2.thaw 6; have z2_7 := A2.thaw 7))
        go_roundw
        case rel =>
          have A3' := At.set (At.set A2 2 (.bool true)) 3 (.int .i64 (Fx.len k1 n1 wi 0))
          have A0' := At.off (At.off A0 (n := b2) (by omega) 2 (.bool true)) (n := b2) (by omega) 3 (.int .i64 (Fx.len k1 n1 wi 0))
          have A1' := At.off (At.off A1 (n := b2) (by omega) 2 (.bool true)) (n := b2) (by omega) 3 (.int .i64 (Fx.len k1 n1 wi 0))
          have hB' := Below.setCell (Below.setCell hB (p := ⟨b2, 2, none⟩) (by simp; omega) (.bool true)) (p := ⟨b2, 3, none⟩) (by simp; omega) (.int .i64 (Fx.len k1 n1 wi 0))
          generalize hW : World.setCell (World.setCell _ _ _) _ _ = V at *
          have A3 : At V b2 (.cells (outs k0 n0 k1 n1 k2 n2 k3 n3 wi hi 2) 40) := by
            show At V b2 (.cells #[.bool (Fx.fixd k0 hi), .int .i64 (Fx.len k0 n0 hi 0), .bool (Fx.fixd k1 wi), .int .i64 (Fx.len k1 n1 wi 0), .bool false, .int .i64 0, .bool false, .int .i64 0] 40)
            rw [hx]
            exact A3'
          exact ⟨2, by omega, rfl, Lib.hid A0', Lib.hid A1', Lib.hid A3, Lib.hid hB'⟩
        case measure => simp [intOf]
    · subst hk'
      have A2 : At wr b2 (.cells #[.bool (Fx.fixd k0 hi), .int .i64 (Fx.len k0 n0 hi 0), .bool (Fx.fixd k1 wi), .int .i64 (Fx.len k1 n1 wi 0), .bool false, .int .i64 0, .bool false, .int .i64 0] 40) := H2.out
      clear H0 H1 H2 HB
      obtain ⟨l1, c1_0, c1_1, c1_2, c1_3, c1_4, c1_5, c1_6, c1_7⟩ := At.eight A1
      obtain ⟨l2, c2_0, c2_1, c2_2, c2_3, c2_4, c2_5, c2_6, c2_7⟩ := At.eight A2
      have z1_0 := A1.thaw 0
      have z1_1 := A1.thaw 1
      have z1_2 := A1.thaw 2
      have z1_3 := A1.thaw 3
      have z1_4 := A1.thaw 4
      have z1_5 := A1.thaw 5
      have z1_6 := A1.thaw 6
      have z1_7 := A1.thaw 7
      have z2_0 := A2.thaw 0
      have z2_1 := A2.thaw 1
      have z2_2 := A2.thaw 2
      have z2_3 := A2.thaw 3
      have z2_4 := A2.thaw 4
      have z2_5 := A2.thaw 5
      have z2_6 := A2.thaw 6
      have z2_7 := A2.thaw 7
      cases hx : Fx.fixd k2 hi with
      | false =>
        have hy := Fx.len_auto (n := n2) hx
        go_wp2_with (first | (go_at_call 27; (with_reducible refine (rfixed_any _ _ _ _).mono ?_); rintro e w' ⟨rfl, hb⟩; (clear l0 c0_0 c0_1 c0_2 c0_3 c0_4 c0_5 c0_6 c0_7 l1 c1_0 c1_1 c1_2 c1_3 c1_4 c1_5 c1_6 c1_7 z1_0 z1_1 z1_2 z1_3 z1_4 z1_5 z1_6 z1_7 l2 c2_0 c2_1 c2_2 c2_3 c2_4 c2_5 c2_6 c2_7 z2_0 z2_1 z2_2 z2_3 z2_4 z2_5 z2_6 z2_7); (replace hB := Below.after2 (by first | exact hB | exact Below.alloc' hB _ | exact Below.alloc' (Below.alloc' hB _) _) (Nat.le_refl _) hb); replace A0 := At.keep (by first | exact A0 | exact At.alloc A0 _ | exact At.alloc (At.alloc A0 _) _) hb; replace A1 := At.keep (by first | exact A1 | exact At.alloc A1 _ | exact At.alloc (At.alloc A1 _) _) hb; replace A2 := At.keep (by first | exact A2 | exact At.alloc A2 _ | exact At.alloc (At.alloc A2 _) _) hb; clear hb; obtain ⟨l0, c0_0, c0_1, c0_2, c0_3, c0_4, c0_5, c0_6, c0_7⟩ := At.eight A0; obtain ⟨l1, c1_0, c1_1, c1_2, c1_3, c1_4, c1_5, c1_6, c1_7⟩ := At.eight A1; have z1_0 := A1.thaw 0; have z1_1 := A1.thaw 1; have z1_2 := A1.thaw 2; have z1_3 := A1.thaw 3; have z1_4 := A1.thaw 4; have z1_5 := A1.thaw 5; have z1_6 := A1.thaw 6; have z1_7 := A1.thaw 7; obtain ⟨l2, c2_0, c2_1, c2_2, c2_3, c2_4, c2_5, c2_6, c2_7⟩ := At.eight A2; have z2_0 := A2.thaw 0; have z2_1 := A2.thaw 1; have z2_2 := A2.thaw 2; have z2_3 := A2.thaw 3; have z2_4 := A2.thaw 4; have z2_5 := A2.thaw 5; have z2_6 := A2.thaw 6; have z2_7 := A2.thaw 7) | (go_at_call 28; (with_reducible refine (rlen_any _ _ _ _ _).mono ?_); rintro e w' ⟨rfl, hb⟩; (clear l0 c0_0 c0_1 c0_2 c0_3 c0_4 c0_5 c0_6 c0_7 l1 c1_0 c1_1 c1_2 c1_3 c1_4 c1_5 c1_6 c1_7 z1_0 z1_1 z1_2 z1_3 z1_4 z1_5 z1_6 z1_7 l2 c2_0 c2_1 c2_2 c2_3 c2_4 c2_5 c2_6 c2_7 z2_0 z2_1 z2_2 z2_3 z2_4 z2_5 z2_6 z2_7); (replace hB := Below.after2 (by first | exact hB | exact Below.alloc' hB _ | exact Below.alloc' (Below.alloc' hB _) _) (Nat.le_refl _) hb); replace A0 := At.keep (by first | exact A0 | exact At.alloc A0 _ | exact At.alloc (At.alloc A0 _) _) hb; replace A1 := At.keep (by first | exact A1 | exact At.alloc A1 _ | exact At.alloc (At.alloc A1 _) _) hb; replace A2 := At.keep (by first | exact A2 | exact At.alloc A2 _ | exact At.alloc (At.alloc A2 _) _) hb; clear hb; obtain ⟨l0, c0_0, c0_1, c0_2, c0_3, c0_4, c0_5, c0_6, c0_7⟩ := At.eight A0; obtain ⟨l1, c1_0, c1_1, c1_2, c1_3, c1_4, c1_5, c1_6, c1_7⟩ := At.eight A1; have z1_0 := A1.thaw 0; have z1_1 := A1.thaw 1; have z1_2 := A1.thaw 2; have z1_3 := A1.thaw 3; have z1_4 := A1.thaw 4; have z1_5 := A1.thaw 5; have z1_6 := A1.thaw 6; have z1_7 := A1.thaw 7; obtain ⟨l2, c2_0, c2_1, c2_2, c2_3, c2_4, c2_5, c2_6, c2_7⟩ := At.eight A2; have z2_0 := A2.thaw 0; have z2_1 := A2.thaw 1; have z2_2 := A2.thaw 2; have z2_3 := A2.thaw 3; have z2_4 := A2.thaw 4; have z2_5 := A2.thaw 5; have z2_6 := A2.thaw 6; have z2_7 := A2.thaw 7))
        go_roundw
        case rel =>
          have A3 : At w' b2 (.cells (outs k0 n0 k1 n1 k2 n2 k3 n3 wi hi 3) 40) := by
            show At w' b2 (.cells #[.bool (Fx.fixd k0 hi), .int .i64 (Fx.len k0 n0 hi 0), .bool (Fx.fixd k1 wi), .int .i64 (Fx.len k1 n1 wi 0), .bool (Fx.fixd k2 hi), .int .i64 (Fx.len k2 n2 hi 0), .bool false, .int .i64 0] 40)
            rw [hx, hy]
            exact A2
          exact ⟨3, by omega, rfl, Lib.hid A0, Lib.hid A1, Lib.hid A3, Lib.hid hB⟩
        case measure => simp [intOf]
      | true =>
        go_wp2_with (first | (go_at_call 27; (with_reducible refine (rfixed_any _ _ _ _).mono ?_); rintro e w' ⟨rfl, hb⟩; (clear l0 c0_0 c0_1 c0_2 c0_3 c0_4 c0_5 c0_6 c0_7 l1 c1_0 c1_1 c1_2 c1_3 c1_4 c1_5 c1_6 c1_7 z1_0 z1_1 z1_2 z1_3 z1_4 z1_5 z1_6 z1_7 l2 c2_0 c2_1 c2_2 c2_3 c2_4 c2_5 c2_6 c2_7 z2_0 z2_1 z2_2 z2_3 z2_4 z2_5 z2_6 z2_7); (replace hB := Below.after2 (by first | exact hB | exact Below.alloc' hB _ | exact Below.alloc' (Below.alloc' hB _) _) (Nat.le_refl _) hb); replace A0 := At.keep (by first | exact A0 | exact At.alloc A0 _ | exact At.alloc (At.alloc A0 _) _) hb; replace A1 := At.keep (by first | exact A1 | exact At.alloc A1 _ | exact At.alloc (At.alloc A1 _) _) hb; replace A2 := At.keep (by first | exact A2 | exact At.alloc A2 _ | exact At.alloc (At.alloc A2 _) _) hb; clear hb; obtain ⟨l0, c0_0, c0_1, c0_2, c0_3, c0_4, c0_5, c0_6, c0_7⟩ := At.eight A0; obtain ⟨l1, c1_0, c1_1, c1_2, c1_3, c1_4, c1_5, c1_6, c1_7⟩ := At.eight A1; have z1_0 := A1.thaw 0; have z1_1 := A1.thaw 1; have z1_2 := A1.thaw 2; have z1_3 := A1.thaw 3; have z1_4 := A1.thaw 4; have z1_5 := A1.thaw 5; have z1_6 := A1.thaw 6; have z1_7 := A1.thaw 7; obtain ⟨l2, c2_0, c2_1, c2_2, c2_3, c2_4, c2_5, c2_6, c2_7⟩ := At.eight A2; have z2_0 := A2.thaw 0; have z2_1 := A2.thaw 1; have z2_2 := A2.thaw 2; have z2_3 := A2.thaw 3; have z2_4 := A2.thaw 4; have z2_5 := A2.thaw 5; have z2_6 := A2.thaw 6; have z2_7 := A2.thaw 7) | (go_at_call 28; (with_reducible refine (rlen_any _ _ _ _ _).mono ?_); rintro e w' ⟨rfl, hb⟩; (clear l0 c0_0 c0_1 c0_2 c0_3 c0_4 c0_5 c0_6 c0_7 l1 c1_0 c1_1 c1_2 c1_3 c1_4 c1_5 c1_6 c1_7 z1_0 z1_1 z1_2 z1_3 z1_4 z1_5 z1_6 z1_7 l2 c2_0 c2_1 c2_2 c2_3 c2_4 c2_5 c2_6 c2_7 z2_0 z2_1 z2_2 z2_3 z2_4 z2_5 z2_6 z2_7); (replace hB := Below.after2 (by first | exact hB | exact Below.alloc' hB _ | exact Below.alloc' (Below.alloc' hB _) _) (Nat.le_refl _) hb); replace A0 := At.keep (by first | exact A0 | exact At.alloc A0 _ | exact At.alloc (At.alloc A0 _) _) hb; replace A1 := At.keep (by first | exact A1 | exact At.alloc A1 _ | exact At.alloc (At.alloc A1 _) _) hb; replace A2 := At.keep (by first | exact A2 | exact At.alloc A2 _ | exact At.alloc (At.alloc A2 _) _) hb; clear hb; obtain ⟨l0, c0_0, c0_1, c0_2, c0_3, c0_4, c0_5, c0_6, c0_7⟩ := At.eight A0; obtain ⟨l1, c1_0, c1_1, c1_2, c1_3, c1_4, c1_5, c1_6, c1_7⟩ := At.eight A1; have z1_0 := A1.thaw 0; have z1_1 := A1.thaw 1; have z1_2 := A1.thaw 2; have z1_3 := A1.thaw 3; have z1_4 := A1.thaw 4; have z1_5 := A1.thaw 5; have z1_6 := A1.thaw 6; have z1_7 := A1.thaw 7; obtain ⟨l2, c2_0, c2_1, c2_2, c2_3, c2_4, c2_5, c2_6, c2_7⟩ := At.eight A2; have z2_0 := A2.thaw 0; have z2_1 := A2.thaw 1; have z2_2 := A2.thaw 2; have z2_3 := A2.thaw 3; have z2_4 := A2.thaw 4; have z2_5 := A2.thaw 5; have z2_6 := A2.thaw 6; have z2_7 := A2.thaw 7))
        go_roundw
        case rel =>
          have A3' := At.set (At.set A2 4 (.bool true)) 5 (.int .i64 (Fx.len k2 n2 hi 0))
          have A0' := At.off (At.off A0 (n := b2) (by omega) 4 (.bool true)) (n := b2) (by omega) 5 (.int .i64 (Fx.len k2 n2 hi 0))
          have A1' := At.off (At.off A1 (n := b2) (by omega) 4 (.bool true)) (n := b2) (by omega) 5 (.int .i64 (Fx.len k2 n2 hi 0))
          have hB' := Below.setCell (Below.setCell hB (p := ⟨b2, 4, none⟩) (by simp; omega) (.bool true)) (p := ⟨b2, 5, none⟩) (by simp; omega) (.int .i64 (Fx.len k2 n2 hi 0))
          generalize hW : World.setCell (World.setCell _ _ _) _ _ = V at *
          have A3 : At V b2 (.cells (outs k0 n0 k1 n1 k2 n2 k3 n3 wi hi 3) 40) := by
            show At V b2 (.cells #[.bool (Fx.fixd k0 hi), .int .i64 (Fx.len k0 n0 hi 0), .bool (Fx.fixd k1 wi), .int .i64 (Fx.len k1 n1 wi 0), .bool (Fx.fixd k2 hi), .int .i64 (Fx.len k2 n2 hi 0), .bool false, .int .i64 0] 40)
            rw [hx]
            exact A3'
          exact ⟨3, by omega, rfl, Lib.hid A0', Lib.hid A1', Lib.hid A3, Lib.hid hB'⟩
        case measure => simp [intOf]
    · subst hk'
      have A2 : At wr b2 (.cells #[.bool (Fx.fixd k0 hi), .int .i64 (Fx.len k0 n0 hi 0), .bool (Fx.fixd k1 wi), .int .i64 (Fx.len k1 n1 wi 0), .bool (Fx.fixd k2 hi), .int .i64 (Fx.len k2 n2 hi 0), .bool false, .int .i64 0] 40) := H2.out
      clear H0 H1 H2 HB
      obtain ⟨l1, c1_0, c1_1, c1_2, c1_3, c1_4, c1_5, c1_6, c1_7⟩ := At.eight A1
      obtain ⟨l2, c2_0, c2_1, c2_2, c2_3, c2_4, c2_5, c2_6, c2_7⟩ := At.eight A2
      have z1_0 := A1.thaw 0
      have z1_1 := A1.thaw 1
      have z1_2 := A1.thaw 2
      have z1_3 := A1.thaw 3
      have z1_4 := A1.thaw 4
      have z1_5 := A1.thaw 5
      have z1_6 := A1.thaw 6
      have z1_7 := A1.thaw 7
      have z2_0 := A2.thaw 0
      have z2_1 := A2.thaw 1
      have z2_2 := A2.thaw 2
      have z2_3 := A2.thaw 3
      have z2_4 := A2.thaw 4
      have z2_5 := A2.thaw 5
      have z2_6 := A2.thaw 6
      have z2_7 := A2.thaw 7
      cases hx : Fx.fixd k3 wi with
      | false =>
        have hy := Fx.len_auto (n := n3) hx
        go_wp2_with (first | (go_at_call 27; (with_reducible refine (rfixed_any _ _ _ _).mono ?_); rintro e w' ⟨rfl, hb⟩; (clear l0 c0_0 c0_1 c0_2 c0_3 c0_4 c0_5 c0_6 c0_7 l1 c1_0 c1_1 c1_2 c1_3 c1_4 c1_5 c1_6 c1_7 z1_0 z1_1 z1_2 z1_3 z1_4 z1_5 z1_6 z1_7 l2 c2_0 c2_1 c2_2 c2_3 c2_4 c2_5 c2_6 c2_7 z2_0 z2_1 z2_2 z2_3 z2_4 z2_5 z2_6 z2_7); (replace hB := Below.after2 (by first | exact hB | exact Below.alloc' hB _ | exact Below.alloc' (Below.alloc' hB _) _) (Nat.le_refl _) hb); replace A0 := At.keep (by first | exact A0 | exact At.alloc A0 _ | exact At.alloc (At.alloc A0 _) _) hb; replace A1 := At.keep (by first | exact A1 | exact At.alloc A1 _ | exact At.alloc (At.alloc A1 _) _) hb; replace A2 := At.keep (by first | exact A2 | exact At.alloc A2 _ | exact At.alloc (At.alloc A2 _) _) hb; clear hb; obtain ⟨l0, c0_0, c0_1, c0_2, c0_3, c0_4, c0_5, c0_6, c0_7⟩ := At.eight A0; obtain ⟨l1, c1_0, c1_1, c1_2, c1_3, c1_4, c1_5, c1_6, c1_7⟩ := At.eight A1; have z1_0 := A1.thaw 0; have z1_1 := A1.thaw 1; have z1_2 := A1.thaw 2; have z1_3 := A1.thaw 3; have z1_4 := A1.thaw 4; have z1_5 := A1.thaw 5; have z1_6 := A1.thaw 6; have z1_7 := A1.thaw 7; obtain ⟨l2, c2_0, c2_1, c2_2, c2_3, c2_4, c2_5, c2_6, c2_7⟩ := At.eight A2; have z2_0 := A2.thaw 0; have z2_1 := A2.thaw 1; have z2_2 := A2.thaw 2; have z2_3 := A2.thaw 3; have z2_4 := A2.thaw 4; have z2_5 := A2.thaw 5; have z2_6 := A2.thaw 6; have z2_7 := A2.thaw 7) | (go_at_call 28; (with_reducible refine (rlen_any _ _ _ _ _).mono ?_); rintro e w' ⟨rfl, hb⟩; (clear l0 c0_0 c0_1 c0_2 c0_3 c0_4 c0_5 c0_6 c0_7 l1 c1_0 c1_1 c1_2 c1_3 c1_4 c1_5 c1_6 c1_7 z1_0 z1_1 z1_2 z1_3 z1_4 z1_5 z1_6 z1_7 l2 c2_0 c2_1 c2_2 c2_3 c2_4 c2_5 c2_6 c2_7 z2_0 z2_1 z2_2 z2_3 z2_4 z2_5 z2_6 z2_7); (replace hB := Below.after2 (by first | exact hB | exact Below.alloc' hB _ | exact Below.alloc' (Below.alloc' hB _) _) (Nat.le_refl _) hb); replace A0 := At.keep (by first | exact A0 | exact At.alloc A0 _ | exact At.alloc (At.alloc A0 _) _) hb; replace A1 := At.keep (by first | exact A1 | exact At.alloc A1 _ | exact At.alloc (At.alloc A1 _) _) hb; replace A2 := At.keep (by first | exact A2 | exact At.alloc A2 _ | exact At.alloc (At.alloc A2 _) _) hb; clear hb; obtain ⟨l0, c0_0, c0_1, c0_2, c0_3, c0_4, c0_5, c0_6, c0_7⟩ := At.eight A0; obtain ⟨l1, c1_0, c1_1, c1_2, c1_3, c1_4, c1_5, c1_6, c1_7⟩ := At.eight A1; have z1_0 := A1.thaw 0; have z1_1 := A1.thaw 1; have z1_2 := A1.thaw 2; have z1_3 := A1.thaw 3; have z1_4 := A1.thaw 4; have z1_5 := A1.thaw 5; have z1_6 := A1.thaw 6; have z1_7 := A1.thaw 7; obtain ⟨l2, c2_0, c2_1, c2_2, c2_3, c2_4, c2_5, c2_6, c2_7⟩ := At.eight A2; have z2_0 := A2.thaw 0; have z2_1 := A2.thaw 1; have z2_2 := A2.thaw 2; have z2_3 := A2.thaw 3; have z2_4 := A2.thaw 4; have z2_5 := A2.thaw 5; have z2_6 := A2.thaw 6; have z2_7 := A2.thaw 7))
        go_roundw
        case rel =>
          have A3 : At w' b2 (.cells (outs k0 n0 k1 n1 k2 n2 k3 n3 wi hi 4) 40) := by
            show At w' b2 (.cells #[.bool (Fx.fixd k0 hi), .int .i64 (Fx.len k0 n0 hi 0), .bool (Fx.fixd k1 wi), .int .i64 (Fx.len k1 n1 wi 0), .bool (Fx.fixd k2 hi), .int .i64 (Fx.len k2 n2 hi 0), .bool (Fx.fixd k3 wi), .int .i64 (Fx.len k3 n3 wi 0)] 40)
            rw [hx, hy]
            exact A2
          exact ⟨4, by omega, rfl, Lib.hid A0, Lib.hid A1, Lib.hid A3, Lib.hid hB⟩
        case measure => simp [intOf]
      | true =>
        go_wp2_with (first | (go_at_call 27; (with_reducible refine (rfixed_any _ _ _ _).mono ?_); rintro e w' ⟨rfl, hb⟩; (clear l0 c0_0 c0_1 c0_2 c0_3 c0_4 c0_5 c0_6 c0_7 l1 c1_0 c1_1 c1_2 c1_3 c1_4 c1_5 c1_6 c1_7 z1_0 z1_1 z1_2 z1_3 z1_4 z1_5 z1_6 z1_7 l2 c2_0 c2_1 c2_2 c2_3 c2_4 c2_5 c2_6 c2_7 z2_0 z2_1 z2_2 z2_3 z2_4 z2_5 z2_6 z2_7); (replace hB := Below.after2 (by first | exact hB | exact Below.alloc' hB _ | exact Below.alloc' (Below.alloc' hB _) _) (Nat.le_refl _) hb); replace A0 := At.keep (by first | exact A0 | exact At.alloc A0 _ | exact At.alloc (At.alloc A0 _) _) hb; replace A1 := At.keep (by first | exact A1 | exact At.alloc A1 _ | exact At.alloc (At.alloc A1 _) _) hb; replace A2 := At.keep (by first | exact A2 | exact At.alloc A2 _ | exact At.alloc (At.alloc A2 _) _) hb; clear hb; obtain ⟨l0, c0_0, c0_1, c0_2, c0_3, c0_4, c0_5, c0_6, c0_7⟩ := At.eight A0; obtain ⟨l1, c1_0, c1_1, c1_2, c1_3, c1_4, c1_5, c1_6, c1_7⟩ := At.eight A1; have z1_0 := A1.thaw 0; have z1_1 := A1.thaw 1; have z1_2 := A1.thaw 2; have z1_3 := A1.thaw 3; have z1_4 := A1.thaw 4; have z1_5 := A1.thaw 5; have z1_6 := A1.thaw 6; have z1_7 := A1.thaw 7; obtain ⟨l2, c2_0, c2_1, c2_2, c2_3, c2_4, c2_5, c2_6, c2_7⟩ := At.eight A2; have z2_0 := A2.thaw 0; have z2_1 := A2.thaw 1; have z2_2 := A2.thaw 2; have z2_3 := A2.thaw 3; have z2_4 := A2.thaw 4; have z2_5 := A2.thaw 5; have z2_6 := A2.thaw 6; have z2_7 := A2.thaw 7) | (go_at_call 28; (with_reducible refine (rlen_any _ _ _ _ _).mono ?_); rintro e w' ⟨rfl, hb⟩; (clear l0 c0_0 c0_1 c0_2 c0_3 c0_4 c0_5 c0_6 c0_7 l1 c1_0 c1_1 c1_2 c1_3 c1_4 c1_5 c1_6 c1_7 z1_0 z1_1 z1_2 z1_3 z1_4 z1_5 z1_6 z1_7 l2 c2_0 c2_1 c2_2 c2_3 c2_4 c2_5 c2_6 c2_7 z2_0 z2_1 z2_2 z2_3 z2_4 z2_5 z2_6 z2_7); (replace hB := Below.after2 (by first | exact hB | exact Below.alloc' hB _ | exact Below.alloc' (Below.alloc' hB _) _) (Nat.le_refl _) hb); replace A0 := At.keep (by first | exact A0 | exact At.alloc A0 _ | exact At.alloc (At.alloc A0 _) _) hb; replace A1 := At.keep (by first | exact A1 | exact At.alloc A1 _ | exact At.alloc (At.alloc A1 _) _) hb; replace A2 := At.keep (by first | exact A2 | exact At.alloc A2 _ | exact At.alloc (At.alloc A2 _) _) hb; clear hb; obtain ⟨l0, c0_0, c0_1, c0_2, c0_3, c0_4, c0_5, c0_6, c0_7⟩ := At.eight A0; obtain ⟨l1, c1_0, c1_1, c1_2, c1_3, c1_4, c1_5, c1_6, c1_7⟩ := At.eight A1; have z1_0 := A1.thaw 0; have z1_1 := A1.thaw 1; have z1_2 := A1.thaw 2; have z1_3 := A1.thaw 3; have z1_4 := A1.thaw 4; have z1_5 := A1.thaw 5; have z1_6 := A1.thaw 6; have z1_7 := A1.thaw 7; obtain ⟨l2, c2_0, c2_1, c2_2, c2_3, c2_4, c2_5, c2_6, c2_7⟩ := At.eight A2; have z2_0 := A2.thaw 0; have z2_1 := A2.thaw 1; have z2_2 := A2.thaw 2; have z2_3 := A2.thaw 3; have z2_4 := A2.thaw 4; have z2_5 := A2.thaw 5; have z2_6 := A2.thaw 6; have z2_7 := A2.thaw 7))
        go_roundw
        case rel =>
          have A3' := At.set (At.set A2 6 (.bool true)) 7 (.int .i64 (Fx.len k3 n3 wi 0))
          have A0' := At.off (At.off A0 (n := b2) (by omega) 6 (.bool true)) (n := b2) (by omega) 7 (.int .i64 (Fx.len k3 n3 wi 0))
          have A1' := At.off (At.off A1 (n := b2) (by omega) 6 (.bool true)) (n := b2) (by omega) 7 (.int .i64 (Fx.len k3 n3 wi 0))
          have hB' := Below.setCell (Below.setCell hB (p := ⟨b2, 6, none⟩) (by simp; omega) (.bool true)) (p := ⟨b2, 7, none⟩) (by simp; omega) (.int .i64 (Fx.len k3 n3 wi 0))
          generalize hW : World.setCell (World.setCell _ _ _) _ _ = V at *
          have A3 : At V b2 (.cells (outs k0 n0 k1 n1 k2 n2 k3 n3 wi hi 4) 40) := by
            show At V b2 (.cells #[.bool (Fx.fixd k0 hi), .int .i64 (Fx.len k0 n0 hi 0), .bool (Fx.fixd k1 wi), .int .i64 (Fx.len k1 n1 wi 0), .bool (Fx.fixd k2 hi), .int .i64 (Fx.len k2 n2 hi 0), .bool (Fx.fixd k3 wi), .int .i64 (Fx.len k3 n3 wi 0)] 40)
            rw [hx]
            exact A3'
          exact ⟨4, by omega, rfl, Lib.hid A0', Lib.hid A1', Lib.hid A3, Lib.hid hB'⟩
        case measure => simp [intOf]
    · subst hk'
      have A2 : At wr b2 (.cells #[.bool (Fx.fixd k0 hi), .int .i64 (Fx.len k0 n0 hi 0), .bool (Fx.fixd k1 wi), .int .i64 (Fx.len k1 n1 wi 0), .bool (Fx.fixd k2 hi), .int .i64 (Fx.len k2 n2 hi 0), .bool (Fx.fixd k3 wi), .int .i64 (Fx.len k3 n3 wi 0)] 40) := H2.out
      clear H0 H1 H2 HB
      obtain ⟨l1, c1_0, c1_1, c1_2, c1_3, c1_4, c1_5, c1_6, c1_7⟩ := At.eight A1
      obtain ⟨l2, c2_0, c2_1, c2_2, c2_3, c2_4, c2_5, c2_6, c2_7⟩ := At.eight A2
      have z1_0 := A1.thaw 0
      have z1_1 := A1.thaw 1
      have z1_2 := A1.thaw 2
      have z1_3 := A1.thaw 3
      have z1_4 := A1.thaw 4
      have z1_5 := A1.thaw 5
      have z1_6 := A1.thaw 6
      have z1_7 := A1.thaw 7
      have z2_0 := A2.thaw 0
      have z2_1 := A2.thaw 1
      have z2_2 := A2.thaw 2
      have z2_3 := A2.thaw 3
      have z2_4 := A2.thaw 4
      have z2_5 := A2.thaw 5
      have z2_6 := A2.thaw 6
      have z2_7 := A2.thaw 7
      go_wp2
      refine bodyPost_ret (v := .agg #[.bool _, .int .i64 _, .bool _, .int .i64 _, .bool _, .int .i64 _, .bool _, .int .i64 _]) (by simp [results, Try.results14, go_sem, *]; first | done | exact ⟨rfl, rfl⟩ | exact ⟨rfl, rfl, rfl, rfl⟩ | rfl) rfl ⟨ret_eight rfl rfl rfl rfl rfl rfl rfl rfl, ?_⟩
      (repeat (first | with_reducible exact hB | refine Below.setCell ?_ (by first | (simp; done) | (simp; omega)) _))

end Go.Proofs.Ytdgphjpjgldbaaa.Fix
