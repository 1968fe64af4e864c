/- The statements' own helpers of the layer snap: the document's example, and areas as the document has them. -/
import Derived.Test.YtlmpkpjonkdaiaaSnapFrame
import Derived.Test.YtlmpkpjonkdaiaaDrawnGen
namespace Go.Proofs.Ytlmpkpjonkdaiaa.Fix
open Go.ChangeShapes Go.WideShapes Go.ChangeAt Go.RowKit Go.Deep Go.Joins
set_option linter.unusedVariables false

theorem run_append_op {P : Program} {w w' : World} {o : Oper} {a : Act} (s x : Operand) (t : TypeId) (ho : o.op = .call { callee := .builtin .append, args := #[s, x], argTypes := #[t, t] }) {v u v' : Value} (hs : a.eval s = v) (hx : a.eval x = u)
    (hrun : (Builtin.append_ #[t, t] o.type #[v, u]).run P w = .ok v' w') : (execOp a.eval o).run P w = .ok (.value v') w' := by
  unfold execOp
  simp only [ho, resolve, invoke, builtin, Sem.run_bind, Sem.run_pure, Result.andThen_ok, List.map_toArray, List.map_cons, List.map_nil, hs, hx, hrun]

theorem run_min_three {P : Program} (w : World) (ts : Array TypeId) (t : TypeId) (k k' k'' : IntKind) (x y z : Int) :
    (Builtin.min_ ts t #[.int k x, .int k' y, .int k'' z]).run P w = .ok (.int k (min (min x y) z)) w := by
  have e : ∀ a b : Int, (if b < a then b else a) = min a b := fun a b => by
    rw [Int.min_def]
    split <;> split <;> omega
  simp [Builtin.min_, Builtin.min2, e]

theorem ints_nilS (w : World) : Ints w none [] := ⟨by simp, fun h => absurd h (by simp)⟩

def wl : Nat → Sn.Ar := fun k => if k = 0 then ⟨0, 50, 1⟩ else ⟨100, 140, 1⟩

theorem areas_two (w : World) (T : TypeId) : Areas (w.alloc (.cells #[.int .i64 0, .int .i64 50, .int .i64 1, .int .i64 100, .int .i64 140, .int .i64 1] T)) (some ⟨w.heap.size, 0, none⟩) wl 2 := fun _ => by
  have hA := At.new w (.cells #[.int .i64 0, .int .i64 50, .int .i64 1, .int .i64 100, .int .i64 140, .int .i64 1] T)
  refine ⟨w.heap.size, 0, rfl, hA.lt, fun k hk => ?_⟩
  rcases (show k = 0 ∨ k = 1 by omega) with rfl | rfl
  · exact ⟨hA.cell 0, hA.cell 1, hA.cell 2⟩
  · exact ⟨hA.cell 3, hA.cell 4, hA.cell 5⟩

theorem srestL_any {kind : Int} {A : Option Addr} {l : Nat → Sn.Ar} {m c : Nat} {p mo want r : Int} (w : World) (hI : Areas w A l m) (hp : p ≤ 9223372036854775807) (hm : m ≤ 1000) (hr : Sn.rest kind (Sn.stops l p mo m) (Sn.liked want mo) = r) :
    Calls Try.prog 14 #[.int .i64 kind, .slice A m c, .int .i64 p, .int .i64 mo, .int .i64 want] w fun e w' => e = .returned (.int .i64 r) ∧ Below w.heap.size w w' := by
  subst hr; exact srest_any _ _ _ _ _ _ _ _ w hI hp hm
theorem rsrestL_any {kind : Int} {A : Option Addr} {l : Nat → Sn.Ar} {m c : Nat} {p mo want r : Int} (w : World) (hI : Areas w A l m) (hm : m ≤ 1000) (hr : Sn.rest kind (Sn.stops l p mo m) (Sn.liked want mo) = r) :
    Calls Try.prog 15 #[.int .i64 kind, .slice A m c, .int .i64 p, .int .i64 mo, .int .i64 want] w fun e w' => e = .returned (.int .i64 r) ∧ Below w.heap.size w w' := by
  subst hr; exact rsrest_any _ _ _ _ _ _ _ _ w hI hm

set_option maxHeartbeats 1000000 in
theorem snworks_any (w : World) : Calls Try.prog 10 #[] w fun e w' => e = .returned (.bool true) ∧ Below w.heap.size w w' := by
  go_enter Try.func10, Try.ntmps10
  go_upto_region 2 with (fail)
  generalize hW : World.alloc _ _ = W0
  have hA : Areas W0 (some ⟨w.heap.size, 0, none⟩) wl 2 := hW ▸ areas_two w _
  have hB : Below w.heap.size w W0 := hW ▸ Below.alloc' (Below.refl _ _) _
  clear hW
  go_wp2_with (first
    | (go_at_call 12; with_reducible refine (snat_at (z := 15) (s := true) _ (by decide) (by decide) (by decide)).mono ?_; rintro e w2 ⟨rfl, hb⟩; replace hA := hA.after hb; replace hB := Below.after hB hb)
    | (go_at_call 14; with_reducible refine (srestL_any (kind := 1) (r := 100) _ hA (by decide) (by decide) (by decide)).mono ?_; rintro e w2 ⟨rfl, hb⟩; replace hA := hA.after hb; replace hB := Below.after hB hb)
    | (go_at_call 14; with_reducible refine (srestL_any (kind := 0) (r := 60) _ hA (by decide) (by decide) (by decide)).mono ?_; rintro e w2 ⟨rfl, hb⟩; replace hA := hA.after hb; replace hB := Below.after hB hb)
    | (go_at_call 17; with_reducible refine (stopsL_any (s := [0, 100]) (q := 2) _ hA (by decide) (by decide) (by decide) rfl).mono ?_; rintro e w2 ⟨A2, c2, rfl, _, hb⟩; replace hA := hA.after hb; replace hB := Below.after hB hb)
    | (go_at_call 19; with_reducible refine (bestL_any (s := [0, 100]) (n := 2) (want := 50) (b := 0) _ (ints_two _ _ _ _) rfl (by decide)).mono ?_; rintro e w2 ⟨rfl, hb⟩; replace hB := Below.after (Below.alloc' hB _) hb)
    | (go_at_call 19; with_reducible refine (bestL_any (s := []) (n := 0) (want := 5) (b := -1) _ (ints_nilS _) rfl (by decide)).mono ?_; rintro e w2 ⟨rfl, hb⟩; replace hB := Below.after hB hb))
  go_ret
  exact ⟨rfl, hB⟩

/-- One area behind a row of one's own. -/
theorem rappend_area {w0 W : World} {base : Nat} {v : Value} {k : Nat} {l : Nat → Sn.Ar} (hown : W.ownsRow base 35 3 v k (flatA l k)) (hB : Below base w0 W) (hbase : base ≤ W.heap.size) (hk : k ≤ 900) :
    ∃ v' w', (Builtin.append_ #[25, 25] 25 #[v, .slice (some ⟨W.heap.size, 0, none⟩) 1 1]).run Try.prog (W.alloc (.cells #[.int .i64 (l k).lo, .int .i64 (l k).hi, .int .i64 (l k).e] 35)) = .ok v' w' ∧ w'.ownsRow base 35 3 v' (k + 1) (flatA l (k + 1)) ∧ Below base w0 w' ∧ base ≤ w'.heap.size := by
  obtain ⟨v', w', hr, ho, h1, h2⟩ := rappend_areas (c := 1) (q := fun _ => l k) (m := 1) (hown.alloc _) (hB.alloc hbase _) (by simp; omega) (area_new W 35 (l k)) (by omega) (by omega)
  refine ⟨v', w', hr, ?_, h1, h2⟩
  rw [flatA_congr (m := fun i => if i < k then l i else l k) (n := k + 1)]
  · exact ho
  · intro i hi
    by_cases h : i < k
    · simp [h]
    · obtain rfl : i = k := by omega
      simp

set_option maxHeartbeats 8000000 in
theorem snof_any (A : Option Addr) (l : Nat → Sn.Ar) (n c : Nat) (w : World) (hI : Areas w A l n) (hn : n ≤ 500) :
    Calls Try.prog 11 #[.slice A n c] w fun e w' => (∃ D d, e = .returned (.slice D n d) ∧ Areas w' D l n) ∧ Below w.heap.size w w' := by
  have HI := Lib.hid hI
  clear hI
  go_enter Try.func11, Try.ntmps11
  go_wp2
  go_loopw [3, 4] (fun v i wr => ∃ k : Nat, k ≤ n ∧ i = .int .i64 k ∧ wr.ownsRow w.heap.size 35 3 v k (flatA l k) ∧ Below w.heap.size w wr) (fun _ i _ => n - (intOf i).toNat)
  case atStart => exact ⟨0, by omega, rfl, World.ownsRow_nil _ _ _ _, Below.refl _ _⟩
  case round =>
    obtain ⟨k, hk, rfl, hown, hB⟩ := hrel
    by_cases hlt : k < n
    · have hltz : (k : Int) < (n : Int) := by omega
      obtain ⟨b, off, rfl, hbl, hc⟩ := HI.out (by omega)
      obtain ⟨c0, c1, c2⟩ := hc k hlt
      clear hc
      have hsz := hB.size
      have hown1 := ownsRow_belowS hown (w := wr.drew) (Below.refl _ _).drew
      obtain ⟨v', w', hrun, hown2, hB2, hb2⟩ := rappend_area (l := l) hown1 hB.drew (by exact hsz) (by omega)
      have HO := Lib.hid hown2
      have HB2 := Lib.hid hB2
      have HRUN := Lib.hid hrun
      clear hrun hown hown1 hown2 hB2
      generalize (l k).lo = x0 at *
      generalize (l k).hi = x1 at *
      generalize (l k).e = x2 at *
      have keep : ∀ W', Below w.heap.size w W' → W'.cell? ⟨b, off + k * 3, none⟩ = some (.int .i64 x0) ∧ W'.cell? ⟨b, off + k * 3 + 1, none⟩ = some (.int .i64 x1) ∧ W'.cell? ⟨b, off + k * 3 + 2, none⟩ = some (.int .i64 x2) := fun W' h =>
        ⟨(h.cell (p := ⟨b, off + k * 3, none⟩) hbl).trans c0, (h.cell (p := ⟨b, off + k * 3 + 1, none⟩) hbl).trans c1, (h.cell (p := ⟨b, off + k * 3 + 2, none⟩) hbl).trans c2⟩
      go_upto_region 5 with (fail)
      refine Drawn.wp_region_gen (S := (fun W' => W'.cell? ⟨b, off + k * 3, none⟩ = some (.int .i64 x0) ∧ W'.cell? ⟨b, off + k * 3 + 1, none⟩ = some (.int .i64 x1) ∧ W'.cell? ⟨b, off + k * 3 + 2, none⟩ = some (.int .i64 x2))) 14 (by kernel_rfl) ?_ ?_
      · exact keep _ hB.drew
      intro hS0
      (refine Drawn.gen_take (i := 0) rfl (by kernel_rfl) (by kernel_rfl) (by kernel_rfl) (by kernel_rfl) (by omega) (by first | assumption | exact hS0) (by first | exact .inr ⟨by rfl, rfl⟩ | exact .inl ⟨by rfl, by intro w2 hS; obtain ⟨q0, q1, q2⟩ := hS; go_simp; first | done | with_reducible rfl | exact ⟨rfl, rfl⟩⟩) ?_; (try simp only [Act.put, List.setIfInBounds_toArray, List.set_cons_zero, List.set_cons_succ]))
      (refine Drawn.gen_take (i := 1) rfl (by kernel_rfl) (by kernel_rfl) (by kernel_rfl) (by kernel_rfl) (by omega) (by first | assumption | exact hS0) (by first | exact .inr ⟨by rfl, rfl⟩ | exact .inl ⟨by rfl, by intro w2 hS; obtain ⟨q0, q1, q2⟩ := hS; go_simp; first | done | with_reducible rfl | exact ⟨rfl, rfl⟩⟩) ?_; (try simp only [Act.put, List.setIfInBounds_toArray, List.set_cons_zero, List.set_cons_succ]))
      (refine Drawn.gen_take (i := 2) rfl (by kernel_rfl) (by kernel_rfl) (by kernel_rfl) (by kernel_rfl) (by omega) (by first | assumption | exact hS0) (by first | exact .inr ⟨by rfl, rfl⟩ | exact .inl ⟨by rfl, by intro w2 hS; obtain ⟨q0, q1, q2⟩ := hS; go_simp; first | done | with_reducible rfl | exact ⟨rfl, rfl⟩⟩) ?_; (try simp only [Act.put, List.setIfInBounds_toArray, List.set_cons_zero, List.set_cons_succ]))
      (refine Drawn.gen_take (i := 3) rfl (by kernel_rfl) (by kernel_rfl) (by kernel_rfl) (by kernel_rfl) (by omega) (by first | assumption | exact hS0) (by first | exact .inr ⟨by rfl, rfl⟩ | exact .inl ⟨by rfl, by intro w2 hS; obtain ⟨q0, q1, q2⟩ := hS; go_simp; first | done | with_reducible rfl | exact ⟨rfl, rfl⟩⟩) ?_; (try simp only [Act.put, List.setIfInBounds_toArray, List.set_cons_zero, List.set_cons_succ]))
      (refine Drawn.gen_take (i := 4) rfl (by kernel_rfl) (by kernel_rfl) (by kernel_rfl) (by kernel_rfl) (by omega) (by first | assumption | exact hS0) (by first | exact .inr ⟨by rfl, rfl⟩ | exact .inl ⟨by rfl, by intro w2 hS; obtain ⟨q0, q1, q2⟩ := hS; go_simp; first | done | with_reducible rfl | exact ⟨rfl, rfl⟩⟩) ?_; (try simp only [Act.put, List.setIfInBounds_toArray, List.set_cons_zero, List.set_cons_succ]))
      (refine Drawn.gen_take (i := 5) rfl (by kernel_rfl) (by kernel_rfl) (by kernel_rfl) (by kernel_rfl) (by omega) (by first | assumption | exact hS0) (by first | exact .inr ⟨by rfl, rfl⟩ | exact .inl ⟨by rfl, by intro w2 hS; obtain ⟨q0, q1, q2⟩ := hS; go_simp; first | done | with_reducible rfl | exact ⟨rfl, rfl⟩⟩) ?_; (try simp only [Act.put, List.setIfInBounds_toArray, List.set_cons_zero, List.set_cons_succ]))
      (refine Drawn.gen_take (i := 6) rfl (by kernel_rfl) (by kernel_rfl) (by kernel_rfl) (by kernel_rfl) (by omega) (by first | assumption | exact hS0) (by first | exact .inr ⟨by rfl, rfl⟩ | exact .inl ⟨by rfl, by intro w2 hS; obtain ⟨q0, q1, q2⟩ := hS; go_simp; first | done | with_reducible rfl | exact ⟨rfl, rfl⟩⟩) ?_; (try simp only [Act.put, List.setIfInBounds_toArray, List.set_cons_zero, List.set_cons_succ]))
      (refine Drawn.gen_take (i := 7) rfl (by kernel_rfl) (by kernel_rfl) (by kernel_rfl) (by kernel_rfl) (by omega) (by first | assumption | exact hS0) (by first | exact .inr ⟨by rfl, rfl⟩ | exact .inl ⟨by rfl, by intro w2 hS; obtain ⟨q0, q1, q2⟩ := hS; go_simp; first | done | with_reducible rfl | exact ⟨rfl, rfl⟩⟩) ?_; (try simp only [Act.put, List.setIfInBounds_toArray, List.set_cons_zero, List.set_cons_succ]))
      (refine Drawn.gen_take (i := 8) rfl (by kernel_rfl) (by kernel_rfl) (by kernel_rfl) (by kernel_rfl) (by omega) (by first | assumption | exact hS0) (by first | exact .inr ⟨by rfl, rfl⟩ | exact .inl ⟨by rfl, by intro w2 hS; obtain ⟨q0, q1, q2⟩ := hS; go_simp; first | done | with_reducible rfl | exact ⟨rfl, rfl⟩⟩) ?_; (try simp only [Act.put, List.setIfInBounds_toArray, List.set_cons_zero, List.set_cons_succ]))
      (refine Drawn.gen_take (i := 9) rfl (by kernel_rfl) (by kernel_rfl) (by kernel_rfl) (by kernel_rfl) (by omega) (by first | assumption | exact hS0) (by first | exact .inr ⟨by rfl, rfl⟩ | exact .inl ⟨by rfl, by intro w2 hS; obtain ⟨q0, q1, q2⟩ := hS; go_simp; first | done | with_reducible rfl | exact ⟨rfl, rfl⟩⟩) ?_; (try simp only [Act.put, List.setIfInBounds_toArray, List.set_cons_zero, List.set_cons_succ]))
      (refine Drawn.gen_take (i := 10) rfl (by kernel_rfl) (by kernel_rfl) (by kernel_rfl) (by kernel_rfl) (by omega) (by first | assumption | exact hS0) (by first | exact .inr ⟨by rfl, rfl⟩ | exact .inl ⟨by rfl, by intro w2 hS; obtain ⟨q0, q1, q2⟩ := hS; go_simp; first | done | with_reducible rfl | exact ⟨rfl, rfl⟩⟩) ?_; (try simp only [Act.put, List.setIfInBounds_toArray, List.set_cons_zero, List.set_cons_succ]))
      (refine Drawn.gen_take (i := 11) rfl (by kernel_rfl) (by kernel_rfl) (by kernel_rfl) (by kernel_rfl) (by omega) (by first | assumption | exact hS0) (by first | exact .inr ⟨by rfl, rfl⟩ | exact .inl ⟨by rfl, by intro w2 hS; obtain ⟨q0, q1, q2⟩ := hS; go_simp; first | done | with_reducible rfl | exact ⟨rfl, rfl⟩⟩) ?_; (try simp only [Act.put, List.setIfInBounds_toArray, List.set_cons_zero, List.set_cons_succ]))
      refine Drawn.gen_one (i := 12) (by kernel_rfl) rfl (by rfl) ?_
      refine Drawn.Step.value (by go_simp; first | done | with_reducible rfl | exact ⟨rfl, rfl⟩) ?_; refine ⟨by first | (intro hlt; exact absurd hlt (by decide)) | (intro _; exact keep _ (Below.alloc' hB.drew _)), ?_⟩; (try simp only [Act.put, List.setIfInBounds_toArray, List.set_cons_zero, List.set_cons_succ])
      refine Drawn.gen_one (i := 13) (by kernel_rfl) rfl (by rfl) ?_
      refine Drawn.Step.value (run_append_op (.tmp 11) (.tmp 23) 25 rfl rfl rfl HRUN.out) ⟨fun _ => keep _ HB2.out, ?_⟩
      (try simp only [Act.put, List.setIfInBounds_toArray, List.set_cons_zero, List.set_cons_succ])
      refine Drawn.gen_one (i := 14) (by kernel_rfl) rfl (by rfl) ?_
      refine Drawn.Step.value (by go_simp; first | done | with_reducible rfl | exact ⟨rfl, rfl⟩) ?_; refine ⟨by first | (intro hlt; exact absurd hlt (by decide)) | (intro _; omega), ?_⟩; (try simp only [Act.put, List.setIfInBounds_toArray, List.set_cons_zero, List.set_cons_succ])
      refine Drawn.gen_end (by kernel_rfl) ?_
      go_wp2
      go_roundw
      case rel => exact ⟨k + 1, by omega, by go_num, HO.out, HB2.out⟩
      case measure => simp [intOf]; omega
    · obtain rfl : k = n := by omega
      have hltz : ¬ (k : Int) < (k : Int) := by omega
      obtain ⟨D, d, rfl, hID⟩ := rareas_of_own hown
      go_wp2
      refine bodyPost_ret (v := .slice D k d) (by simp [results, Try.results11, go_sem, *]; first | done | exact ⟨rfl, rfl⟩ | rfl) rfl ⟨⟨D, ⟨d, rfl⟩, hID⟩, hB⟩

end Go.Proofs.Ytlmpkpjonkdaiaa.Fix
