/- The contracts of Flip of the layer justify, and of the document's own Starts and Flip. -/
import Derived.Test.YteopkakjnjfheaaJuStarts
import Derived.Test.YteopkakjnjfheaaDrawnGen
namespace Go.Proofs.Yteopkakjnjfheaa.Fix
open Go.ChangeShapes Go.WideShapes Go.ChangeAt Go.RowKit
set_option linter.unusedVariables false

set_option maxHeartbeats 4000000 in
theorem flip_any (A T : Option Addr) (a l : List Int) (n c d : Nat) (room : Int) (w : World) (hI : Ints w A a) (hT : Ints w T l) (ha : a.length = n) (hl : l.length = n) (hn : n ≤ 1000) :
    Calls Try.prog 11 #[.slice A n c, .slice T n d, .int .i64 room] w fun e w' => (∃ b, e = .returned (.slice (some ⟨b, 0, none⟩) n n) ∧ Ints w' (some ⟨b, 0, none⟩) (Ju.row (Ju.flip room a l) n)) ∧ Below w.heap.size w w' := by
  obtain ⟨i0, hi0, hz0, hz1, hz2⟩ := info_parts intZero
  have HI := Lib.hid hI
  have HT := Lib.hid hT
  have HLA := Lib.hid ha
  have HL := Lib.hid hl
  clear hI hT ha hl
  go_enter Try.func11, Try.ntmps11
  go_upto_region 4 with (at_make; refine wpList_make_row _ rfl _ _ 23 rfl 3 i0 (.int .i64 0) Try.underlying23 hi0 hz0 hz1 rfl .i64 .i64 n rfl rfl (by rw [hz2]; omega) (by omega) ?_)
  generalize hW : World.alloc _ _ = W2
  have hA : At W2 w.heap.size (.cells (stRow (Ju.flip room a l) n 0) 3) := by rw [← hW, ← stRow_made]; exact At.new _ _
  have hB : Below w.heap.size w W2 := hW ▸ Below.alloc' (Below.refl _ _) _
  clear hW
  go_wp2
  go_loopw [20] (fun i wr => ∃ k : Nat, k ≤ n ∧ i = .int .i64 k ∧ At wr w.heap.size (.cells (stRow (Ju.flip room a l) n k) 3) ∧ Below w.heap.size w wr) (fun i _ => n - (intOf i).toNat)
  case atStart => exact ⟨0, by omega, rfl, hA, hB⟩
  case round =>
    obtain ⟨k, hk, rfl, hA, hB⟩ := hrel
    by_cases hlt : k < n
    · have HSET := Lib.hid (stRow_set (Ju.flip room a l) hlt)
      obtain ⟨b1, o1, hA1, l1, c1⟩ := (HI.out.after hB).at_ (k := k) (by rw [HLA.out]; exact hlt)
      obtain ⟨b2, o2, hA2, l2, c2⟩ := (HT.out.after hB).at_ (k := k) (by rw [HL.out]; exact hlt)
      have HF : Hid (Ju.flip room a l k = Fx.sub room (Fx.add (a.getD k 0) (l.getD k 0))) := Lib.hid rfl
      generalize a.getD k 0 = x at *
      generalize l.getD k 0 = y at *
      subst hA1 hA2
      have hz := hA.thaw k
      have hcc := hA.cell k
      rw [stRow_get _ hlt] at hcc
      have hlt0 := hA.lt
      go_upto_region 8 with (first | (go_at_call 20; (with_reducible refine (add_any _ _ _).mono ?_); rintro e w' ⟨rfl, rfl⟩) | (go_at_call 18; (with_reducible refine (sub_any _ _ _).mono ?_); rintro e w' ⟨rfl, rfl⟩))
      generalize hW : World.setCell _ _ _ = W4
      replace hA : At W4 w.heap.size (.cells (stRow (Ju.flip room a l) n (k + 1)) 3) := by
        rw [← hW, ← HSET.out, HF.out]
        exact hA.set k _
      replace hB : Below w.heap.size w W4 := hW ▸ Below.setCell hB (Nat.le_refl _) _
      clear hW hz hcc hlt0 c1 c2 l1 l2
      go_wp2
      go_roundw
      case rel => exact ⟨k + 1, by omega, by go_num, hA, hB⟩
      case measure => simp [intOf]; omega
    · obtain rfl : k = n := by omega
      go_wp2
      refine bodyPost_ret (v := .slice (some ⟨w.heap.size, 0, none⟩) k k) (by simp [results, Try.results11, go_sem, *]; first | done | exact ⟨rfl, rfl⟩ | rfl) rfl ⟨⟨w.heap.size, rfl, ints_of_made _ k (by unfold maxLen; omega) hA⟩, hB⟩

theorem flip_none (A T : Option Addr) (n m c d : Nat) (room : Int) (w : World) (h : ¬ n = m) :
    Calls Try.prog 11 #[.slice A n c, .slice T m d, .int .i64 room] w fun e w' => e = .returned (.slice none 0 0) ∧ w = w' := by
  go_enter Try.func11, Try.ntmps11
  go_wp2
  refine bodyPost_ret (v := .slice none 0 0) (by simp [results, Try.results11, go_sem, *]; first | done | exact ⟨rfl, rfl⟩ | rfl) rfl ⟨rfl, rfl⟩

theorem run_append_as {P : Program} {w w' : World} {o : Oper} {a : Act} (s x : Operand) (t : TypeId) (ho : o.op = .call { callee := .builtin .append, args := #[s, x], argTypes := #[t, t] }) {v u v' : Value} (hs : a.eval s = v) (hx : a.eval x = u)
    (hrun : (Builtin.append_ #[t, t] o.type #[v, u]).run P w = .ok v' w') : (execOp a.eval o).run P w = .ok (.value v') w' := by
  unfold execOp
  simp only [ho, resolve, invoke, builtin, Sem.run_bind, Sem.run_pure, Result.andThen_ok, List.map_toArray, List.map_cons, List.map_nil, hs, hx, hrun]

theorem ownsRow_under {W w : World} {base : Nat} {e : TypeId} {sz : Nat} {v : Value} {k : Nat} {xs : List Value} (h : W.ownsRow base e sz v k xs) (hb : Below W.heap.size W w) : w.ownsRow base e sz v k xs := by
  refine h.kept (row := none) ⟨hb.os, hb.tape, hb.output, hb.size, fun k hk _ => hb.block k hk⟩ ?_
  rcases h.2 with ⟨rfl, _⟩ | ⟨g, cap, cur, rfl, _⟩
  · exact .inl rfl
  · exact .inr (by simp [Value.ownBlock])

set_option maxHeartbeats 4000000 in
theorem rflip_any (A T : Option Addr) (a l : List Int) (n c d : Nat) (room : Int) (w : World) (hI : Ints w A a) (hT : Ints w T l) (ha : a.length = n) (hl : l.length = n) (hn : n ≤ 1000) :
    Calls Try.prog 14 #[.slice A n c, .slice T n d, .int .i64 room] w fun e w' => (∃ D c', e = .returned (.slice D n c') ∧ Ints w' D (Ju.row (Ju.flip room a l) n)) ∧ Below w.heap.size w w' := by
  have HI := Lib.hid hI
  have HT := Lib.hid hT
  have HLA := Lib.hid ha
  have HL := Lib.hid hl
  clear hI hT ha hl
  go_enter Try.func14, Try.ntmps14
  go_wp2
  go_loopw [7, 8] (fun v i wr => ∃ k : Nat, k ≤ n ∧ i = .int .i64 k ∧ wr.ownsRow w.heap.size 3 1 v k ((Ju.row (Ju.flip room a l) k).map (Value.int .i64)) ∧ Below w.heap.size w wr) (fun _ i _ => n - (intOf i).toNat)
  case atStart => exact ⟨0, by omega, rfl, World.ownsRow_nil _ _ _ _, Below.refl _ _⟩
  case round =>
    obtain ⟨k, hk, rfl, hown, hB⟩ := hrel
    by_cases hlt : k < n
    · have hltz : (k : Int) < (n : Int) := by omega
      obtain ⟨b1, o1, hA1, _, c1⟩ := HI.out.at_ (k := k) (by rw [HLA.out]; exact hlt)
      obtain ⟨b2, o2, hA2, _, c2⟩ := HT.out.at_ (k := k) (by rw [HL.out]; exact hlt)
      have hb1 : b1 < w.heap.size := HI.out.lt (by rw [HLA.out]; omega) _ hA1
      have hb2 : b2 < w.heap.size := HT.out.lt (by rw [HL.out]; omega) _ hA2
      have hsz := hB.size
      have hown1 := ownsRow_under hown (w := wr.drew) (Below.refl _ _).drew
      obtain ⟨v', w', hrun, hown2, hB2, hsz2⟩ := append_int (Ju.flip room a l k) hown1 hB.drew (by exact hsz) (by omega)
      rw [← Ju.row_succ] at hown2
      have HF : Hid (Ju.flip room a l k = Fx.sub room (Fx.add (a.getD k 0) (l.getD k 0))) := Lib.hid rfl
      rw [HF.out] at hrun
      have HO := Lib.hid hown2
      have HB2 := Lib.hid hB2
      have HRUN := Lib.hid hrun
      clear hrun hown hown1 hown2 hB2
      generalize a.getD k 0 = x at *
      generalize l.getD k 0 = y at *
      subst hA1 hA2
      have keep : ∀ W', Below w.heap.size w W' → W'.cell? ⟨b1, o1 + k, none⟩ = some (.int .i64 x) ∧ W'.cell? ⟨b2, o2 + k, none⟩ = some (.int .i64 y) := fun W' h =>
        ⟨(h.cell (p := ⟨b1, o1 + k, none⟩) hb1).trans c1, (h.cell (p := ⟨b2, o2 + k, none⟩) hb2).trans c2⟩
      go_upto_region 5 with (fail)
      refine Drawn.wp_region_gen (S := (fun W' => W'.cell? ⟨b1, o1 + k, none⟩ = some (.int .i64 x) ∧ W'.cell? ⟨b2, o2 + k, none⟩ = some (.int .i64 y))) 14 (by kernel_rfl) ?_ ?_
      · exact keep _ hB.drew
      intro hS0
      (refine Drawn.gen_take (i := 0) rfl (by kernel_rfl) (by kernel_rfl) (by kernel_rfl) (by kernel_rfl) (by omega) (by first | assumption | exact hS0) (by first | exact .inr ⟨by rfl, rfl⟩ | exact .inl ⟨by rfl, by intro w2 hS; obtain ⟨q0, q1⟩ := hS; go_simp; first | done | with_reducible rfl | exact ⟨rfl, rfl⟩⟩) ?_; (try simp only [Act.put, List.setIfInBounds_toArray, List.set_cons_zero, List.set_cons_succ]))
      (refine Drawn.gen_take (i := 1) rfl (by kernel_rfl) (by kernel_rfl) (by kernel_rfl) (by kernel_rfl) (by omega) (by first | assumption | exact hS0) (by first | exact .inr ⟨by rfl, rfl⟩ | exact .inl ⟨by rfl, by intro w2 hS; obtain ⟨q0, q1⟩ := hS; go_simp; first | done | with_reducible rfl | exact ⟨rfl, rfl⟩⟩) ?_; (try simp only [Act.put, List.setIfInBounds_toArray, List.set_cons_zero, List.set_cons_succ]))
      (refine Drawn.gen_take (i := 2) rfl (by kernel_rfl) (by kernel_rfl) (by kernel_rfl) (by kernel_rfl) (by omega) (by first | assumption | exact hS0) (by first | exact .inr ⟨by rfl, rfl⟩ | exact .inl ⟨by rfl, by intro w2 hS; obtain ⟨q0, q1⟩ := hS; go_simp; first | done | with_reducible rfl | exact ⟨rfl, rfl⟩⟩) ?_; (try simp only [Act.put, List.setIfInBounds_toArray, List.set_cons_zero, List.set_cons_succ]))
      (refine Drawn.gen_take (i := 3) rfl (by kernel_rfl) (by kernel_rfl) (by kernel_rfl) (by kernel_rfl) (by omega) (by first | assumption | exact hS0) (by first | exact .inr ⟨by rfl, rfl⟩ | exact .inl ⟨by rfl, by intro w2 hS; obtain ⟨q0, q1⟩ := hS; go_simp; first | done | with_reducible rfl | exact ⟨rfl, rfl⟩⟩) ?_; (try simp only [Act.put, List.setIfInBounds_toArray, List.set_cons_zero, List.set_cons_succ]))
      (refine Drawn.gen_take (i := 4) rfl (by kernel_rfl) (by kernel_rfl) (by kernel_rfl) (by kernel_rfl) (by omega) (by first | assumption | exact hS0) (by first | exact .inr ⟨by rfl, rfl⟩ | exact .inl ⟨by rfl, by intro w2 hS; obtain ⟨q0, q1⟩ := hS; go_simp; first | done | with_reducible rfl | exact ⟨rfl, rfl⟩⟩) ?_; (try simp only [Act.put, List.setIfInBounds_toArray, List.set_cons_zero, List.set_cons_succ]))
      (refine Drawn.gen_take (i := 5) rfl (by kernel_rfl) (by kernel_rfl) (by kernel_rfl) (by kernel_rfl) (by omega) (by first | assumption | exact hS0) (by first | exact .inr ⟨by rfl, rfl⟩ | exact .inl ⟨by rfl, by intro w2 hS; obtain ⟨q0, q1⟩ := hS; go_simp; first | done | with_reducible rfl | exact ⟨rfl, rfl⟩⟩) ?_; (try simp only [Act.put, List.setIfInBounds_toArray, List.set_cons_zero, List.set_cons_succ]))
      (refine Drawn.gen_take (i := 6) rfl (by kernel_rfl) (by kernel_rfl) (by kernel_rfl) (by kernel_rfl) (by omega) (by first | assumption | exact hS0) (by first | exact .inr ⟨by rfl, rfl⟩ | exact .inl ⟨by rfl, by intro w2 hS; obtain ⟨q0, q1⟩ := hS; go_simp; first | done | with_reducible rfl | exact ⟨rfl, rfl⟩⟩) ?_; (try simp only [Act.put, List.setIfInBounds_toArray, List.set_cons_zero, List.set_cons_succ]))
      (refine Drawn.gen_take (i := 7) rfl (by kernel_rfl) (by kernel_rfl) (by kernel_rfl) (by kernel_rfl) (by omega) (by first | assumption | exact hS0) (by first | exact .inr ⟨by rfl, rfl⟩ | exact .inl ⟨by rfl, by intro w2 hS; obtain ⟨q0, q1⟩ := hS; go_simp; first | done | with_reducible rfl | exact ⟨rfl, rfl⟩⟩) ?_; (try simp only [Act.put, List.setIfInBounds_toArray, List.set_cons_zero, List.set_cons_succ]))
      (refine Drawn.gen_take (i := 8) rfl (by kernel_rfl) (by kernel_rfl) (by kernel_rfl) (by kernel_rfl) (by omega) (by first | assumption | exact hS0) (by first | exact .inr ⟨by rfl, rfl⟩ | exact .inl ⟨by rfl, by intro w2 hS; obtain ⟨q0, q1⟩ := hS; go_simp; first | done | with_reducible rfl | exact ⟨rfl, rfl⟩⟩) ?_; (try simp only [Act.put, List.setIfInBounds_toArray, List.set_cons_zero, List.set_cons_succ]))
      (refine Drawn.gen_take (i := 9) rfl (by kernel_rfl) (by kernel_rfl) (by kernel_rfl) (by kernel_rfl) (by omega) (by first | assumption | exact hS0) (by first | exact .inr ⟨by rfl, rfl⟩ | exact .inl ⟨by rfl, by intro w2 hS; obtain ⟨q0, q1⟩ := hS; go_simp; first | done | with_reducible rfl | exact ⟨rfl, rfl⟩⟩) ?_; (try simp only [Act.put, List.setIfInBounds_toArray, List.set_cons_zero, List.set_cons_succ]))
      refine Drawn.gen_one (i := 10) (by kernel_rfl) rfl (by rfl) ?_
      refine Drawn.Step.call (by go_simp; first | done | with_reducible rfl | exact ⟨rfl, rfl⟩) (radd_any x y _) ?_
      rintro e w2 ⟨rfl, rfl⟩
      refine ⟨_, rfl, fun _ => keep _ hB.drew, ?_⟩
      (try simp only [Act.put, List.setIfInBounds_toArray, List.set_cons_zero, List.set_cons_succ])
      refine Drawn.gen_one (i := 11) (by kernel_rfl) rfl (by rfl) ?_
      refine Drawn.Step.call (by go_simp; first | done | with_reducible rfl | exact ⟨rfl, rfl⟩) (rsub_any room (Fx.add x y) _) ?_
      rintro e w2 ⟨rfl, rfl⟩
      refine ⟨_, rfl, fun _ => keep _ hB.drew, ?_⟩
      (try simp only [Act.put, List.setIfInBounds_toArray, List.set_cons_zero, List.set_cons_succ])
      refine Drawn.gen_one (i := 12) (by kernel_rfl) rfl (by rfl) ?_
      refine Drawn.Step.value (by go_simp; first | done | with_reducible rfl | exact ⟨rfl, rfl⟩) ?_; refine ⟨by first | (intro hlt; exact absurd hlt (by decide)) | (intro _; exact keep _ (Below.alloc' hB.drew _)), ?_⟩; (try simp only [Act.put, List.setIfInBounds_toArray, List.set_cons_zero, List.set_cons_succ])
      refine Drawn.gen_one (i := 13) (by kernel_rfl) rfl (by rfl) ?_
      refine Drawn.Step.value (run_append_as (.tmp 22) (.tmp 34) 23 rfl rfl rfl HRUN.out) ⟨fun _ => keep _ HB2.out, ?_⟩
      (try simp only [Act.put, List.setIfInBounds_toArray, List.set_cons_zero, List.set_cons_succ])
      refine Drawn.gen_one (i := 14) (by kernel_rfl) rfl (by rfl) ?_
      refine Drawn.Step.value (by go_simp; first | done | with_reducible rfl | exact ⟨rfl, rfl⟩) ?_; refine ⟨by first | (intro hlt; exact absurd hlt (by decide)) | (intro _; omega), ?_⟩; (try simp only [Act.put, List.setIfInBounds_toArray, List.set_cons_zero, List.set_cons_succ])
      refine Drawn.gen_end (by kernel_rfl) ?_
      go_wp2
      go_roundw
      case rel => exact ⟨k + 1, by omega, by go_num, HO.out, HB2.out⟩
      case measure => simp [intOf]; omega
    · obtain rfl : k = n := by omega
      have hltz : ¬ (k : Int) < (k : Int) := by omega
      obtain ⟨D, c', rfl, hI'⟩ := ints_of_own hown (by simp only [maxLen]; omega)
      rw [Ju.row_length]
      go_wp2
      refine bodyPost_ret (v := .slice D k c') (by simp [results, Try.results14, go_sem, *]; first | done | exact ⟨rfl, rfl⟩ | rfl) rfl ⟨⟨D, ⟨c', rfl⟩, hI'⟩, hB⟩

end Go.Proofs.Yteopkakjnjfheaa.Fix
