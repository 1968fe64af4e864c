/- The statement RecordPuts, walked. -/
import Derived.Test.YtpfkencgjodehaaRecGets
import Derived.Test.YtpfkencgjodehaaRecRefP
namespace Go.Proofs.Ytpfkencgjodehaa.Fix
open Go.ChangeShapes Go.WideShapes Go.ChangeAt Go.RowKit
set_option linter.unusedVariables false

section
variable {ops : Array Oper} {S : World → Prop} {o : Oper} {a : Act}
theorem reads_load (hw : Region.wanted o (yielded ops a.tmps) = true) (x : Operand) (ho : o.op = .load 36 x) {b : Nat} (hx : a.eval x = .pointer (some ⟨b, 0, none⟩)) {s : Re.St} (hs : ∀ w, S w → At w b (.cells (cells s) 36)) : Drawn.Reads Try.prog ops S o (.agg (cells s)) a :=
  .inl ⟨hw, fun w h => by unfold execOp; simp only [ho, hx, Sem.run_bind, load_style (hs w h), Result.andThen_ok, Sem.run_pure]⟩
theorem guard_style' (op : BinOp) (x y : Operand) (s t : Re.St) (w : World) : (eqGuard op 36 x y (.agg (cells s)) (.agg (cells t))).run Try.prog w = .ok () w := run_eqGuard_agg (w := w) (P := Try.prog) _ _ _ _ _ _ (by kernel_rfl)
theorem reads_eql (hw : Region.wanted o (yielded ops a.tmps) = true) (x y : Operand) (ho : o.op = .binOp .eql 36 x y 36) {s t : Re.St} (hx : a.eval x = .agg (cells s)) (hy : a.eval y = .agg (cells t)) (hs : Fits s) (ht : Fits t) {r : Bool} (hr : Re.sameB s t = r) : Drawn.Reads Try.prog ops S o (.bool r) a :=
  .inl ⟨hw, fun w h => by unfold execOp; simp only [ho, hx, hy, Sem.run_bind, guard_style', run_eql_style s t hs ht, Result.andThen_ok, Sem.run_pure, hr]⟩
theorem reads_neq (hw : Region.wanted o (yielded ops a.tmps) = true) (x y : Operand) (ho : o.op = .binOp .neq 36 x y 36) {s t : Re.St} (hx : a.eval x = .agg (cells s)) (hy : a.eval y = .agg (cells t)) (hs : Fits s) (ht : Fits t) {r : Bool} (hr : (!Re.sameB s t) = r) : Drawn.Reads Try.prog ops S o (.bool r) a :=
  .inl ⟨hw, fun w h => by unfold execOp; simp only [ho, hx, hy, Sem.run_bind, guard_style', run_neq_style s t hs ht, Result.andThen_ok, Sem.run_pure, hr]⟩
end

set_option maxRecDepth 100000 in
set_option maxHeartbeats 4000000 in
theorem rputs_walk (t : Re.St) (w : World) : Calls Try.prog 3 #[.agg (cells t)] w fun e w' => e = .returned (.bool true) ∧ Below w.heap.size w w' := by
  go_enter Try.func3, Try.ntmps3
  go_upto_region 1 with (fail)
  have hA : At (w.alloc (.cells (cells t) 36)) w.heap.size (.cells (cells t) 36) := At.new _ _
  have hB : Below w.heap.size w (w.alloc (.cells (cells t) 36)) := Below.alloc' (Below.refl _ _) _
  generalize w.alloc (.cells (cells t) 36) = wc at *
  generalize hbox : w.heap.size = bx at *
  have lb := hA.lt
  have HBOX := Lib.hid hbox
  clear hbox
  go_upto_region 5 with (first | (refine wpList_alloc_style (by rfl) rfl ?_) | (refine wpList_build_zero (by rfl) rfl ?_) | (refine wpList_load_style (by rfl) _ rfl rfl (by first | assumption | (with_reducible exact At.new _ _)) ?_) | (refine wpList_store_same (by rfl) _ _ rfl rfl rfl (by first | assumption | (with_reducible exact At.new _ _)) ?_) | (refine wpList_store_style (by rfl) _ _ rfl rfl rfl (by first | assumption | (with_reducible exact At.new _ _)) ?_) | (go_at_call 8; (with_reducible refine (recworks_any _).mono ?_); rintro e w2 ⟨rfl, hb⟩; replace hB := hB.trans (hb.mono (Nat.le_of_lt hA.lt)); replace hA := hA.keep hb; clear hb) | (go_at_call 9; (with_reducible refine (rrecvalid_any _ _).mono ?_); rintro e w3 ⟨rfl, hb⟩; replace hB := hB.trans (hb.mono (Nat.le_of_lt hA.lt)); replace hA := hA.keep hb; clear hb))
  have HA := Lib.hid (fun (W : World) (h : Below w3.heap.size w3 W) => hA.keep h)
  have HBW := Lib.hid hB
  have lb3 := hA.lt
  have key := Lib.hid (fun W => recvalid_any t W)
  generalize Re.valid t = v at *
  clear hA hB
  cases v
  · refine Drawn.wp_region_gen (S := (fun W' => Below w3.heap.size w3 W')) 15 (by kernel_rfl) ?_ ?_
    · exact Below.drew (Below.refl _ _)
    intro hS0
    (refine Drawn.gen_take (i := 0) rfl (by kernel_rfl) (by kernel_rfl) (by kernel_rfl) (by kernel_rfl) (by omega) (by assumption) (by first | exact .inr ⟨by rfl, rfl⟩ | exact .inl ⟨by rfl, by intro w2 hS; go_simp; first | done | with_reducible rfl | exact ⟨rfl, rfl⟩⟩) ?_; (try simp only [Act.put, List.setIfInBounds_toArray, List.set_cons_zero, List.set_cons_succ]))
    (refine Drawn.gen_take (i := 1) rfl (by kernel_rfl) (by kernel_rfl) (by kernel_rfl) (by kernel_rfl) (by omega) (by assumption) (by first | exact .inr ⟨by rfl, rfl⟩ | exact .inl ⟨by rfl, by intro w2 hS; go_simp; first | done | with_reducible rfl | exact ⟨rfl, rfl⟩⟩) ?_; (try simp only [Act.put, List.setIfInBounds_toArray, List.set_cons_zero, List.set_cons_succ]))
    (refine Drawn.gen_take (i := 2) rfl (by kernel_rfl) (by kernel_rfl) (by kernel_rfl) (by kernel_rfl) (by omega) (by assumption) (reads_load (by rfl) (.tmp 1) rfl rfl (fun W h => HA.out W h)) ?_; (try simp only [Act.put, List.setIfInBounds_toArray, List.set_cons_zero, List.set_cons_succ]))
    (refine Drawn.gen_take (i := 4) rfl (by kernel_rfl) (by kernel_rfl) (by kernel_rfl) (by kernel_rfl) (by omega) (by assumption) (by first | exact .inr ⟨by rfl, rfl⟩ | exact .inl ⟨by rfl, by intro w2 hS; go_simp; first | done | with_reducible rfl | exact ⟨rfl, rfl⟩⟩) ?_; (try simp only [Act.put, List.setIfInBounds_toArray, List.set_cons_zero, List.set_cons_succ]))
    refine Drawn.gen_one (i := 3) (by kernel_rfl) rfl (by rfl) ?_
    refine Drawn.Step.call (by go_simp; first | done | with_reducible rfl | exact ⟨rfl, rfl⟩) (key.out _) ?_
    rintro e w4 ⟨rfl, hb⟩
    have hS1 := hS0.trans (hb.mono hS0.size)
    clear hS0 hb
    refine ⟨_, rfl, fun _ => hS1, ?_⟩
    (try simp only [Act.put, List.setIfInBounds_toArray, List.set_cons_zero, List.set_cons_succ])
    (refine Drawn.gen_take (i := 5) rfl (by kernel_rfl) (by kernel_rfl) (by kernel_rfl) (by kernel_rfl) (by omega) (by assumption) (by first | exact .inr ⟨by rfl, rfl⟩ | exact .inl ⟨by rfl, by intro w2 hS; go_simp; first | done | with_reducible rfl | exact ⟨rfl, rfl⟩⟩) ?_; (try simp only [Act.put, List.setIfInBounds_toArray, List.set_cons_zero, List.set_cons_succ]))
    (refine Drawn.gen_take (i := 6) rfl (by kernel_rfl) (by kernel_rfl) (by kernel_rfl) (by kernel_rfl) (by omega) (by assumption) (by first | exact .inr ⟨by rfl, rfl⟩ | exact .inl ⟨by rfl, by intro w2 hS; go_simp; first | done | with_reducible rfl | exact ⟨rfl, rfl⟩⟩) ?_; (try simp only [Act.put, List.setIfInBounds_toArray, List.set_cons_zero, List.set_cons_succ]))
    (refine Drawn.gen_take (i := 7) rfl (by kernel_rfl) (by kernel_rfl) (by kernel_rfl) (by kernel_rfl) (by omega) (by assumption) (by first | exact .inr ⟨by rfl, rfl⟩ | exact .inl ⟨by rfl, by intro w2 hS; go_simp; first | done | with_reducible rfl | exact ⟨rfl, rfl⟩⟩) ?_; (try simp only [Act.put, List.setIfInBounds_toArray, List.set_cons_zero, List.set_cons_succ]))
    (refine Drawn.gen_take (i := 8) rfl (by kernel_rfl) (by kernel_rfl) (by kernel_rfl) (by kernel_rfl) (by omega) (by assumption) (reads_load (by rfl) (.tmp 1) rfl rfl (fun W h => HA.out W h)) ?_; (try simp only [Act.put, List.setIfInBounds_toArray, List.set_cons_zero, List.set_cons_succ]))
    (refine Drawn.gen_take (i := 10) rfl (by kernel_rfl) (by kernel_rfl) (by kernel_rfl) (by kernel_rfl) (by omega) (by assumption) (reads_load (by rfl) (.tmp 1) rfl rfl (fun W h => HA.out W h)) ?_; (try simp only [Act.put, List.setIfInBounds_toArray, List.set_cons_zero, List.set_cons_succ]))
    refine Drawn.gen_one (i := 9) (by kernel_rfl) rfl (by rfl) ?_
    refine Drawn.Step.call (by go_simp; first | done | with_reducible rfl | exact ⟨rfl, rfl⟩) (recput_any t _) ?_
    rintro e w5 ⟨⟨p, rfl, hI1⟩, hb⟩
    have hS2 := hS1.trans (hb.mono hS1.size)
    clear hS1 hb
    refine ⟨_, rfl, fun _ => hS2, ?_⟩
    (try simp only [Act.put, List.setIfInBounds_toArray, List.set_cons_zero, List.set_cons_succ])
    refine Drawn.gen_one (i := 11) (by kernel_rfl) rfl (by rfl) ?_
    refine Drawn.Step.call (by go_simp; first | done | with_reducible rfl | exact ⟨rfl, rfl⟩) (rrecput_any t _) ?_
    rintro e w6 ⟨⟨A2, c2, rfl, hI2⟩, hb⟩
    have hS3 := hS2.trans (hb.mono hS2.size)
    replace hI1 := hI1.after hb
    clear hS2 hb
    refine ⟨_, rfl, fun _ => hS3, ?_⟩
    (try simp only [Act.put, List.setIfInBounds_toArray, List.set_cons_zero, List.set_cons_succ])
    refine Drawn.gen_one (i := 12) (by kernel_rfl) rfl (by rfl) ?_
    refine Drawn.Step.call (by go_simp; first | done | with_reducible rfl | exact ⟨rfl, rfl⟩) (rowgen_any _ _ _ _ 55 55 c2 true _ hI1 hI2 (Re.putL_length t) (Re.putL_length t) (by decide) (by simp)) ?_
    rintro e w7 ⟨rfl, hb⟩
    have hS4 := hS3.trans (hb.mono hS3.size)
    clear hS3 hb
    refine ⟨_, rfl, fun _ => hS4, ?_⟩
    (try simp only [Act.put, List.setIfInBounds_toArray, List.set_cons_zero, List.set_cons_succ])
    (refine Drawn.gen_take (i := 13) rfl (by kernel_rfl) (by kernel_rfl) (by kernel_rfl) (by kernel_rfl) (by omega) (by assumption) (by first | exact .inr ⟨by rfl, rfl⟩ | exact .inl ⟨by rfl, by intro w2 hS; go_simp; first | done | with_reducible rfl | exact ⟨rfl, rfl⟩⟩) ?_; (try simp only [Act.put, List.setIfInBounds_toArray, List.set_cons_zero, List.set_cons_succ]))
    (refine Drawn.gen_take (i := 14) rfl (by kernel_rfl) (by kernel_rfl) (by kernel_rfl) (by kernel_rfl) (by omega) (by assumption) (by first | exact .inr ⟨by rfl, rfl⟩ | exact .inl ⟨by rfl, by intro w2 hS; go_simp; first | done | with_reducible rfl | exact ⟨rfl, rfl⟩⟩) ?_; (try simp only [Act.put, List.setIfInBounds_toArray, List.set_cons_zero, List.set_cons_succ]))
    refine Drawn.gen_end (by kernel_rfl) ?_
    go_wp2
    go_ret
    exact ⟨rfl, by rw [HBOX.out]; exact HBW.out.trans (hS4.mono (Nat.le_of_lt lb3))⟩
  · refine Drawn.wp_region_gen (S := (fun W' => Below w3.heap.size w3 W')) 15 (by kernel_rfl) ?_ ?_
    · exact Below.drew (Below.refl _ _)
    intro hS0
    (refine Drawn.gen_take (i := 0) rfl (by kernel_rfl) (by kernel_rfl) (by kernel_rfl) (by kernel_rfl) (by omega) (by assumption) (by first | exact .inr ⟨by rfl, rfl⟩ | exact .inl ⟨by rfl, by intro w2 hS; go_simp; first | done | with_reducible rfl | exact ⟨rfl, rfl⟩⟩) ?_; (try simp only [Act.put, List.setIfInBounds_toArray, List.set_cons_zero, List.set_cons_succ]))
    (refine Drawn.gen_take (i := 1) rfl (by kernel_rfl) (by kernel_rfl) (by kernel_rfl) (by kernel_rfl) (by omega) (by assumption) (by first | exact .inr ⟨by rfl, rfl⟩ | exact .inl ⟨by rfl, by intro w2 hS; go_simp; first | done | with_reducible rfl | exact ⟨rfl, rfl⟩⟩) ?_; (try simp only [Act.put, List.setIfInBounds_toArray, List.set_cons_zero, List.set_cons_succ]))
    (refine Drawn.gen_take (i := 2) rfl (by kernel_rfl) (by kernel_rfl) (by kernel_rfl) (by kernel_rfl) (by omega) (by assumption) (reads_load (by rfl) (.tmp 1) rfl rfl (fun W h => HA.out W h)) ?_; (try simp only [Act.put, List.setIfInBounds_toArray, List.set_cons_zero, List.set_cons_succ]))
    (refine Drawn.gen_take (i := 4) rfl (by kernel_rfl) (by kernel_rfl) (by kernel_rfl) (by kernel_rfl) (by omega) (by assumption) (by first | exact .inr ⟨by rfl, rfl⟩ | exact .inl ⟨by rfl, by intro w2 hS; go_simp; first | done | with_reducible rfl | exact ⟨rfl, rfl⟩⟩) ?_; (try simp only [Act.put, List.setIfInBounds_toArray, List.set_cons_zero, List.set_cons_succ]))
    refine Drawn.gen_one (i := 3) (by kernel_rfl) rfl (by rfl) ?_
    refine Drawn.Step.call (by go_simp; first | done | with_reducible rfl | exact ⟨rfl, rfl⟩) (key.out _) ?_
    rintro e w4 ⟨rfl, hb⟩
    have hS1 := hS0.trans (hb.mono hS0.size)
    clear hS0 hb
    refine ⟨_, rfl, fun _ => hS1, ?_⟩
    (try simp only [Act.put, List.setIfInBounds_toArray, List.set_cons_zero, List.set_cons_succ])
    (refine Drawn.gen_take (i := 5) rfl (by kernel_rfl) (by kernel_rfl) (by kernel_rfl) (by kernel_rfl) (by omega) (by assumption) (by first | exact .inr ⟨by rfl, rfl⟩ | exact .inl ⟨by rfl, by intro w2 hS; go_simp; first | done | with_reducible rfl | exact ⟨rfl, rfl⟩⟩) ?_; (try simp only [Act.put, List.setIfInBounds_toArray, List.set_cons_zero, List.set_cons_succ]))
    (refine Drawn.gen_take (i := 6) rfl (by kernel_rfl) (by kernel_rfl) (by kernel_rfl) (by kernel_rfl) (by omega) (by assumption) (by first | exact .inr ⟨by rfl, rfl⟩ | exact .inl ⟨by rfl, by intro w2 hS; go_simp; first | done | with_reducible rfl | exact ⟨rfl, rfl⟩⟩) ?_; (try simp only [Act.put, List.setIfInBounds_toArray, List.set_cons_zero, List.set_cons_succ]))
    (refine Drawn.gen_take (i := 7) rfl (by kernel_rfl) (by kernel_rfl) (by kernel_rfl) (by kernel_rfl) (by omega) (by assumption) (by first | exact .inr ⟨by rfl, rfl⟩ | exact .inl ⟨by rfl, by intro w2 hS; go_simp; first | done | with_reducible rfl | exact ⟨rfl, rfl⟩⟩) ?_; (try simp only [Act.put, List.setIfInBounds_toArray, List.set_cons_zero, List.set_cons_succ]))
    (refine Drawn.gen_take (i := 8) rfl (by kernel_rfl) (by kernel_rfl) (by kernel_rfl) (by kernel_rfl) (by omega) (by assumption) (reads_load (by rfl) (.tmp 1) rfl rfl (fun W h => HA.out W h)) ?_; (try simp only [Act.put, List.setIfInBounds_toArray, List.set_cons_zero, List.set_cons_succ]))
    (refine Drawn.gen_take (i := 10) rfl (by kernel_rfl) (by kernel_rfl) (by kernel_rfl) (by kernel_rfl) (by omega) (by assumption) (reads_load (by rfl) (.tmp 1) rfl rfl (fun W h => HA.out W h)) ?_; (try simp only [Act.put, List.setIfInBounds_toArray, List.set_cons_zero, List.set_cons_succ]))
    refine Drawn.gen_one (i := 9) (by kernel_rfl) rfl (by rfl) ?_
    refine Drawn.Step.call (by go_simp; first | done | with_reducible rfl | exact ⟨rfl, rfl⟩) (recput_any t _) ?_
    rintro e w5 ⟨⟨p, rfl, hI1⟩, hb⟩
    have hS2 := hS1.trans (hb.mono hS1.size)
    clear hS1 hb
    refine ⟨_, rfl, fun _ => hS2, ?_⟩
    (try simp only [Act.put, List.setIfInBounds_toArray, List.set_cons_zero, List.set_cons_succ])
    refine Drawn.gen_one (i := 11) (by kernel_rfl) rfl (by rfl) ?_
    refine Drawn.Step.call (by go_simp; first | done | with_reducible rfl | exact ⟨rfl, rfl⟩) (rrecput_any t _) ?_
    rintro e w6 ⟨⟨A2, c2, rfl, hI2⟩, hb⟩
    have hS3 := hS2.trans (hb.mono hS2.size)
    replace hI1 := hI1.after hb
    clear hS2 hb
    refine ⟨_, rfl, fun _ => hS3, ?_⟩
    (try simp only [Act.put, List.setIfInBounds_toArray, List.set_cons_zero, List.set_cons_succ])
    refine Drawn.gen_one (i := 12) (by kernel_rfl) rfl (by rfl) ?_
    refine Drawn.Step.call (by go_simp; first | done | with_reducible rfl | exact ⟨rfl, rfl⟩) (rowgen_any _ _ _ _ 55 55 c2 true _ hI1 hI2 (Re.putL_length t) (Re.putL_length t) (by decide) (by simp)) ?_
    rintro e w7 ⟨rfl, hb⟩
    have hS4 := hS3.trans (hb.mono hS3.size)
    clear hS3 hb
    refine ⟨_, rfl, fun _ => hS4, ?_⟩
    (try simp only [Act.put, List.setIfInBounds_toArray, List.set_cons_zero, List.set_cons_succ])
    (refine Drawn.gen_take (i := 13) rfl (by kernel_rfl) (by kernel_rfl) (by kernel_rfl) (by kernel_rfl) (by omega) (by assumption) (by first | exact .inr ⟨by rfl, rfl⟩ | exact .inl ⟨by rfl, by intro w2 hS; go_simp; first | done | with_reducible rfl | exact ⟨rfl, rfl⟩⟩) ?_; (try simp only [Act.put, List.setIfInBounds_toArray, List.set_cons_zero, List.set_cons_succ]))
    (refine Drawn.gen_take (i := 14) rfl (by kernel_rfl) (by kernel_rfl) (by kernel_rfl) (by kernel_rfl) (by omega) (by assumption) (by first | exact .inr ⟨by rfl, rfl⟩ | exact .inl ⟨by rfl, by intro w2 hS; go_simp; first | done | with_reducible rfl | exact ⟨rfl, rfl⟩⟩) ?_; (try simp only [Act.put, List.setIfInBounds_toArray, List.set_cons_zero, List.set_cons_succ]))
    refine Drawn.gen_end (by kernel_rfl) ?_
    go_wp2
    go_ret
    exact ⟨rfl, by rw [HBOX.out]; exact HBW.out.trans (hS4.mono (Nat.le_of_lt lb3))⟩

end Go.Proofs.Ytpfkencgjodehaa.Fix
