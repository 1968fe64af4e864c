/- The statements of record: the document's example. -/
import Derived.Test.YtpfkencgjodehaaRecFrame
import Derived.Test.YtpfkencgjodehaaRecGet
import Derived.Test.YtpfkencgjodehaaRecRefG
namespace Go.Proofs.Ytpfkencgjodehaa.Fix
open Go.ChangeShapes Go.WideShapes Go.ChangeAt Go.RowKit
set_option linter.unusedVariables false

def exS : Re.St := ⟨fun i => if i = 0 then 1 else if i = 3 then 1 else if i = 4 then 640 else if i = 53 then 3 else if i = 54 then 4 else 0, fun i => i == 52⟩
def badS : Re.St := ⟨fun i => if i = 0 then 9 else 0, fun _ => false⟩
def gapS : Re.St := ⟨fun i => if i = 46 then -1 else 0, fun _ => false⟩

theorem bad_any (w : World) : Calls Try.prog 10 #[.agg #[.int .i64 9, .int .i64 0, .int .i64 0, .int .i64 0, .int .i64 0, .int .i64 0, .int .i64 0, .int .i64 0, .int .i64 0, .int .i64 0, .int .i64 0, .int .i64 0, .int .i64 0, .int .i64 0, .int .i64 0, .int .i64 0, .int .i64 0, .int .i64 0, .int .i64 0, .int .i64 0, .int .i64 0, .int .i64 0, .int .i64 0, .int .i64 0, .int .i64 0, .int .i64 0, .int .i64 0, .int .i64 0, .int .i64 0, .int .i64 0, .int .i64 0, .int .i64 0, .int .i64 0, .int .i64 0, .int .i64 0, .int .i64 0, .int .i64 0, .int .i64 0, .int .i64 0, .int .i64 0, .int .i64 0, .int .i64 0, .int .i64 0, .int .i64 0, .int .i64 0, .bool false, .int .i64 0, .bool false, .int .i64 0, .int .i64 0, .int .i64 0, .bool false, .bool false, .int .i64 0, .int .i64 0]] w fun e w' => e = .returned (.bool false) ∧ Below w.heap.size w w' := recvalid_any badS w
theorem gap_any (w : World) : Calls Try.prog 10 #[.agg #[.int .i64 0, .int .i64 0, .int .i64 0, .int .i64 0, .int .i64 0, .int .i64 0, .int .i64 0, .int .i64 0, .int .i64 0, .int .i64 0, .int .i64 0, .int .i64 0, .int .i64 0, .int .i64 0, .int .i64 0, .int .i64 0, .int .i64 0, .int .i64 0, .int .i64 0, .int .i64 0, .int .i64 0, .int .i64 0, .int .i64 0, .int .i64 0, .int .i64 0, .int .i64 0, .int .i64 0, .int .i64 0, .int .i64 0, .int .i64 0, .int .i64 0, .int .i64 0, .int .i64 0, .int .i64 0, .int .i64 0, .int .i64 0, .int .i64 0, .int .i64 0, .int .i64 0, .int .i64 0, .int .i64 0, .int .i64 0, .int .i64 0, .int .i64 0, .int .i64 0, .bool false, .int .i64 (-1), .bool false, .int .i64 0, .int .i64 0, .int .i64 0, .bool false, .bool false, .int .i64 0, .int .i64 0]] w fun e w' => e = .returned (.bool false) ∧ Below w.heap.size w w' := recvalid_any gapS w

theorem fits_put {l : List Int} (h : ∀ i, i < 55 → (Lit.int .i64 (l.getD i 0)).wf = true) : Fits (Re.getS l) := fun i hi _ => h i hi
theorem fits_zero : Fits Re.zero := fun _ _ _ => rfl
theorem fits_num {s : Re.St} (h : Fits s) : Fits (Re.getS (Re.putL s)) := fun i hi hb => by
  show (Lit.int .i64 ((Re.putL s).getD i 0)).wf = true
  rw [Re.putL_get s hi, Re.num_c hb]
  exact h i hi hb
theorem fits_got {l : List Int} (h : ∀ n ∈ l, (Lit.int .i64 n).wf = true) : Fits (Re.got l).1 := by
  rcases Re.got_cases l with ⟨e, _⟩ | ⟨e, _⟩ | ⟨e, hl, _⟩
  · rw [e]; exact fits_zero
  · rw [e]; exact fits_zero
  · rw [e]
    refine fits_put fun i hi => h _ ?_
    rw [List.getD_eq_getElem?_getD, List.getElem?_eq_getElem (by omega)]
    exact List.getElem_mem _
theorem exFits : Fits exS := by unfold Fits; decide
theorem guard_style (x y : Operand) (s t : Re.St) (w : World) : (eqGuard .eql 36 x y (.agg (cells s)) (.agg (cells t))).run Try.prog w = .ok () w := run_eqGuard_agg (w := w) (P := Try.prog) _ _ _ _ _ _ (by kernel_rfl)

section
variable {ops : Array Oper} {rest : List Oper} {o : Oper} {a : Act} {w : World} {Q : Exit → Act → World → Prop}
theorem wpList_eql_style (hw : Region.wanted o (yielded ops a.tmps) = true) (x y : Operand) (ho : o.op = .binOp .eql 36 x y 36) {s t : Re.St} (hx : a.eval x = .agg (cells s)) (hy : a.eval y = .agg (cells t)) (hs : Fits s) (ht : Fits t)
    (h : wpList Try.prog ops Q rest (a.put o.dst (.bool (Re.sameB s t))) w) : wpList Try.prog ops Q (o :: rest) a w :=
  wpList_value hw (by unfold execOp; simp only [ho, hx, hy, Sem.run_bind, guard_style, run_eql_style s t hs ht, Result.andThen_ok, Sem.run_pure]) h
end

set_option maxRecDepth 100000 in
set_option maxHeartbeats 4000000 in
theorem recworks_any (w : World) : Calls Try.prog 8 #[] w fun e w' => e = .returned (.bool true) ∧ Below w.heap.size w w' := by
  go_enter Try.func8, Try.ntmps8
  go_upto_region 2 with (first | (refine wpList_alloc_style (by rfl) rfl ?_) | (refine wpList_store_style (by rfl) (.tmp 1) (.tmp 7) rfl rfl (t := exS) (by rfl) (At.new _ _) ?_))
  have A1 := (At.new w (.cells (cells Re.zero) 36)).setRow (cells exS)
  have hB : Below w.heap.size w ((w.alloc (.cells (cells Re.zero) 36)).setRow w.heap.size (cells exS)) := Below.setRow' (Below.alloc' (Below.refl _ _) _) (Nat.le_refl _) _
  generalize (w.alloc (.cells (cells Re.zero) 36)).setRow w.heap.size (cells exS) = w1 at *
  generalize hbx : w.heap.size = g1 at *
  have lb1 := A1.lt
  have HBX := Lib.hid hbx
  clear hbx
  go_upto_region 3 with (first | (refine wpList_alloc_style (by rfl) rfl ?_) | (refine wpList_build_zero (by rfl) rfl ?_) | (refine wpList_load_style (by rfl) _ rfl rfl (by first | assumption | (with_reducible exact At.new _ _)) ?_) | (refine wpList_store_same (by rfl) _ _ rfl rfl rfl (by first | assumption | (with_reducible exact At.new _ _)) ?_) | (refine wpList_store_style (by rfl) _ _ rfl rfl rfl (by first | assumption | (with_reducible exact At.new _ _)) ?_) | (go_at_call 12; (with_reducible refine (recput_any exS _).mono ?_); rintro e w2 ⟨⟨p, rfl, hI⟩, hb⟩; replace hB := hB.trans (hb.mono (Nat.le_of_lt lb1)); replace A1 := A1.keep hb; have lb1 := A1.lt; clear hb))
  have hg : Re.got (Re.putL exS) = (Re.getS (Re.putL exS), 0) := by rw [Re.got_put]; rfl
  have key := fun W => recget_any (some ⟨p, 0, none⟩) (Re.putL exS) 55 55 rfl W
  rw [hg] at key
  go_upto_region 4 with (first | (refine wpList_alloc_style (by rfl) rfl ?_) | (refine wpList_store_style (by rfl) (.tmp 3) (.tmp 13) rfl rfl (t := Re.getS (Re.putL exS)) rfl (At.new _ _) ?_) | (go_at_call 14; (with_reducible refine (key _ hI).mono ?_); rintro e w3 ⟨rfl, hb⟩; replace hB := hB.trans (hb.mono (Nat.le_trans (Nat.le_of_lt (Nat.lt_of_le_of_lt (Nat.le_refl _) lb1)) (Nat.le_refl _))); replace A1 := A1.keep hb; replace hI := hI.after hb; clear hb))
  have A3 := (At.new w3 (.cells (cells Re.zero) 36)).setRow (cells (Re.getS (Re.putL exS)))
  have hb3 : Below w3.heap.size w3 ((w3.alloc (.cells (cells Re.zero) 36)).setRow w3.heap.size (cells (Re.getS (Re.putL exS)))) := Below.setRow' (Below.alloc' (Below.refl _ _) _) (Nat.le_refl _) _
  replace hI := hI.after hb3
  have hB3 := hB.trans (hb3.mono (Nat.le_of_lt A1.lt))
  replace A1 := A1.keep hb3
  generalize (w3.alloc (.cells (cells Re.zero) 36)).setRow w3.heap.size (cells (Re.getS (Re.putL exS))) = w4 at *
  generalize hg3 : w3.heap.size = g3 at *
  clear hB hb3 key hg hg3
  obtain ⟨b', off', e', hc⟩ := hI.2 (by rw [Re.putL_length]; decide)
  injection e' with e'
  injection e' with e1 e2
  subst e1 e2
  have c0 : w4.cell? ⟨p, 0, none⟩ = some (.int .i64 1) := hc 0 (by rw [Re.putL_length]; decide)
  have c4 : w4.cell? ⟨p, 0 + 4, none⟩ = some (.int .i64 640) := hc 4 (by rw [Re.putL_length]; decide)
  have c54 : w4.cell? ⟨p, 0 + 54, none⟩ = some (.int .i64 4) := hc 54 (by rw [Re.putL_length]; decide)
  rw [Nat.zero_add] at c4 c54
  have lp := World.block_lt_of_cell? _ _ c0
  have hsame : Re.sameB (Re.getS (Re.putL exS)) exS = true := Re.sameB_iff.2 (Re.get_put exS)
  have hv : Re.valid exS = true := by decide +kernel
  clear hc hI
  go_wp2_with (first | (refine wpList_alloc_style (by rfl) rfl ?_) | (refine wpList_build_zero (by rfl) rfl ?_) | (refine wpList_load_style (by rfl) _ rfl rfl (by first | assumption | (with_reducible exact At.new _ _)) ?_) | (refine wpList_store_same (by rfl) _ _ rfl rfl rfl (by first | assumption | (with_reducible exact At.new _ _)) ?_) | (refine wpList_store_style (by rfl) _ _ rfl rfl rfl (by first | assumption | (with_reducible exact At.new _ _)) ?_) | (refine wpList_eql_style (by rfl) (.tmp 39) (.tmp 40) rfl rfl rfl (fits_num exFits) exFits ?_; rw [hsame]) | (go_at_call 10; (with_reducible refine (recvalid_any exS _).mono ?_); rintro e w5 ⟨rfl, hb⟩; rw [hv]; replace hB3 := hB3.trans (hb.mono (Nat.le_of_lt A1.lt)); replace A1 := A1.keep hb; clear hb) | (go_at_call 10; (with_reducible refine (bad_any _).mono ?_); rintro e w5 ⟨rfl, hb⟩; replace hB3 := hB3.trans (hb.mono (Nat.le_of_lt A1.lt)); replace A1 := A1.keep hb; clear hb))
  go_ret
  exact ⟨rfl, by rw [HBX.out]; exact hB3⟩

end Go.Proofs.Ytpfkencgjodehaa.Fix
