/- The statement RecordBack, walked. -/
import Derived.Test.YtpfkencgjodehaaRecPuts
namespace Go.Proofs.Ytpfkencgjodehaa.Fix
open Go.ChangeShapes Go.WideShapes Go.ChangeAt Go.RowKit
set_option linter.unusedVariables false

set_option maxRecDepth 100000 in
set_option maxHeartbeats 4000000 in
theorem rback_far (s t : Re.St) (A : Option Addr) (n c : Nat) (w : World) (hm : n ≤ 9223372036854775807) (h : 1000 < n) : Calls Try.prog 5 #[.agg (cells s), .agg (cells t), .slice A n c] w fun e w' => e = .returned (.bool true) ∧ Below w.heap.size w w' := by
  have hz : (1000 : Int) < n := by omega
  go_enter Try.func5, Try.ntmps5
  go_upto_region 1 with (fail)
  have hB : Below w.heap.size w ((w.alloc (.cells (cells s) 36)).alloc (.cells (cells t) 36)) := Below.alloc' (Below.alloc' (Below.refl _ _) _) _
  generalize (w.alloc (.cells (cells s) 36)).alloc (.cells (cells t) 36) = wc at *
  go_wp2_with (go_at_call 8; (with_reducible refine (recworks_any _).mono ?_); rintro e w2 ⟨rfl, hb⟩; replace hB := hB.trans (hb.mono hB.size))
  go_ret
  exact ⟨rfl, hB⟩

theorem Below.alloc'' {n : Nat} {X Y : World} (h : Below n X Y) (hn : n ≤ Y.heap.size) (o : Obj) : Below n X (Y.alloc o) := h.trans ((Below.alloc' (Below.refl Y.heap.size Y) o).mono hn)

theorem sameB_put (s t : Re.St) : Re.sameB s t = decide (Re.putL s = Re.putL t) := by
  have h : Re.sameB s t = true ↔ Re.putL s = Re.putL t := by rw [Re.sameB_iff, Re.putL_same]
  cases e : Re.sameB s t
  · rw [eq_comm, decide_eq_false_iff_not]; intro q; rw [h.2 q] at e; cases e
  · rw [eq_comm, decide_eq_true_iff]; exact h.1 e

set_option maxRecDepth 100000 in
set_option maxHeartbeats 8000000 in
theorem rback_err (s t : Re.St) (hs : Fits s) (ht : Fits t) (A : Option Addr) (l : List Int) (n c : Nat) (w : World) (hI : Ints w A l) (hl : l.length = n) (h : n ≤ 1000) (er : Int) (hg : Re.got l = (Re.zero, er)) (he : er ≠ 0) : Calls Try.prog 5 #[.agg (cells s), .agg (cells t), .slice A n c] w fun e w' => e = .returned (.bool true) ∧ Below w.heap.size w w' := by
  have hz : ¬ (1000 : Int) < n := by omega
  have keyl := fun W => recget_any A l n c hl W
  rw [hg] at keyl
  have e1 : (er == 0) = false := by simpa using he
  have e2 : (er != 0) = true := by simpa using he
  have e3 : decide (er = 0) = false := by simpa using he
  clear hg
  obtain ⟨r, hr⟩ : ∃ r, Re.sameB s t = r := ⟨_, rfl⟩
  have HR := Lib.hid hr
  clear hr
  go_enter Try.func5, Try.ntmps5
  go_upto_region 1 with (fail)
  have A1 : At ((w.alloc (.cells (cells s) 36)).alloc (.cells (cells t) 36)) w.heap.size (.cells (cells s) 36) := (At.new _ _).alloc _
  have A2 : At ((w.alloc (.cells (cells s) 36)).alloc (.cells (cells t) 36)) (w.heap.size + 1) (.cells (cells t) 36) := At.new' _ (by simp)
  have hB : Below w.heap.size w ((w.alloc (.cells (cells s) 36)).alloc (.cells (cells t) 36)) := Below.alloc' (Below.alloc' (Below.refl _ _) _) _
  replace hI := hI.after hB
  generalize (w.alloc (.cells (cells s) 36)).alloc (.cells (cells t) 36) = wc at *
  generalize hbl : w.heap.size + 1 = bl at *
  generalize hbox : w.heap.size = bx at *
  have HBOX := Lib.hid hbox
  clear hbox hbl
  go_upto_region 7 with (first | (refine wpList_alloc_style (by rfl) rfl ?_) | (refine wpList_build_zero (by rfl) rfl ?_) | (refine wpList_load_style (by rfl) _ rfl rfl (by first | assumption | (with_reducible exact At.new _ _)) ?_) | (refine wpList_store_same (by rfl) _ _ rfl rfl rfl (by first | assumption | (with_reducible exact At.new _ _)) ?_) | (refine wpList_store_style (by rfl) _ _ rfl rfl rfl (by first | assumption | (with_reducible exact At.new _ _)) ?_) | (go_at_call 8; (with_reducible refine (recworks_any _).mono ?_); rintro e w2 ⟨rfl, hb⟩; replace hB := hB.trans (hb.mono (Nat.le_of_lt A1.lt)); replace A1 := A1.keep hb; replace A2 := A2.keep hb; replace hI := hI.after hb; clear hb) | (go_at_call 12; (with_reducible refine (recput_any s _).mono ?_); rintro e w3 ⟨⟨p1, rfl, hI1⟩, hb⟩; replace hB := hB.trans (hb.mono (Nat.le_of_lt A1.lt)); replace A1 := A1.keep hb; replace A2 := A2.keep hb; replace hI := hI.after hb; clear hb))
  go_upto_region 8 with (first | (refine wpList_alloc_style (by rfl) rfl ?_) | (refine wpList_build_zero (by rfl) rfl ?_) | (refine wpList_load_style (by rfl) _ rfl rfl (by first | assumption | (with_reducible exact At.new _ _)) ?_) | (refine wpList_store_same (by rfl) _ _ rfl rfl rfl (by first | assumption | (with_reducible exact At.new _ _)) ?_) | (refine wpList_store_style (by rfl) _ _ rfl rfl rfl (by first | assumption | (with_reducible exact At.new _ _)) ?_) | (go_at_call 12; (with_reducible refine (recput_any t _).mono ?_); rintro e w4 ⟨⟨p2, rfl, hI2⟩, hb⟩; replace hB := hB.trans (hb.mono (Nat.le_of_lt A1.lt)); replace A1 := A1.keep hb; replace A2 := A2.keep hb; replace hI := hI.after hb; replace hI1 := hI1.after hb; clear hb))
  cases hv : Re.valid s
  · have hgs : Re.got (Re.putL s) = (Re.zero, 11) := by rw [Re.got_put, hv]; rfl
    have keyg := fun W => recget_any (some ⟨p1, 0, none⟩) (Re.putL s) 55 55 (Re.putL_length s) W
    rw [hgs] at keyg
    have hfx : Fits (Re.zero) := fits_zero
    have hsx : (!Re.sameB (Re.zero) s) = !Re.sameB Re.zero s := rfl
    generalize hxs : (Re.zero : Re.St) = xs at keyg hfx hsx
    clear hgs hxs
    go_upto_region 9 with (first | (refine wpList_alloc_style (by rfl) rfl ?_) | (refine wpList_store_style (by rfl) (.tmp 10) (.tmp 28) rfl rfl (t := xs) rfl (At.new _ _) ?_) | (go_at_call 14; (with_reducible refine (keyg _ hI1).mono ?_); rintro e w5 ⟨rfl, hb⟩; replace hB := hB.trans (hb.mono (Nat.le_of_lt A1.lt)); replace A1 := A1.keep hb; replace A2 := A2.keep hb; replace hI := hI.after hb; replace hI1 := hI1.after hb; replace hI2 := hI2.after hb; clear hb))
    have A3 := (At.new w5 (.cells (cells Re.zero) 36)).setRow (cells xs)
    have hb : Below w5.heap.size w5 ((w5.alloc (.cells (cells Re.zero) 36)).setRow w5.heap.size (cells xs)) := Below.setRow' (Below.alloc' (Below.refl _ _) _) (Nat.le_refl _) _
    replace hB := hB.trans (hb.mono (Nat.le_of_lt A1.lt))
    replace A1 := A1.keep hb
    replace A2 := A2.keep hb
    replace hI := hI.after hb
    replace hI1 := hI1.after hb
    replace hI2 := hI2.after hb
    generalize (w5.alloc (.cells (cells Re.zero) 36)).setRow w5.heap.size (cells xs) = w6 at *
    generalize hg : w5.heap.size = g at *
    clear hb hg keyg
    have HA1 := Lib.hid (fun (W : World) (h : Below w6.heap.size w6 W) => A1.keep h)
    have HA2 := Lib.hid (fun (W : World) (h : Below w6.heap.size w6 W) => A2.keep h)
    have HA3 := Lib.hid (fun (W : World) (h : Below w6.heap.size w6 W) => A3.keep h)
    have HI := Lib.hid (fun (W : World) (h : Below w6.heap.size w6 W) => hI.after h)
    have HI1 := Lib.hid (fun (W : World) (h : Below w6.heap.size w6 W) => hI1.after h)
    have HI2 := Lib.hid (fun (W : World) (h : Below w6.heap.size w6 W) => hI2.after h)
    have HB6 := Lib.hid hB
    have lb6 := Lib.hid (Nat.le_of_lt A1.lt)
    clear A1 A2 A3 hI hI1 hI2 hB
    have key := Lib.hid (fun W => recvalid_any s W)
    rw [hv] at key
    clear hv
    refine Drawn.wp_region_gen (S := (fun W' => Below w6.heap.size w6 W')) 23 (by kernel_rfl) ?_ ?_
    · exact Below.drew (Below.refl _ _)
    intro hS0
    (refine Drawn.gen_take (i := 0) rfl (by kernel_rfl) (by kernel_rfl) (by kernel_rfl) (by kernel_rfl) (by omega) (by assumption) (reads_load (by rfl) (.tmp 3) rfl rfl (fun W h => HA1.out W h)) ?_; (try simp only [Act.put, List.setIfInBounds_toArray, List.set_cons_zero, List.set_cons_succ]))
    (refine Drawn.gen_take (i := 2) rfl (by kernel_rfl) (by kernel_rfl) (by kernel_rfl) (by kernel_rfl) (by omega) (by assumption) (by first | exact .inr ⟨by rfl, rfl⟩ | exact .inl ⟨by rfl, by intro w2 hS; go_simp; first | done | with_reducible rfl | exact ⟨rfl, rfl⟩⟩) ?_; (try simp only [Act.put, List.setIfInBounds_toArray, List.set_cons_zero, List.set_cons_succ]))
    (refine Drawn.gen_take (i := 3) rfl (by kernel_rfl) (by kernel_rfl) (by kernel_rfl) (by kernel_rfl) (by omega) (by assumption) (by first | exact .inr ⟨by rfl, rfl⟩ | exact .inl ⟨by rfl, by intro w2 hS; go_simp; first | done | with_reducible rfl | exact ⟨rfl, rfl⟩⟩) ?_; (try simp only [Act.put, List.setIfInBounds_toArray, List.set_cons_zero, List.set_cons_succ]))
    refine Drawn.gen_one (i := 1) (by kernel_rfl) rfl (by rfl) ?_
    refine Drawn.Step.call (by go_simp; first | done | with_reducible rfl | exact ⟨rfl, rfl⟩) (key.out _) ?_
    rintro e w7 ⟨rfl, hb⟩
    have hS1 := hS0.trans (hb.mono hS0.size)
    clear hS0 hb
    refine ⟨_, rfl, fun _ => hS1, ?_⟩
    (try simp only [Act.put, List.setIfInBounds_toArray, List.set_cons_zero, List.set_cons_succ])
    (refine Drawn.gen_take (i := 4) rfl (by kernel_rfl) (by kernel_rfl) (by kernel_rfl) (by kernel_rfl) (by omega) (by assumption) (by first | exact .inr ⟨by rfl, rfl⟩ | exact .inl ⟨by rfl, by intro w2 hS; go_simp; first | done | with_reducible rfl | exact ⟨rfl, rfl⟩⟩) ?_; (try simp only [Act.put, List.setIfInBounds_toArray, List.set_cons_zero, List.set_cons_succ]))
    (refine Drawn.gen_take (i := 5) rfl (by kernel_rfl) (by kernel_rfl) (by kernel_rfl) (by kernel_rfl) (by omega) (by assumption) (by first | exact .inr ⟨by rfl, rfl⟩ | exact .inl ⟨by rfl, by intro w2 hS; go_simp; first | done | with_reducible rfl | exact ⟨rfl, rfl⟩⟩) ?_; (try simp only [Act.put, List.setIfInBounds_toArray, List.set_cons_zero, List.set_cons_succ]))
    (refine Drawn.gen_take (i := 6) rfl (by kernel_rfl) (by kernel_rfl) (by kernel_rfl) (by kernel_rfl) (by omega) (by assumption) (by first | exact .inr ⟨by rfl, rfl⟩ | exact .inl ⟨by rfl, by intro w2 hS; go_simp; first | done | with_reducible rfl | exact ⟨rfl, rfl⟩⟩) ?_; (try simp only [Act.put, List.setIfInBounds_toArray, List.set_cons_zero, List.set_cons_succ]))
    (refine Drawn.gen_take (i := 7) rfl (by kernel_rfl) (by kernel_rfl) (by kernel_rfl) (by kernel_rfl) (by omega) (by assumption) (by first | exact .inr ⟨by rfl, rfl⟩ | exact .inl ⟨by rfl, by intro w2 hS; go_simp; first | done | with_reducible rfl | exact ⟨rfl, rfl⟩⟩) ?_; (try simp only [Act.put, List.setIfInBounds_toArray, List.set_cons_zero, List.set_cons_succ]))
    (refine Drawn.gen_take (i := 8) rfl (by kernel_rfl) (by kernel_rfl) (by kernel_rfl) (by kernel_rfl) (by omega) (by assumption) (by first | exact .inr ⟨by rfl, rfl⟩ | exact .inl ⟨by rfl, by intro w2 hS; go_simp; first | done | with_reducible rfl | exact ⟨rfl, rfl⟩⟩) ?_; (try simp only [Act.put, List.setIfInBounds_toArray, List.set_cons_zero, List.set_cons_succ]))
    (refine Drawn.gen_take (i := 9) rfl (by kernel_rfl) (by kernel_rfl) (by kernel_rfl) (by kernel_rfl) (by omega) (by assumption) (by first | exact .inr ⟨by rfl, rfl⟩ | exact .inl ⟨by rfl, by intro w2 hS; go_simp; first | done | with_reducible rfl | exact ⟨rfl, rfl⟩⟩) ?_; (try simp only [Act.put, List.setIfInBounds_toArray, List.set_cons_zero, List.set_cons_succ]))
    (refine Drawn.gen_take (i := 10) rfl (by kernel_rfl) (by kernel_rfl) (by kernel_rfl) (by kernel_rfl) (by omega) (by assumption) (by first | exact .inr ⟨by rfl, rfl⟩ | exact .inl ⟨by rfl, by intro w2 hS; go_simp; first | done | with_reducible rfl | exact ⟨rfl, rfl⟩⟩) ?_; (try simp only [Act.put, List.setIfInBounds_toArray, List.set_cons_zero, List.set_cons_succ]))
    (refine Drawn.gen_take (i := 11) rfl (by kernel_rfl) (by kernel_rfl) (by kernel_rfl) (by kernel_rfl) (by omega) (by assumption) (by first | exact .inr ⟨by rfl, rfl⟩ | exact .inl ⟨by rfl, by intro w2 hS; go_simp; first | done | with_reducible rfl | exact ⟨rfl, rfl⟩⟩) ?_; (try simp only [Act.put, List.setIfInBounds_toArray, List.set_cons_zero, List.set_cons_succ]))
    (refine Drawn.gen_take (i := 12) rfl (by kernel_rfl) (by kernel_rfl) (by kernel_rfl) (by kernel_rfl) (by omega) (by assumption) (by first | exact .inr ⟨by rfl, rfl⟩ | exact .inl ⟨by rfl, by intro w2 hS; go_simp; first | done | with_reducible rfl | exact ⟨rfl, rfl⟩⟩) ?_; (try simp only [Act.put, List.setIfInBounds_toArray, List.set_cons_zero, List.set_cons_succ]))
    (refine Drawn.gen_take (i := 13) rfl (by kernel_rfl) (by kernel_rfl) (by kernel_rfl) (by kernel_rfl) (by omega) (by assumption) (by first | exact .inr ⟨by rfl, rfl⟩ | exact .inl ⟨by rfl, by intro w2 hS; go_simp; first | done | with_reducible rfl | exact ⟨rfl, rfl⟩⟩) ?_; (try simp only [Act.put, List.setIfInBounds_toArray, List.set_cons_zero, List.set_cons_succ]))
    (refine Drawn.gen_take (i := 14) rfl (by kernel_rfl) (by kernel_rfl) (by kernel_rfl) (by kernel_rfl) (by omega) (by assumption) (by first | exact .inr ⟨by rfl, rfl⟩ | exact .inl ⟨by rfl, by intro w2 hS; go_simp; first | done | with_reducible rfl | exact ⟨rfl, rfl⟩⟩) ?_; (try simp only [Act.put, List.setIfInBounds_toArray, List.set_cons_zero, List.set_cons_succ]))
    (refine Drawn.gen_take (i := 15) rfl (by kernel_rfl) (by kernel_rfl) (by kernel_rfl) (by kernel_rfl) (by omega) (by assumption) (by first | exact .inr ⟨by rfl, rfl⟩ | exact .inl ⟨by rfl, by intro w2 hS; go_simp; first | done | with_reducible rfl | exact ⟨rfl, rfl⟩⟩) ?_; (try simp only [Act.put, List.setIfInBounds_toArray, List.set_cons_zero, List.set_cons_succ]))
    (refine Drawn.gen_take (i := 16) rfl (by kernel_rfl) (by kernel_rfl) (by kernel_rfl) (by kernel_rfl) (by omega) (by assumption) (by first | exact .inr ⟨by rfl, rfl⟩ | exact .inl ⟨by rfl, by intro w2 hS; go_simp; first | done | with_reducible rfl | exact ⟨rfl, rfl⟩⟩) ?_; (try simp only [Act.put, List.setIfInBounds_toArray, List.set_cons_zero, List.set_cons_succ]))
    (refine Drawn.gen_take (i := 18) rfl (by kernel_rfl) (by kernel_rfl) (by kernel_rfl) (by kernel_rfl) (by omega) (by assumption) (reads_load (by rfl) (.tmp 3) rfl rfl (fun W h => HA1.out W h)) ?_; (try simp only [Act.put, List.setIfInBounds_toArray, List.set_cons_zero, List.set_cons_succ]))
    (refine Drawn.gen_take (i := 19) rfl (by kernel_rfl) (by kernel_rfl) (by kernel_rfl) (by kernel_rfl) (by omega) (by assumption) (reads_load (by rfl) (.tmp 4) rfl rfl (fun W h => HA2.out W h)) ?_; (try simp only [Act.put, List.setIfInBounds_toArray, List.set_cons_zero, List.set_cons_succ]))
    (refine Drawn.gen_take (i := 20) rfl (by kernel_rfl) (by kernel_rfl) (by kernel_rfl) (by kernel_rfl) (by omega) (by assumption) (reads_eql (by rfl) (.tmp 48) (.tmp 49) rfl rfl rfl hs ht HR.out) ?_; (try simp only [Act.put, List.setIfInBounds_toArray, List.set_cons_zero, List.set_cons_succ]))
    refine Drawn.gen_one (i := 17) (by kernel_rfl) rfl (by rfl) ?_
    refine Drawn.Step.call (by go_simp; first | done | with_reducible rfl | exact ⟨rfl, rfl⟩) (rowgen_any _ _ _ _ 55 55 55 r _ (HI1.out _ hS1) (HI2.out _ hS1) (Re.putL_length s) (Re.putL_length t) (by decide) (by rw [← HR.out, sameB_put])) ?_
    rintro e w8 ⟨rfl, hb⟩
    have hS2 := hS1.trans (hb.mono hS1.size)
    clear hS1 hb
    refine ⟨_, rfl, fun _ => hS2, ?_⟩
    (try simp only [Act.put, List.setIfInBounds_toArray, List.set_cons_zero, List.set_cons_succ])
    (refine Drawn.gen_take (i := 21) rfl (by kernel_rfl) (by kernel_rfl) (by kernel_rfl) (by kernel_rfl) (by omega) (by assumption) (by first | exact .inr ⟨by rfl, rfl⟩ | exact .inl ⟨by rfl, by intro w2 hS; go_simp; first | done | with_reducible rfl | exact ⟨rfl, rfl⟩⟩) ?_; (try simp only [Act.put, List.setIfInBounds_toArray, List.set_cons_zero, List.set_cons_succ]))
    (refine Drawn.gen_take (i := 22) rfl (by kernel_rfl) (by kernel_rfl) (by kernel_rfl) (by kernel_rfl) (by omega) (by assumption) (by first | exact .inr ⟨by rfl, rfl⟩ | exact .inl ⟨by rfl, by intro w2 hS; go_simp; first | done | with_reducible rfl | exact ⟨rfl, rfl⟩⟩) ?_; (try simp only [Act.put, List.setIfInBounds_toArray, List.set_cons_zero, List.set_cons_succ]))
    refine Drawn.gen_end (by kernel_rfl) ?_
    have hI := HI.out _ hS2
    have hB := HB6.out.trans (hS2.mono lb6.out)
    have lbx : bx ≤ w8.heap.size := Nat.le_trans lb6.out hS2.size
    clear HA1 HA2 HA3 HI HI1 HI2 HB6 lb6 hS2 key HR hsx hfx
    go_wp2_with (first | (refine wpList_alloc_style (by rfl) rfl ?_) | (go_at_call 14; (with_reducible refine (keyl _ hI).mono ?_); rintro e w9 ⟨rfl, hb⟩; replace hB := hB.trans (hb.mono lbx); replace lbx := Nat.le_trans lbx hb.size; replace hI := hI.after hb; clear hb) | (refine wpList_store_same (by rfl) (.tmp 12) (.tmp 56) rfl rfl rfl (At.new _ _) ?_; have A9 := At.new w9 (.cells (cells Re.zero) 36)) | (refine wpList_load_style (by rfl) _ rfl rfl A9 ?_) | (refine wpList_build_zero (by rfl) rfl ?_) | (refine wpList_eql_style (by rfl) (.tmp 63) (.tmp 64) rfl rfl rfl fits_zero fits_zero ?_; rw [same_refl]))
    go_ret
    exact ⟨rfl, by rw [HBOX.out]; exact Below.alloc'' hB lbx _⟩
  · have hgs : Re.got (Re.putL s) = (Re.getS (Re.putL s), 0) := by rw [Re.got_put, hv]; rfl
    have keyg := fun W => recget_any (some ⟨p1, 0, none⟩) (Re.putL s) 55 55 (Re.putL_length s) W
    rw [hgs] at keyg
    have hfx : Fits (Re.getS (Re.putL s)) := fits_num hs
    have hsx : (!Re.sameB (Re.getS (Re.putL s)) s) = false := by rw [Re.sameB_iff.2 (Re.get_put s)]; rfl
    generalize hxs : (Re.getS (Re.putL s) : Re.St) = xs at keyg hfx hsx
    clear hgs hxs
    go_upto_region 9 with (first | (refine wpList_alloc_style (by rfl) rfl ?_) | (refine wpList_store_style (by rfl) (.tmp 10) (.tmp 28) rfl rfl (t := xs) rfl (At.new _ _) ?_) | (go_at_call 14; (with_reducible refine (keyg _ hI1).mono ?_); rintro e w5 ⟨rfl, hb⟩; replace hB := hB.trans (hb.mono (Nat.le_of_lt A1.lt)); replace A1 := A1.keep hb; replace A2 := A2.keep hb; replace hI := hI.after hb; replace hI1 := hI1.after hb; replace hI2 := hI2.after hb; clear hb))
    have A3 := (At.new w5 (.cells (cells Re.zero) 36)).setRow (cells xs)
    have hb : Below w5.heap.size w5 ((w5.alloc (.cells (cells Re.zero) 36)).setRow w5.heap.size (cells xs)) := Below.setRow' (Below.alloc' (Below.refl _ _) _) (Nat.le_refl _) _
    replace hB := hB.trans (hb.mono (Nat.le_of_lt A1.lt))
    replace A1 := A1.keep hb
    replace A2 := A2.keep hb
    replace hI := hI.after hb
    replace hI1 := hI1.after hb
    replace hI2 := hI2.after hb
    generalize (w5.alloc (.cells (cells Re.zero) 36)).setRow w5.heap.size (cells xs) = w6 at *
    generalize hg : w5.heap.size = g at *
    clear hb hg keyg
    have HA1 := Lib.hid (fun (W : World) (h : Below w6.heap.size w6 W) => A1.keep h)
    have HA2 := Lib.hid (fun (W : World) (h : Below w6.heap.size w6 W) => A2.keep h)
    have HA3 := Lib.hid (fun (W : World) (h : Below w6.heap.size w6 W) => A3.keep h)
    have HI := Lib.hid (fun (W : World) (h : Below w6.heap.size w6 W) => hI.after h)
    have HI1 := Lib.hid (fun (W : World) (h : Below w6.heap.size w6 W) => hI1.after h)
    have HI2 := Lib.hid (fun (W : World) (h : Below w6.heap.size w6 W) => hI2.after h)
    have HB6 := Lib.hid hB
    have lb6 := Lib.hid (Nat.le_of_lt A1.lt)
    clear A1 A2 A3 hI hI1 hI2 hB
    have key := Lib.hid (fun W => recvalid_any s W)
    rw [hv] at key
    clear hv
    refine Drawn.wp_region_gen (S := (fun W' => Below w6.heap.size w6 W')) 23 (by kernel_rfl) ?_ ?_
    · exact Below.drew (Below.refl _ _)
    intro hS0
    (refine Drawn.gen_take (i := 0) rfl (by kernel_rfl) (by kernel_rfl) (by kernel_rfl) (by kernel_rfl) (by omega) (by assumption) (reads_load (by rfl) (.tmp 3) rfl rfl (fun W h => HA1.out W h)) ?_; (try simp only [Act.put, List.setIfInBounds_toArray, List.set_cons_zero, List.set_cons_succ]))
    (refine Drawn.gen_take (i := 2) rfl (by kernel_rfl) (by kernel_rfl) (by kernel_rfl) (by kernel_rfl) (by omega) (by assumption) (by first | exact .inr ⟨by rfl, rfl⟩ | exact .inl ⟨by rfl, by intro w2 hS; go_simp; first | done | with_reducible rfl | exact ⟨rfl, rfl⟩⟩) ?_; (try simp only [Act.put, List.setIfInBounds_toArray, List.set_cons_zero, List.set_cons_succ]))
    (refine Drawn.gen_take (i := 3) rfl (by kernel_rfl) (by kernel_rfl) (by kernel_rfl) (by kernel_rfl) (by omega) (by assumption) (by first | exact .inr ⟨by rfl, rfl⟩ | exact .inl ⟨by rfl, by intro w2 hS; go_simp; first | done | with_reducible rfl | exact ⟨rfl, rfl⟩⟩) ?_; (try simp only [Act.put, List.setIfInBounds_toArray, List.set_cons_zero, List.set_cons_succ]))
    refine Drawn.gen_one (i := 1) (by kernel_rfl) rfl (by rfl) ?_
    refine Drawn.Step.call (by go_simp; first | done | with_reducible rfl | exact ⟨rfl, rfl⟩) (key.out _) ?_
    rintro e w7 ⟨rfl, hb⟩
    have hS1 := hS0.trans (hb.mono hS0.size)
    clear hS0 hb
    refine ⟨_, rfl, fun _ => hS1, ?_⟩
    (try simp only [Act.put, List.setIfInBounds_toArray, List.set_cons_zero, List.set_cons_succ])
    (refine Drawn.gen_take (i := 4) rfl (by kernel_rfl) (by kernel_rfl) (by kernel_rfl) (by kernel_rfl) (by omega) (by assumption) (by first | exact .inr ⟨by rfl, rfl⟩ | exact .inl ⟨by rfl, by intro w2 hS; go_simp; first | done | with_reducible rfl | exact ⟨rfl, rfl⟩⟩) ?_; (try simp only [Act.put, List.setIfInBounds_toArray, List.set_cons_zero, List.set_cons_succ]))
    (refine Drawn.gen_take (i := 5) rfl (by kernel_rfl) (by kernel_rfl) (by kernel_rfl) (by kernel_rfl) (by omega) (by assumption) (by first | exact .inr ⟨by rfl, rfl⟩ | exact .inl ⟨by rfl, by intro w2 hS; go_simp; first | done | with_reducible rfl | exact ⟨rfl, rfl⟩⟩) ?_; (try simp only [Act.put, List.setIfInBounds_toArray, List.set_cons_zero, List.set_cons_succ]))
    (refine Drawn.gen_take (i := 6) rfl (by kernel_rfl) (by kernel_rfl) (by kernel_rfl) (by kernel_rfl) (by omega) (by assumption) (by first | exact .inr ⟨by rfl, rfl⟩ | exact .inl ⟨by rfl, by intro w2 hS; go_simp; first | done | with_reducible rfl | exact ⟨rfl, rfl⟩⟩) ?_; (try simp only [Act.put, List.setIfInBounds_toArray, List.set_cons_zero, List.set_cons_succ]))
    (refine Drawn.gen_take (i := 7) rfl (by kernel_rfl) (by kernel_rfl) (by kernel_rfl) (by kernel_rfl) (by omega) (by assumption) (by first | exact .inr ⟨by rfl, rfl⟩ | exact .inl ⟨by rfl, by intro w2 hS; go_simp; first | done | with_reducible rfl | exact ⟨rfl, rfl⟩⟩) ?_; (try simp only [Act.put, List.setIfInBounds_toArray, List.set_cons_zero, List.set_cons_succ]))
    (refine Drawn.gen_take (i := 8) rfl (by kernel_rfl) (by kernel_rfl) (by kernel_rfl) (by kernel_rfl) (by omega) (by assumption) (by first | exact .inr ⟨by rfl, rfl⟩ | exact .inl ⟨by rfl, by intro w2 hS; go_simp; first | done | with_reducible rfl | exact ⟨rfl, rfl⟩⟩) ?_; (try simp only [Act.put, List.setIfInBounds_toArray, List.set_cons_zero, List.set_cons_succ]))
    (refine Drawn.gen_take (i := 9) rfl (by kernel_rfl) (by kernel_rfl) (by kernel_rfl) (by kernel_rfl) (by omega) (by assumption) (reads_load (by rfl) (.tmp 10) rfl rfl (fun W h => HA3.out W h)) ?_; (try simp only [Act.put, List.setIfInBounds_toArray, List.set_cons_zero, List.set_cons_succ]))
    (refine Drawn.gen_take (i := 10) rfl (by kernel_rfl) (by kernel_rfl) (by kernel_rfl) (by kernel_rfl) (by omega) (by assumption) (reads_load (by rfl) (.tmp 3) rfl rfl (fun W h => HA1.out W h)) ?_; (try simp only [Act.put, List.setIfInBounds_toArray, List.set_cons_zero, List.set_cons_succ]))
    (refine Drawn.gen_take (i := 11) rfl (by kernel_rfl) (by kernel_rfl) (by kernel_rfl) (by kernel_rfl) (by omega) (by assumption) (reads_neq (by rfl) (.tmp 39) (.tmp 40) rfl rfl rfl hfx hs hsx) ?_; (try simp only [Act.put, List.setIfInBounds_toArray, List.set_cons_zero, List.set_cons_succ]))
    (refine Drawn.gen_take (i := 12) rfl (by kernel_rfl) (by kernel_rfl) (by kernel_rfl) (by kernel_rfl) (by omega) (by assumption) (by first | exact .inr ⟨by rfl, rfl⟩ | exact .inl ⟨by rfl, by intro w2 hS; go_simp; first | done | with_reducible rfl | exact ⟨rfl, rfl⟩⟩) ?_; (try simp only [Act.put, List.setIfInBounds_toArray, List.set_cons_zero, List.set_cons_succ]))
    (refine Drawn.gen_take (i := 13) rfl (by kernel_rfl) (by kernel_rfl) (by kernel_rfl) (by kernel_rfl) (by omega) (by assumption) (by first | exact .inr ⟨by rfl, rfl⟩ | exact .inl ⟨by rfl, by intro w2 hS; go_simp; first | done | with_reducible rfl | exact ⟨rfl, rfl⟩⟩) ?_; (try simp only [Act.put, List.setIfInBounds_toArray, List.set_cons_zero, List.set_cons_succ]))
    (refine Drawn.gen_take (i := 14) rfl (by kernel_rfl) (by kernel_rfl) (by kernel_rfl) (by kernel_rfl) (by omega) (by assumption) (by first | exact .inr ⟨by rfl, rfl⟩ | exact .inl ⟨by rfl, by intro w2 hS; go_simp; first | done | with_reducible rfl | exact ⟨rfl, rfl⟩⟩) ?_; (try simp only [Act.put, List.setIfInBounds_toArray, List.set_cons_zero, List.set_cons_succ]))
    (refine Drawn.gen_take (i := 15) rfl (by kernel_rfl) (by kernel_rfl) (by kernel_rfl) (by kernel_rfl) (by omega) (by assumption) (by first | exact .inr ⟨by rfl, rfl⟩ | exact .inl ⟨by rfl, by intro w2 hS; go_simp; first | done | with_reducible rfl | exact ⟨rfl, rfl⟩⟩) ?_; (try simp only [Act.put, List.setIfInBounds_toArray, List.set_cons_zero, List.set_cons_succ]))
    (refine Drawn.gen_take (i := 16) rfl (by kernel_rfl) (by kernel_rfl) (by kernel_rfl) (by kernel_rfl) (by omega) (by assumption) (by first | exact .inr ⟨by rfl, rfl⟩ | exact .inl ⟨by rfl, by intro w2 hS; go_simp; first | done | with_reducible rfl | exact ⟨rfl, rfl⟩⟩) ?_; (try simp only [Act.put, List.setIfInBounds_toArray, List.set_cons_zero, List.set_cons_succ]))
    (refine Drawn.gen_take (i := 18) rfl (by kernel_rfl) (by kernel_rfl) (by kernel_rfl) (by kernel_rfl) (by omega) (by assumption) (reads_load (by rfl) (.tmp 3) rfl rfl (fun W h => HA1.out W h)) ?_; (try simp only [Act.put, List.setIfInBounds_toArray, List.set_cons_zero, List.set_cons_succ]))
    (refine Drawn.gen_take (i := 19) rfl (by kernel_rfl) (by kernel_rfl) (by kernel_rfl) (by kernel_rfl) (by omega) (by assumption) (reads_load (by rfl) (.tmp 4) rfl rfl (fun W h => HA2.out W h)) ?_; (try simp only [Act.put, List.setIfInBounds_toArray, List.set_cons_zero, List.set_cons_succ]))
    (refine Drawn.gen_take (i := 20) rfl (by kernel_rfl) (by kernel_rfl) (by kernel_rfl) (by kernel_rfl) (by omega) (by assumption) (reads_eql (by rfl) (.tmp 48) (.tmp 49) rfl rfl rfl hs ht HR.out) ?_; (try simp only [Act.put, List.setIfInBounds_toArray, List.set_cons_zero, List.set_cons_succ]))
    refine Drawn.gen_one (i := 17) (by kernel_rfl) rfl (by rfl) ?_
    refine Drawn.Step.call (by go_simp; first | done | with_reducible rfl | exact ⟨rfl, rfl⟩) (rowgen_any _ _ _ _ 55 55 55 r _ (HI1.out _ hS1) (HI2.out _ hS1) (Re.putL_length s) (Re.putL_length t) (by decide) (by rw [← HR.out, sameB_put])) ?_
    rintro e w8 ⟨rfl, hb⟩
    have hS2 := hS1.trans (hb.mono hS1.size)
    clear hS1 hb
    refine ⟨_, rfl, fun _ => hS2, ?_⟩
    (try simp only [Act.put, List.setIfInBounds_toArray, List.set_cons_zero, List.set_cons_succ])
    (refine Drawn.gen_take (i := 21) rfl (by kernel_rfl) (by kernel_rfl) (by kernel_rfl) (by kernel_rfl) (by omega) (by assumption) (by first | exact .inr ⟨by rfl, rfl⟩ | exact .inl ⟨by rfl, by intro w2 hS; go_simp; first | done | with_reducible rfl | exact ⟨rfl, rfl⟩⟩) ?_; (try simp only [Act.put, List.setIfInBounds_toArray, List.set_cons_zero, List.set_cons_succ]))
    (refine Drawn.gen_take (i := 22) rfl (by kernel_rfl) (by kernel_rfl) (by kernel_rfl) (by kernel_rfl) (by omega) (by assumption) (by first | exact .inr ⟨by rfl, rfl⟩ | exact .inl ⟨by rfl, by intro w2 hS; go_simp; first | done | with_reducible rfl | exact ⟨rfl, rfl⟩⟩) ?_; (try simp only [Act.put, List.setIfInBounds_toArray, List.set_cons_zero, List.set_cons_succ]))
    refine Drawn.gen_end (by kernel_rfl) ?_
    have hI := HI.out _ hS2
    have hB := HB6.out.trans (hS2.mono lb6.out)
    have lbx : bx ≤ w8.heap.size := Nat.le_trans lb6.out hS2.size
    clear HA1 HA2 HA3 HI HI1 HI2 HB6 lb6 hS2 key HR hsx hfx
    go_wp2_with (first | (refine wpList_alloc_style (by rfl) rfl ?_) | (go_at_call 14; (with_reducible refine (keyl _ hI).mono ?_); rintro e w9 ⟨rfl, hb⟩; replace hB := hB.trans (hb.mono lbx); replace lbx := Nat.le_trans lbx hb.size; replace hI := hI.after hb; clear hb) | (refine wpList_store_same (by rfl) (.tmp 12) (.tmp 56) rfl rfl rfl (At.new _ _) ?_; have A9 := At.new w9 (.cells (cells Re.zero) 36)) | (refine wpList_load_style (by rfl) _ rfl rfl A9 ?_) | (refine wpList_build_zero (by rfl) rfl ?_) | (refine wpList_eql_style (by rfl) (.tmp 63) (.tmp 64) rfl rfl rfl fits_zero fits_zero ?_; rw [same_refl]))
    go_ret
    exact ⟨rfl, by rw [HBOX.out]; exact Below.alloc'' hB lbx _⟩

set_option maxRecDepth 100000 in
set_option maxHeartbeats 8000000 in
theorem rback_ok (s t : Re.St) (hs : Fits s) (ht : Fits t) (A : Option Addr) (l : List Int) (n c : Nat) (w : World) (hI : Ints w A l) (hl : l.length = n) (h : n ≤ 1000) (y : Re.St) (hg : Re.got l = (y, 0)) (hp : Re.putL y = l) (hvy : Re.valid y = true) (hn : n = 55) : Calls Try.prog 5 #[.agg (cells s), .agg (cells t), .slice A n c] w fun e w' => e = .returned (.bool true) ∧ Below w.heap.size w w' := by
  have hz : ¬ (1000 : Int) < n := by omega
  have keyl := fun W => recget_any A l n c hl W
  rw [hg] at keyl
  subst hn
  have HL := Lib.hid hl
  have HP := Lib.hid hp
  have keyv := fun W => recvalid_any y W
  rw [hvy] at keyv
  clear hg hl hp hvy
  obtain ⟨r, hr⟩ : ∃ r, Re.sameB s t = r := ⟨_, rfl⟩
  have HR := Lib.hid hr
  clear hr
  go_enter Try.func5, Try.ntmps5
  go_upto_region 1 with (fail)
  have A1 : At ((w.alloc (.cells (cells s) 36)).alloc (.cells (cells t) 36)) w.heap.size (.cells (cells s) 36) := (At.new _ _).alloc _
  have A2 : At ((w.alloc (.cells (cells s) 36)).alloc (.cells (cells t) 36)) (w.heap.size + 1) (.cells (cells t) 36) := At.new' _ (by simp)
  have hB : Below w.heap.size w ((w.alloc (.cells (cells s) 36)).alloc (.cells (cells t) 36)) := Below.alloc' (Below.alloc' (Below.refl _ _) _) _
  replace hI := hI.after hB
  generalize (w.alloc (.cells (cells s) 36)).alloc (.cells (cells t) 36) = wc at *
  generalize hbl : w.heap.size + 1 = bl at *
  generalize hbox : w.heap.size = bx at *
  have HBOX := Lib.hid hbox
  clear hbox hbl
  go_upto_region 7 with (first | (refine wpList_alloc_style (by rfl) rfl ?_) | (refine wpList_build_zero (by rfl) rfl ?_) | (refine wpList_load_style (by rfl) _ rfl rfl (by first | assumption | (with_reducible exact At.new _ _)) ?_) | (refine wpList_store_same (by rfl) _ _ rfl rfl rfl (by first | assumption | (with_reducible exact At.new _ _)) ?_) | (refine wpList_store_style (by rfl) _ _ rfl rfl rfl (by first | assumption | (with_reducible exact At.new _ _)) ?_) | (go_at_call 8; (with_reducible refine (recworks_any _).mono ?_); rintro e w2 ⟨rfl, hb⟩; replace hB := hB.trans (hb.mono (Nat.le_of_lt A1.lt)); replace A1 := A1.keep hb; replace A2 := A2.keep hb; replace hI := hI.after hb; clear hb) | (go_at_call 12; (with_reducible refine (recput_any s _).mono ?_); rintro e w3 ⟨⟨p1, rfl, hI1⟩, hb⟩; replace hB := hB.trans (hb.mono (Nat.le_of_lt A1.lt)); replace A1 := A1.keep hb; replace A2 := A2.keep hb; replace hI := hI.after hb; clear hb))
  go_upto_region 8 with (first | (refine wpList_alloc_style (by rfl) rfl ?_) | (refine wpList_build_zero (by rfl) rfl ?_) | (refine wpList_load_style (by rfl) _ rfl rfl (by first | assumption | (with_reducible exact At.new _ _)) ?_) | (refine wpList_store_same (by rfl) _ _ rfl rfl rfl (by first | assumption | (with_reducible exact At.new _ _)) ?_) | (refine wpList_store_style (by rfl) _ _ rfl rfl rfl (by first | assumption | (with_reducible exact At.new _ _)) ?_) | (go_at_call 12; (with_reducible refine (recput_any t _).mono ?_); rintro e w4 ⟨⟨p2, rfl, hI2⟩, hb⟩; replace hB := hB.trans (hb.mono (Nat.le_of_lt A1.lt)); replace A1 := A1.keep hb; replace A2 := A2.keep hb; replace hI := hI.after hb; replace hI1 := hI1.after hb; clear hb))
  cases hv : Re.valid s
  · have hgs : Re.got (Re.putL s) = (Re.zero, 11) := by rw [Re.got_put, hv]; rfl
    have keyg := fun W => recget_any (some ⟨p1, 0, none⟩) (Re.putL s) 55 55 (Re.putL_length s) W
    rw [hgs] at keyg
    have hfx : Fits (Re.zero) := fits_zero
    have hsx : (!Re.sameB (Re.zero) s) = !Re.sameB Re.zero s := rfl
    generalize hxs : (Re.zero : Re.St) = xs at keyg hfx hsx
    clear hgs hxs
    go_upto_region 9 with (first | (refine wpList_alloc_style (by rfl) rfl ?_) | (refine wpList_store_style (by rfl) (.tmp 10) (.tmp 28) rfl rfl (t := xs) rfl (At.new _ _) ?_) | (go_at_call 14; (with_reducible refine (keyg _ hI1).mono ?_); rintro e w5 ⟨rfl, hb⟩; replace hB := hB.trans (hb.mono (Nat.le_of_lt A1.lt)); replace A1 := A1.keep hb; replace A2 := A2.keep hb; replace hI := hI.after hb; replace hI1 := hI1.after hb; replace hI2 := hI2.after hb; clear hb))
    have A3 := (At.new w5 (.cells (cells Re.zero) 36)).setRow (cells xs)
    have hb : Below w5.heap.size w5 ((w5.alloc (.cells (cells Re.zero) 36)).setRow w5.heap.size (cells xs)) := Below.setRow' (Below.alloc' (Below.refl _ _) _) (Nat.le_refl _) _
    replace hB := hB.trans (hb.mono (Nat.le_of_lt A1.lt))
    replace A1 := A1.keep hb
    replace A2 := A2.keep hb
    replace hI := hI.after hb
    replace hI1 := hI1.after hb
    replace hI2 := hI2.after hb
    generalize (w5.alloc (.cells (cells Re.zero) 36)).setRow w5.heap.size (cells xs) = w6 at *
    generalize hg : w5.heap.size = g at *
    clear hb hg keyg
    have HA1 := Lib.hid (fun (W : World) (h : Below w6.heap.size w6 W) => A1.keep h)
    have HA2 := Lib.hid (fun (W : World) (h : Below w6.heap.size w6 W) => A2.keep h)
    have HA3 := Lib.hid (fun (W : World) (h : Below w6.heap.size w6 W) => A3.keep h)
    have HI := Lib.hid (fun (W : World) (h : Below w6.heap.size w6 W) => hI.after h)
    have HI1 := Lib.hid (fun (W : World) (h : Below w6.heap.size w6 W) => hI1.after h)
    have HI2 := Lib.hid (fun (W : World) (h : Below w6.heap.size w6 W) => hI2.after h)
    have HB6 := Lib.hid hB
    have lb6 := Lib.hid (Nat.le_of_lt A1.lt)
    clear A1 A2 A3 hI hI1 hI2 hB
    have key := Lib.hid (fun W => recvalid_any s W)
    rw [hv] at key
    clear hv
    refine Drawn.wp_region_gen (S := (fun W' => Below w6.heap.size w6 W')) 23 (by kernel_rfl) ?_ ?_
    · exact Below.drew (Below.refl _ _)
    intro hS0
    (refine Drawn.gen_take (i := 0) rfl (by kernel_rfl) (by kernel_rfl) (by kernel_rfl) (by kernel_rfl) (by omega) (by assumption) (reads_load (by rfl) (.tmp 3) rfl rfl (fun W h => HA1.out W h)) ?_; (try simp only [Act.put, List.setIfInBounds_toArray, List.set_cons_zero, List.set_cons_succ]))
    (refine Drawn.gen_take (i := 2) rfl (by kernel_rfl) (by kernel_rfl) (by kernel_rfl) (by kernel_rfl) (by omega) (by assumption) (by first | exact .inr ⟨by rfl, rfl⟩ | exact .inl ⟨by rfl, by intro w2 hS; go_simp; first | done | with_reducible rfl | exact ⟨rfl, rfl⟩⟩) ?_; (try simp only [Act.put, List.setIfInBounds_toArray, List.set_cons_zero, List.set_cons_succ]))
    (refine Drawn.gen_take (i := 3) rfl (by kernel_rfl) (by kernel_rfl) (by kernel_rfl) (by kernel_rfl) (by omega) (by assumption) (by first | exact .inr ⟨by rfl, rfl⟩ | exact .inl ⟨by rfl, by intro w2 hS; go_simp; first | done | with_reducible rfl | exact ⟨rfl, rfl⟩⟩) ?_; (try simp only [Act.put, List.setIfInBounds_toArray, List.set_cons_zero, List.set_cons_succ]))
    refine Drawn.gen_one (i := 1) (by kernel_rfl) rfl (by rfl) ?_
    refine Drawn.Step.call (by go_simp; first | done | with_reducible rfl | exact ⟨rfl, rfl⟩) (key.out _) ?_
    rintro e w7 ⟨rfl, hb⟩
    have hS1 := hS0.trans (hb.mono hS0.size)
    clear hS0 hb
    refine ⟨_, rfl, fun _ => hS1, ?_⟩
    (try simp only [Act.put, List.setIfInBounds_toArray, List.set_cons_zero, List.set_cons_succ])
    (refine Drawn.gen_take (i := 4) rfl (by kernel_rfl) (by kernel_rfl) (by kernel_rfl) (by kernel_rfl) (by omega) (by assumption) (by first | exact .inr ⟨by rfl, rfl⟩ | exact .inl ⟨by rfl, by intro w2 hS; go_simp; first | done | with_reducible rfl | exact ⟨rfl, rfl⟩⟩) ?_; (try simp only [Act.put, List.setIfInBounds_toArray, List.set_cons_zero, List.set_cons_succ]))
    (refine Drawn.gen_take (i := 5) rfl (by kernel_rfl) (by kernel_rfl) (by kernel_rfl) (by kernel_rfl) (by omega) (by assumption) (by first | exact .inr ⟨by rfl, rfl⟩ | exact .inl ⟨by rfl, by intro w2 hS; go_simp; first | done | with_reducible rfl | exact ⟨rfl, rfl⟩⟩) ?_; (try simp only [Act.put, List.setIfInBounds_toArray, List.set_cons_zero, List.set_cons_succ]))
    (refine Drawn.gen_take (i := 6) rfl (by kernel_rfl) (by kernel_rfl) (by kernel_rfl) (by kernel_rfl) (by omega) (by assumption) (by first | exact .inr ⟨by rfl, rfl⟩ | exact .inl ⟨by rfl, by intro w2 hS; go_simp; first | done | with_reducible rfl | exact ⟨rfl, rfl⟩⟩) ?_; (try simp only [Act.put, List.setIfInBounds_toArray, List.set_cons_zero, List.set_cons_succ]))
    (refine Drawn.gen_take (i := 7) rfl (by kernel_rfl) (by kernel_rfl) (by kernel_rfl) (by kernel_rfl) (by omega) (by assumption) (by first | exact .inr ⟨by rfl, rfl⟩ | exact .inl ⟨by rfl, by intro w2 hS; go_simp; first | done | with_reducible rfl | exact ⟨rfl, rfl⟩⟩) ?_; (try simp only [Act.put, List.setIfInBounds_toArray, List.set_cons_zero, List.set_cons_succ]))
    (refine Drawn.gen_take (i := 8) rfl (by kernel_rfl) (by kernel_rfl) (by kernel_rfl) (by kernel_rfl) (by omega) (by assumption) (by first | exact .inr ⟨by rfl, rfl⟩ | exact .inl ⟨by rfl, by intro w2 hS; go_simp; first | done | with_reducible rfl | exact ⟨rfl, rfl⟩⟩) ?_; (try simp only [Act.put, List.setIfInBounds_toArray, List.set_cons_zero, List.set_cons_succ]))
    (refine Drawn.gen_take (i := 9) rfl (by kernel_rfl) (by kernel_rfl) (by kernel_rfl) (by kernel_rfl) (by omega) (by assumption) (by first | exact .inr ⟨by rfl, rfl⟩ | exact .inl ⟨by rfl, by intro w2 hS; go_simp; first | done | with_reducible rfl | exact ⟨rfl, rfl⟩⟩) ?_; (try simp only [Act.put, List.setIfInBounds_toArray, List.set_cons_zero, List.set_cons_succ]))
    (refine Drawn.gen_take (i := 10) rfl (by kernel_rfl) (by kernel_rfl) (by kernel_rfl) (by kernel_rfl) (by omega) (by assumption) (by first | exact .inr ⟨by rfl, rfl⟩ | exact .inl ⟨by rfl, by intro w2 hS; go_simp; first | done | with_reducible rfl | exact ⟨rfl, rfl⟩⟩) ?_; (try simp only [Act.put, List.setIfInBounds_toArray, List.set_cons_zero, List.set_cons_succ]))
    (refine Drawn.gen_take (i := 11) rfl (by kernel_rfl) (by kernel_rfl) (by kernel_rfl) (by kernel_rfl) (by omega) (by assumption) (by first | exact .inr ⟨by rfl, rfl⟩ | exact .inl ⟨by rfl, by intro w2 hS; go_simp; first | done | with_reducible rfl | exact ⟨rfl, rfl⟩⟩) ?_; (try simp only [Act.put, List.setIfInBounds_toArray, List.set_cons_zero, List.set_cons_succ]))
    (refine Drawn.gen_take (i := 12) rfl (by kernel_rfl) (by kernel_rfl) (by kernel_rfl) (by kernel_rfl) (by omega) (by assumption) (by first | exact .inr ⟨by rfl, rfl⟩ | exact .inl ⟨by rfl, by intro w2 hS; go_simp; first | done | with_reducible rfl | exact ⟨rfl, rfl⟩⟩) ?_; (try simp only [Act.put, List.setIfInBounds_toArray, List.set_cons_zero, List.set_cons_succ]))
    (refine Drawn.gen_take (i := 13) rfl (by kernel_rfl) (by kernel_rfl) (by kernel_rfl) (by kernel_rfl) (by omega) (by assumption) (by first | exact .inr ⟨by rfl, rfl⟩ | exact .inl ⟨by rfl, by intro w2 hS; go_simp; first | done | with_reducible rfl | exact ⟨rfl, rfl⟩⟩) ?_; (try simp only [Act.put, List.setIfInBounds_toArray, List.set_cons_zero, List.set_cons_succ]))
    (refine Drawn.gen_take (i := 14) rfl (by kernel_rfl) (by kernel_rfl) (by kernel_rfl) (by kernel_rfl) (by omega) (by assumption) (by first | exact .inr ⟨by rfl, rfl⟩ | exact .inl ⟨by rfl, by intro w2 hS; go_simp; first | done | with_reducible rfl | exact ⟨rfl, rfl⟩⟩) ?_; (try simp only [Act.put, List.setIfInBounds_toArray, List.set_cons_zero, List.set_cons_succ]))
    (refine Drawn.gen_take (i := 15) rfl (by kernel_rfl) (by kernel_rfl) (by kernel_rfl) (by kernel_rfl) (by omega) (by assumption) (by first | exact .inr ⟨by rfl, rfl⟩ | exact .inl ⟨by rfl, by intro w2 hS; go_simp; first | done | with_reducible rfl | exact ⟨rfl, rfl⟩⟩) ?_; (try simp only [Act.put, List.setIfInBounds_toArray, List.set_cons_zero, List.set_cons_succ]))
    (refine Drawn.gen_take (i := 16) rfl (by kernel_rfl) (by kernel_rfl) (by kernel_rfl) (by kernel_rfl) (by omega) (by assumption) (by first | exact .inr ⟨by rfl, rfl⟩ | exact .inl ⟨by rfl, by intro w2 hS; go_simp; first | done | with_reducible rfl | exact ⟨rfl, rfl⟩⟩) ?_; (try simp only [Act.put, List.setIfInBounds_toArray, List.set_cons_zero, List.set_cons_succ]))
    (refine Drawn.gen_take (i := 18) rfl (by kernel_rfl) (by kernel_rfl) (by kernel_rfl) (by kernel_rfl) (by omega) (by assumption) (reads_load (by rfl) (.tmp 3) rfl rfl (fun W h => HA1.out W h)) ?_; (try simp only [Act.put, List.setIfInBounds_toArray, List.set_cons_zero, List.set_cons_succ]))
    (refine Drawn.gen_take (i := 19) rfl (by kernel_rfl) (by kernel_rfl) (by kernel_rfl) (by kernel_rfl) (by omega) (by assumption) (reads_load (by rfl) (.tmp 4) rfl rfl (fun W h => HA2.out W h)) ?_; (try simp only [Act.put, List.setIfInBounds_toArray, List.set_cons_zero, List.set_cons_succ]))
    (refine Drawn.gen_take (i := 20) rfl (by kernel_rfl) (by kernel_rfl) (by kernel_rfl) (by kernel_rfl) (by omega) (by assumption) (reads_eql (by rfl) (.tmp 48) (.tmp 49) rfl rfl rfl hs ht HR.out) ?_; (try simp only [Act.put, List.setIfInBounds_toArray, List.set_cons_zero, List.set_cons_succ]))
    refine Drawn.gen_one (i := 17) (by kernel_rfl) rfl (by rfl) ?_
    refine Drawn.Step.call (by go_simp; first | done | with_reducible rfl | exact ⟨rfl, rfl⟩) (rowgen_any _ _ _ _ 55 55 55 r _ (HI1.out _ hS1) (HI2.out _ hS1) (Re.putL_length s) (Re.putL_length t) (by decide) (by rw [← HR.out, sameB_put])) ?_
    rintro e w8 ⟨rfl, hb⟩
    have hS2 := hS1.trans (hb.mono hS1.size)
    clear hS1 hb
    refine ⟨_, rfl, fun _ => hS2, ?_⟩
    (try simp only [Act.put, List.setIfInBounds_toArray, List.set_cons_zero, List.set_cons_succ])
    (refine Drawn.gen_take (i := 21) rfl (by kernel_rfl) (by kernel_rfl) (by kernel_rfl) (by kernel_rfl) (by omega) (by assumption) (by first | exact .inr ⟨by rfl, rfl⟩ | exact .inl ⟨by rfl, by intro w2 hS; go_simp; first | done | with_reducible rfl | exact ⟨rfl, rfl⟩⟩) ?_; (try simp only [Act.put, List.setIfInBounds_toArray, List.set_cons_zero, List.set_cons_succ]))
    (refine Drawn.gen_take (i := 22) rfl (by kernel_rfl) (by kernel_rfl) (by kernel_rfl) (by kernel_rfl) (by omega) (by assumption) (by first | exact .inr ⟨by rfl, rfl⟩ | exact .inl ⟨by rfl, by intro w2 hS; go_simp; first | done | with_reducible rfl | exact ⟨rfl, rfl⟩⟩) ?_; (try simp only [Act.put, List.setIfInBounds_toArray, List.set_cons_zero, List.set_cons_succ]))
    refine Drawn.gen_end (by kernel_rfl) ?_
    have hI := HI.out _ hS2
    have hB := HB6.out.trans (hS2.mono lb6.out)
    have lbx : bx ≤ w8.heap.size := Nat.le_trans lb6.out hS2.size
    clear HA1 HA2 HA3 HI HI1 HI2 HB6 lb6 hS2 key HR hsx hfx
    go_wp2_with (first | (refine wpList_alloc_style (by rfl) rfl ?_) | (go_at_call 14; (with_reducible refine (keyl _ hI).mono ?_); rintro e w9 ⟨rfl, hb⟩; replace hB := hB.trans (hb.mono lbx); replace lbx := Nat.le_trans lbx hb.size; replace hI := hI.after hb; clear hb) | (refine wpList_store_style (by rfl) (.tmp 12) (.tmp 56) rfl rfl (t := y) rfl (At.new _ _) ?_; have A9 := (At.new w9 (.cells (cells Re.zero) 36)).setRow (cells y); have hb9 : Below w9.heap.size w9 ((w9.alloc (.cells (cells Re.zero) 36)).setRow w9.heap.size (cells y)) := Below.setRow' (Below.alloc' (Below.refl _ _) _) (Nat.le_refl _) _; replace hB := hB.trans (hb9.mono lbx); replace lbx := Nat.le_trans lbx hb9.size; replace hI := hI.after hb9; clear hb9; generalize (w9.alloc (.cells (cells Re.zero) 36)).setRow w9.heap.size (cells y) = w10 at *) | (refine wpList_load_style (by rfl) _ rfl rfl A9 ?_) | (refine wpList_build_zero (by rfl) rfl ?_) | (go_at_call 12; (with_reducible refine (recput_any y _).mono ?_); rintro e w11 ⟨⟨p3, rfl, hI3⟩, hb⟩; replace hB := hB.trans (hb.mono lbx); replace lbx := Nat.le_trans lbx hb.size; replace A9 := A9.keep hb; replace hI := hI.after hb; clear hb) | (go_at_call 11; (with_reducible refine (rowgen_any _ _ _ _ 55 55 c true _ hI3 hI (Re.putL_length y) HL.out (by decide) (by rw [HP.out]; simp)).mono ?_); rintro e w12 ⟨rfl, hb⟩; replace hB := hB.trans (hb.mono lbx); replace lbx := Nat.le_trans lbx hb.size; replace A9 := A9.keep hb; clear hb) | (go_at_call 10; (with_reducible refine (keyv _).mono ?_); rintro e w13 ⟨rfl, hb⟩; replace hB := hB.trans (hb.mono lbx); clear hb))
    go_ret
    exact ⟨rfl, by rw [HBOX.out]; exact hB⟩
  · have hgs : Re.got (Re.putL s) = (Re.getS (Re.putL s), 0) := by rw [Re.got_put, hv]; rfl
    have keyg := fun W => recget_any (some ⟨p1, 0, none⟩) (Re.putL s) 55 55 (Re.putL_length s) W
    rw [hgs] at keyg
    have hfx : Fits (Re.getS (Re.putL s)) := fits_num hs
    have hsx : (!Re.sameB (Re.getS (Re.putL s)) s) = false := by rw [Re.sameB_iff.2 (Re.get_put s)]; rfl
    generalize hxs : (Re.getS (Re.putL s) : Re.St) = xs at keyg hfx hsx
    clear hgs hxs
    go_upto_region 9 with (first | (refine wpList_alloc_style (by rfl) rfl ?_) | (refine wpList_store_style (by rfl) (.tmp 10) (.tmp 28) rfl rfl (t := xs) rfl (At.new _ _) ?_) | (go_at_call 14; (with_reducible refine (keyg _ hI1).mono ?_); rintro e w5 ⟨rfl, hb⟩; replace hB := hB.trans (hb.mono (Nat.le_of_lt A1.lt)); replace A1 := A1.keep hb; replace A2 := A2.keep hb; replace hI := hI.after hb; replace hI1 := hI1.after hb; replace hI2 := hI2.after hb; clear hb))
    have A3 := (At.new w5 (.cells (cells Re.zero) 36)).setRow (cells xs)
    have hb : Below w5.heap.size w5 ((w5.alloc (.cells (cells Re.zero) 36)).setRow w5.heap.size (cells xs)) := Below.setRow' (Below.alloc' (Below.refl _ _) _) (Nat.le_refl _) _
    replace hB := hB.trans (hb.mono (Nat.le_of_lt A1.lt))
    replace A1 := A1.keep hb
    replace A2 := A2.keep hb
    replace hI := hI.after hb
    replace hI1 := hI1.after hb
    replace hI2 := hI2.after hb
    generalize (w5.alloc (.cells (cells Re.zero) 36)).setRow w5.heap.size (cells xs) = w6 at *
    generalize hg : w5.heap.size = g at *
    clear hb hg keyg
    have HA1 := Lib.hid (fun (W : World) (h : Below w6.heap.size w6 W) => A1.keep h)
    have HA2 := Lib.hid (fun (W : World) (h : Below w6.heap.size w6 W) => A2.keep h)
    have HA3 := Lib.hid (fun (W : World) (h : Below w6.heap.size w6 W) => A3.keep h)
    have HI := Lib.hid (fun (W : World) (h : Below w6.heap.size w6 W) => hI.after h)
    have HI1 := Lib.hid (fun (W : World) (h : Below w6.heap.size w6 W) => hI1.after h)
    have HI2 := Lib.hid (fun (W : World) (h : Below w6.heap.size w6 W) => hI2.after h)
    have HB6 := Lib.hid hB
    have lb6 := Lib.hid (Nat.le_of_lt A1.lt)
    clear A1 A2 A3 hI hI1 hI2 hB
    have key := Lib.hid (fun W => recvalid_any s W)
    rw [hv] at key
    clear hv
    refine Drawn.wp_region_gen (S := (fun W' => Below w6.heap.size w6 W')) 23 (by kernel_rfl) ?_ ?_
    · exact Below.drew (Below.refl _ _)
    intro hS0
    (refine Drawn.gen_take (i := 0) rfl (by kernel_rfl) (by kernel_rfl) (by kernel_rfl) (by kernel_rfl) (by omega) (by assumption) (reads_load (by rfl) (.tmp 3) rfl rfl (fun W h => HA1.out W h)) ?_; (try simp only [Act.put, List.setIfInBounds_toArray, List.set_cons_zero, List.set_cons_succ]))
    (refine Drawn.gen_take (i := 2) rfl (by kernel_rfl) (by kernel_rfl) (by kernel_rfl) (by kernel_rfl) (by omega) (by assumption) (by first | exact .inr ⟨by rfl, rfl⟩ | exact .inl ⟨by rfl, by intro w2 hS; go_simp; first | done | with_reducible rfl | exact ⟨rfl, rfl⟩⟩) ?_; (try simp only [Act.put, List.setIfInBounds_toArray, List.set_cons_zero, List.set_cons_succ]))
    (refine Drawn.gen_take (i := 3) rfl (by kernel_rfl) (by kernel_rfl) (by kernel_rfl) (by kernel_rfl) (by omega) (by assumption) (by first | exact .inr ⟨by rfl, rfl⟩ | exact .inl ⟨by rfl, by intro w2 hS; go_simp; first | done | with_reducible rfl | exact ⟨rfl, rfl⟩⟩) ?_; (try simp only [Act.put, List.setIfInBounds_toArray, List.set_cons_zero, List.set_cons_succ]))
    refine Drawn.gen_one (i := 1) (by kernel_rfl) rfl (by rfl) ?_
    refine Drawn.Step.call (by go_simp; first | done | with_reducible rfl | exact ⟨rfl, rfl⟩) (key.out _) ?_
    rintro e w7 ⟨rfl, hb⟩
    have hS1 := hS0.trans (hb.mono hS0.size)
    clear hS0 hb
    refine ⟨_, rfl, fun _ => hS1, ?_⟩
    (try simp only [Act.put, List.setIfInBounds_toArray, List.set_cons_zero, List.set_cons_succ])
    (refine Drawn.gen_take (i := 4) rfl (by kernel_rfl) (by kernel_rfl) (by kernel_rfl) (by kernel_rfl) (by omega) (by assumption) (by first | exact .inr ⟨by rfl, rfl⟩ | exact .inl ⟨by rfl, by intro w2 hS; go_simp; first | done | with_reducible rfl | exact ⟨rfl, rfl⟩⟩) ?_; (try simp only [Act.put, List.setIfInBounds_toArray, List.set_cons_zero, List.set_cons_succ]))
    (refine Drawn.gen_take (i := 5) rfl (by kernel_rfl) (by kernel_rfl) (by kernel_rfl) (by kernel_rfl) (by omega) (by assumption) (by first | exact .inr ⟨by rfl, rfl⟩ | exact .inl ⟨by rfl, by intro w2 hS; go_simp; first | done | with_reducible rfl | exact ⟨rfl, rfl⟩⟩) ?_; (try simp only [Act.put, List.setIfInBounds_toArray, List.set_cons_zero, List.set_cons_succ]))
    (refine Drawn.gen_take (i := 6) rfl (by kernel_rfl) (by kernel_rfl) (by kernel_rfl) (by kernel_rfl) (by omega) (by assumption) (by first | exact .inr ⟨by rfl, rfl⟩ | exact .inl ⟨by rfl, by intro w2 hS; go_simp; first | done | with_reducible rfl | exact ⟨rfl, rfl⟩⟩) ?_; (try simp only [Act.put, List.setIfInBounds_toArray, List.set_cons_zero, List.set_cons_succ]))
    (refine Drawn.gen_take (i := 7) rfl (by kernel_rfl) (by kernel_rfl) (by kernel_rfl) (by kernel_rfl) (by omega) (by assumption) (by first | exact .inr ⟨by rfl, rfl⟩ | exact .inl ⟨by rfl, by intro w2 hS; go_simp; first | done | with_reducible rfl | exact ⟨rfl, rfl⟩⟩) ?_; (try simp only [Act.put, List.setIfInBounds_toArray, List.set_cons_zero, List.set_cons_succ]))
    (refine Drawn.gen_take (i := 8) rfl (by kernel_rfl) (by kernel_rfl) (by kernel_rfl) (by kernel_rfl) (by omega) (by assumption) (by first | exact .inr ⟨by rfl, rfl⟩ | exact .inl ⟨by rfl, by intro w2 hS; go_simp; first | done | with_reducible rfl | exact ⟨rfl, rfl⟩⟩) ?_; (try simp only [Act.put, List.setIfInBounds_toArray, List.set_cons_zero, List.set_cons_succ]))
    (refine Drawn.gen_take (i := 9) rfl (by kernel_rfl) (by kernel_rfl) (by kernel_rfl) (by kernel_rfl) (by omega) (by assumption) (reads_load (by rfl) (.tmp 10) rfl rfl (fun W h => HA3.out W h)) ?_; (try simp only [Act.put, List.setIfInBounds_toArray, List.set_cons_zero, List.set_cons_succ]))
    (refine Drawn.gen_take (i := 10) rfl (by kernel_rfl) (by kernel_rfl) (by kernel_rfl) (by kernel_rfl) (by omega) (by assumption) (reads_load (by rfl) (.tmp 3) rfl rfl (fun W h => HA1.out W h)) ?_; (try simp only [Act.put, List.setIfInBounds_toArray, List.set_cons_zero, List.set_cons_succ]))
    (refine Drawn.gen_take (i := 11) rfl (by kernel_rfl) (by kernel_rfl) (by kernel_rfl) (by kernel_rfl) (by omega) (by assumption) (reads_neq (by rfl) (.tmp 39) (.tmp 40) rfl rfl rfl hfx hs hsx) ?_; (try simp only [Act.put, List.setIfInBounds_toArray, List.set_cons_zero, List.set_cons_succ]))
    (refine Drawn.gen_take (i := 12) rfl (by kernel_rfl) (by kernel_rfl) (by kernel_rfl) (by kernel_rfl) (by omega) (by assumption) (by first | exact .inr ⟨by rfl, rfl⟩ | exact .inl ⟨by rfl, by intro w2 hS; go_simp; first | done | with_reducible rfl | exact ⟨rfl, rfl⟩⟩) ?_; (try simp only [Act.put, List.setIfInBounds_toArray, List.set_cons_zero, List.set_cons_succ]))
    (refine Drawn.gen_take (i := 13) rfl (by kernel_rfl) (by kernel_rfl) (by kernel_rfl) (by kernel_rfl) (by omega) (by assumption) (by first | exact .inr ⟨by rfl, rfl⟩ | exact .inl ⟨by rfl, by intro w2 hS; go_simp; first | done | with_reducible rfl | exact ⟨rfl, rfl⟩⟩) ?_; (try simp only [Act.put, List.setIfInBounds_toArray, List.set_cons_zero, List.set_cons_succ]))
    (refine Drawn.gen_take (i := 14) rfl (by kernel_rfl) (by kernel_rfl) (by kernel_rfl) (by kernel_rfl) (by omega) (by assumption) (by first | exact .inr ⟨by rfl, rfl⟩ | exact .inl ⟨by rfl, by intro w2 hS; go_simp; first | done | with_reducible rfl | exact ⟨rfl, rfl⟩⟩) ?_; (try simp only [Act.put, List.setIfInBounds_toArray, List.set_cons_zero, List.set_cons_succ]))
    (refine Drawn.gen_take (i := 15) rfl (by kernel_rfl) (by kernel_rfl) (by kernel_rfl) (by kernel_rfl) (by omega) (by assumption) (by first | exact .inr ⟨by rfl, rfl⟩ | exact .inl ⟨by rfl, by intro w2 hS; go_simp; first | done | with_reducible rfl | exact ⟨rfl, rfl⟩⟩) ?_; (try simp only [Act.put, List.setIfInBounds_toArray, List.set_cons_zero, List.set_cons_succ]))
    (refine Drawn.gen_take (i := 16) rfl (by kernel_rfl) (by kernel_rfl) (by kernel_rfl) (by kernel_rfl) (by omega) (by assumption) (by first | exact .inr ⟨by rfl, rfl⟩ | exact .inl ⟨by rfl, by intro w2 hS; go_simp; first | done | with_reducible rfl | exact ⟨rfl, rfl⟩⟩) ?_; (try simp only [Act.put, List.setIfInBounds_toArray, List.set_cons_zero, List.set_cons_succ]))
    (refine Drawn.gen_take (i := 18) rfl (by kernel_rfl) (by kernel_rfl) (by kernel_rfl) (by kernel_rfl) (by omega) (by assumption) (reads_load (by rfl) (.tmp 3) rfl rfl (fun W h => HA1.out W h)) ?_; (try simp only [Act.put, List.setIfInBounds_toArray, List.set_cons_zero, List.set_cons_succ]))
    (refine Drawn.gen_take (i := 19) rfl (by kernel_rfl) (by kernel_rfl) (by kernel_rfl) (by kernel_rfl) (by omega) (by assumption) (reads_load (by rfl) (.tmp 4) rfl rfl (fun W h => HA2.out W h)) ?_; (try simp only [Act.put, List.setIfInBounds_toArray, List.set_cons_zero, List.set_cons_succ]))
    (refine Drawn.gen_take (i := 20) rfl (by kernel_rfl) (by kernel_rfl) (by kernel_rfl) (by kernel_rfl) (by omega) (by assumption) (reads_eql (by rfl) (.tmp 48) (.tmp 49) rfl rfl rfl hs ht HR.out) ?_; (try simp only [Act.put, List.setIfInBounds_toArray, List.set_cons_zero, List.set_cons_succ]))
    refine Drawn.gen_one (i := 17) (by kernel_rfl) rfl (by rfl) ?_
    refine Drawn.Step.call (by go_simp; first | done | with_reducible rfl | exact ⟨rfl, rfl⟩) (rowgen_any _ _ _ _ 55 55 55 r _ (HI1.out _ hS1) (HI2.out _ hS1) (Re.putL_length s) (Re.putL_length t) (by decide) (by rw [← HR.out, sameB_put])) ?_
    rintro e w8 ⟨rfl, hb⟩
    have hS2 := hS1.trans (hb.mono hS1.size)
    clear hS1 hb
    refine ⟨_, rfl, fun _ => hS2, ?_⟩
    (try simp only [Act.put, List.setIfInBounds_toArray, List.set_cons_zero, List.set_cons_succ])
    (refine Drawn.gen_take (i := 21) rfl (by kernel_rfl) (by kernel_rfl) (by kernel_rfl) (by kernel_rfl) (by omega) (by assumption) (by first | exact .inr ⟨by rfl, rfl⟩ | exact .inl ⟨by rfl, by intro w2 hS; go_simp; first | done | with_reducible rfl | exact ⟨rfl, rfl⟩⟩) ?_; (try simp only [Act.put, List.setIfInBounds_toArray, List.set_cons_zero, List.set_cons_succ]))
    (refine Drawn.gen_take (i := 22) rfl (by kernel_rfl) (by kernel_rfl) (by kernel_rfl) (by kernel_rfl) (by omega) (by assumption) (by first | exact .inr ⟨by rfl, rfl⟩ | exact .inl ⟨by rfl, by intro w2 hS; go_simp; first | done | with_reducible rfl | exact ⟨rfl, rfl⟩⟩) ?_; (try simp only [Act.put, List.setIfInBounds_toArray, List.set_cons_zero, List.set_cons_succ]))
    refine Drawn.gen_end (by kernel_rfl) ?_
    have hI := HI.out _ hS2
    have hB := HB6.out.trans (hS2.mono lb6.out)
    have lbx : bx ≤ w8.heap.size := Nat.le_trans lb6.out hS2.size
    clear HA1 HA2 HA3 HI HI1 HI2 HB6 lb6 hS2 key HR hsx hfx
    go_wp2_with (first | (refine wpList_alloc_style (by rfl) rfl ?_) | (go_at_call 14; (with_reducible refine (keyl _ hI).mono ?_); rintro e w9 ⟨rfl, hb⟩; replace hB := hB.trans (hb.mono lbx); replace lbx := Nat.le_trans lbx hb.size; replace hI := hI.after hb; clear hb) | (refine wpList_store_style (by rfl) (.tmp 12) (.tmp 56) rfl rfl (t := y) rfl (At.new _ _) ?_; have A9 := (At.new w9 (.cells (cells Re.zero) 36)).setRow (cells y); have hb9 : Below w9.heap.size w9 ((w9.alloc (.cells (cells Re.zero) 36)).setRow w9.heap.size (cells y)) := Below.setRow' (Below.alloc' (Below.refl _ _) _) (Nat.le_refl _) _; replace hB := hB.trans (hb9.mono lbx); replace lbx := Nat.le_trans lbx hb9.size; replace hI := hI.after hb9; clear hb9; generalize (w9.alloc (.cells (cells Re.zero) 36)).setRow w9.heap.size (cells y) = w10 at *) | (refine wpList_load_style (by rfl) _ rfl rfl A9 ?_) | (refine wpList_build_zero (by rfl) rfl ?_) | (go_at_call 12; (with_reducible refine (recput_any y _).mono ?_); rintro e w11 ⟨⟨p3, rfl, hI3⟩, hb⟩; replace hB := hB.trans (hb.mono lbx); replace lbx := Nat.le_trans lbx hb.size; replace A9 := A9.keep hb; replace hI := hI.after hb; clear hb) | (go_at_call 11; (with_reducible refine (rowgen_any _ _ _ _ 55 55 c true _ hI3 hI (Re.putL_length y) HL.out (by decide) (by rw [HP.out]; simp)).mono ?_); rintro e w12 ⟨rfl, hb⟩; replace hB := hB.trans (hb.mono lbx); replace lbx := Nat.le_trans lbx hb.size; replace A9 := A9.keep hb; clear hb) | (go_at_call 10; (with_reducible refine (keyv _).mono ?_); rintro e w13 ⟨rfl, hb⟩; replace hB := hB.trans (hb.mono lbx); clear hb))
    go_ret
    exact ⟨rfl, by rw [HBOX.out]; exact hB⟩

theorem rback_walk (s t : Re.St) (A : Option Addr) (n c : Nat) (zs : List Int) (w : World) (hs : Fits s) (ht : Fits t) (hR : Row w A n c zs) : Calls Try.prog 5 #[.agg (cells s), .agg (cells t), .slice A n c] w fun e w' => e = .returned (.bool true) ∧ Below w.heap.size w w' := by
  obtain ⟨l, hl, hI, _, hwf, _⟩ := ints_of_row hR
  have hx := hI.1
  rw [hl] at hx
  simp only [maxLen] at hx
  by_cases h : 1000 < n
  · exact rback_far s t A n c w (by omega) h
  · rcases Re.got_cases l with ⟨e, he⟩ | ⟨e, he⟩ | ⟨e, he, hv, hbo⟩
    · exact rback_err s t hs ht A l n c w hI hl (by omega) 10 e (by decide)
    · exact rback_err s t hs ht A l n c w hI hl (by omega) 11 e (by decide)
    · exact rback_ok s t hs ht A l n c w hI hl (by omega) _ e (Re.put_get he hbo) hv (by omega)

end Go.Proofs.Ytpfkencgjodehaa.Fix
