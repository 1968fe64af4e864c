/- The statement RecordGets, walked. -/
import Derived.Test.YtpfkencgjodehaaRecLaw0
namespace Go.Proofs.Ytpfkencgjodehaa.Fix
open Go.ChangeShapes Go.WideShapes Go.ChangeAt Go.RowKit
set_option linter.unusedVariables false

theorem same_refl (s : Re.St) : Re.sameB s s = true := Re.sameB_iff.2 fun i _ => by split <;> rfl
theorem Row.cap {w : World} {a : Option Addr} {len cap : Nat} {zs : List Int} (h : Row w a len cap zs) : len ≤ cap := by
  rcases h with ⟨_, rfl, rfl, _⟩ | ⟨_, _, h, _⟩ <;> omega

set_option maxRecDepth 100000 in
set_option maxHeartbeats 4000000 in
theorem rgets_far (A : Option Addr) (n c : Nat) (w : World) (hm : n ≤ 9223372036854775807) (h : 1000 < n) : Calls Try.prog 4 #[.slice A n c] w fun e w' => e = .returned (.bool true) ∧ Below w.heap.size w w' := by
  have hz : (1000 : Int) < n := by omega
  go_enter Try.func4, Try.ntmps4
  go_wp2_with (go_at_call 8; (with_reducible refine (recworks_any _).mono ?_); rintro e w2 ⟨rfl, hB⟩)
  go_ret
  exact ⟨rfl, hB⟩

set_option maxRecDepth 100000 in
set_option maxHeartbeats 4000000 in
theorem rgets_near (A : Option Addr) (l : List Int) (n c : Nat) (w : World) (hI : Ints w A l) (hl : l.length = n) (hc : n ≤ c) (hwf : Fits (Re.got l).1) (h : n ≤ 1000) : Calls Try.prog 4 #[.slice A n c] w fun e w' => e = .returned (.bool true) ∧ Below w.heap.size w w' := by
  have hz : ¬ (1000 : Int) < n := by omega
  go_enter Try.func4, Try.ntmps4
  go_upto_region 6 with (go_at_call 8; (with_reducible refine (recworks_any _).mono ?_); rintro e w2 ⟨rfl, hB⟩; replace hI := hI.after hB)
  have key := fun W => recget_any A l n c hl W
  have key2 := fun W => rrecget_any A l n c hl hc W
  generalize (Re.got l).1 = s at *
  generalize (Re.got l).2 = er at *
  go_upto_region 7 with (first | (refine wpList_alloc_style (by rfl) rfl ?_) | (refine wpList_store_style (by rfl) (.tmp 4) (.tmp 18) rfl rfl (t := s) rfl (At.new _ _) ?_) | (go_at_call 14; (with_reducible refine (key _ hI).mono ?_); rintro e w3 ⟨rfl, hb⟩; replace hB := hB.trans (hb.mono hB.size); replace hI := hI.after hb; clear hb))
  have A1 := (At.new w3 (.cells (cells Re.zero) 36)).setRow (cells s)
  have hb : Below w3.heap.size w3 ((w3.alloc (.cells (cells Re.zero) 36)).setRow w3.heap.size (cells s)) := Below.setRow' (Below.alloc' (Below.refl _ _) _) (Nat.le_refl _) _
  replace hI := hI.after hb
  replace hB := hB.trans (hb.mono hB.size)
  generalize (w3.alloc (.cells (cells Re.zero) 36)).setRow w3.heap.size (cells s) = w4 at *
  generalize hg1 : w3.heap.size = g1 at *
  clear hb hg1
  go_upto_region 8 with (first | (refine wpList_alloc_style (by rfl) rfl ?_) | (refine wpList_store_style (by rfl) (.tmp 6) (.tmp 23) rfl rfl (t := s) rfl (At.new _ _) ?_) | (go_at_call 15; (with_reducible refine (key2 _ hI).mono ?_); rintro e w5 ⟨rfl, hb⟩; replace hB := hB.trans (hb.mono hB.size); replace hI := hI.after hb; replace A1 := A1.keep hb; clear hb))
  have A2 := (At.new w5 (.cells (cells Re.zero) 36)).setRow (cells s)
  have hb : Below w5.heap.size w5 ((w5.alloc (.cells (cells Re.zero) 36)).setRow w5.heap.size (cells s)) := Below.setRow' (Below.alloc' (Below.refl _ _) _) (Nat.le_refl _) _
  replace A1 := A1.keep hb
  replace hB := hB.trans (hb.mono hB.size)
  generalize (w5.alloc (.cells (cells Re.zero) 36)).setRow w5.heap.size (cells s) = w6 at *
  generalize hg2 : w5.heap.size = g2 at *
  clear hb hg2 hI key key2
  have hsame := same_refl s
  go_wp2_with (first | (refine wpList_alloc_style (by rfl) rfl ?_) | (refine wpList_build_zero (by rfl) rfl ?_) | (refine wpList_load_style (by rfl) _ rfl rfl (by first | assumption | (with_reducible exact At.new _ _)) ?_) | (refine wpList_store_same (by rfl) _ _ rfl rfl rfl (by first | assumption | (with_reducible exact At.new _ _)) ?_) | (refine wpList_store_style (by rfl) _ _ rfl rfl rfl (by first | assumption | (with_reducible exact At.new _ _)) ?_) | (refine wpList_eql_style (by rfl) (.tmp 27) (.tmp 28) rfl rfl rfl hwf hwf ?_; rw [hsame]))
  go_ret
  exact ⟨rfl, hB⟩

theorem rgets_walk (A : Option Addr) (n c : Nat) (zs : List Int) (w : World) (hR : Row w A n c zs) : Calls Try.prog 4 #[.slice A n c] w fun e w' => e = .returned (.bool true) ∧ Below w.heap.size w w' := by
  have hc := hR.cap
  obtain ⟨l, hl, hI, _, hwf, _⟩ := ints_of_row hR
  have hx := hI.1
  rw [hl] at hx
  simp only [maxLen] at hx
  by_cases h : 1000 < n
  · exact rgets_far A n c w (by omega) h
  · exact rgets_near A l n c w hI hl hc (fits_got hwf) (by omega)

end Go.Proofs.Ytpfkencgjodehaa.Fix
