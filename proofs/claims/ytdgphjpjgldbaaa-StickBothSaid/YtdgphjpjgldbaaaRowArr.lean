/- An argument that is an array of four integers, read behind the call. -/
import Derived.ProofKit
import Derived.Laws.IdiomArrays
import Derived.OpenShut
import Derived.Lib.SmallJoins
namespace Go.Proofs.Ytdgphjpjgldbaaa.Fix
open Go.ChangeShapes Go.WideShapes Go.ChangeAt Go.RowKit Go.Joins Go.Deep

theorem shut_array4 {H : Type} {enc : TypeId × Value → H} {P : Program} {w : World} {base : Nat} {spare : Nat → Bool} {held : Bool} {t e : TypeId} {x0 x1 x2 x3 : Int} (ht : P.underlying t = some (.array 4 e)) (he : P.underlying e = some (.int .i64)) (hct : P.cellsOf t = 4) (hce : P.cellsOf e = 1)
    (w0 : (Lit.int .i64 x0).wf = true) (w1 : (Lit.int .i64 x1).wf = true) (w2 : (Lit.int .i64 x2).wf = true) (w3 : (Lit.int .i64 x3).wf = true) :
    DataW.Trod enc P w base spare held t (.agg #[.int .i64 x0, .int .i64 x1, .int .i64 x2, .int .i64 x3]) (DataW.agg [.lit (.int .i64 x0), .lit (.int .i64 x1), .lit (.int .i64 x2), .lit (.int .i64 x3)]) [] :=
  ⟨2, by simp [DataW.trod, Value.cells, ht, he, hct, hce, w0, w1, w2, w3, show List.range 4 = [0, 1, 2, 3] from rfl]⟩

theorem array8 {α : Type} {cs : Array α} (h : cs.size = 8) : ∃ c0 c1 c2 c3 c4 c5 c6 c7, cs = #[c0, c1, c2, c3, c4, c5, c6, c7] := by
  obtain ⟨l⟩ := cs
  match l, h with
  | [c0, c1, c2, c3, c4, c5, c6, c7], _ => exact ⟨c0, c1, c2, c3, c4, c5, c6, c7, rfl⟩

section
variable {H : Type} {enc : TypeId × Value → H} {P : Program} {w : World} {base : Nat} {spare : Nat → Bool} {held : Bool}

/-- a struct of two one-cell fields that are integers, read -/
theorem trod_pair {e : TypeId} {f0 f1 : Field} {fuel : Nat} {c0 c1 : Value} {y : DataW H × List MemPlace} (hs : P.underlying e = some (.struct #[f0, f1])) (hone : oneCellFields P #[f0, f1] = true)
    (h0 : P.underlying f0.type = some (.int .i64)) (h1 : P.underlying f1.type = some (.int .i64)) (h : DataW.trod enc P w base spare held fuel e [c0, c1] = some y) :
    ∃ a b : Int, c0 = .int .i64 a ∧ c1 = .int .i64 b ∧ y = (.agg [.lit (.int .i64 a), .lit (.int .i64 b)], []) ∧ (Lit.int .i64 a).wf = true ∧ (Lit.int .i64 b).wf = true := by
  obtain ⟨y0, y1, n, hx, _, t0, t1⟩ := trod_struct2 hs h
  obtain ⟨o0, k0⟩ := hone_of hone 0 f0 rfl
  obtain ⟨o1, k1⟩ := hone_of hone 1 f1 rfl
  obtain ⟨a, e0, rfl, wa⟩ := DataW.trod_int h0 t0
  obtain ⟨b, e1, rfl, wb⟩ := DataW.trod_int h1 t1
  simp [o0, k0] at e0
  simp [o1, k1] at e1
  exact ⟨a, b, e0, e1, hx, wa, wb⟩

/-- an array of four such, opened -/
theorem open_pairs4 {t e : TypeId} {f0 f1 : Field} {v : Value} {d : DataW H} {p : List MemPlace} (ht : P.underlying t = some (.array 4 e)) (hs : P.underlying e = some (.struct #[f0, f1])) (hone : oneCellFields P #[f0, f1] = true) (hct : P.cellsOf t = 8) (hce : P.cellsOf e = 2)
    (h0 : P.underlying f0.type = some (.int .i64)) (h1 : P.underlying f1.type = some (.int .i64)) (hv : ∃ cs, v = .agg cs ∧ cs.size = P.cellsOf t) (h : DataW.Trod enc P w base spare held t v d p) :
    ∃ a0 b0 a1 b1 a2 b2 a3 b3 : Int, v = .agg #[.int .i64 a0, .int .i64 b0, .int .i64 a1, .int .i64 b1, .int .i64 a2, .int .i64 b2, .int .i64 a3, .int .i64 b3] ∧
      d = .agg [.agg [.lit (.int .i64 a0), .lit (.int .i64 b0)], .agg [.lit (.int .i64 a1), .lit (.int .i64 b1)], .agg [.lit (.int .i64 a2), .lit (.int .i64 b2)], .agg [.lit (.int .i64 a3), .lit (.int .i64 b3)]] ∧ p = [] ∧
      (Lit.int .i64 a0).wf = true ∧ (Lit.int .i64 b0).wf = true ∧ (Lit.int .i64 a1).wf = true ∧ (Lit.int .i64 b1).wf = true ∧ (Lit.int .i64 a2).wf = true ∧ (Lit.int .i64 b2).wf = true ∧ (Lit.int .i64 a3).wf = true ∧ (Lit.int .i64 b3).wf = true := by
  obtain ⟨cs, rfl, hsz⟩ := hv
  obtain ⟨c0, c1, c2, c3, c4, c5, c6, c7, rfl⟩ := array8 (hsz.trans hct)
  obtain ⟨fuel, hf⟩ := h
  cases fuel with
  | zero => simp [DataW.trod] at hf
  | succ n =>
    unfold DataW.trod at hf
    rw [ht] at hf
    have r4 : List.range 4 = [0, 1, 2, 3] := rfl
    simp [r4, hce, hct, Value.cells] at hf
    cases q0 : DataW.trod enc P w base spare held n e [c0, c1] with
    | none => simp [q0] at hf
    | some y0 =>
      cases q1 : DataW.trod enc P w base spare held n e [c2, c3] with
      | none => simp [q0, q1] at hf
      | some y1 =>
        cases q2 : DataW.trod enc P w base spare held n e [c4, c5] with
        | none => simp [q0, q1, q2] at hf
        | some y2 =>
          cases q3 : DataW.trod enc P w base spare held n e [c6, c7] with
          | none => simp [q0, q1, q2, q3] at hf
          | some y3 =>
            simp [q0, q1, q2, q3] at hf
            obtain ⟨a0, b0, rfl, rfl, rfl, u0, v0⟩ := trod_pair hs hone h0 h1 q0
            obtain ⟨a1, b1, rfl, rfl, rfl, u1, v1⟩ := trod_pair hs hone h0 h1 q1
            obtain ⟨a2, b2, rfl, rfl, rfl, u2, v2⟩ := trod_pair hs hone h0 h1 q2
            obtain ⟨a3, b3, rfl, rfl, rfl, u3, v3⟩ := trod_pair hs hone h0 h1 q3
            obtain ⟨rfl, rfl⟩ := hf
            exact ⟨a0, b0, a1, b1, a2, b2, a3, b3, rfl, rfl, by simp, u0, v0, u1, v1, u2, v2, u3, v3⟩

theorem trod_pair_mk {e : TypeId} {f0 f1 : Field} {a b : Int} (n : Nat) (hs : P.underlying e = some (.struct #[f0, f1])) (hone : oneCellFields P #[f0, f1] = true) (hce : P.cellsOf e = 2)
    (h0 : P.underlying f0.type = some (.int .i64)) (h1 : P.underlying f1.type = some (.int .i64)) (wa : (Lit.int .i64 a).wf = true) (wb : (Lit.int .i64 b).wf = true) :
    DataW.trod enc P w base spare held (n + 1 + 1) e [.int .i64 a, .int .i64 b] = some (.agg [.lit (.int .i64 a), .lit (.int .i64 b)], []) := by
  obtain ⟨o0, k0⟩ := hone_of hone 0 f0 rfl
  obtain ⟨o1, k1⟩ := hone_of hone 1 f1 rfl
  exact trod_struct2_mk (y0 := (.lit (.int .i64 a), [])) (y1 := (.lit (.int .i64 b), [])) hs (by simp [hce]) (by simpa [o0, k0] using trod_int_mk n h0 wa) (by simpa [o1, k1] using trod_int_mk n h1 wb)

/-- an array of four such, shut -/
theorem shut_pairs4 {t e : TypeId} {f0 f1 : Field} {a0 b0 a1 b1 a2 b2 a3 b3 : Int} (ht : P.underlying t = some (.array 4 e)) (hs : P.underlying e = some (.struct #[f0, f1])) (hone : oneCellFields P #[f0, f1] = true) (hct : P.cellsOf t = 8) (hce : P.cellsOf e = 2)
    (h0 : P.underlying f0.type = some (.int .i64)) (h1 : P.underlying f1.type = some (.int .i64))
    (u0 : (Lit.int .i64 a0).wf = true) (v0 : (Lit.int .i64 b0).wf = true) (u1 : (Lit.int .i64 a1).wf = true) (v1 : (Lit.int .i64 b1).wf = true) (u2 : (Lit.int .i64 a2).wf = true) (v2 : (Lit.int .i64 b2).wf = true) (u3 : (Lit.int .i64 a3).wf = true) (v3 : (Lit.int .i64 b3).wf = true) :
    DataW.Trod enc P w base spare held t (.agg #[.int .i64 a0, .int .i64 b0, .int .i64 a1, .int .i64 b1, .int .i64 a2, .int .i64 b2, .int .i64 a3, .int .i64 b3])
      (.agg [.agg [.lit (.int .i64 a0), .lit (.int .i64 b0)], .agg [.lit (.int .i64 a1), .lit (.int .i64 b1)], .agg [.lit (.int .i64 a2), .lit (.int .i64 b2)], .agg [.lit (.int .i64 a3), .lit (.int .i64 b3)]]) [] := by
  refine ⟨3, ?_⟩
  have r4 : List.range 4 = [0, 1, 2, 3] := rfl
  have p0 := trod_pair_mk (enc := enc) (w := w) (base := base) (spare := spare) (held := held) 0 hs hone hce h0 h1 u0 v0
  have p1 := trod_pair_mk (enc := enc) (w := w) (base := base) (spare := spare) (held := held) 0 hs hone hce h0 h1 u1 v1
  have p2 := trod_pair_mk (enc := enc) (w := w) (base := base) (spare := spare) (held := held) 0 hs hone hce h0 h1 u2 v2
  have p3 := trod_pair_mk (enc := enc) (w := w) (base := base) (spare := spare) (held := held) 0 hs hone hce h0 h1 u3 v3
  simp only [Nat.zero_add, Nat.reduceAdd] at p0 p1 p2 p3
  unfold DataW.trod
  rw [ht]
  simp [r4, hct, hce, Value.cells, p0, p1, p2, p3]
end
end Go.Proofs.Ytdgphjpjgldbaaa.Fix
