/- How a whole layer is told by a list of what is still to come, as plain lists. -/
import Derived.Test.YtbmidmpooooheaaPaStk
set_option maxRecDepth 100000
namespace Go.Proofs.Ytbmidmpooooheaa.Fix
open Go.ChangeShapes Go.WideShapes Go.ChangeAt Go.RowKit Go.Deep Go.Joins
set_option linter.unusedVariables false
set_option linter.unusedSimpArgs false

theorem flatMap_same {L : List Nat} {f g : Nat → List Nat} (h : ∀ x ∈ L, f x = g x) : L.flatMap f = L.flatMap g := by
  induction L with
  | nil => rfl
  | cons a t ih => rw [List.flatMap_cons, List.flatMap_cons, h a List.mem_cons_self, ih fun x hx => h x (List.mem_cons_of_mem _ hx)]

/-- all that is painted of a node, itself first -/
def ptr_ (l : Nat → PNd) (n p : Nat) : List Nat := Pa.paint n (pla l) (ply l) (pz l) (n - p) p

theorem ptr_plain {l : Nat → PNd} {n : Nat} (hv : PV l n) {p : Nat} (h0 : 0 < p) (hp : p < n) (hy : ply l p = false) : ptr_ l n p = [p] := by
  have no : ∀ c, c < n → 0 < c → pla l c ≠ p := fun c h1 h2 h3 => by
    rcases hv.ok.ly c h2 h1 with q | q
    · omega
    · rw [h3, hy] at q; cases q
  obtain ⟨f, hf⟩ : ∃ f, n - p = f + 1 := ⟨n - p - 1, by omega⟩
  have e1 : Pa.low n (pla l) (ply l) (pz l) p = [] := List.eq_nil_iff_forall_not_mem.2 fun c hc => by
    obtain ⟨⟨c1, c2, c3⟩, _⟩ := Pa.mem_low.1 hc
    exact no c c1 c2 c3
  have e2 : Pa.plain n (pla l) (ply l) p = [] := List.eq_nil_iff_forall_not_mem.2 fun c hc => by
    obtain ⟨⟨c1, c2, c3⟩, _⟩ := Pa.mem_plain.1 hc
    exact no c c1 c2 c3
  have e3 : Pa.high n (pla l) (ply l) (pz l) p = [] := List.eq_nil_iff_forall_not_mem.2 fun c hc => by
    obtain ⟨⟨c1, c2, c3⟩, _⟩ := Pa.mem_high.1 hc
    exact no c c1 c2 c3
  unfold ptr_
  rw [hf]
  simp only [Pa.paint, e1, e2, e3, List.flatMap_nil, List.append_nil]

theorem flatMap_self {L : List Nat} {f : Nat → List Nat} (h : ∀ x ∈ L, f x = [x]) : L.flatMap f = L := by
  induction L with
  | nil => rfl
  | cons a t ih => rw [List.flatMap_cons, h a List.mem_cons_self, ih fun x hx => h x (List.mem_cons_of_mem _ hx)]; rfl

theorem ptr_eq {l : Nat → PNd} {n : Nat} (hv : PV l n) {p : Nat} (hp : p < n) : ptr_ l n p = p :: (pstack l n (p : Int)).flatMap (ptr_ l n) := by
  obtain ⟨f, hf⟩ : ∃ f, n - p = f + 1 := ⟨n - p - 1, by omega⟩
  have e1 : (Pa.low n (pla l) (ply l) (pz l) p).flatMap (ptr_ l n) = (Pa.low n (pla l) (ply l) (pz l) p).flatMap (Pa.paint n (pla l) (ply l) (pz l) f) := flatMap_same fun c hc => by
    obtain ⟨⟨c1, c2, c3⟩, _⟩ := Pa.mem_low.1 hc
    have := hv.ok.lt c c2 c1
    exact Pa.paint_fuel hv.ok _ _ c (by omega) (by omega) c1
  have e2 : (Pa.high n (pla l) (ply l) (pz l) p).flatMap (ptr_ l n) = (Pa.high n (pla l) (ply l) (pz l) p).flatMap (Pa.paint n (pla l) (ply l) (pz l) f) := flatMap_same fun c hc => by
    obtain ⟨⟨c1, c2, c3⟩, _⟩ := Pa.mem_high.1 hc
    have := hv.ok.lt c c2 c1
    exact Pa.paint_fuel hv.ok _ _ c (by omega) (by omega) c1
  have e3 : (Pa.plain n (pla l) (ply l) p).flatMap (ptr_ l n) = Pa.plain n (pla l) (ply l) p := flatMap_self fun c hc => by
    obtain ⟨⟨c1, c2, c3⟩, h⟩ := Pa.mem_plain.1 hc
    exact ptr_plain hv c2 c1 h
  rw [pstack_eq, List.flatMap_append, List.flatMap_append, e1, e2, e3]
  unfold ptr_
  rw [hf]
  simp only [Pa.paint, List.append_assoc]

theorem pord_ptr {l : Nat → PNd} {n : Nat} (hv : PV l n) (h0 : 0 < n) : pord l n = ptr_ l n 0 := by
  rw [pord_some hv]
  unfold Pa.order ptr_
  rw [if_neg (by omega)]
  rfl

end Go.Proofs.Ytbmidmpooooheaa.Fix
