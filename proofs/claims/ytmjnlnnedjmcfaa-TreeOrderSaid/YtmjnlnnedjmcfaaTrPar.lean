/- A map of boxes that grows: the boxes of a tree, one by one, each in blocks of its own. -/
import Derived.Test.YtmjnlnnedjmcfaaTrRemove
namespace Go.Proofs.Ytmjnlnnedjmcfaa.Fix
open Go.ChangeShapes Go.WideShapes Go.ChangeAt Go.RowKit Go.Shelf
set_option linter.unusedVariables false
set_option linter.unusedSimpArgs false
set_option maxRecDepth 100000

/-- the blocks of boxes -/
def ownedP (L : Lay) (T : Tr.T) (b : Nat) : Prop := b = L.mb ∨ ∃ z nd, T z = some nd ∧ (b = L.bl z ∨ (L.sl z).ownBlock = some b)

/-- the boxes T lie in a map's blocks, all new since n0 -/
structure Par (W : World) (L : Lay) (T : Tr.T) (n0 m : Nat) : Prop where
  map : PM W L.mb m (fun z => (T z).map fun _ => L.bl z)
  box : ∀ z nd, T z = some nd → At W (L.bl z) (.cells (bcells nd.up (L.sl z) nd.sty) 69)
  row : ∀ z nd, T z = some nd → KS W (L.sl z) nd.kids
  inj : ∀ y z, T y ≠ none → T z ≠ none → L.bl y = L.bl z → y = z
  apart : ∀ y z g, T y ≠ none → T z ≠ none → (L.sl y).ownBlock = some g → (L.sl z).ownBlock = some g → y = z
  new : ∀ b, ownedP L T b → n0 ≤ b

section
variable {W W' : World} {L : Lay} {T : Tr.T} {n0 m : Nat}

theorem Par.out {M : Nat → Prop} (h : Par W L T n0 m) (hm : ∀ b, ownedP L T b → ¬ M b) (k : Out M W W') : Par W' L T n0 m where
  map := h.map.out (hm _ (.inl rfl)) k
  box := fun z nd hz => (h.box z nd hz).out (hm _ (.inr ⟨z, nd, hz, .inl rfl⟩)) k
  row := fun z nd hz => (h.row z nd hz).out (fun g hg => hm _ (.inr ⟨z, nd, hz, .inr hg⟩)) k
  inj := h.inj
  apart := h.apart
  new := h.new
theorem Par.after (h : Par W L T n0 m) (hb : Below W.heap.size W W') : Par W' L T n0 m := h.out (M := fun _ => False) (fun _ _ q => q) (Out.of_below hb)
theorem Par.lt (h : Par W L T n0 m) {b : Nat} (hb : ownedP L T b) : b < W.heap.size := by
  rcases hb with rfl | ⟨z, nd, hz, rfl | hg⟩
  · exact h.map.lt
  · exact (h.box z nd hz).lt
  · exact (h.row z nd hz).lt hg
theorem Par.bl_mb (h : Par W L T n0 m) {z : Int} {nd : Tr.Nd} (hz : T z = some nd) : L.bl z ≠ L.mb := fun e => by
  obtain ⟨es, clock, hm⟩ := h.map.obj
  have := (h.box z nd hz).uniq (e ▸ hm)
  cases this
theorem Par.sl_mb (h : Par W L T n0 m) {z : Int} {nd : Tr.Nd} (hz : T z = some nd) : (L.sl z).ownBlock ≠ some L.mb := fun e => by
  obtain ⟨es, clock, hm⟩ := h.map.obj
  obtain ⟨cur, hc⟩ := (h.row z nd hz).rowAt e
  have := hc.uniq hm
  cases this

/-- a box comes, in new blocks -/
theorem Par.add (h : Par W L T n0 m) {z : Int} {b : Nat} {u : Int} {v : Value} {l : List Int} {s : Re.St} (hz : T z = none) (hb : At W b (.cells (bcells u v s) 69)) (hv : KS W v l)
    (hb0 : n0 ≤ b) (hv0 : ∀ g, v.ownBlock = some g → n0 ≤ g) (hnew : ¬ ownedP L T b) (hvnew : ∀ g, v.ownBlock = some g → ¬ ownedP L T g) (hO : Out (fun x => x = L.mb) W W') (hm : PM W' L.mb (m + 1) (fset (fun z => (T z).map fun _ => L.bl z) z b)) :
    Par W' { L with bl := fun y => if y = z then b else L.bl y, sl := fun y => if y = z then v else L.sl y } (Tr.set T z ⟨u, l, s⟩) n0 (m + 1) := by
  have hne : ∀ y yd, T y = some yd → y ≠ z := fun y yd hy e => by rw [e, hz] at hy; cases hy
  have hbm : b ≠ L.mb := fun e => hnew (.inl e)
  have old : ∀ y, y ≠ z → (Tr.set T z ⟨u, l, s⟩ y ≠ none → T y ≠ none) := fun y e => by rw [Tr.set_other _ _ e]; exact id
  refine ⟨hm.congr fun y _ => ?_, fun y yd hy => ?_, fun y yd hy => ?_, fun x y hx hy => ?_, fun x y g hx hy => ?_, fun x hx => ?_⟩
  · unfold fset
    by_cases e : y = z
    · subst e; simp [Tr.set_same]
    · simp [e, Tr.set_other _ _ e]
  · by_cases e : y = z
    · subst e; rw [Tr.set_same] at hy; cases hy
      simp only [if_true]
      exact hb.out hbm hO
    · rw [Tr.set_other _ _ e] at hy
      simp only [if_neg e]
      exact (h.box y yd hy).out (fun q => h.bl_mb hy q) hO
  · by_cases e : y = z
    · subst e; rw [Tr.set_same] at hy; cases hy
      simp only [if_true]
      exact hv.out (fun g hg (q : g = L.mb) => hvnew g hg (.inl q)) hO
    · rw [Tr.set_other _ _ e] at hy
      simp only [if_neg e]
      exact (h.row y yd hy).out (fun g hg (q : g = L.mb) => h.sl_mb hy (by rw [hg, q])) hO
  · by_cases ex : x = z <;> by_cases ey : y = z
    · intro _; rw [ex, ey]
    · simp only [if_pos ex, if_neg ey]
      obtain ⟨yd, hyd⟩ := Option.ne_none_iff_exists'.1 (old y ey hy)
      exact fun e => (hnew (.inr ⟨y, yd, hyd, .inl e⟩)).elim
    · simp only [if_neg ex, if_pos ey]
      obtain ⟨xd, hxd⟩ := Option.ne_none_iff_exists'.1 (old x ex hx)
      exact fun e => (hnew (.inr ⟨x, xd, hxd, .inl e.symm⟩)).elim
    · simp only [if_neg ex, if_neg ey]
      exact h.inj x y (old x ex hx) (old y ey hy)
  · by_cases ex : x = z <;> by_cases ey : y = z
    · intro _ _; rw [ex, ey]
    · simp only [if_pos ex, if_neg ey]
      obtain ⟨yd, hyd⟩ := Option.ne_none_iff_exists'.1 (old y ey hy)
      exact fun e1 e2 => (hvnew g e1 (.inr ⟨y, yd, hyd, .inr e2⟩)).elim
    · simp only [if_neg ex, if_pos ey]
      obtain ⟨xd, hxd⟩ := Option.ne_none_iff_exists'.1 (old x ex hx)
      exact fun e1 e2 => (hvnew g e2 (.inr ⟨x, xd, hxd, .inr e1⟩)).elim
    · simp only [if_neg ex, if_neg ey]
      exact h.apart x y g (old x ex hx) (old y ey hy)
  · rcases hx with e | ⟨y, yd, hy, e⟩
    · exact h.new x (.inl e)
    · by_cases e2 : y = z
      · subst e2
        simp only [if_true] at e
        rcases e with rfl | e
        · exact hb0
        · exact hv0 x e
      · rw [Tr.set_other _ _ e2] at hy
        simp only [if_neg e2] at e
        exact h.new x (.inr ⟨y, yd, hy, e⟩)
end

/-- how many are in a map: as many as have a box -/
theorem PM.count : ∀ (l : List Int) {W : World} {b m : Nat} {f : Int → Option Nat}, PM W b m f → l.Nodup → (∀ z, z ∈ l → Wf z) → (∀ z, Wf z → (z ∈ l ↔ f z ≠ none)) → m = l.length
  | [], W, b, m, f, h, _, _, hl => by
    obtain ⟨D, h1, h2, h3⟩ := h
    obtain ⟨w', _, hr, _, _⟩ := h1.range keyLaw Try.underlying70
    rcases hr.next keyLaw 0 with ⟨h0, _⟩ | ⟨key, v, kl, y, w2, cnt', hk, hlk, _⟩
    · simpa [h2] using h0
    · obtain ⟨x, _, rfl, hx⟩ := Maps.keyOf_int_inv Try.underlying3 hk
      rw [(h3 x hx).2] at hlk
      have := (hl x hx).2 (by intro e; rw [e] at hlk; cases hlk)
      simp at this
  | z :: l, W, b, m, f, h, hn, hw, hl => by
    have hz := hw z (List.mem_cons_self)
    have hfz : f z ≠ none := (hl z hz).1 List.mem_cons_self
    obtain ⟨W', _, h', _, h1⟩ := h.drop hz (by cases e : f z with | none => exact absurd e hfz | some _ => rfl) 0
    obtain ⟨hn1, hn2⟩ := List.nodup_cons.1 hn
    have := PM.count l h' hn2 (fun y hy => hw y (List.mem_cons_of_mem _ hy)) (fun y hy => by
      unfold fdel
      by_cases e : y = z
      · subst e; simp [hn1]
      · rw [if_neg e, ← hl y hy, List.mem_cons]; simp [e])
    simp only [List.length_cons]
    omega

end Go.Proofs.Ytmjnlnnedjmcfaa.Fix
