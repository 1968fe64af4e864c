/- What places are compared by: the level of a node, the first that is not 0, and the closure that compares two places; the row of places that a sort turns. Written by genpalow.py. -/
import Derived.Test.YtbmidmpooooheaaPaModel
import Derived.Test.YtbmidmpooooheaaSort
import Derived.Test.YtbmidmpooooheaaPaOwn
import Derived.LoopN
namespace Go.Proofs.Ytbmidmpooooheaa.Drawn
open Go Fix
section
variable {P : Program} {ops : Array Oper} {Q : Exit → Act → World → Prop} {md : Region.Mode} {S : World → Prop} {m : Nat}
theorem gen_three {i j k : Nat} {o o2 o3 : Oper} {fuel : Nat} {listed : Array Bool} {a : Act} {w : World} (hr : Region.ready md ops listed = [i, j, k]) (hi0 : ops.toList[i]? = some o) (hj0 : ops.toList[j]? = some o2) (hk0 : ops.toList[k]? = some o3) (hw : Region.wanted o (yielded ops a.tmps) = true) (hw2 : Region.wanted o2 (yielded ops a.tmps) = true) (hw3 : Region.wanted o3 (yielded ops a.tmps) = true)
    (h : Step P (fun u w' => (i < m → S w') ∧ GenAny P md ops Q S m fuel (listed.setIfInBounds i true) (a.put o.dst u) w') ((execOp a.eval o).run P w))
    (h2 : Step P (fun u w' => (j < m → S w') ∧ GenAny P md ops Q S m fuel (listed.setIfInBounds j true) (a.put o2.dst u) w') ((execOp a.eval o2).run P w))
    (h3 : Step P (fun u w' => (k < m → S w') ∧ GenAny P md ops Q S m fuel (listed.setIfInBounds k true) (a.put o3.dst u) w') ((execOp a.eval o3).run P w)) : GenAny P md ops Q S m (fuel + 1) listed a w :=
  ⟨by rw [hr]; simp, fun q hq => by
    rw [hr] at hq
    rcases (show q = i ∨ q = j ∨ q = k by simpa using hq) with rfl | rfl | rfl
    · exact ⟨o, of_list hi0, .inl ⟨hw, h⟩⟩
    · exact ⟨o2, of_list hj0, .inl ⟨hw2, h2⟩⟩
    · exact ⟨o3, of_list hk0, .inl ⟨hw3, h3⟩⟩⟩
end
end Go.Proofs.Ytbmidmpooooheaa.Drawn

namespace Go.Proofs.Ytbmidmpooooheaa.Fix
open Go.ChangeShapes Go.WideShapes Go.ChangeAt Go.RowKit
set_option linter.unusedVariables false
set_option linter.unusedSimpArgs false
set_option maxRecDepth 100000

/-- a row of places, the nodes, and how many there are -/
structure PKS where
  V : Nat → Nat
  l : Nat → PNd
  N : Nat
/-- the level of a node, as one number -/
def plev (x : PNd) : Int := if x.ly = true then 2 * x.z + 1 else 0
def pkey (ks : PKS) (u : Nat) : Int := plev (ks.l (ks.V u))
def lvz (ly : Bool) (z : Int) : Int := if ly = true then z else 0
def lvo (ly : Bool) : Int := if ly = true then 1 else 0

theorem lev_cmp (b c : Bool) (z y : Int) : (if cmp3 (lvz b z) (lvz c y) = 0 then cmp3 (lvo b) (lvo c) else cmp3 (lvz b z) (lvz c y)) = cmp3 (if b = true then 2 * z + 1 else 0) (if c = true then 2 * y + 1 else 0) := by
  unfold cmp3 lvz lvo
  cases b <;> cases c <;> simp only [Bool.false_eq_true, if_false, if_true] <;> (repeat' split) <;> omega
theorem lev_cmp' {ks : PKS} {u v : Nat} : (if cmp3 (lvz (ks.l (ks.V u)).ly (ks.l (ks.V u)).z) (lvz (ks.l (ks.V v)).ly (ks.l (ks.V v)).z) = 0 then cmp3 (lvo (ks.l (ks.V u)).ly) (lvo (ks.l (ks.V v)).ly) else cmp3 (lvz (ks.l (ks.V u)).ly (ks.l (ks.V u)).z) (lvz (ks.l (ks.V v)).ly (ks.l (ks.V v)).z)) = cmp3 (pkey ks u) (pkey ks v) := lev_cmp _ _ _ _

/-- Block b begins with the places of the row X, n of them. -/
def IsV (ks : PKS) (w : World) (b : Nat) (X : Nat → Nat) (n : Nat) : Prop := ∃ T : Array Value, At w b (.cells (pRow (fun k => ks.V (X k)) n ++ T) 3)

theorem IsV.cell {ks : PKS} {w : World} {b n : Nat} {X : Nat → Nat} (h : IsV ks w b X n) {k : Nat} (hk : k < n) : w.cell? ⟨b, k, none⟩ = some (.int .i64 (ks.V (X k))) := by
  obtain ⟨T, h⟩ := h
  rw [At.cell h, Array.getElem?_append_left (by rw [pRow_size]; exact hk), pRow_get _ hk]
theorem IsV.thaw {ks : PKS} {w : World} {b n : Nat} {X : Nat → Nat} (h : IsV ks w b X n) (k : Nat) : w.frozen? ⟨b, k, none⟩ = false := by obtain ⟨T, h⟩ := h; exact At.thaw h k
theorem IsV.lt {ks : PKS} {w : World} {b n : Nat} {X : Nat → Nat} (h : IsV ks w b X n) : b < w.heap.size := by obtain ⟨T, h⟩ := h; exact At.lt h
theorem IsV.keep {ks : PKS} {w w' : World} {b n : Nat} {X : Nat → Nat} (h : IsV ks w b X n) (hb : Below w.heap.size w w') : IsV ks w' b X n := by obtain ⟨T, h⟩ := h; exact ⟨T, At.keep h hb⟩
theorem IsV.out {ks : PKS} {w w' : World} {b n : Nat} {X : Nat → Nat} {M : Nat → Prop} (h : IsV ks w b X n) (hm : ¬ M b) (hb : Out M w w') : IsV ks w' b X n := by obtain ⟨T, h⟩ := h; exact ⟨T, At.out h hm hb⟩
theorem upd_V (ks : PKS) (X : Nat → Nat) (k v : Nat) : So.upd (fun j => ks.V (X j)) k (ks.V v) = fun j => ks.V (So.upd X k v j) := by
  funext j
  unfold So.upd
  split <;> rfl
theorem IsV.set {ks : PKS} {w : World} {b n : Nat} {X : Nat → Nat} (h : IsV ks w b X n) (k v : Nat) : IsV ks (w.setCell ⟨b, k, none⟩ (.int .i64 (ks.V v))) b (So.upd X k v) n := by
  obtain ⟨T, h⟩ := h
  have h2 := At.set h k (.int .i64 (ks.V v))
  rw [Array.setIfInBounds_append, pRow_size] at h2
  split at h2
  · rw [pRow_set, upd_V] at h2
    exact ⟨_, h2⟩
  · rename_i hk
    refine ⟨T.setIfInBounds (k - n) (.int .i64 (ks.V v)), ?_⟩
    rw [show pRow (fun j => ks.V (So.upd X k v j)) n = pRow (fun j => ks.V (X j)) n from ?_]
    · exact h2
    · unfold pRow
      congr 1
      refine List.map_congr_left fun j hj => ?_
      have := List.mem_range.1 hj
      simp only [So.upd]
      rw [if_neg (by omega)]
theorem IsV.swapped {ks : PKS} {w : World} {b n : Nat} {X : Nat → Nat} (h : IsV ks w b X n) (i j : Nat) : IsV ks ((w.setCell ⟨b, i, none⟩ (.int .i64 (ks.V (X j)))).setCell ⟨b, j, none⟩ (.int .i64 (ks.V (X i)))).drew b (So.swap X i j) n := (h.set i (X j)).set j (X i)

/-- Of what was there only block b has turned. -/
def Only (b : Nat) (w w' : World) : Prop := Out (fun q => q = b) w w'
theorem Only.refl (b : Nat) (w : World) : Only b w w := Out.refl _ _
theorem Only.trans {b : Nat} {w w1 w2 : World} (h : Only b w w1) (k : Only b w1 w2) : Only b w w2 := Out.trans h k
theorem Only.of_below {b : Nat} {w w1 : World} (h : Below w.heap.size w w1) : Only b w w1 := Out.of_below h
theorem Only.swapped {b : Nat} {w w1 : World} (h : Only b w w1) (i j : Nat) (x y : Value) : Only b w ((w1.setCell ⟨b, i, none⟩ x).setCell ⟨b, j, none⟩ y).drew :=
  Out.drew (Out.set (Out.set (M := fun q => q = b) h rfl i x) rfl j y)

/-- The nodes that the places are compared by: a slice that lies in a box of its own, all of it in memory elder than block b. -/
structure PKeys (w : World) (b kb : Nat) (A : Option Addr) (ks : PKS) (n c : Nat) : Prop where
  box : w.cell? ⟨kb, 0, none⟩ = some (.slice A ks.N c)
  low : kb < b
  le : b ≤ w.heap.size
  nodes : PNodes w A ks.l ks.N
  here : 0 < ks.N → ∀ x, A = some x → x.block < b
  small : ks.N ≤ 1000
  bound : ∀ u, u < n → ks.V u < ks.N

theorem PKeys.keepB {w w' : World} {b kb n c : Nat} {A : Option Addr} {ks : PKS} (h : PKeys w b kb A ks n c) (hb : Below b w w') : PKeys w' b kb A ks n c :=
  ⟨(hb.cell (p := ⟨kb, 0, none⟩) h.low).trans h.box, h.low, Nat.le_trans h.le hb.size, h.nodes.keep hb h.here, h.here, h.small, h.bound⟩
theorem PKeys.keep {w w' : World} {b kb n c : Nat} {A : Option Addr} {ks : PKS} (h : PKeys w b kb A ks n c) (hb : Only b w w') : PKeys w' b kb A ks n c := h.keepB (Out.below hb h.le fun q hq e => by omega)
theorem PKeys.after {w w' : World} {b kb n c : Nat} {A : Option Addr} {ks : PKS} (h : PKeys w b kb A ks n c) (hb : Below w.heap.size w w') : PKeys w' b kb A ks n c := h.keepB (hb.mono h.le)

theorem plvl_any (u z : Int) (ly : Bool) (w : World) : Calls Try.prog 33 #[.agg #[.int .i64 u, .bool ly, .int .i64 z]] w fun e w' => e = .returned (.agg #[.int .i64 (lvz ly z), .int .i64 (lvo ly)]) ∧ Below w.heap.size w w' := by
  cases ly
  all_goals
    go_enter Try.func33, Try.ntmps33
    go_wp2
    refine bodyPost_ret (v := .agg #[.int .i64 _, .int .i64 _]) (by simp [results, Try.results33, go_sem, *]; first | done | exact ⟨rfl, rfl⟩ | rfl) rfl ⟨rfl, ?_⟩
    (repeat (first | exact Below.refl _ _ | assumption | refine Below.drew ?_ | refine Below.drewN ?_ _ | refine Below.alloc' ?_ _ | refine Below.setCell ?_ (by first | (simp; done) | (simp; omega)) _ | refine Below.after2 ?_ (Nat.le_refl _) (by assumption)))

theorem por_any (b : Nat) (x y z : Int) (w : World) (hz : (if x = 0 then y else x) = z) (hA : At w b (.cells #[.int .i64 x, .int .i64 y] 3)) : Calls Try.prog 34 #[.slice (some ⟨b, 0, none⟩) 2 2] w fun e w' => e = .returned (.int .i64 z) ∧ w = w' := by
  have HZ := Lib.hid hz
  clear hz
  have c0 := hA.cell 0
  have c1 := hA.cell 1
  simp at c0 c1
  have l0 := hA.lt
  by_cases hx : x = 0
  · subst hx
    by_cases hy : y = 0
    · subst hy
      go_enter Try.func34, Try.ntmps34
      go_wp2
      refine wp_loop_rounds 3 ?_
      rw [rounds_succ]; go_wp2
      rw [rounds_succ]; go_wp2
      rw [rounds_succ]; go_wp2
      go_ret
      exact ⟨ret_int (by rw [← HZ.out]; simp), rfl⟩
    · go_enter Try.func34, Try.ntmps34
      go_wp2
      refine wp_loop_rounds 3 ?_
      rw [rounds_succ]; go_wp2
      rw [rounds_succ]; go_wp2
      go_ret
      exact ⟨ret_int (by rw [← HZ.out]; simp), rfl⟩
  · go_enter Try.func34, Try.ntmps34
    go_wp2
    refine wp_loop_rounds 3 ?_
    rw [rounds_succ]; go_wp2
    go_ret
    exact ⟨ret_int (by rw [← HZ.out]; simp [hx]), rfl⟩

set_option maxHeartbeats 4000000 in
theorem plow_any (b kb : Nat) (A : Option Addr) (ks : PKS) (n c u v : Nat) (z : Int) (w : World) (hk : PKeys w b kb A ks n c) (hu : u < n) (hv : v < n) (hz : cmp3 (pkey ks u) (pkey ks v) = z) :
    Calls Try.prog 32 #[.int .i64 (ks.V u), .int .i64 (ks.V v), .pointer (some ⟨kb, 0, none⟩)] w fun e w' => e = .returned (.int .i64 z) ∧ Below w.heap.size w w' := by
  have hN := hk.small
  have hu1 := hk.bound u hu
  have hv1 := hk.bound v hv
  obtain ⟨b1, o1, rfl, l1, hc1⟩ := hk.nodes.at_ hu1
  obtain ⟨b2, o2, e2, l2, hc2⟩ := hk.nodes.at_ hv1
  injection e2 with e2
  injection e2 with e2 e3
  subst e2 e3
  have lk : kb < w.heap.size := Nat.lt_of_lt_of_le hk.low hk.le
  have ck := hk.box
  rw [← lev_cmp'] at hz
  have HZ := Lib.hid hz
  clear hz hk
  unfold PNdAt at hc1 hc2
  obtain ⟨c10, c11, c12⟩ := hc1
  obtain ⟨c20, c21, c22⟩ := hc2
  generalize ks.N = N at *
  generalize (ks.l (ks.V u)).up = up1 at *
  generalize (ks.l (ks.V u)).ly = ly1 at *
  generalize (ks.l (ks.V u)).z = z1 at *
  generalize (ks.l (ks.V v)).up = up2 at *
  generalize (ks.l (ks.V v)).ly = ly2 at *
  generalize (ks.l (ks.V v)).z = z2 at *
  generalize ks.V u = pu at *
  generalize ks.V v = pv at *
  obtain ⟨lv1, hlv1⟩ : ∃ lv1, lv1 = lvz ly1 z1 := ⟨_, rfl⟩
  obtain ⟨lv2, hlv2⟩ : ∃ lv2, lv2 = lvz ly2 z2 := ⟨_, rfl⟩
  obtain ⟨lo1, hlo1⟩ : ∃ lo1, lo1 = lvo ly1 := ⟨_, rfl⟩
  obtain ⟨lo2, hlo2⟩ : ∃ lo2, lo2 = lvo ly2 := ⟨_, rfl⟩
  have HL1 := plvl_any up1 z1 ly1
  have HL2 := plvl_any up2 z2 ly2
  rw [← hlv1, ← hlo1] at HL1
  rw [← hlv2, ← hlo2] at HL2
  rw [← hlv1, ← hlo1, ← hlv2, ← hlo2] at HZ
  clear hlv1 hlv2 hlo1 hlo2
  have HC1 := Lib.hid HL1
  have HC2 := Lib.hid HL2
  clear HL1 HL2
  go_enter Try.func32, Try.ntmps32
  go_upto_region 1 with (fail)
  refine Drawn.wp_behind (fun a0 a W5 => ∃ (n6 n7 : Nat) (u8 u9 u10 u11 u12 u13 u14 u15 u16 u17 : Value), a = { a0 with tmps := (((((((((((a0.tmps.setIfInBounds 8 u8).setIfInBounds 9 u9).setIfInBounds 10 u10).setIfInBounds 11 u11).setIfInBounds 12 u12).setIfInBounds 13 u13).setIfInBounds 14 u14).setIfInBounds 15 u15).setIfInBounds 16 u16).setIfInBounds 17 u17).setIfInBounds 6 (.pointer (some ⟨n6, 0, none⟩))).setIfInBounds 7 (.pointer (some ⟨n7, 0, none⟩)) } ∧
    At W5 n6 (.cells #[.int .i64 lv1, .int .i64 lo1] 56) ∧ At W5 n7 (.cells #[.int .i64 lv2, .int .i64 lo2] 56) ∧ Below w.heap.size w W5) ?_ ?_
  · refine Drawn.wp_region_gen (S := Below w.heap.size w) 14 (by kernel_rfl) ?_ ?_
    · exact (Below.refl _ _).drew
    intro hx
    (refine Drawn.gen_take (i := 0) rfl (by kernel_rfl) (by kernel_rfl) (by kernel_rfl) (by kernel_rfl) (by omega) (by assumption) (by first | exact .inr ⟨by rfl, rfl⟩ | exact .inl ⟨by rfl, by intro w2 hS; obtain ⟨hc, hf⟩ := bcell hS; go_simp; first | done | with_reducible rfl | exact ⟨rfl, rfl⟩⟩) ?_; (try simp only [Act.put, List.setIfInBounds_toArray, List.set_cons_zero, List.set_cons_succ]))
    (refine Drawn.gen_take (i := 1) rfl (by kernel_rfl) (by kernel_rfl) (by kernel_rfl) (by kernel_rfl) (by omega) (by assumption) (by first | exact .inr ⟨by rfl, rfl⟩ | exact .inl ⟨by rfl, by intro w2 hS; obtain ⟨hc, hf⟩ := bcell hS; go_simp; first | done | with_reducible rfl | exact ⟨rfl, rfl⟩⟩) ?_; (try simp only [Act.put, List.setIfInBounds_toArray, List.set_cons_zero, List.set_cons_succ]))
    (refine Drawn.gen_take (i := 2) rfl (by kernel_rfl) (by kernel_rfl) (by kernel_rfl) (by kernel_rfl) (by omega) (by assumption) (by first | exact .inr ⟨by rfl, rfl⟩ | exact .inl ⟨by rfl, by intro w2 hS; obtain ⟨hc, hf⟩ := bcell hS; go_simp; first | done | with_reducible rfl | exact ⟨rfl, rfl⟩⟩) ?_; (try simp only [Act.put, List.setIfInBounds_toArray, List.set_cons_zero, List.set_cons_succ]))
    (refine Drawn.gen_take (i := 3) rfl (by kernel_rfl) (by kernel_rfl) (by kernel_rfl) (by kernel_rfl) (by omega) (by assumption) (by first | exact .inr ⟨by rfl, rfl⟩ | exact .inl ⟨by rfl, by intro w2 hS; obtain ⟨hc, hf⟩ := bcell hS; go_simp; first | done | with_reducible rfl | exact ⟨rfl, rfl⟩⟩) ?_; (try simp only [Act.put, List.setIfInBounds_toArray, List.set_cons_zero, List.set_cons_succ]))
    (refine Drawn.gen_take (i := 5) rfl (by kernel_rfl) (by kernel_rfl) (by kernel_rfl) (by kernel_rfl) (by omega) (by assumption) (by first | exact .inr ⟨by rfl, rfl⟩ | exact .inl ⟨by rfl, by intro w2 hS; obtain ⟨hc, hf⟩ := bcell hS; go_simp; first | done | with_reducible rfl | exact ⟨rfl, rfl⟩⟩) ?_; (try simp only [Act.put, List.setIfInBounds_toArray, List.set_cons_zero, List.set_cons_succ]))
    (refine Drawn.gen_take (i := 6) rfl (by kernel_rfl) (by kernel_rfl) (by kernel_rfl) (by kernel_rfl) (by omega) (by assumption) (by first | exact .inr ⟨by rfl, rfl⟩ | exact .inl ⟨by rfl, by intro w2 hS; obtain ⟨hc, hf⟩ := bcell hS; go_simp; first | done | with_reducible rfl | exact ⟨rfl, rfl⟩⟩) ?_; (try simp only [Act.put, List.setIfInBounds_toArray, List.set_cons_zero, List.set_cons_succ]))
    (refine Drawn.gen_take (i := 7) rfl (by kernel_rfl) (by kernel_rfl) (by kernel_rfl) (by kernel_rfl) (by omega) (by assumption) (by first | exact .inr ⟨by rfl, rfl⟩ | exact .inl ⟨by rfl, by intro w2 hS; obtain ⟨hc, hf⟩ := bcell hS; go_simp; first | done | with_reducible rfl | exact ⟨rfl, rfl⟩⟩) ?_; (try simp only [Act.put, List.setIfInBounds_toArray, List.set_cons_zero, List.set_cons_succ]))
    (refine Drawn.gen_take (i := 8) rfl (by kernel_rfl) (by kernel_rfl) (by kernel_rfl) (by kernel_rfl) (by omega) (by assumption) (by first | exact .inr ⟨by rfl, rfl⟩ | exact .inl ⟨by rfl, by intro w2 hS; obtain ⟨hc, hf⟩ := bcell hS; go_simp; first | done | with_reducible rfl | exact ⟨rfl, rfl⟩⟩) ?_; (try simp only [Act.put, List.setIfInBounds_toArray, List.set_cons_zero, List.set_cons_succ]))
    clear ck lk c10 c11 c12 c20 c21 c22 l1 l2
    generalize w.drew = W0 at *
    refine Drawn.gen_three (i := 4) (j := 10) (k := 11) (by kernel_rfl) rfl rfl rfl (by rfl) (by rfl) (by rfl) ?_ ?_ ?_
    · refine Drawn.Step.call (by go_simp; first | done | with_reducible rfl | exact ⟨rfl, rfl⟩) (HC1.out _) ?_
      rintro e w11 ⟨rfl, hb⟩
      replace hx := Below.after2 hx (Nat.le_refl _) hb
      clear hb
      refine ⟨_, rfl, fun _ => hx, ?_⟩
      (try simp only [Act.put, List.setIfInBounds_toArray, List.set_cons_zero, List.set_cons_succ])
      refine Drawn.gen_three (i := 9) (j := 10) (k := 11) (by kernel_rfl) rfl rfl rfl (by rfl) (by rfl) (by rfl) ?_ ?_ ?_
      · refine Drawn.Step.call (by go_simp; first | done | with_reducible rfl | exact ⟨rfl, rfl⟩) (HC2.out _) ?_
        rintro e w12 ⟨rfl, hb⟩
        replace hx := Below.after2 hx (Nat.le_refl _) hb
        clear hb
        refine ⟨_, rfl, fun _ => hx, ?_⟩
        (try simp only [Act.put, List.setIfInBounds_toArray, List.set_cons_zero, List.set_cons_succ])
        refine Drawn.gen_two (i := 10) (j := 11) (by kernel_rfl) rfl rfl (by rfl) (by rfl) ?_ ?_
        · refine Drawn.Step.value (u := .pointer (some ⟨w12.heap.size, 0, none⟩)) (w' := w12.alloc (.cells #[.int .i64 0, .int .i64 0] 56)) (by go_simp; first | done | with_reducible rfl | exact ⟨rfl, rfl⟩) ?_
          obtain ⟨w13, hw9, A6, hb9, hs9⟩ : ∃ w9, w9 = w12.alloc (.cells #[.int .i64 0, .int .i64 0] 56) ∧ At w9 w12.heap.size (.cells #[.int .i64 0, .int .i64 0] 56) ∧ Below w12.heap.size w12 w9 ∧ w.heap.size ≤ w12.heap.size := ⟨_, rfl, At.new _ _, Below.alloc' (Below.refl _ _) _, hx.size⟩
          rw [← hw9]
          clear hw9
          replace hx := Below.after2 hx (Nat.le_refl _) hb9
          clear hb9
          generalize w12.heap.size = n6 at *
          rename w.heap.size ≤ n6 => g6
          refine ⟨fun _ => hx, ?_⟩
          (try simp only [Act.put, List.setIfInBounds_toArray, List.set_cons_zero, List.set_cons_succ])
          refine Drawn.gen_one (i := 11) (by kernel_rfl) rfl (by rfl) ?_
          · refine Drawn.Step.value (u := .pointer (some ⟨w13.heap.size, 0, none⟩)) (w' := w13.alloc (.cells #[.int .i64 0, .int .i64 0] 56)) (by go_simp; first | done | with_reducible rfl | exact ⟨rfl, rfl⟩) ?_
            obtain ⟨w14, hw9, A7, hb9, hs9⟩ : ∃ w9, w9 = w13.alloc (.cells #[.int .i64 0, .int .i64 0] 56) ∧ At w9 w13.heap.size (.cells #[.int .i64 0, .int .i64 0] 56) ∧ Below w13.heap.size w13 w9 ∧ w.heap.size ≤ w13.heap.size := ⟨_, rfl, At.new _ _, Below.alloc' (Below.refl _ _) _, hx.size⟩
            rw [← hw9]
            clear hw9
            have hne : n6 ≠ w13.heap.size := Nat.ne_of_lt A6.lt
            replace A6 := A6.keep hb9
            replace hx := Below.after2 hx (Nat.le_refl _) hb9
            clear hb9
            generalize w13.heap.size = n7 at *
            rename w.heap.size ≤ n7 => g7
            refine ⟨fun _ => hx, ?_⟩
            (try simp only [Act.put, List.setIfInBounds_toArray, List.set_cons_zero, List.set_cons_succ])
            have ne67 : n6 ≠ n7 := by first | exact hne | exact Ne.symm hne
            clear hne
            have l6 := A6.lt
            have l7 := A7.lt
            have c60 := A6.cell 0
            have c61 := A6.cell 1
            have c70 := A7.cell 0
            have c71 := A7.cell 1
            simp only [List.getElem?_toArray, List.getElem?_cons_zero, List.getElem?_cons_succ] at c60 c61 c70 c71
            have z60 := A6.thaw 0
            have z61 := A6.thaw 1
            have z70 := A7.thaw 0
            have z71 := A7.thaw 1
            refine Drawn.gen_one (i := 12) (by kernel_rfl) rfl (by rfl) ?_
            refine Drawn.Step.skip (by go_simp; first | done | with_reducible rfl | exact ⟨rfl, rfl⟩) ?_
            generalize hW1 : World.setCell _ _ _ = W1
            have A8 : At W1 n6 (.cells #[.int .i64 lv1, .int .i64 lo1] 56) := hW1 ▸ (A6.set 0 _).set 1 _
            have A9 : At W1 n7 (.cells #[.int .i64 0, .int .i64 0] 56) := hW1 ▸ (A7.off (Ne.symm ne67) _ _).off (Ne.symm ne67) _ _
            have hx1 : Below w.heap.size w W1 := hW1 ▸ Below.setCell (Below.setCell hx g6 _) g6 _
            clear hW1 A6 A7 hx l6 l7 c60 c61 c70 c71 z60 z61 z70 z71
            have l7 := A9.lt
            have c70 := A9.cell 0
            have c71 := A9.cell 1
            simp only [List.getElem?_toArray, List.getElem?_cons_zero, List.getElem?_cons_succ] at c70 c71
            have z70 := A9.thaw 0
            have z71 := A9.thaw 1
            refine ⟨fun _ => hx1, ?_⟩
            (try simp only [Act.put, List.setIfInBounds_toArray, List.set_cons_zero, List.set_cons_succ])
            refine Drawn.gen_one (i := 13) (by kernel_rfl) rfl (by rfl) ?_
            refine Drawn.Step.skip (by go_simp; first | done | with_reducible rfl | exact ⟨rfl, rfl⟩) ?_
            generalize hW1 : World.setCell _ _ _ = W3
            have A10 : At W3 n6 (.cells #[.int .i64 lv1, .int .i64 lo1] 56) := hW1 ▸ (A8.off ne67 _ _).off ne67 _ _
            have A11 : At W3 n7 (.cells #[.int .i64 lv2, .int .i64 lo2] 56) := hW1 ▸ (A9.set 0 _).set 1 _
            have hx3 : Below w.heap.size w W3 := hW1 ▸ Below.setCell (Below.setCell hx1 g7 _) g7 _
            refine ⟨fun _ => hx3, ?_⟩
            (try simp only [Act.put, List.setIfInBounds_toArray, List.set_cons_zero, List.set_cons_succ])
            refine Drawn.gen_end (by kernel_rfl) ?_
            exact ⟨rfl, n6, n7, _, _, _, _, _, _, _, _, _, _, rfl, A10, A11, hx3⟩
        · refine Drawn.Step.value (u := .pointer (some ⟨w12.heap.size, 0, none⟩)) (w' := w12.alloc (.cells #[.int .i64 0, .int .i64 0] 56)) (by go_simp; first | done | with_reducible rfl | exact ⟨rfl, rfl⟩) ?_
          obtain ⟨w15, hw9, A7, hb9, hs9⟩ : ∃ w9, w9 = w12.alloc (.cells #[.int .i64 0, .int .i64 0] 56) ∧ At w9 w12.heap.size (.cells #[.int .i64 0, .int .i64 0] 56) ∧ Below w12.heap.size w12 w9 ∧ w.heap.size ≤ w12.heap.size := ⟨_, rfl, At.new _ _, Below.alloc' (Below.refl _ _) _, hx.size⟩
          rw [← hw9]
          clear hw9
          replace hx := Below.after2 hx (Nat.le_refl _) hb9
          clear hb9
          generalize w12.heap.size = n7 at *
          rename w.heap.size ≤ n7 => g7
          refine ⟨fun _ => hx, ?_⟩
          (try simp only [Act.put, List.setIfInBounds_toArray, List.set_cons_zero, List.set_cons_succ])
          refine Drawn.gen_one (i := 10) (by kernel_rfl) rfl (by rfl) ?_
          · refine Drawn.Step.value (u := .pointer (some ⟨w15.heap.size, 0, none⟩)) (w' := w15.alloc (.cells #[.int .i64 0, .int .i64 0] 56)) (by go_simp; first | done | with_reducible rfl | exact ⟨rfl, rfl⟩) ?_
            obtain ⟨w16, hw9, A6, hb9, hs9⟩ : ∃ w9, w9 = w15.alloc (.cells #[.int .i64 0, .int .i64 0] 56) ∧ At w9 w15.heap.size (.cells #[.int .i64 0, .int .i64 0] 56) ∧ Below w15.heap.size w15 w9 ∧ w.heap.size ≤ w15.heap.size := ⟨_, rfl, At.new _ _, Below.alloc' (Below.refl _ _) _, hx.size⟩
            rw [← hw9]
            clear hw9
            have hne : n7 ≠ w15.heap.size := Nat.ne_of_lt A7.lt
            replace A7 := A7.keep hb9
            replace hx := Below.after2 hx (Nat.le_refl _) hb9
            clear hb9
            generalize w15.heap.size = n6 at *
            rename w.heap.size ≤ n6 => g6
            refine ⟨fun _ => hx, ?_⟩
            (try simp only [Act.put, List.setIfInBounds_toArray, List.set_cons_zero, List.set_cons_succ])
            have ne67 : n6 ≠ n7 := by first | exact hne | exact Ne.symm hne
            clear hne
            have l6 := A6.lt
            have l7 := A7.lt
            have c60 := A6.cell 0
            have c61 := A6.cell 1
            have c70 := A7.cell 0
            have c71 := A7.cell 1
            simp only [List.getElem?_toArray, List.getElem?_cons_zero, List.getElem?_cons_succ] at c60 c61 c70 c71
            have z60 := A6.thaw 0
            have z61 := A6.thaw 1
            have z70 := A7.thaw 0
            have z71 := A7.thaw 1
            refine Drawn.gen_one (i := 12) (by kernel_rfl) rfl (by rfl) ?_
            refine Drawn.Step.skip (by go_simp; first | done | with_reducible rfl | exact ⟨rfl, rfl⟩) ?_
            generalize hW1 : World.setCell _ _ _ = W1
            have A8 : At W1 n6 (.cells #[.int .i64 lv1, .int .i64 lo1] 56) := hW1 ▸ (A6.set 0 _).set 1 _
            have A9 : At W1 n7 (.cells #[.int .i64 0, .int .i64 0] 56) := hW1 ▸ (A7.off (Ne.symm ne67) _ _).off (Ne.symm ne67) _ _
            have hx1 : Below w.heap.size w W1 := hW1 ▸ Below.setCell (Below.setCell hx g6 _) g6 _
            clear hW1 A6 A7 hx l6 l7 c60 c61 c70 c71 z60 z61 z70 z71
            have l7 := A9.lt
            have c70 := A9.cell 0
            have c71 := A9.cell 1
            simp only [List.getElem?_toArray, List.getElem?_cons_zero, List.getElem?_cons_succ] at c70 c71
            have z70 := A9.thaw 0
            have z71 := A9.thaw 1
            refine ⟨fun _ => hx1, ?_⟩
            (try simp only [Act.put, List.setIfInBounds_toArray, List.set_cons_zero, List.set_cons_succ])
            refine Drawn.gen_one (i := 13) (by kernel_rfl) rfl (by rfl) ?_
            refine Drawn.Step.skip (by go_simp; first | done | with_reducible rfl | exact ⟨rfl, rfl⟩) ?_
            generalize hW1 : World.setCell _ _ _ = W3
            have A10 : At W3 n6 (.cells #[.int .i64 lv1, .int .i64 lo1] 56) := hW1 ▸ (A8.off ne67 _ _).off ne67 _ _
            have A11 : At W3 n7 (.cells #[.int .i64 lv2, .int .i64 lo2] 56) := hW1 ▸ (A9.set 0 _).set 1 _
            have hx3 : Below w.heap.size w W3 := hW1 ▸ Below.setCell (Below.setCell hx1 g7 _) g7 _
            refine ⟨fun _ => hx3, ?_⟩
            (try simp only [Act.put, List.setIfInBounds_toArray, List.set_cons_zero, List.set_cons_succ])
            refine Drawn.gen_end (by kernel_rfl) ?_
            exact ⟨rfl, n6, n7, _, _, _, _, _, _, _, _, _, _, rfl, A10, A11, hx3⟩
      · refine Drawn.Step.value (u := .pointer (some ⟨w11.heap.size, 0, none⟩)) (w' := w11.alloc (.cells #[.int .i64 0, .int .i64 0] 56)) (by go_simp; first | done | with_reducible rfl | exact ⟨rfl, rfl⟩) ?_
        obtain ⟨w17, hw9, A6, hb9, hs9⟩ : ∃ w9, w9 = w11.alloc (.cells #[.int .i64 0, .int .i64 0] 56) ∧ At w9 w11.heap.size (.cells #[.int .i64 0, .int .i64 0] 56) ∧ Below w11.heap.size w11 w9 ∧ w.heap.size ≤ w11.heap.size := ⟨_, rfl, At.new _ _, Below.alloc' (Below.refl _ _) _, hx.size⟩
        rw [← hw9]
        clear hw9
        replace hx := Below.after2 hx (Nat.le_refl _) hb9
        clear hb9
        generalize w11.heap.size = n6 at *
        rename w.heap.size ≤ n6 => g6
        refine ⟨fun _ => hx, ?_⟩
        (try simp only [Act.put, List.setIfInBounds_toArray, List.set_cons_zero, List.set_cons_succ])
        refine Drawn.gen_two (i := 9) (j := 11) (by kernel_rfl) rfl rfl (by rfl) (by rfl) ?_ ?_
        · refine Drawn.Step.call (by go_simp; first | done | with_reducible rfl | exact ⟨rfl, rfl⟩) (HC2.out _) ?_
          rintro e w18 ⟨rfl, hb⟩
          replace A6 := A6.keep hb
          replace hx := Below.after2 hx (Nat.le_refl _) hb
          clear hb
          refine ⟨_, rfl, fun _ => hx, ?_⟩
          (try simp only [Act.put, List.setIfInBounds_toArray, List.set_cons_zero, List.set_cons_succ])
          refine Drawn.gen_one (i := 11) (by kernel_rfl) rfl (by rfl) ?_
          · refine Drawn.Step.value (u := .pointer (some ⟨w18.heap.size, 0, none⟩)) (w' := w18.alloc (.cells #[.int .i64 0, .int .i64 0] 56)) (by go_simp; first | done | with_reducible rfl | exact ⟨rfl, rfl⟩) ?_
            obtain ⟨w19, hw9, A7, hb9, hs9⟩ : ∃ w9, w9 = w18.alloc (.cells #[.int .i64 0, .int .i64 0] 56) ∧ At w9 w18.heap.size (.cells #[.int .i64 0, .int .i64 0] 56) ∧ Below w18.heap.size w18 w9 ∧ w.heap.size ≤ w18.heap.size := ⟨_, rfl, At.new _ _, Below.alloc' (Below.refl _ _) _, hx.size⟩
            rw [← hw9]
            clear hw9
            have hne : n6 ≠ w18.heap.size := Nat.ne_of_lt A6.lt
            replace A6 := A6.keep hb9
            replace hx := Below.after2 hx (Nat.le_refl _) hb9
            clear hb9
            generalize w18.heap.size = n7 at *
            rename w.heap.size ≤ n7 => g7
            refine ⟨fun _ => hx, ?_⟩
            (try simp only [Act.put, List.setIfInBounds_toArray, List.set_cons_zero, List.set_cons_succ])
            have ne67 : n6 ≠ n7 := by first | exact hne | exact Ne.symm hne
            clear hne
            have l6 := A6.lt
            have l7 := A7.lt
            have c60 := A6.cell 0
            have c61 := A6.cell 1
            have c70 := A7.cell 0
            have c71 := A7.cell 1
            simp only [List.getElem?_toArray, List.getElem?_cons_zero, List.getElem?_cons_succ] at c60 c61 c70 c71
            have z60 := A6.thaw 0
            have z61 := A6.thaw 1
            have z70 := A7.thaw 0
            have z71 := A7.thaw 1
            refine Drawn.gen_one (i := 12) (by kernel_rfl) rfl (by rfl) ?_
            refine Drawn.Step.skip (by go_simp; first | done | with_reducible rfl | exact ⟨rfl, rfl⟩) ?_
            generalize hW1 : World.setCell _ _ _ = W1
            have A8 : At W1 n6 (.cells #[.int .i64 lv1, .int .i64 lo1] 56) := hW1 ▸ (A6.set 0 _).set 1 _
            have A9 : At W1 n7 (.cells #[.int .i64 0, .int .i64 0] 56) := hW1 ▸ (A7.off (Ne.symm ne67) _ _).off (Ne.symm ne67) _ _
            have hx1 : Below w.heap.size w W1 := hW1 ▸ Below.setCell (Below.setCell hx g6 _) g6 _
            clear hW1 A6 A7 hx l6 l7 c60 c61 c70 c71 z60 z61 z70 z71
            have l7 := A9.lt
            have c70 := A9.cell 0
            have c71 := A9.cell 1
            simp only [List.getElem?_toArray, List.getElem?_cons_zero, List.getElem?_cons_succ] at c70 c71
            have z70 := A9.thaw 0
            have z71 := A9.thaw 1
            refine ⟨fun _ => hx1, ?_⟩
            (try simp only [Act.put, List.setIfInBounds_toArray, List.set_cons_zero, List.set_cons_succ])
            refine Drawn.gen_one (i := 13) (by kernel_rfl) rfl (by rfl) ?_
            refine Drawn.Step.skip (by go_simp; first | done | with_reducible rfl | exact ⟨rfl, rfl⟩) ?_
            generalize hW1 : World.setCell _ _ _ = W3
            have A10 : At W3 n6 (.cells #[.int .i64 lv1, .int .i64 lo1] 56) := hW1 ▸ (A8.off ne67 _ _).off ne67 _ _
            have A11 : At W3 n7 (.cells #[.int .i64 lv2, .int .i64 lo2] 56) := hW1 ▸ (A9.set 0 _).set 1 _
            have hx3 : Below w.heap.size w W3 := hW1 ▸ Below.setCell (Below.setCell hx1 g7 _) g7 _
            refine ⟨fun _ => hx3, ?_⟩
            (try simp only [Act.put, List.setIfInBounds_toArray, List.set_cons_zero, List.set_cons_succ])
            refine Drawn.gen_end (by kernel_rfl) ?_
            exact ⟨rfl, n6, n7, _, _, _, _, _, _, _, _, _, _, rfl, A10, A11, hx3⟩
        · refine Drawn.Step.value (u := .pointer (some ⟨w17.heap.size, 0, none⟩)) (w' := w17.alloc (.cells #[.int .i64 0, .int .i64 0] 56)) (by go_simp; first | done | with_reducible rfl | exact ⟨rfl, rfl⟩) ?_
          obtain ⟨w20, hw9, A7, hb9, hs9⟩ : ∃ w9, w9 = w17.alloc (.cells #[.int .i64 0, .int .i64 0] 56) ∧ At w9 w17.heap.size (.cells #[.int .i64 0, .int .i64 0] 56) ∧ Below w17.heap.size w17 w9 ∧ w.heap.size ≤ w17.heap.size := ⟨_, rfl, At.new _ _, Below.alloc' (Below.refl _ _) _, hx.size⟩
          rw [← hw9]
          clear hw9
          have hne : n6 ≠ w17.heap.size := Nat.ne_of_lt A6.lt
          replace A6 := A6.keep hb9
          replace hx := Below.after2 hx (Nat.le_refl _) hb9
          clear hb9
          generalize w17.heap.size = n7 at *
          rename w.heap.size ≤ n7 => g7
          refine ⟨fun _ => hx, ?_⟩
          (try simp only [Act.put, List.setIfInBounds_toArray, List.set_cons_zero, List.set_cons_succ])
          refine Drawn.gen_one (i := 9) (by kernel_rfl) rfl (by rfl) ?_
          · refine Drawn.Step.call (by go_simp; first | done | with_reducible rfl | exact ⟨rfl, rfl⟩) (HC2.out _) ?_
            rintro e w21 ⟨rfl, hb⟩
            replace A6 := A6.keep hb
            replace A7 := A7.keep hb
            replace hx := Below.after2 hx (Nat.le_refl _) hb
            clear hb
            refine ⟨_, rfl, fun _ => hx, ?_⟩
            (try simp only [Act.put, List.setIfInBounds_toArray, List.set_cons_zero, List.set_cons_succ])
            have ne67 : n6 ≠ n7 := by first | exact hne | exact Ne.symm hne
            clear hne
            have l6 := A6.lt
            have l7 := A7.lt
            have c60 := A6.cell 0
            have c61 := A6.cell 1
            have c70 := A7.cell 0
            have c71 := A7.cell 1
            simp only [List.getElem?_toArray, List.getElem?_cons_zero, List.getElem?_cons_succ] at c60 c61 c70 c71
            have z60 := A6.thaw 0
            have z61 := A6.thaw 1
            have z70 := A7.thaw 0
            have z71 := A7.thaw 1
            refine Drawn.gen_one (i := 12) (by kernel_rfl) rfl (by rfl) ?_
            refine Drawn.Step.skip (by go_simp; first | done | with_reducible rfl | exact ⟨rfl, rfl⟩) ?_
            generalize hW1 : World.setCell _ _ _ = W1
            have A8 : At W1 n6 (.cells #[.int .i64 lv1, .int .i64 lo1] 56) := hW1 ▸ (A6.set 0 _).set 1 _
            have A9 : At W1 n7 (.cells #[.int .i64 0, .int .i64 0] 56) := hW1 ▸ (A7.off (Ne.symm ne67) _ _).off (Ne.symm ne67) _ _
            have hx1 : Below w.heap.size w W1 := hW1 ▸ Below.setCell (Below.setCell hx g6 _) g6 _
            clear hW1 A6 A7 hx l6 l7 c60 c61 c70 c71 z60 z61 z70 z71
            have l7 := A9.lt
            have c70 := A9.cell 0
            have c71 := A9.cell 1
            simp only [List.getElem?_toArray, List.getElem?_cons_zero, List.getElem?_cons_succ] at c70 c71
            have z70 := A9.thaw 0
            have z71 := A9.thaw 1
            refine ⟨fun _ => hx1, ?_⟩
            (try simp only [Act.put, List.setIfInBounds_toArray, List.set_cons_zero, List.set_cons_succ])
            refine Drawn.gen_one (i := 13) (by kernel_rfl) rfl (by rfl) ?_
            refine Drawn.Step.skip (by go_simp; first | done | with_reducible rfl | exact ⟨rfl, rfl⟩) ?_
            generalize hW1 : World.setCell _ _ _ = W3
            have A10 : At W3 n6 (.cells #[.int .i64 lv1, .int .i64 lo1] 56) := hW1 ▸ (A8.off ne67 _ _).off ne67 _ _
            have A11 : At W3 n7 (.cells #[.int .i64 lv2, .int .i64 lo2] 56) := hW1 ▸ (A9.set 0 _).set 1 _
            have hx3 : Below w.heap.size w W3 := hW1 ▸ Below.setCell (Below.setCell hx1 g7 _) g7 _
            refine ⟨fun _ => hx3, ?_⟩
            (try simp only [Act.put, List.setIfInBounds_toArray, List.set_cons_zero, List.set_cons_succ])
            refine Drawn.gen_end (by kernel_rfl) ?_
            exact ⟨rfl, n6, n7, _, _, _, _, _, _, _, _, _, _, rfl, A10, A11, hx3⟩
      · refine Drawn.Step.value (u := .pointer (some ⟨w11.heap.size, 0, none⟩)) (w' := w11.alloc (.cells #[.int .i64 0, .int .i64 0] 56)) (by go_simp; first | done | with_reducible rfl | exact ⟨rfl, rfl⟩) ?_
        obtain ⟨w22, hw9, A7, hb9, hs9⟩ : ∃ w9, w9 = w11.alloc (.cells #[.int .i64 0, .int .i64 0] 56) ∧ At w9 w11.heap.size (.cells #[.int .i64 0, .int .i64 0] 56) ∧ Below w11.heap.size w11 w9 ∧ w.heap.size ≤ w11.heap.size := ⟨_, rfl, At.new _ _, Below.alloc' (Below.refl _ _) _, hx.size⟩
        rw [← hw9]
        clear hw9
        replace hx := Below.after2 hx (Nat.le_refl _) hb9
        clear hb9
        generalize w11.heap.size = n7 at *
        rename w.heap.size ≤ n7 => g7
        refine ⟨fun _ => hx, ?_⟩
        (try simp only [Act.put, List.setIfInBounds_toArray, List.set_cons_zero, List.set_cons_succ])
        refine Drawn.gen_two (i := 9) (j := 10) (by kernel_rfl) rfl rfl (by rfl) (by rfl) ?_ ?_
        · refine Drawn.Step.call (by go_simp; first | done | with_reducible rfl | exact ⟨rfl, rfl⟩) (HC2.out _) ?_
          rintro e w23 ⟨rfl, hb⟩
          replace A7 := A7.keep hb
          replace hx := Below.after2 hx (Nat.le_refl _) hb
          clear hb
          refine ⟨_, rfl, fun _ => hx, ?_⟩
          (try simp only [Act.put, List.setIfInBounds_toArray, List.set_cons_zero, List.set_cons_succ])
          refine Drawn.gen_one (i := 10) (by kernel_rfl) rfl (by rfl) ?_
          · refine Drawn.Step.value (u := .pointer (some ⟨w23.heap.size, 0, none⟩)) (w' := w23.alloc (.cells #[.int .i64 0, .int .i64 0] 56)) (by go_simp; first | done | with_reducible rfl | exact ⟨rfl, rfl⟩) ?_
            obtain ⟨w24, hw9, A6, hb9, hs9⟩ : ∃ w9, w9 = w23.alloc (.cells #[.int .i64 0, .int .i64 0] 56) ∧ At w9 w23.heap.size (.cells #[.int .i64 0, .int .i64 0] 56) ∧ Below w23.heap.size w23 w9 ∧ w.heap.size ≤ w23.heap.size := ⟨_, rfl, At.new _ _, Below.alloc' (Below.refl _ _) _, hx.size⟩
            rw [← hw9]
            clear hw9
            have hne : n7 ≠ w23.heap.size := Nat.ne_of_lt A7.lt
            replace A7 := A7.keep hb9
            replace hx := Below.after2 hx (Nat.le_refl _) hb9
            clear hb9
            generalize w23.heap.size = n6 at *
            rename w.heap.size ≤ n6 => g6
            refine ⟨fun _ => hx, ?_⟩
            (try simp only [Act.put, List.setIfInBounds_toArray, List.set_cons_zero, List.set_cons_succ])
            have ne67 : n6 ≠ n7 := by first | exact hne | exact Ne.symm hne
            clear hne
            have l6 := A6.lt
            have l7 := A7.lt
            have c60 := A6.cell 0
            have c61 := A6.cell 1
            have c70 := A7.cell 0
            have c71 := A7.cell 1
            simp only [List.getElem?_toArray, List.getElem?_cons_zero, List.getElem?_cons_succ] at c60 c61 c70 c71
            have z60 := A6.thaw 0
            have z61 := A6.thaw 1
            have z70 := A7.thaw 0
            have z71 := A7.thaw 1
            refine Drawn.gen_one (i := 12) (by kernel_rfl) rfl (by rfl) ?_
            refine Drawn.Step.skip (by go_simp; first | done | with_reducible rfl | exact ⟨rfl, rfl⟩) ?_
            generalize hW1 : World.setCell _ _ _ = W1
            have A8 : At W1 n6 (.cells #[.int .i64 lv1, .int .i64 lo1] 56) := hW1 ▸ (A6.set 0 _).set 1 _
            have A9 : At W1 n7 (.cells #[.int .i64 0, .int .i64 0] 56) := hW1 ▸ (A7.off (Ne.symm ne67) _ _).off (Ne.symm ne67) _ _
            have hx1 : Below w.heap.size w W1 := hW1 ▸ Below.setCell (Below.setCell hx g6 _) g6 _
            clear hW1 A6 A7 hx l6 l7 c60 c61 c70 c71 z60 z61 z70 z71
            have l7 := A9.lt
            have c70 := A9.cell 0
            have c71 := A9.cell 1
            simp only [List.getElem?_toArray, List.getElem?_cons_zero, List.getElem?_cons_succ] at c70 c71
            have z70 := A9.thaw 0
            have z71 := A9.thaw 1
            refine ⟨fun _ => hx1, ?_⟩
            (try simp only [Act.put, List.setIfInBounds_toArray, List.set_cons_zero, List.set_cons_succ])
            refine Drawn.gen_one (i := 13) (by kernel_rfl) rfl (by rfl) ?_
            refine Drawn.Step.skip (by go_simp; first | done | with_reducible rfl | exact ⟨rfl, rfl⟩) ?_
            generalize hW1 : World.setCell _ _ _ = W3
            have A10 : At W3 n6 (.cells #[.int .i64 lv1, .int .i64 lo1] 56) := hW1 ▸ (A8.off ne67 _ _).off ne67 _ _
            have A11 : At W3 n7 (.cells #[.int .i64 lv2, .int .i64 lo2] 56) := hW1 ▸ (A9.set 0 _).set 1 _
            have hx3 : Below w.heap.size w W3 := hW1 ▸ Below.setCell (Below.setCell hx1 g7 _) g7 _
            refine ⟨fun _ => hx3, ?_⟩
            (try simp only [Act.put, List.setIfInBounds_toArray, List.set_cons_zero, List.set_cons_succ])
            refine Drawn.gen_end (by kernel_rfl) ?_
            exact ⟨rfl, n6, n7, _, _, _, _, _, _, _, _, _, _, rfl, A10, A11, hx3⟩
        · refine Drawn.Step.value (u := .pointer (some ⟨w22.heap.size, 0, none⟩)) (w' := w22.alloc (.cells #[.int .i64 0, .int .i64 0] 56)) (by go_simp; first | done | with_reducible rfl | exact ⟨rfl, rfl⟩) ?_
          obtain ⟨w25, hw9, A6, hb9, hs9⟩ : ∃ w9, w9 = w22.alloc (.cells #[.int .i64 0, .int .i64 0] 56) ∧ At w9 w22.heap.size (.cells #[.int .i64 0, .int .i64 0] 56) ∧ Below w22.heap.size w22 w9 ∧ w.heap.size ≤ w22.heap.size := ⟨_, rfl, At.new _ _, Below.alloc' (Below.refl _ _) _, hx.size⟩
          rw [← hw9]
          clear hw9
          have hne : n7 ≠ w22.heap.size := Nat.ne_of_lt A7.lt
          replace A7 := A7.keep hb9
          replace hx := Below.after2 hx (Nat.le_refl _) hb9
          clear hb9
          generalize w22.heap.size = n6 at *
          rename w.heap.size ≤ n6 => g6
          refine ⟨fun _ => hx, ?_⟩
          (try simp only [Act.put, List.setIfInBounds_toArray, List.set_cons_zero, List.set_cons_succ])
          refine Drawn.gen_one (i := 9) (by kernel_rfl) rfl (by rfl) ?_
          · refine Drawn.Step.call (by go_simp; first | done | with_reducible rfl | exact ⟨rfl, rfl⟩) (HC2.out _) ?_
            rintro e w26 ⟨rfl, hb⟩
            replace A6 := A6.keep hb
            replace A7 := A7.keep hb
            replace hx := Below.after2 hx (Nat.le_refl _) hb
            clear hb
            refine ⟨_, rfl, fun _ => hx, ?_⟩
            (try simp only [Act.put, List.setIfInBounds_toArray, List.set_cons_zero, List.set_cons_succ])
            have ne67 : n6 ≠ n7 := by first | exact hne | exact Ne.symm hne
            clear hne
            have l6 := A6.lt
            have l7 := A7.lt
            have c60 := A6.cell 0
            have c61 := A6.cell 1
            have c70 := A7.cell 0
            have c71 := A7.cell 1
            simp only [List.getElem?_toArray, List.getElem?_cons_zero, List.getElem?_cons_succ] at c60 c61 c70 c71
            have z60 := A6.thaw 0
            have z61 := A6.thaw 1
            have z70 := A7.thaw 0
            have z71 := A7.thaw 1
            refine Drawn.gen_one (i := 12) (by kernel_rfl) rfl (by rfl) ?_
            refine Drawn.Step.skip (by go_simp; first | done | with_reducible rfl | exact ⟨rfl, rfl⟩) ?_
            generalize hW1 : World.setCell _ _ _ = W1
            have A8 : At W1 n6 (.cells #[.int .i64 lv1, .int .i64 lo1] 56) := hW1 ▸ (A6.set 0 _).set 1 _
            have A9 : At W1 n7 (.cells #[.int .i64 0, .int .i64 0] 56) := hW1 ▸ (A7.off (Ne.symm ne67) _ _).off (Ne.symm ne67) _ _
            have hx1 : Below w.heap.size w W1 := hW1 ▸ Below.setCell (Below.setCell hx g6 _) g6 _
            clear hW1 A6 A7 hx l6 l7 c60 c61 c70 c71 z60 z61 z70 z71
            have l7 := A9.lt
            have c70 := A9.cell 0
            have c71 := A9.cell 1
            simp only [List.getElem?_toArray, List.getElem?_cons_zero, List.getElem?_cons_succ] at c70 c71
            have z70 := A9.thaw 0
            have z71 := A9.thaw 1
            refine ⟨fun _ => hx1, ?_⟩
            (try simp only [Act.put, List.setIfInBounds_toArray, List.set_cons_zero, List.set_cons_succ])
            refine Drawn.gen_one (i := 13) (by kernel_rfl) rfl (by rfl) ?_
            refine Drawn.Step.skip (by go_simp; first | done | with_reducible rfl | exact ⟨rfl, rfl⟩) ?_
            generalize hW1 : World.setCell _ _ _ = W3
            have A10 : At W3 n6 (.cells #[.int .i64 lv1, .int .i64 lo1] 56) := hW1 ▸ (A8.off ne67 _ _).off ne67 _ _
            have A11 : At W3 n7 (.cells #[.int .i64 lv2, .int .i64 lo2] 56) := hW1 ▸ (A9.set 0 _).set 1 _
            have hx3 : Below w.heap.size w W3 := hW1 ▸ Below.setCell (Below.setCell hx1 g7 _) g7 _
            refine ⟨fun _ => hx3, ?_⟩
            (try simp only [Act.put, List.setIfInBounds_toArray, List.set_cons_zero, List.set_cons_succ])
            refine Drawn.gen_end (by kernel_rfl) ?_
            exact ⟨rfl, n6, n7, _, _, _, _, _, _, _, _, _, _, rfl, A10, A11, hx3⟩
    · refine Drawn.Step.value (u := .pointer (some ⟨W0.heap.size, 0, none⟩)) (w' := W0.alloc (.cells #[.int .i64 0, .int .i64 0] 56)) (by go_simp; first | done | with_reducible rfl | exact ⟨rfl, rfl⟩) ?_
      obtain ⟨w27, hw9, A6, hb9, hs9⟩ : ∃ w9, w9 = W0.alloc (.cells #[.int .i64 0, .int .i64 0] 56) ∧ At w9 W0.heap.size (.cells #[.int .i64 0, .int .i64 0] 56) ∧ Below W0.heap.size W0 w9 ∧ w.heap.size ≤ W0.heap.size := ⟨_, rfl, At.new _ _, Below.alloc' (Below.refl _ _) _, hx.size⟩
      rw [← hw9]
      clear hw9
      replace hx := Below.after2 hx (Nat.le_refl _) hb9
      clear hb9
      generalize W0.heap.size = n6 at *
      rename w.heap.size ≤ n6 => g6
      refine ⟨fun _ => hx, ?_⟩
      (try simp only [Act.put, List.setIfInBounds_toArray, List.set_cons_zero, List.set_cons_succ])
      refine Drawn.gen_two (i := 4) (j := 11) (by kernel_rfl) rfl rfl (by rfl) (by rfl) ?_ ?_
      · refine Drawn.Step.call (by go_simp; first | done | with_reducible rfl | exact ⟨rfl, rfl⟩) (HC1.out _) ?_
        rintro e w28 ⟨rfl, hb⟩
        replace A6 := A6.keep hb
        replace hx := Below.after2 hx (Nat.le_refl _) hb
        clear hb
        refine ⟨_, rfl, fun _ => hx, ?_⟩
        (try simp only [Act.put, List.setIfInBounds_toArray, List.set_cons_zero, List.set_cons_succ])
        refine Drawn.gen_two (i := 9) (j := 11) (by kernel_rfl) rfl rfl (by rfl) (by rfl) ?_ ?_
        · refine Drawn.Step.call (by go_simp; first | done | with_reducible rfl | exact ⟨rfl, rfl⟩) (HC2.out _) ?_
          rintro e w29 ⟨rfl, hb⟩
          replace A6 := A6.keep hb
          replace hx := Below.after2 hx (Nat.le_refl _) hb
          clear hb
          refine ⟨_, rfl, fun _ => hx, ?_⟩
          (try simp only [Act.put, List.setIfInBounds_toArray, List.set_cons_zero, List.set_cons_succ])
          refine Drawn.gen_one (i := 11) (by kernel_rfl) rfl (by rfl) ?_
          · refine Drawn.Step.value (u := .pointer (some ⟨w29.heap.size, 0, none⟩)) (w' := w29.alloc (.cells #[.int .i64 0, .int .i64 0] 56)) (by go_simp; first | done | with_reducible rfl | exact ⟨rfl, rfl⟩) ?_
            obtain ⟨w30, hw9, A7, hb9, hs9⟩ : ∃ w9, w9 = w29.alloc (.cells #[.int .i64 0, .int .i64 0] 56) ∧ At w9 w29.heap.size (.cells #[.int .i64 0, .int .i64 0] 56) ∧ Below w29.heap.size w29 w9 ∧ w.heap.size ≤ w29.heap.size := ⟨_, rfl, At.new _ _, Below.alloc' (Below.refl _ _) _, hx.size⟩
            rw [← hw9]
            clear hw9
            have hne : n6 ≠ w29.heap.size := Nat.ne_of_lt A6.lt
            replace A6 := A6.keep hb9
            replace hx := Below.after2 hx (Nat.le_refl _) hb9
            clear hb9
            generalize w29.heap.size = n7 at *
            rename w.heap.size ≤ n7 => g7
            refine ⟨fun _ => hx, ?_⟩
            (try simp only [Act.put, List.setIfInBounds_toArray, List.set_cons_zero, List.set_cons_succ])
            have ne67 : n6 ≠ n7 := by first | exact hne | exact Ne.symm hne
            clear hne
            have l6 := A6.lt
            have l7 := A7.lt
            have c60 := A6.cell 0
            have c61 := A6.cell 1
            have c70 := A7.cell 0
            have c71 := A7.cell 1
            simp only [List.getElem?_toArray, List.getElem?_cons_zero, List.getElem?_cons_succ] at c60 c61 c70 c71
            have z60 := A6.thaw 0
            have z61 := A6.thaw 1
            have z70 := A7.thaw 0
            have z71 := A7.thaw 1
            refine Drawn.gen_one (i := 12) (by kernel_rfl) rfl (by rfl) ?_
            refine Drawn.Step.skip (by go_simp; first | done | with_reducible rfl | exact ⟨rfl, rfl⟩) ?_
            generalize hW1 : World.setCell _ _ _ = W1
            have A8 : At W1 n6 (.cells #[.int .i64 lv1, .int .i64 lo1] 56) := hW1 ▸ (A6.set 0 _).set 1 _
            have A9 : At W1 n7 (.cells #[.int .i64 0, .int .i64 0] 56) := hW1 ▸ (A7.off (Ne.symm ne67) _ _).off (Ne.symm ne67) _ _
            have hx1 : Below w.heap.size w W1 := hW1 ▸ Below.setCell (Below.setCell hx g6 _) g6 _
            clear hW1 A6 A7 hx l6 l7 c60 c61 c70 c71 z60 z61 z70 z71
            have l7 := A9.lt
            have c70 := A9.cell 0
            have c71 := A9.cell 1
            simp only [List.getElem?_toArray, List.getElem?_cons_zero, List.getElem?_cons_succ] at c70 c71
            have z70 := A9.thaw 0
            have z71 := A9.thaw 1
            refine ⟨fun _ => hx1, ?_⟩
            (try simp only [Act.put, List.setIfInBounds_toArray, List.set_cons_zero, List.set_cons_succ])
            refine Drawn.gen_one (i := 13) (by kernel_rfl) rfl (by rfl) ?_
            refine Drawn.Step.skip (by go_simp; first | done | with_reducible rfl | exact ⟨rfl, rfl⟩) ?_
            generalize hW1 : World.setCell _ _ _ = W3
            have A10 : At W3 n6 (.cells #[.int .i64 lv1, .int .i64 lo1] 56) := hW1 ▸ (A8.off ne67 _ _).off ne67 _ _
            have A11 : At W3 n7 (.cells #[.int .i64 lv2, .int .i64 lo2] 56) := hW1 ▸ (A9.set 0 _).set 1 _
            have hx3 : Below w.heap.size w W3 := hW1 ▸ Below.setCell (Below.setCell hx1 g7 _) g7 _
            refine ⟨fun _ => hx3, ?_⟩
            (try simp only [Act.put, List.setIfInBounds_toArray, List.set_cons_zero, List.set_cons_succ])
            refine Drawn.gen_end (by kernel_rfl) ?_
            exact ⟨rfl, n6, n7, _, _, _, _, _, _, _, _, _, _, rfl, A10, A11, hx3⟩
        · refine Drawn.Step.value (u := .pointer (some ⟨w28.heap.size, 0, none⟩)) (w' := w28.alloc (.cells #[.int .i64 0, .int .i64 0] 56)) (by go_simp; first | done | with_reducible rfl | exact ⟨rfl, rfl⟩) ?_
          obtain ⟨w31, hw9, A7, hb9, hs9⟩ : ∃ w9, w9 = w28.alloc (.cells #[.int .i64 0, .int .i64 0] 56) ∧ At w9 w28.heap.size (.cells #[.int .i64 0, .int .i64 0] 56) ∧ Below w28.heap.size w28 w9 ∧ w.heap.size ≤ w28.heap.size := ⟨_, rfl, At.new _ _, Below.alloc' (Below.refl _ _) _, hx.size⟩
          rw [← hw9]
          clear hw9
          have hne : n6 ≠ w28.heap.size := Nat.ne_of_lt A6.lt
          replace A6 := A6.keep hb9
          replace hx := Below.after2 hx (Nat.le_refl _) hb9
          clear hb9
          generalize w28.heap.size = n7 at *
          rename w.heap.size ≤ n7 => g7
          refine ⟨fun _ => hx, ?_⟩
          (try simp only [Act.put, List.setIfInBounds_toArray, List.set_cons_zero, List.set_cons_succ])
          refine Drawn.gen_one (i := 9) (by kernel_rfl) rfl (by rfl) ?_
          · refine Drawn.Step.call (by go_simp; first | done | with_reducible rfl | exact ⟨rfl, rfl⟩) (HC2.out _) ?_
            rintro e w32 ⟨rfl, hb⟩
            replace A6 := A6.keep hb
            replace A7 := A7.keep hb
            replace hx := Below.after2 hx (Nat.le_refl _) hb
            clear hb
            refine ⟨_, rfl, fun _ => hx, ?_⟩
            (try simp only [Act.put, List.setIfInBounds_toArray, List.set_cons_zero, List.set_cons_succ])
            have ne67 : n6 ≠ n7 := by first | exact hne | exact Ne.symm hne
            clear hne
            have l6 := A6.lt
            have l7 := A7.lt
            have c60 := A6.cell 0
            have c61 := A6.cell 1
            have c70 := A7.cell 0
            have c71 := A7.cell 1
            simp only [List.getElem?_toArray, List.getElem?_cons_zero, List.getElem?_cons_succ] at c60 c61 c70 c71
            have z60 := A6.thaw 0
            have z61 := A6.thaw 1
            have z70 := A7.thaw 0
            have z71 := A7.thaw 1
            refine Drawn.gen_one (i := 12) (by kernel_rfl) rfl (by rfl) ?_
            refine Drawn.Step.skip (by go_simp; first | done | with_reducible rfl | exact ⟨rfl, rfl⟩) ?_
            generalize hW1 : World.setCell _ _ _ = W1
            have A8 : At W1 n6 (.cells #[.int .i64 lv1, .int .i64 lo1] 56) := hW1 ▸ (A6.set 0 _).set 1 _
            have A9 : At W1 n7 (.cells #[.int .i64 0, .int .i64 0] 56) := hW1 ▸ (A7.off (Ne.symm ne67) _ _).off (Ne.symm ne67) _ _
            have hx1 : Below w.heap.size w W1 := hW1 ▸ Below.setCell (Below.setCell hx g6 _) g6 _
            clear hW1 A6 A7 hx l6 l7 c60 c61 c70 c71 z60 z61 z70 z71
            have l7 := A9.lt
            have c70 := A9.cell 0
            have c71 := A9.cell 1
            simp only [List.getElem?_toArray, List.getElem?_cons_zero, List.getElem?_cons_succ] at c70 c71
            have z70 := A9.thaw 0
            have z71 := A9.thaw 1
            refine ⟨fun _ => hx1, ?_⟩
            (try simp only [Act.put, List.setIfInBounds_toArray, List.set_cons_zero, List.set_cons_succ])
            refine Drawn.gen_one (i := 13) (by kernel_rfl) rfl (by rfl) ?_
            refine Drawn.Step.skip (by go_simp; first | done | with_reducible rfl | exact ⟨rfl, rfl⟩) ?_
            generalize hW1 : World.setCell _ _ _ = W3
            have A10 : At W3 n6 (.cells #[.int .i64 lv1, .int .i64 lo1] 56) := hW1 ▸ (A8.off ne67 _ _).off ne67 _ _
            have A11 : At W3 n7 (.cells #[.int .i64 lv2, .int .i64 lo2] 56) := hW1 ▸ (A9.set 0 _).set 1 _
            have hx3 : Below w.heap.size w W3 := hW1 ▸ Below.setCell (Below.setCell hx1 g7 _) g7 _
            refine ⟨fun _ => hx3, ?_⟩
            (try simp only [Act.put, List.setIfInBounds_toArray, List.set_cons_zero, List.set_cons_succ])
            refine Drawn.gen_end (by kernel_rfl) ?_
            exact ⟨rfl, n6, n7, _, _, _, _, _, _, _, _, _, _, rfl, A10, A11, hx3⟩
      · refine Drawn.Step.value (u := .pointer (some ⟨w27.heap.size, 0, none⟩)) (w' := w27.alloc (.cells #[.int .i64 0, .int .i64 0] 56)) (by go_simp; first | done | with_reducible rfl | exact ⟨rfl, rfl⟩) ?_
        obtain ⟨w33, hw9, A7, hb9, hs9⟩ : ∃ w9, w9 = w27.alloc (.cells #[.int .i64 0, .int .i64 0] 56) ∧ At w9 w27.heap.size (.cells #[.int .i64 0, .int .i64 0] 56) ∧ Below w27.heap.size w27 w9 ∧ w.heap.size ≤ w27.heap.size := ⟨_, rfl, At.new _ _, Below.alloc' (Below.refl _ _) _, hx.size⟩
        rw [← hw9]
        clear hw9
        have hne : n6 ≠ w27.heap.size := Nat.ne_of_lt A6.lt
        replace A6 := A6.keep hb9
        replace hx := Below.after2 hx (Nat.le_refl _) hb9
        clear hb9
        generalize w27.heap.size = n7 at *
        rename w.heap.size ≤ n7 => g7
        refine ⟨fun _ => hx, ?_⟩
        (try simp only [Act.put, List.setIfInBounds_toArray, List.set_cons_zero, List.set_cons_succ])
        refine Drawn.gen_one (i := 4) (by kernel_rfl) rfl (by rfl) ?_
        · refine Drawn.Step.call (by go_simp; first | done | with_reducible rfl | exact ⟨rfl, rfl⟩) (HC1.out _) ?_
          rintro e w34 ⟨rfl, hb⟩
          replace A6 := A6.keep hb
          replace A7 := A7.keep hb
          replace hx := Below.after2 hx (Nat.le_refl _) hb
          clear hb
          refine ⟨_, rfl, fun _ => hx, ?_⟩
          (try simp only [Act.put, List.setIfInBounds_toArray, List.set_cons_zero, List.set_cons_succ])
          refine Drawn.gen_one (i := 9) (by kernel_rfl) rfl (by rfl) ?_
          · refine Drawn.Step.call (by go_simp; first | done | with_reducible rfl | exact ⟨rfl, rfl⟩) (HC2.out _) ?_
            rintro e w35 ⟨rfl, hb⟩
            replace A6 := A6.keep hb
            replace A7 := A7.keep hb
            replace hx := Below.after2 hx (Nat.le_refl _) hb
            clear hb
            refine ⟨_, rfl, fun _ => hx, ?_⟩
            (try simp only [Act.put, List.setIfInBounds_toArray, List.set_cons_zero, List.set_cons_succ])
            have ne67 : n6 ≠ n7 := by first | exact hne | exact Ne.symm hne
            clear hne
            have l6 := A6.lt
            have l7 := A7.lt
            have c60 := A6.cell 0
            have c61 := A6.cell 1
            have c70 := A7.cell 0
            have c71 := A7.cell 1
            simp only [List.getElem?_toArray, List.getElem?_cons_zero, List.getElem?_cons_succ] at c60 c61 c70 c71
            have z60 := A6.thaw 0
            have z61 := A6.thaw 1
            have z70 := A7.thaw 0
            have z71 := A7.thaw 1
            refine Drawn.gen_one (i := 12) (by kernel_rfl) rfl (by rfl) ?_
            refine Drawn.Step.skip (by go_simp; first | done | with_reducible rfl | exact ⟨rfl, rfl⟩) ?_
            generalize hW1 : World.setCell _ _ _ = W1
            have A8 : At W1 n6 (.cells #[.int .i64 lv1, .int .i64 lo1] 56) := hW1 ▸ (A6.set 0 _).set 1 _
            have A9 : At W1 n7 (.cells #[.int .i64 0, .int .i64 0] 56) := hW1 ▸ (A7.off (Ne.symm ne67) _ _).off (Ne.symm ne67) _ _
            have hx1 : Below w.heap.size w W1 := hW1 ▸ Below.setCell (Below.setCell hx g6 _) g6 _
            clear hW1 A6 A7 hx l6 l7 c60 c61 c70 c71 z60 z61 z70 z71
            have l7 := A9.lt
            have c70 := A9.cell 0
            have c71 := A9.cell 1
            simp only [List.getElem?_toArray, List.getElem?_cons_zero, List.getElem?_cons_succ] at c70 c71
            have z70 := A9.thaw 0
            have z71 := A9.thaw 1
            refine ⟨fun _ => hx1, ?_⟩
            (try simp only [Act.put, List.setIfInBounds_toArray, List.set_cons_zero, List.set_cons_succ])
            refine Drawn.gen_one (i := 13) (by kernel_rfl) rfl (by rfl) ?_
            refine Drawn.Step.skip (by go_simp; first | done | with_reducible rfl | exact ⟨rfl, rfl⟩) ?_
            generalize hW1 : World.setCell _ _ _ = W3
            have A10 : At W3 n6 (.cells #[.int .i64 lv1, .int .i64 lo1] 56) := hW1 ▸ (A8.off ne67 _ _).off ne67 _ _
            have A11 : At W3 n7 (.cells #[.int .i64 lv2, .int .i64 lo2] 56) := hW1 ▸ (A9.set 0 _).set 1 _
            have hx3 : Below w.heap.size w W3 := hW1 ▸ Below.setCell (Below.setCell hx1 g7 _) g7 _
            refine ⟨fun _ => hx3, ?_⟩
            (try simp only [Act.put, List.setIfInBounds_toArray, List.set_cons_zero, List.set_cons_succ])
            refine Drawn.gen_end (by kernel_rfl) ?_
            exact ⟨rfl, n6, n7, _, _, _, _, _, _, _, _, _, _, rfl, A10, A11, hx3⟩
    · refine Drawn.Step.value (u := .pointer (some ⟨W0.heap.size, 0, none⟩)) (w' := W0.alloc (.cells #[.int .i64 0, .int .i64 0] 56)) (by go_simp; first | done | with_reducible rfl | exact ⟨rfl, rfl⟩) ?_
      obtain ⟨w36, hw9, A7, hb9, hs9⟩ : ∃ w9, w9 = W0.alloc (.cells #[.int .i64 0, .int .i64 0] 56) ∧ At w9 W0.heap.size (.cells #[.int .i64 0, .int .i64 0] 56) ∧ Below W0.heap.size W0 w9 ∧ w.heap.size ≤ W0.heap.size := ⟨_, rfl, At.new _ _, Below.alloc' (Below.refl _ _) _, hx.size⟩
      rw [← hw9]
      clear hw9
      replace hx := Below.after2 hx (Nat.le_refl _) hb9
      clear hb9
      generalize W0.heap.size = n7 at *
      rename w.heap.size ≤ n7 => g7
      refine ⟨fun _ => hx, ?_⟩
      (try simp only [Act.put, List.setIfInBounds_toArray, List.set_cons_zero, List.set_cons_succ])
      refine Drawn.gen_two (i := 4) (j := 10) (by kernel_rfl) rfl rfl (by rfl) (by rfl) ?_ ?_
      · refine Drawn.Step.call (by go_simp; first | done | with_reducible rfl | exact ⟨rfl, rfl⟩) (HC1.out _) ?_
        rintro e w37 ⟨rfl, hb⟩
        replace A7 := A7.keep hb
        replace hx := Below.after2 hx (Nat.le_refl _) hb
        clear hb
        refine ⟨_, rfl, fun _ => hx, ?_⟩
        (try simp only [Act.put, List.setIfInBounds_toArray, List.set_cons_zero, List.set_cons_succ])
        refine Drawn.gen_two (i := 9) (j := 10) (by kernel_rfl) rfl rfl (by rfl) (by rfl) ?_ ?_
        · refine Drawn.Step.call (by go_simp; first | done | with_reducible rfl | exact ⟨rfl, rfl⟩) (HC2.out _) ?_
          rintro e w38 ⟨rfl, hb⟩
          replace A7 := A7.keep hb
          replace hx := Below.after2 hx (Nat.le_refl _) hb
          clear hb
          refine ⟨_, rfl, fun _ => hx, ?_⟩
          (try simp only [Act.put, List.setIfInBounds_toArray, List.set_cons_zero, List.set_cons_succ])
          refine Drawn.gen_one (i := 10) (by kernel_rfl) rfl (by rfl) ?_
          · refine Drawn.Step.value (u := .pointer (some ⟨w38.heap.size, 0, none⟩)) (w' := w38.alloc (.cells #[.int .i64 0, .int .i64 0] 56)) (by go_simp; first | done | with_reducible rfl | exact ⟨rfl, rfl⟩) ?_
            obtain ⟨w39, hw9, A6, hb9, hs9⟩ : ∃ w9, w9 = w38.alloc (.cells #[.int .i64 0, .int .i64 0] 56) ∧ At w9 w38.heap.size (.cells #[.int .i64 0, .int .i64 0] 56) ∧ Below w38.heap.size w38 w9 ∧ w.heap.size ≤ w38.heap.size := ⟨_, rfl, At.new _ _, Below.alloc' (Below.refl _ _) _, hx.size⟩
            rw [← hw9]
            clear hw9
            have hne : n7 ≠ w38.heap.size := Nat.ne_of_lt A7.lt
            replace A7 := A7.keep hb9
            replace hx := Below.after2 hx (Nat.le_refl _) hb9
            clear hb9
            generalize w38.heap.size = n6 at *
            rename w.heap.size ≤ n6 => g6
            refine ⟨fun _ => hx, ?_⟩
            (try simp only [Act.put, List.setIfInBounds_toArray, List.set_cons_zero, List.set_cons_succ])
            have ne67 : n6 ≠ n7 := by first | exact hne | exact Ne.symm hne
            clear hne
            have l6 := A6.lt
            have l7 := A7.lt
            have c60 := A6.cell 0
            have c61 := A6.cell 1
            have c70 := A7.cell 0
            have c71 := A7.cell 1
            simp only [List.getElem?_toArray, List.getElem?_cons_zero, List.getElem?_cons_succ] at c60 c61 c70 c71
            have z60 := A6.thaw 0
            have z61 := A6.thaw 1
            have z70 := A7.thaw 0
            have z71 := A7.thaw 1
            refine Drawn.gen_one (i := 12) (by kernel_rfl) rfl (by rfl) ?_
            refine Drawn.Step.skip (by go_simp; first | done | with_reducible rfl | exact ⟨rfl, rfl⟩) ?_
            generalize hW1 : World.setCell _ _ _ = W1
            have A8 : At W1 n6 (.cells #[.int .i64 lv1, .int .i64 lo1] 56) := hW1 ▸ (A6.set 0 _).set 1 _
            have A9 : At W1 n7 (.cells #[.int .i64 0, .int .i64 0] 56) := hW1 ▸ (A7.off (Ne.symm ne67) _ _).off (Ne.symm ne67) _ _
            have hx1 : Below w.heap.size w W1 := hW1 ▸ Below.setCell (Below.setCell hx g6 _) g6 _
            clear hW1 A6 A7 hx l6 l7 c60 c61 c70 c71 z60 z61 z70 z71
            have l7 := A9.lt
            have c70 := A9.cell 0
            have c71 := A9.cell 1
            simp only [List.getElem?_toArray, List.getElem?_cons_zero, List.getElem?_cons_succ] at c70 c71
            have z70 := A9.thaw 0
            have z71 := A9.thaw 1
            refine ⟨fun _ => hx1, ?_⟩
            (try simp only [Act.put, List.setIfInBounds_toArray, List.set_cons_zero, List.set_cons_succ])
            refine Drawn.gen_one (i := 13) (by kernel_rfl) rfl (by rfl) ?_
            refine Drawn.Step.skip (by go_simp; first | done | with_reducible rfl | exact ⟨rfl, rfl⟩) ?_
            generalize hW1 : World.setCell _ _ _ = W3
            have A10 : At W3 n6 (.cells #[.int .i64 lv1, .int .i64 lo1] 56) := hW1 ▸ (A8.off ne67 _ _).off ne67 _ _
            have A11 : At W3 n7 (.cells #[.int .i64 lv2, .int .i64 lo2] 56) := hW1 ▸ (A9.set 0 _).set 1 _
            have hx3 : Below w.heap.size w W3 := hW1 ▸ Below.setCell (Below.setCell hx1 g7 _) g7 _
            refine ⟨fun _ => hx3, ?_⟩
            (try simp only [Act.put, List.setIfInBounds_toArray, List.set_cons_zero, List.set_cons_succ])
            refine Drawn.gen_end (by kernel_rfl) ?_
            exact ⟨rfl, n6, n7, _, _, _, _, _, _, _, _, _, _, rfl, A10, A11, hx3⟩
        · refine Drawn.Step.value (u := .pointer (some ⟨w37.heap.size, 0, none⟩)) (w' := w37.alloc (.cells #[.int .i64 0, .int .i64 0] 56)) (by go_simp; first | done | with_reducible rfl | exact ⟨rfl, rfl⟩) ?_
          obtain ⟨w40, hw9, A6, hb9, hs9⟩ : ∃ w9, w9 = w37.alloc (.cells #[.int .i64 0, .int .i64 0] 56) ∧ At w9 w37.heap.size (.cells #[.int .i64 0, .int .i64 0] 56) ∧ Below w37.heap.size w37 w9 ∧ w.heap.size ≤ w37.heap.size := ⟨_, rfl, At.new _ _, Below.alloc' (Below.refl _ _) _, hx.size⟩
          rw [← hw9]
          clear hw9
          have hne : n7 ≠ w37.heap.size := Nat.ne_of_lt A7.lt
          replace A7 := A7.keep hb9
          replace hx := Below.after2 hx (Nat.le_refl _) hb9
          clear hb9
          generalize w37.heap.size = n6 at *
          rename w.heap.size ≤ n6 => g6
          refine ⟨fun _ => hx, ?_⟩
          (try simp only [Act.put, List.setIfInBounds_toArray, List.set_cons_zero, List.set_cons_succ])
          refine Drawn.gen_one (i := 9) (by kernel_rfl) rfl (by rfl) ?_
          · refine Drawn.Step.call (by go_simp; first | done | with_reducible rfl | exact ⟨rfl, rfl⟩) (HC2.out _) ?_
            rintro e w41 ⟨rfl, hb⟩
            replace A6 := A6.keep hb
            replace A7 := A7.keep hb
            replace hx := Below.after2 hx (Nat.le_refl _) hb
            clear hb
            refine ⟨_, rfl, fun _ => hx, ?_⟩
            (try simp only [Act.put, List.setIfInBounds_toArray, List.set_cons_zero, List.set_cons_succ])
            have ne67 : n6 ≠ n7 := by first | exact hne | exact Ne.symm hne
            clear hne
            have l6 := A6.lt
            have l7 := A7.lt
            have c60 := A6.cell 0
            have c61 := A6.cell 1
            have c70 := A7.cell 0
            have c71 := A7.cell 1
            simp only [List.getElem?_toArray, List.getElem?_cons_zero, List.getElem?_cons_succ] at c60 c61 c70 c71
            have z60 := A6.thaw 0
            have z61 := A6.thaw 1
            have z70 := A7.thaw 0
            have z71 := A7.thaw 1
            refine Drawn.gen_one (i := 12) (by kernel_rfl) rfl (by rfl) ?_
            refine Drawn.Step.skip (by go_simp; first | done | with_reducible rfl | exact ⟨rfl, rfl⟩) ?_
            generalize hW1 : World.setCell _ _ _ = W1
            have A8 : At W1 n6 (.cells #[.int .i64 lv1, .int .i64 lo1] 56) := hW1 ▸ (A6.set 0 _).set 1 _
            have A9 : At W1 n7 (.cells #[.int .i64 0, .int .i64 0] 56) := hW1 ▸ (A7.off (Ne.symm ne67) _ _).off (Ne.symm ne67) _ _
            have hx1 : Below w.heap.size w W1 := hW1 ▸ Below.setCell (Below.setCell hx g6 _) g6 _
            clear hW1 A6 A7 hx l6 l7 c60 c61 c70 c71 z60 z61 z70 z71
            have l7 := A9.lt
            have c70 := A9.cell 0
            have c71 := A9.cell 1
            simp only [List.getElem?_toArray, List.getElem?_cons_zero, List.getElem?_cons_succ] at c70 c71
            have z70 := A9.thaw 0
            have z71 := A9.thaw 1
            refine ⟨fun _ => hx1, ?_⟩
            (try simp only [Act.put, List.setIfInBounds_toArray, List.set_cons_zero, List.set_cons_succ])
            refine Drawn.gen_one (i := 13) (by kernel_rfl) rfl (by rfl) ?_
            refine Drawn.Step.skip (by go_simp; first | done | with_reducible rfl | exact ⟨rfl, rfl⟩) ?_
            generalize hW1 : World.setCell _ _ _ = W3
            have A10 : At W3 n6 (.cells #[.int .i64 lv1, .int .i64 lo1] 56) := hW1 ▸ (A8.off ne67 _ _).off ne67 _ _
            have A11 : At W3 n7 (.cells #[.int .i64 lv2, .int .i64 lo2] 56) := hW1 ▸ (A9.set 0 _).set 1 _
            have hx3 : Below w.heap.size w W3 := hW1 ▸ Below.setCell (Below.setCell hx1 g7 _) g7 _
            refine ⟨fun _ => hx3, ?_⟩
            (try simp only [Act.put, List.setIfInBounds_toArray, List.set_cons_zero, List.set_cons_succ])
            refine Drawn.gen_end (by kernel_rfl) ?_
            exact ⟨rfl, n6, n7, _, _, _, _, _, _, _, _, _, _, rfl, A10, A11, hx3⟩
      · refine Drawn.Step.value (u := .pointer (some ⟨w36.heap.size, 0, none⟩)) (w' := w36.alloc (.cells #[.int .i64 0, .int .i64 0] 56)) (by go_simp; first | done | with_reducible rfl | exact ⟨rfl, rfl⟩) ?_
        obtain ⟨w42, hw9, A6, hb9, hs9⟩ : ∃ w9, w9 = w36.alloc (.cells #[.int .i64 0, .int .i64 0] 56) ∧ At w9 w36.heap.size (.cells #[.int .i64 0, .int .i64 0] 56) ∧ Below w36.heap.size w36 w9 ∧ w.heap.size ≤ w36.heap.size := ⟨_, rfl, At.new _ _, Below.alloc' (Below.refl _ _) _, hx.size⟩
        rw [← hw9]
        clear hw9
        have hne : n7 ≠ w36.heap.size := Nat.ne_of_lt A7.lt
        replace A7 := A7.keep hb9
        replace hx := Below.after2 hx (Nat.le_refl _) hb9
        clear hb9
        generalize w36.heap.size = n6 at *
        rename w.heap.size ≤ n6 => g6
        refine ⟨fun _ => hx, ?_⟩
        (try simp only [Act.put, List.setIfInBounds_toArray, List.set_cons_zero, List.set_cons_succ])
        refine Drawn.gen_one (i := 4) (by kernel_rfl) rfl (by rfl) ?_
        · refine Drawn.Step.call (by go_simp; first | done | with_reducible rfl | exact ⟨rfl, rfl⟩) (HC1.out _) ?_
          rintro e w43 ⟨rfl, hb⟩
          replace A6 := A6.keep hb
          replace A7 := A7.keep hb
          replace hx := Below.after2 hx (Nat.le_refl _) hb
          clear hb
          refine ⟨_, rfl, fun _ => hx, ?_⟩
          (try simp only [Act.put, List.setIfInBounds_toArray, List.set_cons_zero, List.set_cons_succ])
          refine Drawn.gen_one (i := 9) (by kernel_rfl) rfl (by rfl) ?_
          · refine Drawn.Step.call (by go_simp; first | done | with_reducible rfl | exact ⟨rfl, rfl⟩) (HC2.out _) ?_
            rintro e w44 ⟨rfl, hb⟩
            replace A6 := A6.keep hb
            replace A7 := A7.keep hb
            replace hx := Below.after2 hx (Nat.le_refl _) hb
            clear hb
            refine ⟨_, rfl, fun _ => hx, ?_⟩
            (try simp only [Act.put, List.setIfInBounds_toArray, List.set_cons_zero, List.set_cons_succ])
            have ne67 : n6 ≠ n7 := by first | exact hne | exact Ne.symm hne
            clear hne
            have l6 := A6.lt
            have l7 := A7.lt
            have c60 := A6.cell 0
            have c61 := A6.cell 1
            have c70 := A7.cell 0
            have c71 := A7.cell 1
            simp only [List.getElem?_toArray, List.getElem?_cons_zero, List.getElem?_cons_succ] at c60 c61 c70 c71
            have z60 := A6.thaw 0
            have z61 := A6.thaw 1
            have z70 := A7.thaw 0
            have z71 := A7.thaw 1
            refine Drawn.gen_one (i := 12) (by kernel_rfl) rfl (by rfl) ?_
            refine Drawn.Step.skip (by go_simp; first | done | with_reducible rfl | exact ⟨rfl, rfl⟩) ?_
            generalize hW1 : World.setCell _ _ _ = W1
            have A8 : At W1 n6 (.cells #[.int .i64 lv1, .int .i64 lo1] 56) := hW1 ▸ (A6.set 0 _).set 1 _
            have A9 : At W1 n7 (.cells #[.int .i64 0, .int .i64 0] 56) := hW1 ▸ (A7.off (Ne.symm ne67) _ _).off (Ne.symm ne67) _ _
            have hx1 : Below w.heap.size w W1 := hW1 ▸ Below.setCell (Below.setCell hx g6 _) g6 _
            clear hW1 A6 A7 hx l6 l7 c60 c61 c70 c71 z60 z61 z70 z71
            have l7 := A9.lt
            have c70 := A9.cell 0
            have c71 := A9.cell 1
            simp only [List.getElem?_toArray, List.getElem?_cons_zero, List.getElem?_cons_succ] at c70 c71
            have z70 := A9.thaw 0
            have z71 := A9.thaw 1
            refine ⟨fun _ => hx1, ?_⟩
            (try simp only [Act.put, List.setIfInBounds_toArray, List.set_cons_zero, List.set_cons_succ])
            refine Drawn.gen_one (i := 13) (by kernel_rfl) rfl (by rfl) ?_
            refine Drawn.Step.skip (by go_simp; first | done | with_reducible rfl | exact ⟨rfl, rfl⟩) ?_
            generalize hW1 : World.setCell _ _ _ = W3
            have A10 : At W3 n6 (.cells #[.int .i64 lv1, .int .i64 lo1] 56) := hW1 ▸ (A8.off ne67 _ _).off ne67 _ _
            have A11 : At W3 n7 (.cells #[.int .i64 lv2, .int .i64 lo2] 56) := hW1 ▸ (A9.set 0 _).set 1 _
            have hx3 : Below w.heap.size w W3 := hW1 ▸ Below.setCell (Below.setCell hx1 g7 _) g7 _
            refine ⟨fun _ => hx3, ?_⟩
            (try simp only [Act.put, List.setIfInBounds_toArray, List.set_cons_zero, List.set_cons_succ])
            refine Drawn.gen_end (by kernel_rfl) ?_
            exact ⟨rfl, n6, n7, _, _, _, _, _, _, _, _, _, _, rfl, A10, A11, hx3⟩
  · rintro a W5 ⟨n6, n7, u8, u9, u10, u11, u12, u13, u14, u15, u16, u17, rfl, A6, A7, hB5⟩
    have l6 := A6.lt
    have l7 := A7.lt
    have c60 := A6.cell 0
    have c61 := A6.cell 1
    have c70 := A7.cell 0
    have c71 := A7.cell 1
    simp only [List.getElem?_toArray, List.getElem?_cons_zero, List.getElem?_cons_succ] at c60 c61 c70 c71
    simp only [List.setIfInBounds_toArray, List.set_cons_zero, List.set_cons_succ]
    clear ck lk c10 c11 c12 c20 c21 c22 l1 l2
    go_upto_region 2 with (fail)
    refine Drawn.wp_region_gen (S := Below W5.heap.size W5) 13 (by kernel_rfl) ?_ ?_
    · exact (Below.refl _ _).drew
    intro hx
    (refine Drawn.gen_take (i := 0) rfl (by kernel_rfl) (by kernel_rfl) (by kernel_rfl) (by kernel_rfl) (by omega) (by assumption) (by first | exact .inr ⟨by rfl, rfl⟩ | exact .inl ⟨by rfl, by intro w2 hS; obtain ⟨hc, hf⟩ := bcell hS; go_simp; first | done | with_reducible rfl | exact ⟨rfl, rfl⟩⟩) ?_; (try simp only [Act.put, List.setIfInBounds_toArray, List.set_cons_zero, List.set_cons_succ]))
    (refine Drawn.gen_take (i := 1) rfl (by kernel_rfl) (by kernel_rfl) (by kernel_rfl) (by kernel_rfl) (by omega) (by assumption) (by first | exact .inr ⟨by rfl, rfl⟩ | exact .inl ⟨by rfl, by intro w2 hS; obtain ⟨hc, hf⟩ := bcell hS; go_simp; first | done | with_reducible rfl | exact ⟨rfl, rfl⟩⟩) ?_; (try simp only [Act.put, List.setIfInBounds_toArray, List.set_cons_zero, List.set_cons_succ]))
    (refine Drawn.gen_take (i := 2) rfl (by kernel_rfl) (by kernel_rfl) (by kernel_rfl) (by kernel_rfl) (by omega) (by assumption) (by first | exact .inr ⟨by rfl, rfl⟩ | exact .inl ⟨by rfl, by intro w2 hS; obtain ⟨hc, hf⟩ := bcell hS; go_simp; first | done | with_reducible rfl | exact ⟨rfl, rfl⟩⟩) ?_; (try simp only [Act.put, List.setIfInBounds_toArray, List.set_cons_zero, List.set_cons_succ]))
    (refine Drawn.gen_take (i := 3) rfl (by kernel_rfl) (by kernel_rfl) (by kernel_rfl) (by kernel_rfl) (by omega) (by assumption) (by first | exact .inr ⟨by rfl, rfl⟩ | exact .inl ⟨by rfl, by intro w2 hS; obtain ⟨hc, hf⟩ := bcell hS; go_simp; first | done | with_reducible rfl | exact ⟨rfl, rfl⟩⟩) ?_; (try simp only [Act.put, List.setIfInBounds_toArray, List.set_cons_zero, List.set_cons_succ]))
    (refine Drawn.gen_take (i := 5) rfl (by kernel_rfl) (by kernel_rfl) (by kernel_rfl) (by kernel_rfl) (by omega) (by assumption) (by first | exact .inr ⟨by rfl, rfl⟩ | exact .inl ⟨by rfl, by intro w2 hS; obtain ⟨hc, hf⟩ := bcell hS; go_simp; first | done | with_reducible rfl | exact ⟨rfl, rfl⟩⟩) ?_; (try simp only [Act.put, List.setIfInBounds_toArray, List.set_cons_zero, List.set_cons_succ]))
    (refine Drawn.gen_take (i := 6) rfl (by kernel_rfl) (by kernel_rfl) (by kernel_rfl) (by kernel_rfl) (by omega) (by assumption) (by first | exact .inr ⟨by rfl, rfl⟩ | exact .inl ⟨by rfl, by intro w2 hS; obtain ⟨hc, hf⟩ := bcell hS; go_simp; first | done | with_reducible rfl | exact ⟨rfl, rfl⟩⟩) ?_; (try simp only [Act.put, List.setIfInBounds_toArray, List.set_cons_zero, List.set_cons_succ]))
    (refine Drawn.gen_take (i := 7) rfl (by kernel_rfl) (by kernel_rfl) (by kernel_rfl) (by kernel_rfl) (by omega) (by assumption) (by first | exact .inr ⟨by rfl, rfl⟩ | exact .inl ⟨by rfl, by intro w2 hS; obtain ⟨hc, hf⟩ := bcell hS; go_simp; first | done | with_reducible rfl | exact ⟨rfl, rfl⟩⟩) ?_; (try simp only [Act.put, List.setIfInBounds_toArray, List.set_cons_zero, List.set_cons_succ]))
    (refine Drawn.gen_take (i := 8) rfl (by kernel_rfl) (by kernel_rfl) (by kernel_rfl) (by kernel_rfl) (by omega) (by assumption) (by first | exact .inr ⟨by rfl, rfl⟩ | exact .inl ⟨by rfl, by intro w2 hS; obtain ⟨hc, hf⟩ := bcell hS; go_simp; first | done | with_reducible rfl | exact ⟨rfl, rfl⟩⟩) ?_; (try simp only [Act.put, List.setIfInBounds_toArray, List.set_cons_zero, List.set_cons_succ]))
    refine Drawn.gen_one (i := 4) (by kernel_rfl) rfl (by rfl) ?_
    refine Drawn.Step.call (by go_simp; first | done | with_reducible rfl | exact ⟨rfl, rfl⟩) (cmp_any lv1 lv2 _) ?_
    rintro e w3 ⟨rfl, rfl⟩
    refine ⟨_, rfl, fun _ => hx, ?_⟩
    (try simp only [Act.put, List.setIfInBounds_toArray, List.set_cons_zero, List.set_cons_succ])
    refine Drawn.gen_one (i := 9) (by kernel_rfl) rfl (by rfl) ?_
    refine Drawn.Step.call (by go_simp; first | done | with_reducible rfl | exact ⟨rfl, rfl⟩) (cmp_any lo1 lo2 _) ?_
    rintro e w3 ⟨rfl, rfl⟩
    refine ⟨_, rfl, fun _ => hx, ?_⟩
    (try simp only [Act.put, List.setIfInBounds_toArray, List.set_cons_zero, List.set_cons_succ])
    refine Drawn.gen_one (i := 10) (by kernel_rfl) rfl (by rfl) ?_
    refine Drawn.Step.value (u := .slice (some ⟨W5.drew.heap.size, 0, none⟩) 2 2) (w' := W5.drew.alloc (.cells #[.int .i64 (cmp3 lv1 lv2), .int .i64 (cmp3 lo1 lo2)] 3)) (by go_simp; first | done | with_reducible rfl | exact ⟨rfl, rfl⟩) ?_
    refine ⟨fun _ => Below.alloc' hx _, ?_⟩
    (try simp only [Act.put, List.setIfInBounds_toArray, List.set_cons_zero, List.set_cons_succ])
    refine Drawn.gen_one (i := 11) (by kernel_rfl) rfl (by rfl) ?_
    refine Drawn.Step.call (by go_simp; first | done | with_reducible rfl | exact ⟨rfl, rfl⟩) (por_any W5.heap.size (cmp3 lv1 lv2) (cmp3 lo1 lo2) z _ HZ.out (by first | exact At.new _ _ | exact At.drew (At.new _ _))) ?_
    rintro e w3 ⟨rfl, rfl⟩
    refine ⟨_, rfl, fun _ => (by first | exact Below.alloc' hx _ | exact Below.drew (Below.alloc' (Below.refl _ _) _)), ?_⟩
    (try simp only [Act.put, List.setIfInBounds_toArray, List.set_cons_zero, List.set_cons_succ])
    refine Drawn.gen_one (i := 12) (by kernel_rfl) rfl (by rfl) ?_
    refine Drawn.Step.value (by go_simp; first | done | with_reducible rfl | exact ⟨rfl, rfl⟩) ?_; refine ⟨by first | (intro hlt; exact absurd hlt (by decide)) | (intro _; exact Below.drew (Below.alloc' (Below.refl _ _) _)), ?_⟩; (try simp only [Act.put, List.setIfInBounds_toArray, List.set_cons_zero, List.set_cons_succ])
    refine Drawn.gen_end (by kernel_rfl) ?_
    go_wp2
    go_ret
    exact ⟨rfl, Below.after2 hB5 (Nat.le_refl _) (by first | exact Below.alloc' hx _ | exact Below.drew (Below.alloc' (Below.refl _ _) _))⟩

end Go.Proofs.Ytbmidmpooooheaa.Fix
