/- The items of a row in memory, and the contract of loose, that tells those that are not frozen. -/
import Derived.Test.YtefofdjkinbfgaaFlexIter
import Derived.Test.YtefofdjkinbfgaaFlexMath
import Derived.Test.YtefofdjkinbfgaaCut
import Derived.Shelf.Abstract
namespace Go.Proofs.Ytefofdjkinbfgaa.Fix
open Go.ChangeShapes Go.WideShapes Go.ChangeAt Go.RowKit Go.Shelf
set_option linter.unusedVariables false
attribute [local go_sem] Oper.semAt_some

/-- A field of an item on the way. -/
def fld (s : Fe.St) (j : Nat) : Value :=
  if j = 0 then .int .i64 s.x.b else if j = 1 then .int .i64 s.x.lo else if j = 2 then .int .i64 s.x.hi else if j = 3 then .int .i64 s.x.g else if j = 4 then .int .i64 s.x.s
  else if j = 5 then .int .i64 s.z else if j = 6 then .int .i64 s.m else .bool s.f

/-- Block I is the items of a row. -/
def Blk (W : World) (I n : Nat) (S : Nat → Fe.St) : Prop :=
  ∃ vs : Array Value, At W I (.cells vs 56) ∧ vs.size = n * 8 ∧ ∀ i j, i < n → j < 8 → vs[i * 8 + j]? = some (fld (S i) j)

theorem Blk.lt {W : World} {I n : Nat} {S : Nat → Fe.St} (h : Blk W I n S) : I < W.heap.size := by obtain ⟨_, h, _⟩ := h; exact h.lt
theorem Blk.cell {W : World} {I n : Nat} {S : Nat → Fe.St} (h : Blk W I n S) {i : Nat} (hi : i < n) (j : Nat) (hj : j < 8) : W.cell? ⟨I, i * 8 + j, none⟩ = some (fld (S i) j) := by
  obtain ⟨vs, h, _, hc⟩ := h
  rw [h.cell]; exact hc i j hi hj
theorem Blk.thaw {W : World} {I n : Nat} {S : Nat → Fe.St} (h : Blk W I n S) (k : Nat) : W.frozen? ⟨I, k, none⟩ = false := by
  obtain ⟨vs, h, _⟩ := h
  exact h.thaw k
theorem Blk.keep {W W' : World} {I n : Nat} {S : Nat → Fe.St} (h : Blk W I n S) (hb : Below W.heap.size W W') : Blk W' I n S := by
  obtain ⟨vs, h, r⟩ := h
  exact ⟨vs, h.keep hb, r⟩
theorem Blk.alloc {W : World} {I n : Nat} {S : Nat → Fe.St} (h : Blk W I n S) (o : Obj) : Blk (W.alloc o) I n S := by
  obtain ⟨vs, h, r⟩ := h
  exact ⟨vs, h.alloc o, r⟩
theorem Blk.off {W : World} {I n b k : Nat} {S : Nat → Fe.St} (h : Blk W I n S) (hne : I ≠ b) (v : Value) : Blk (W.setCell ⟨b, k, none⟩ v) I n S := by
  obtain ⟨vs, h, r⟩ := h
  exact ⟨vs, h.off hne k v, r⟩
theorem Blk.same {W : World} {I n : Nat} {S T : Nat → Fe.St} (h : Blk W I n S) (hs : ∀ i, i < n → S i = T i) : Blk W I n T := by
  obtain ⟨vs, h, hz, hc⟩ := h
  exact ⟨vs, h, hz, fun i j hi hj => by rw [hc i j hi hj, hs i hi]⟩
theorem Blk.put {W : World} {I n : Nat} {S T : Nat → Fe.St} {i j : Nat} {v : Value} (h : Blk W I n S) (hi : i < n) (hj : j < 8) (hv : fld (T i) j = v) (ho : ∀ q, q < 8 → q ≠ j → fld (T i) q = fld (S i) q) (hs : ∀ k, k < n → k ≠ i → T k = S k) :
    Blk (W.setCell ⟨I, i * 8 + j, none⟩ v) I n T := by
  obtain ⟨vs, h, hz, hc⟩ := h
  refine ⟨_, h.set (i * 8 + j) v, by simpa using hz, fun k q hk hq => ?_⟩
  rw [Array.getElem?_setIfInBounds]
  by_cases e : i * 8 + j = k * 8 + q
  · obtain rfl : i = k := by omega
    obtain rfl : j = q := by omega
    rw [if_pos rfl, if_pos (by omega), hv]
  · rw [if_neg e, hc k q hk hq]
    by_cases hik : k = i
    · subst hik
      rw [ho q hq (by omega)]
    · rw [hs k hk hik]
theorem Blk.turn {W : World} {I n r : Nat} {S : Nat → Fe.St} (h : Blk W I n S) (hne : I ≠ r) (o : Obj) : Blk (W.putObj r o) I n S := by
  obtain ⟨vs, h, r⟩ := h
  exact ⟨vs, (World.putObj_heap_other hne).trans h, r⟩
theorem At.turn {W : World} {b r : Nat} {x : Obj} (h : At W b x) (hne : b ≠ r) (o : Obj) : At (W.putObj r o) b x := (World.putObj_heap_other hne).trans h

/-- What the row is. -/
def rowObj (I n : Nat) (room way : Int) : Obj := .cells #[.slice (some ⟨I, 0, none⟩) n n, .int .i64 room, .int .i64 way] 54

/-- What loose looks at, place k on. -/
def Sees (R I n : Nat) (room way : Int) (S : Nat → Fe.St) (i : Nat) (W : World) : Prop :=
  At W R (rowObj I n room way) ∧ I < W.heap.size ∧ ∀ k, i ≤ k → k < n → W.cell? ⟨I, k * 8 + 7, none⟩ = some (.bool (S k).f)

set_option maxRecDepth 100000 in
set_option maxHeartbeats 4000000 in
theorem loose_in (n R I N : Nat) (room way : Int) (S : Nat → Fe.St) (hN : N ≤ 64) (lp : Nat) (J : Nat → World → Prop) (Jx : World → Prop) (W : World)
    (hV : ∀ i W, J i W → Sees R I N room way S i W) (hskip : ∀ i W, i < N → (S i).f = true → J i W → J (i + 1) W)
    (hY : ∀ i W, i < N → (S i).f = false → J i W → YieldAt Fence.wide (n - 1) Try.prog lp #[.int .i64 (Fe.pl S i : Nat), .pointer (some ⟨I, i * 8, none⟩)] W fun e W' => (e = .returned (.bool true) ∧ J (i + 1) W') ∨ (e = .returned (.bool false) ∧ Jx W')) (h0 : J 0 W) :
    CallsIn Fence.wide n Try.prog 30 (#[.pointer (some ⟨R, 0, none⟩)] ++ #[.func (.yield lp) #[] #[]] ++ #[]) W fun e W' => (∃ v, e = .returned v) ∧ (J N W' ∨ Jx W') := by
  have HY := Lib.hid hY
  have HV := Lib.hid hV
  have HS := Lib.hid hskip
  obtain ⟨a0, _, _⟩ := hV 0 W h0
  have l0 := a0.lt
  have c0 := a0.cell 0
  replace c0 : W.cell? ⟨R, 0, none⟩ = some (.slice (some ⟨I, 0, none⟩) N N) := c0
  have H0 := Lib.hid h0
  clear hY hV hskip a0 h0
  refine callsIn_of_wp Try.func30 rfl trivial ?_ rfl
  simp only [Try.ntmps30, List.size_toArray, List.length_cons, List.length_nil, Nat.reduceAdd, Nat.reduceSub, Array.replicate_succ, Array.replicate_zero, List.push_toArray, List.append_toArray, List.nil_append, List.cons_append]
  gi_wp2
  gi_loopw [4, 12] (fun p i wr => ∃ k : Nat, k ≤ N ∧ i = .int .i64 k ∧ p = .int .i64 (Fe.pl S k : Nat) ∧ J k wr) (fun _ i _ => N - (intOf i).toNat)
  case atStart => exact ⟨0, by omega, rfl, rfl, H0.out⟩
  case round =>
    obtain ⟨k, hk, rfl, rfl, hJ⟩ := hrel
    obtain ⟨a1, li, cs⟩ := HV.out k wr hJ
    have l1 := a1.lt
    have c1 := a1.cell 0
    replace c1 : wr.cell? ⟨R, 0, none⟩ = some (.slice (some ⟨I, 0, none⟩) N N) := c1
    by_cases hlt : k < N
    · have hltz : (k : Int) < (N : Int) := by omega
      have cf := cs k (Nat.le_refl _) hlt
      have hpl := Fe.pl_le S k
      cases hf : (S k).f with
      | true =>
        rw [hf] at cf
        have hJ2 := HS.out k wr hlt hf hJ
        have HP : Hid (Fe.pl S (k + 1) = Fe.pl S k) := Lib.hid (by simp [Fe.pl, hf])
        clear cs
        gi_wp2
        go_roundw
        case rel => exact ⟨k + 1, by omega, by go_num, by rw [HP.out], hJ2⟩
        case measure => simp [intOf]; omega
      | false =>
        rw [hf] at cf
        have HP : Hid (Fe.pl S (k + 1) = Fe.pl S k + 1) := Lib.hid (by simp [Fe.pl, hf])
        obtain ⟨fn, tmps, assign, body, hy, hR⟩ := HY.out k wr hlt hf hJ
        clear cs
        gi_wp2
        refine ⟨fun hd => (by simp [Fence.wide] at hd), hR.mono ?_⟩
        rintro e W3 (⟨rfl, hJ3⟩ | ⟨rfl, hJx3⟩)
        · gi_wp2
          go_roundw
          case rel => exact ⟨k + 1, by omega, by go_num, by rw [HP.out]; go_num, hJ3⟩
          case measure => simp [intOf]; omega
        · gi_wp2
          refine bodyPost_ret (results_none rfl _ _ _) rfl ?_
          exact ⟨⟨_, rfl⟩, .inr hJx3⟩
    · have hltz : ¬ (k : Int) < (N : Int) := by omega
      obtain rfl : k = N := by omega
      gi_wp2
      go_end0
      exact ⟨⟨_, rfl⟩, .inl hJ⟩

end Go.Proofs.Ytefofdjkinbfgaa.Fix
