/- The contract of freeze of the layer flex: two ranges over a method value. -/
import Derived.Test.YtefofdjkinbfgaaFlexAny
namespace Go.Proofs.Ytefofdjkinbfgaa.Fix
open Go.ChangeShapes Go.WideShapes Go.ChangeAt Go.RowKit Go.Shelf
set_option linter.unusedVariables false
attribute [local go_sem] Oper.semAt_some

/-- So far, place by place. -/
def mix (S T : Nat → Fe.St) (i : Nat) : Nat → Fe.St := fun k => if k < i then T k else S k
theorem mix_zero (S T : Nat → Fe.St) : mix S T 0 = S := by funext k; simp [mix]
theorem mix_ge {S T : Nat → Fe.St} {i k : Nat} (h : i ≤ k) : mix S T i k = S k := by simp [mix, show ¬ k < i by omega]
theorem mix_same {S T : Nat → Fe.St} {i : Nat} (h : T i = S i) : mix S T (i + 1) = mix S T i := by
  funext k
  unfold mix
  rcases Nat.lt_trichotomy k i with h' | h' | h'
  · simp [h', show k < i + 1 by omega]
  · subst h'; simp [h]
  · simp [show ¬ k < i by omega, show ¬ k < i + 1 by omega]
theorem mix_at (S T : Nat → Fe.St) (i : Nat) : mix S T (i + 1) i = T i := by simp [mix]
theorem mix_off (S T : Nat → Fe.St) {i k : Nat} (h : k ≠ i) : mix S T (i + 1) k = mix S T i k := by
  unfold mix
  rcases Nat.lt_or_ge k i with h' | h'
  · simp [h', show k < i + 1 by omega]
  · simp [show ¬ k < i by omega, show ¬ k < i + 1 by omega]
theorem mix_all (S T : Nat → Fe.St) (n : Nat) : ∀ i, i < n → mix S T n i = T i := fun i hi => by simp [mix, hi]
theorem RowW.mixed {W : World} {R I n i : Nat} {room : Int} {gr : Bool} {S T : Nat → Fe.St} (h : RowW W R I n room gr (mix S T i)) : Sees R I n room (Fe.sg gr) S i W :=
  ⟨h.1, h.2.lt, fun k hk hn => by have := h.2.cell hn 7 (by omega); rw [mix_ge hk] at this; exact this⟩

theorem RowW.ne {W : World} {R I n : Nat} {room : Int} {gr : Bool} {S : Nat → Fe.St} (h : RowW W R I n room gr S) : R ≠ I := by
  rintro rfl
  obtain ⟨h1, vs, h2, _⟩ := h
  unfold At rowObj at h1
  unfold At at h2
  rw [h1] at h2
  injection h2 with h2
  injection h2 with _ h2
  exact absurd h2 (by decide)

theorem made_bd {S : Nat → Fe.St} {n : Nat} (h : ∀ i, i < n → -134217728 ≤ (S i).m ∧ (S i).m ≤ 134217728) (k : Nat) (hk : k ≤ n) : -134217728 * k ≤ Fe.made S k ∧ Fe.made S k ≤ 134217728 * k := by
  induction k with
  | zero => simp [Fe.made]
  | succ k ih =>
    have := ih (by omega)
    have := h k (by omega)
    simp only [Fe.made]
    split <;> constructor <;> omega

set_option maxRecDepth 100000 in
set_option maxHeartbeats 4000000 in
theorem freeze_any (N R I n : Nat) (room : Int) (gr : Bool) (S : Nat → Fe.St) (w : World) (h : RowW w R I n room gr S) (hn : n ≤ 64) (hN : N ≤ I ∧ N ≤ w.heap.size) (hm : ∀ i, i < n → -134217728 ≤ (S i).m ∧ (S i).m ≤ 134217728) :
    Calls Try.prog 25 #[.pointer (some ⟨R, 0, none⟩)] w fun e w' => (∃ v, e = .returned v) ∧ RowW w' R I n room gr (Fe.froze n S) ∧ Below N w w' := by
  have hmf : ∀ (fn : Fn) (first cap : Array Value) (w : World), (Instr.makeFunc fn first cap).run Try.prog w = .ok (.func fn first cap) w := fun _ _ _ _ => rfl
  have hR := h.1.lt
  have hI := h.2.lt
  have HR := Lib.hid h
  have HM := Lib.hid hm
  clear h hm
  refine (callsIn_wide (n := 5)).1 ?_
  refine callsIn_of_wp_marks Try.func25 rfl trivial ?_ rfl
  simp only [Try.ntmps25, List.size_toArray, List.length_cons, List.length_nil, Nat.reduceAdd, Nat.reduceSub, Array.replicate_succ, Array.replicate_zero, List.push_toArray, List.append_toArray, List.nil_append, List.cons_append]
  gi_wp2
  obtain ⟨W0, hA, hB, hRW, hsz, hW⟩ : ∃ W0, At W0 w.heap.size (.cells #[.int .i64 0] 3) ∧ Below N w W0 ∧ RowW W0 R I n room gr S ∧ W0.heap.size = w.heap.size + 1 ∧ w.alloc (.cells #[.int .i64 0] 3) = W0 :=
    ⟨_, At.new w (.cells #[.int .i64 0] 3), (Below.refl _ _).alloc hN.2 _, HR.out.alloc _, by simp, rfl⟩
  rw [hW]
  clear hW
  refine range_places (n := 5) (gf := 30) (first := #[.pointer (some ⟨R, 0, none⟩)]) (lb := #[]) rfl (enters_of Try.func30 (by kernel_rfl) rfl) n (fun i => (S i).f) (fun i => #[.int .i64 (Fe.pl S i : Nat), .pointer (some ⟨I, i * 8, none⟩)]) (fun _ => rfl)
    (fun i W => RowW W R I n room gr S ∧ At W w.heap.size (.cells #[.int .i64 (Fe.made S i)] 3) ∧ Below N w W)
    (fun W => False)
    (fun i W r o o' h hr hW _ => ⟨h.1.turn (by omega) (by omega) o, h.2.1.turn (by omega) o, Below.turn h.2.2 (by omega) hW o⟩)
    (fun W r o o' h hr hW _ => h)
    (fun o1 o2 => ⟨(hRW.alloc o1).alloc o2, (hA.alloc o1).alloc o2, (hB.alloc (by omega) o1).alloc (by simp; omega) o2⟩)
    (fun lp J Jx W hV hs hY hJ => loose_in 4 R I n room (Fe.sg gr) S hn lp J Jx W (fun i W h => (hV i W h).1.sees i) hs hY hJ)
    (fun i W hi hf h => ⟨h.1, by simp only [Fe.made, hf, if_true]; exact h.2.1, h.2.2⟩)
    (fun i t => ((t.setIfInBounds 9 (.int .i64 (Fe.pl S i : Nat))).setIfInBounds 10 (.pointer (some ⟨I, i * 8, none⟩))).setIfInBounds 4 (.pointer (some ⟨I, i * 8, none⟩))) ?assign ?body ?done ?stop
  case assign =>
    intro l i W G hi hG
    (simp only [List.setIfInBounds_toArray, List.set_cons_zero, List.set_cons_succ] at hG)
    gi_wp2
    first | exact hG | simpa using hG
  case body =>
    rintro l i W hi hf ⟨hR1, hA1, hB1⟩
    have hc := hA1.cell 0
    have hz := hA1.thaw 0
    have l1 := hA1.lt
    obtain ⟨l2, d0, d1, d2, d3, d4, d5, d6, d7⟩ := hR1.2.fields hi
    have g1 := made_bd HM.out i (by omega)
    have g2 := HM.out i hi
    have HL : Hid (Fe.made S (i + 1) = Fe.made S i + (S i).m) := Lib.hid (by simp [Fe.made, hf])
    have w1 : IntKind.i64.wrap (Fe.made S i + (S i).m) = Fe.made S (i + 1) := by rw [HL.out]; exact IntWalk.i64_in _ (by omega)
    generalize hT : Fe.made S (i + 1) = T at *
    have HT := Lib.hid hT; clear hT
    generalize Fe.made S i = u at *
    generalize (S i).m = v at *
    clear d0 d1 d2 d3 d4 d5 d7
    (simp only [List.setIfInBounds_toArray, List.set_cons_zero, List.set_cons_succ])
    gi_upto_region 3 with (fail)
    refine Drawn.round_tail 6 1 (Below.refl _ _) (by kernel_rfl) (by kernel_rfl) rfl (by kernel_rfl) (by kernel_rfl) (by kernel_rfl) (by rintro ⟨_, _, hh⟩; exact hh) ?_
    (repeat (first | (refine Drawn.seq_skip (by rfl) ?_; (try simp only [Act.put, List.setIfInBounds_toArray, List.set_cons_zero, List.set_cons_succ])) | (refine Drawn.seq_call (o := ⟨_, .call ⟨.value _, _, _⟩, _, _, _, _⟩) (by rfl) (by intro w2 hS; go_simp; first | done | with_reducible rfl | exact ⟨rfl, rfl⟩) (by intro w2 hS; first | ((with_reducible refine (cut_any _ _).mono ?_); rintro e w' ⟨rfl, rfl⟩; exact ⟨rfl, hS⟩)) ?_; (try simp only [Act.put, List.setIfInBounds_toArray, List.set_cons_zero, List.set_cons_succ])) | (refine Drawn.seq_value (by rfl) (by intro w2 hS; obtain ⟨hc, hf⟩ := bcell hS; go_simp; first | done | with_reducible rfl | exact ⟨rfl, rfl⟩) ?_; (try simp only [Act.put, List.setIfInBounds_toArray, List.set_cons_zero, List.set_cons_succ]))))
    refine Drawn.seq_tail ?_; intro w2 hS
    have A2 := hA1.keep hS
    have z2 := A2.thaw 0
    have e2 := A2.cell 0
    refine Drawn.text_cons (by rfl) ?_; intro K hK; go_simp; refine hK _ _ (Drawn.text_nil ?_); clear hK K
    gi_wp2
    refine ⟨(KeepsFrom.of_below hS).trans ((KeepsOthers.setCell _ _ _).from _), (hR1.keep hS).off (by omega) (by omega) _, ?_, Below.setCell (Below.trans hB1 (hS.mono (by omega))) hN.2 _⟩
    exact A2.set 0 _
  case stop => exact fun D W hD h _ => h.elim
  case done =>
    rintro D W hD ⟨hR1, hA1, hB1⟩ hK
    have hlD := (Array.getElem?_eq_some_iff.1 hK).1
    generalize hT : Fe.made S n = T at *
    have HT := Lib.hid hT; clear hT
    have hF : ∀ i, Fe.froze n S i = if (S i).f then S i else ⟨(S i).x, (S i).z, (S i).m, Fe.frz T (S i).m⟩ := fun i => by unfold Fe.froze; rw [HT.out]
    have HF := Lib.hid hF
    clear hF hA hB hRW HR
    gi_wp2
    refine range_places (n := 5) (gf := 30) (first := #[.pointer (some ⟨R, 0, none⟩)]) (lb := #[]) rfl (enters_of Try.func30 (by kernel_rfl) rfl) n (fun i => (S i).f) (fun i => #[.int .i64 (Fe.pl S i : Nat), .pointer (some ⟨I, i * 8, none⟩)]) (fun _ => rfl)
      (fun i W => RowW W R I n room gr (mix S (Fe.froze n S) i) ∧ At W w.heap.size (.cells #[.int .i64 T] 3) ∧ Below N w W ∧ W.heap[D]? = some (.deferred (some [])))
      (fun W => False)
      (fun i W r o o' h hr hW _ => ⟨h.1.turn (by omega) (by omega) o, h.2.1.turn (by omega) o, Below.turn h.2.2.1 (by omega) hW o, (World.putObj_heap_other (by omega)).trans h.2.2.2⟩)
      (fun W r o o' h hr hW _ => h)
      (fun o1 o2 => ⟨by rw [mix_zero]; exact (hR1.alloc o1).alloc o2, (hA1.alloc o1).alloc o2, (hB1.alloc (by omega) o1).alloc (by simp; omega) o2, (At.alloc (show At W D _ from hK) o1).alloc o2⟩)
      (fun lp J Jx W hV hs hY hJ => loose_in 4 R I n room (Fe.sg gr) S hn lp J Jx W (fun i W h => (hV i W h).1.mixed) hs hY hJ)
      (fun i W hi hf h => ⟨by rw [mix_same (by rw [HF.out, hf]; rfl)]; exact h.1, h.2⟩)
      (fun i t => ((t.setIfInBounds 19 (.int .i64 (Fe.pl S i : Nat))).setIfInBounds 20 (.pointer (some ⟨I, i * 8, none⟩))).setIfInBounds 6 (.pointer (some ⟨I, i * 8, none⟩))) ?assign ?body ?done ?stop
    case assign =>
      intro l i W G hi hG
      (simp only [List.setIfInBounds_toArray, List.set_cons_zero, List.set_cons_succ] at hG)
      gi_wp2
      first | exact hG | simpa using hG
    case body =>
      rintro l i W2 hi hf ⟨hR2, hA2, hB2, hD2⟩
      have hc := hA2.cell 0
      have hz := hA2.thaw 0
      have l1 := hA2.lt
      obtain ⟨l2, d0, d1, d2, d3, d4, d5, d6, d7⟩ := hR2.2.fields hi
      rw [mix_ge (Nat.le_refl _)] at d6
      have z7 := hR2.2.thaw (i * 8 + 7)
      have HN : Hid (Fe.froze n S i = ⟨(S i).x, (S i).z, (S i).m, Fe.frz T (S i).m⟩) := Lib.hid (by rw [HF.out, hf]; rfl)
      have hne := hR2.ne
      have fin : ∀ b, Fe.frz T (S i).m = b → roundEnd W.heap.size (fun W => RowW W R I n room gr (mix S (Fe.froze n S) (i + 1)) ∧ At W w.heap.size (.cells #[.int .i64 T] 3) ∧ Below N w W ∧ W.heap[D]? = some (.deferred (some []))) (fun _ => False) W2 .normal { tmps := #[], defers := [] } (W2.setCell ⟨I, i * 8 + 7, none⟩ (.bool b)) := by
        intro b hb
        refine ⟨(KeepsOthers.setCell _ _ _).from _, ⟨hR2.1.off (by omega) _ _, ?_⟩, hA2.off (by omega) _ _, Below.setCell hB2 hN.1 _, (KeepsOthers.setCell _ _ _).same _ _ hD2 rfl⟩
        refine hR2.2.put hi (by omega) ?_ ?_ ?_
        · rw [mix_at, HN.out]; simp [fld, hb]
        · intro q hq hqn
          rw [mix_at, HN.out, mix_ge (Nat.le_refl _)]
          unfold fld
          (repeat' split) <;> first | rfl | omega
        · intro k hk hkn; rw [mix_off _ _ hkn]
      have FIN := Lib.hid fin
      clear fin d0 d1 d2 d3 d4 d5 HN
      generalize (S i).m = v at *
      (simp only [List.setIfInBounds_toArray, List.set_cons_zero, List.set_cons_succ])
      rcases Int.lt_trichotomy T 0 with hT | hT | hT
      · have q1 : decide (T = 0) = false := by simp; omega
        have q2 : decide (0 < T) = false := by simp; omega
        have q3 : decide (T < 0) = true := by simp; omega
        by_cases hv : v < 0
        · gi_wp2
          refine FIN.out _ ?_
          unfold Fe.frz; rw [q1, q2, q3]; first | (simp; done) | (simp; omega)
        · gi_wp2
          refine FIN.out _ ?_
          rw [show (T == 0) = false by simp; omega]; unfold Fe.frz; rw [q1, q2, q3]; simp; omega
      · subst hT
        gi_wp2
        refine FIN.out _ ?_
        simp [Fe.frz]
      · have q1 : decide (T = 0) = false := by simp; omega
        have q2 : decide (0 < T) = true := by simp; omega
        have q3 : decide (T < 0) = false := by simp; omega
        by_cases hv : 0 < v
        · gi_wp2
          refine FIN.out _ ?_
          unfold Fe.frz; rw [q1, q2, q3]; first | (simp; done) | (simp; omega)
        · gi_wp2
          refine FIN.out _ ?_
          rw [show (T == 0) = false by simp; omega]; unfold Fe.frz; rw [q1, q2, q3]; simp; omega
    case stop => exact fun D W hD h _ => h.elim
    case done =>
      rintro D2 W2 hD2 ⟨hR2, hA2, hB2, hK1⟩ hK2
      gi_wp2
      have hl2 := (Array.getElem?_eq_some_iff.1 hK2).1
      refine ⟨by simp, .inl ⟨_, _, rfl, run_takeDeferred hK2, ?_⟩⟩
      have hK3 : (W2.putObj D2 (.deferred none)).heap[D]? = some (.deferred (some [])) := (World.putObj_heap_other (by omega)).trans hK1
      refine ⟨by simp, .inl ⟨_, _, rfl, run_takeDeferred hK3, ?_⟩⟩
      exact ⟨_, results_none rfl _ _ _, ⟨_, rfl⟩, ⟨((hR2.turn (by omega) (by omega) _).turn (by omega) (by omega) _).1, (((hR2.turn (by omega) (by omega) _).turn (by omega) (by omega) _).2.same (mix_all _ _ _))⟩, Below.turn (Below.turn hB2 (by omega) hK2 _) (by omega) hK3 _⟩

end Go.Proofs.Ytefofdjkinbfgaa.Fix
