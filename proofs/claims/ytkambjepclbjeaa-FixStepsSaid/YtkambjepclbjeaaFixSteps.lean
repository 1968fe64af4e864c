/- The walk of FixSteps: the sum of a list of small numbers is their total; what is beyond the limit stays there. -/
import Derived.Test.YtkambjepclbjeaaWorks
import Derived.Maps.AppendAt
namespace Go.Proofs.Ytkambjepclbjeaa.Fix
open Go.ChangeShapes Go.WideShapes Go.ChangeAt Go.RowKit
set_option linter.unusedVariables false

theorem intInfo' : (Try.prog.info? 3).map (fun i => (i.zero, i.size, i.bytes)) = some (some (.int .i64 0), 1, 8) := by kernel_rfl

theorem steps_big (A : Option Addr) (n c : Nat) (m : Int) (w : World) (hm : 100 < n) (hx : n ≤ 9223372036854775807) :
    Calls Try.prog 9 #[.slice A n c, .int .i64 m] w fun e w' => e = .returned (.bool true) ∧ Below w.heap.size w w' := by
  go_enter Try.func9, Try.ntmps9
  go_wp2_with (go_at_call 10; refine (works_any _).mono ?_; rintro e w1 ⟨rfl, hb, hg⟩)
  go_ret
  exact ⟨rfl, hb⟩

theorem steps_neg (A : Option Addr) (n c : Nat) (m : Int) (w : World) (hm : n ≤ 100) (hx : m < 0) :
    Calls Try.prog 9 #[.slice A n c, .int .i64 m] w fun e w' => e = .returned (.bool true) ∧ Below w.heap.size w w' := by
  have hd : decide (100 < (n : Int)) = false := by simp; omega
  go_enter Try.func9, Try.ntmps9
  go_wp2_with (go_at_call 10; refine (works_any _).mono ?_; rintro e w1 ⟨rfl, hb, hg⟩)
  go_ret
  exact ⟨rfl, hb⟩

theorem append_one {w : World} {A : Option Addr} {l : List Int} {c : Nat} (x : Int) (hI : Ints w A l) (hc : A = none → c = 0) (hm : l.length ≤ 1000) :
    ∃ v' w', (Builtin.append_ #[27, 27] 27 #[.slice (some ⟨w.heap.size, 0, none⟩) 1 1, .slice A l.length c]).run Try.prog (w.alloc (.cells #[.int .i64 x] 3)) = .ok v' w' ∧
      w'.ownsRow w.heap.size 3 1 v' (1 + l.length) ((x :: l).map (Value.int .i64)) ∧ Below w.heap.size w w' := by
  obtain ⟨i0, hi0, hz0, hz1, hz2⟩ := info_parts intInfo'
  have hown : (w.alloc (.cells #[.int .i64 x] 3)).ownsRow w.heap.size 3 1 (.slice (some ⟨w.heap.size, 0, none⟩) 1 1) 1 [.int .i64 x] :=
    ⟨rfl, .inr ⟨w.heap.size, 1, #[.int .i64 x], rfl, Nat.le_refl _, heap_alloc_new w _, Nat.le_refl _, by simp only [maxLen]; omega, rfl, rfl⟩⟩
  have hb : Below w.heap.size w (w.alloc (.cells #[.int .i64 x] 3)) := (Below.refl _ _).alloc (Nat.le_refl _) _
  rcases A with _ | ad
  · have h0 : l = [] := by
      rcases Nat.eq_zero_or_pos l.length with h | h
      · exact List.eq_nil_of_length_eq_zero h
      · obtain ⟨b, o, e, _⟩ := hI.2 h; cases e
    subst h0
    rw [hc rfl]
    exact ⟨_, _, run_append_owned_none _ _ 27 27 3 i0 1 Try.underlying27 hi0 _ 1 _ hown, hown, hb⟩
  · obtain ⟨v', w', hr, ho, hg, _, _⟩ := run_append_own_at (P := Try.prog) _ w.heap.size 27 27 3 i0 (.int .i64 0) 1 8 Try.underlying27 hi0 hz0 hz1 hz2 rfl (by decide) _ 1 _ hown ad l.length c (l.map (Value.int .i64)) (by simp)
      (by
        intro j u hu
        have hj : j < l.length := by
          rcases Nat.lt_or_ge j l.length with h | h
          · exact h
          · rw [List.getElem?_eq_none (by simpa using h)] at hu; cases hu
        obtain ⟨b, o, e, hcell⟩ := hI.2 (by omega)
        injection e with e
        subst e
        have hcj := hcell j hj
        have hlt := World.block_lt_of_cell? _ _ hcj
        have e2 : (⟨b, o, none⟩ : Addr).add j = ⟨b, o + j, none⟩ := by
          unfold Addr.add; split
          · subst j; rfl
          · rfl
        rw [e2, World.cell?_alloc_lt w _ _ hlt, hcj, ← hu]
        simp [List.getElem?_eq_getElem hj])
      (by intro u hu; obtain ⟨z, _, rfl⟩ := List.mem_map.1 hu; rfl) (by simp only [maxLen]; omega) (by omega) (by simp)
    exact ⟨v', w', hr, ho, hb.grown hg (by simp) (fun k hk => by simp [Value.ownBlock] at hk; omega)⟩

def StepsRel (l : List Int) (n : Nat) (s i : Value) : Prop :=
  ∃ k : Nat, k ≤ n ∧ i = .int .i64 k ∧ s = .int .i64 (Fx.tot (l.take k)) ∧ (∀ x ∈ l.take k, 0 ≤ x ∧ x ≤ 1073741824) ∧ 0 ≤ Fx.tot (l.take k) ∧ Fx.tot (l.take k) ≤ k * 1073741824

theorem steps_core (A : Option Addr) (l : List Int) (c : Nat) (m : Int) (w : World) (hI : Ints w A l) (hA : 0 < l.length → ∀ x, A = some x → x.block < w.heap.size) (hm : l.length ≤ 100) (h0 : 0 ≤ m) (h1 : m ≤ 9223372036854775807) (hcap : A = none → c = 0) :
    Calls Try.prog 9 #[.slice A l.length c, .int .i64 m] w fun e w' => e = .returned (.bool true) ∧ Below w.heap.size w w' := by
  obtain ⟨i0, hi0, hz0, hz1, hz2⟩ := info_parts intInfo'
  generalize hn : l.length = n at *
  have HN := Lib.hid hn; clear hn
  have HI := Lib.hid hI; clear hI
  have HA := Lib.hid hA; clear hA
  have HCP := Lib.hid hcap; clear hcap
  have hd : decide (100 < (n : Int)) = false := by simp; omega
  have hd2 : decide (m < 0) = false := by simp; omega
  go_enter Try.func9, Try.ntmps9
  go_wp2_with (go_at_call 10; refine (works_any _).mono ?_; rintro e w1 ⟨rfl, hb, hg⟩)
  go_loop [6, 7] (fun s i => StepsRel l n s i) (fun _ i => n - (intOf i).toNat)
  case atStart => exact ⟨0, by omega, rfl, rfl, by simp, by simp [Fx.tot], by simp [Fx.tot]⟩
  case round =>
    obtain ⟨k, hk, rfl, rfl, hall, t0, t1⟩ := hrel
    have HALL := Lib.hid hall; clear hall
    by_cases hlt : k < n
    · obtain ⟨b, off, rfl, hc⟩ := HI.out.2 (by rw [HN.out]; omega)
      have hcell := hc k (by rw [HN.out]; omega)
      have hcell : w1.cell? ⟨b, off + k, none⟩ = some (.int .i64 (l.getD k 0)) := (hb.cell (p := ⟨b, off + k, none⟩) (HA.out (by omega) ⟨b, off, none⟩ rfl)).trans hcell
      clear hc
      have hs : Hid (l.take (k + 1) = l.take k ++ [l.getD k 0]) := Lib.hid (take_snoc_int l k (by rw [HN.out]; exact hlt))
      generalize l.getD k 0 = z at *
      by_cases z1 : z < 0
      · go_wp2
        go_ret
        exact ⟨rfl, hb⟩
      · have dz : decide (z < 0) = false := by simp; omega
        by_cases z2 : 1073741824 < z
        · go_wp2
          go_ret
          exact ⟨rfl, hb⟩
        · have HT : Hid (Fx.tot (l.take (k + 1)) = Fx.tot (l.take k) + z) := Lib.hid (by rw [hs.out, Fx.tot_snoc])
          go_wp2
          go_round
          case rel =>
            refine ⟨k + 1, by omega, by go_num, by rw [HT.out], ?_, by rw [HT.out]; omega, by rw [HT.out]; omega⟩
            rw [hs.out]
            intro x hx
            rcases List.mem_append.1 hx with h | h
            · exact HALL.out x h
            · simp at h; subst h; omega
          case measure => simp [intOf]; omega
    · obtain rfl : k = n := by omega
      have ht : l.take k = l := List.take_of_length_le (by rw [HN.out]; omega)
      have hpos : ∀ x ∈ l, 0 ≤ x := by intro x hx; exact (HALL.out x (by rw [ht]; exact hx)).1
      have hsm : Fx.smallB l = true := List.all_eq_true.2 (by intro x hx; have := HALL.out x (by rw [ht]; exact hx); simp; omega)
      have hsum : Fx.sum l = Fx.tot (l.take k) := by rw [ht]; exact Fx.sum_plain hsm (by rw [HN.out]; omega)
      have HM : Hid (Fx.sum (1099511627776 :: l) = 1099511627776) := Lib.hid (Fx.sum_most l hpos)
      have hIr := HI.out.keep hb (by rw [HN.out]; exact HA.out)
      have S1 := sum_any A l c w1 hIr
      rw [HN.out, hsum] at S1
      have S1 := Lib.hid S1
      obtain ⟨v', w', hrun, hown, hbel⟩ := append_one 1099511627776 hIr HCP.out (by rw [HN.out]; omega)
      rw [HN.out] at hrun hown
      obtain ⟨A', c', rfl, hI'⟩ := ints_of_own hown (by simp only [maxLen]; omega)
      have S3 := sum_any A' _ c' w' hI'
      rw [HM.out] at S3
      rw [List.length_cons, HN.out] at S3 hrun
      have S3 := Lib.hid S3
      have HRUN := Lib.hid hrun
      clear hrun
      have HB := Lib.hid (hb.trans (hbel.mono hb.size))
      clear hbel hI' hown
      clear hsum hsm hpos ht hIr
      have e1 := Fx.add_most m h0
      have e2 := Fx.sub_most m h0
      go_wp2_with fail
      refine S1.out.mono ?_
      rintro e w' ⟨rfl, rfl⟩
      go_wp2_with (first
        | (go_at_call 13; refine (add_any _ _ _).mono ?_; rintro e w' ⟨rfl, rfl⟩)
        | (go_at_call 15; refine (sub_any _ _ _).mono ?_; rintro e w' ⟨rfl, rfl⟩)
        | (at_builtin; refine wpList_append_run (by rfl) _ _ 27 rfl rfl rfl HRUN.out ?_))
      refine S3.out.mono ?_
      rintro e w'' ⟨rfl, rfl⟩
      go_wp2
      go_ret
      exact ⟨rfl, HB.out⟩
theorem steps_walk (a : Option Addr) (len cap : Nat) (zs : List Int) (m : Int) (w : World)
    (h : (a = none ∧ len = 0 ∧ cap = 0 ∧ zs = []) ∨ ∃ x, a = some x ∧ len ≤ cap ∧ cap ≤ maxLen ∧ zs.length = cap ∧ (∀ i, i < zs.length → w.cell? (x.add i) = some (.int .i64 (zs.getD i 0))) ∧ ∀ n ∈ zs, (Lit.int .i64 n).wf = true)
    (h1 : m ≤ 9223372036854775807) :
    Calls Try.prog 9 #[.slice a len cap, .int .i64 m] w fun e w' => e = .returned (.bool true) ∧ Below w.heap.size w w' := by
  obtain ⟨l, rfl, hI, hlt, _, hcap⟩ := ints_of_row h
  by_cases hm : l.length ≤ 100
  · by_cases h0 : 0 ≤ m
    · exact steps_core a l cap m w hI hlt hm h0 h1 hcap
    · exact steps_neg a l.length cap m w hm (by omega)
  · exact steps_big a l.length cap m w (by omega) (by have := hI.1; simp only [maxLen] at this; omega)
end Go.Proofs.Ytkambjepclbjeaa.Fix
