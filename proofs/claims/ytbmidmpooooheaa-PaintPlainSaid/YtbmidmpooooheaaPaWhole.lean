/- The functions to range over: Backward's, and the one that tells a whole layer. -/
import Derived.Test.YtbmidmpooooheaaPaWkMath
import Derived.Test.YtbmidmpooooheaaPaStacks
namespace Go.Proofs.Ytbmidmpooooheaa.Fix
open Go.ChangeShapes Go.WideShapes Go.ChangeAt Go.RowKit Go.Deep Go.Joins Go.Shelf
set_option linter.unusedVariables false
set_option linter.unusedSimpArgs false
set_option maxRecDepth 100000
attribute [local go_sem] Oper.semAt_some

set_option maxHeartbeats 4000000 in
theorem pback_in (nn lp sb : Nat) (v : Value) (L : List Nat) (J : Nat → (Nat → Prop) → World → Prop) (Jx : (Nat → Prop) → World → Prop) (S : Nat → Prop) (W : World) (hv : Rv W v L) (hsb : At W sb (.cells #[v] 26)) (hL : L.length ≤ 10000)
    (hS : ∀ b, S b → b < W.heap.size ∧ b ≠ sb ∧ v.ownBlock ≠ some b) (hJ : Stab J) (hJx : StabX Jx)
    (hY : ∀ m i S W, i < L.length → J i S W → YieldAt Fence.wide m Try.prog lp #[.int .i64 ((L.length - 1 - i : Nat) : Int), .int .i64 ((pints L).getD (L.length - 1 - i) 0)] W (YPost J Jx i S W)) (h0 : J 0 S W) :
    CallsIn Fence.wide nn Try.prog 37 #[.func (.yield lp) #[] #[], .pointer (some ⟨sb, 0, none⟩)] W (IPost J Jx L.length S W) := by
  obtain ⟨A, c, rfl, hI, hc1, hc2, hA⟩ := hv.ints
  have cs := hsb.cell 0
  simp only [List.getElem?_toArray, List.getElem?_cons_zero] at cs
  generalize hm : L.length = m at *
  have HM := Lib.hid hm
  have HS := Lib.hid hS
  have HJ := Lib.hid hJ
  have HJX := Lib.hid hJx
  have HY := Lib.hid hY
  have HR := Lib.hid hv
  have HSB := Lib.hid hsb
  have hw0 : IntKind.i64.wrap ((m : Int) - 1) = (m : Int) - 1 := IntWalk.i64_in _ (by omega)
  clear hS hJ hJx hY hv hsb hm
  refine callsIn_of_wp_marks Try.func37 rfl trivial ?_ rfl
  simp only [Try.ntmps37, List.size_toArray, List.length_cons, List.length_nil, Nat.reduceAdd, Nat.reduceSub, Array.replicate_succ, Array.replicate_zero, List.push_toArray, List.append_toArray, List.nil_append, List.cons_append]
  have hdp : ∀ k : Nat, (Fence.wide.depth.isSome = true → 1 ≤ k) := fun k h => by simp [Fence.wide] at h
  gi_wp2
  refine wpIn_loop (fun a' W' => ∃ (i : Nat) (S' : Nat → Prop) (u7 u8 u9 u10 u11 u12 u13 u14 u15 u16 u17 u18 : Value), i ≤ m ∧ J i S' W' ∧ Went S S' W W' ∧
    a' = { tmps := #[Value.func (Fn.yield lp) #[] #[], Value.pointer (some ⟨sb, 0, none⟩), undef, Value.int IntKind.i64 ((m : Int) - 1 - i), Value.slice A m c, Value.int IntKind.i64 (m : Int), Value.int IntKind.i64 ((m : Int) - 1), u7, u8, u9, u10, u11, u12, u13, u14, u15, u16, u17, u18], defers := [] }) (fun a' _ => (intOf (a'.tmps.getD 3 undef) + 1).toNat) ?start ?round
  case start => exact ⟨0, S, undef, undef, undef, undef, undef, undef, undef, undef, undef, undef, undef, undef, Nat.zero_le _, h0, Went.refl _ _, by simp⟩
  case round =>
    clear h0 cs hI
    rintro a' W' ⟨i, S', u7, u8, u9, u10, u11, u12, u13, u14, u15, u16, u17, u18, him, hJi, hw, rfl⟩
    by_cases hlt : i < m
    · obtain ⟨q, hq1, hq2⟩ : ∃ q : Nat, (m : Int) - 1 - i = q ∧ m - 1 - i = q := ⟨m - 1 - i, by omega, rfl⟩
      have hqm : q < m := by omega
      have hq0 : (0 : Int) ≤ (q : Int) := by omega
      have hqw : IntKind.i64.wrap ((q : Int) - 1) = (q : Int) - 1 := IntWalk.i64_in _ (by omega)
      have hsb' := HSB.out.out (M := S) (fun z => (HS.out _ z).2.1 rfl) hw.1
      have hRv' := HR.out.out (M := S) (fun g hg z => (HS.out _ z).2.2 hg) hw.1
      obtain ⟨A', c', eA, hI', _⟩ := hRv'.ints
      injection eA with eA eb ec
      subst eA ec
      clear eb
      obtain ⟨b, o, rfl, lb, hc⟩ := hI'.at_ (k := q) (by rw [pints_len, HM.out]; exact hqm)
      have cs := hsb'.cell 0
      simp only [List.getElem?_toArray, List.getElem?_cons_zero] at cs
      have lsb := hsb'.lt
      have hyy := HY.out (nn - 1) i S' W' hlt hJi
      rw [hq2] at hyy
      rw [hq1]
      generalize (pints L).getD q 0 = y at *
      obtain ⟨fn, tmps, assign, body, hy, hRd⟩ := hyy
      have hy' : (Instr.yield lp #[.int .i64 (q : Int), .int .i64 y]).run Try.prog W' = .ok (.round lp fn tmps assign body) W' := hy
      clear hI' hy hc2 hA
      have HQ := Lib.hid hq1
      clear hq1 hq2
      gi_wp2
      refine ⟨hdp _, hRd.mono ?_⟩
      rintro e W3 ⟨S3, hw3, (⟨rfl, hJ3⟩ | ⟨rfl, hJx3⟩)⟩
      · clear hRd hy'
        gi_wp2
        have e : (q : Int) - 1 = (m : Int) - 1 - ((i + 1 : Nat) : Int) := by have := HQ.out; omega
        rw [e]
        refine ⟨⟨i + 1, S3, _, _, _, _, _, _, _, _, _, _, _, _, by omega, hJ3, hw.trans hw3, rfl⟩, ?_⟩
        have := HQ.out
        simp [intOf]
        omega
      · clear hRd hy'
        gi_wp2
        exact ⟨_, results_none rfl _ _ _, ⟨⟨_, rfl⟩, S3, hw.trans hw3, .inr hJx3⟩⟩
    · obtain rfl : i = m := by omega
      gi_wp2
      exact ⟨_, results_none rfl _ _ _, ⟨⟨_, rfl⟩, S', hw, .inl hJi⟩⟩

theorem pbackw_any (A : Option Addr) (n c : Nat) (w : World) : Calls Try.prog 31 #[.slice A n c] w fun e w' => e = .returned (.func (.func 37) #[] #[.pointer (some ⟨w.heap.size, 0, none⟩)]) ∧ w' = w.alloc (.cells #[.slice A n c] 26) := by
  have hmf : ∀ (fn : Fn) (first cap : Array Value) (w : World), (Instr.makeFunc fn first cap).run Try.prog w = .ok (.func fn first cap) w := fun _ _ _ _ => rfl
  go_enter Try.func31, Try.ntmps31
  go_wp2
  go_ret
  exact ⟨rfl, rfl⟩

theorem pwhol_any (m : Nat) (z : Int) (w : World) : Calls Try.prog 25 #[.map (some m), .int .i64 z] w fun e w' => e = .returned (.func (.func 30) #[] #[.pointer (some ⟨w.heap.size + 1, 0, none⟩), .pointer (some ⟨w.heap.size, 0, none⟩)]) ∧
    w' = (w.alloc (.cells #[.map (some m)] 47)).alloc (.cells #[.int .i64 z] 3) := by
  have hmf : ∀ (fn : Fn) (first cap : Array Value) (w : World), (Instr.makeFunc fn first cap).run Try.prog w = .ok (.func fn first cap) w := fun _ _ _ _ => rfl
  go_enter Try.func25, Try.ntmps25
  go_wp2
  go_ret
  exact ⟨rfl, rfl⟩

theorem ptr_len {l : Nat → PNd} {n : Nat} (p : Nat) : 0 < (ptr_ l n p).length := by
  unfold ptr_
  cases n - p <;> simp [Pa.paint]
theorem flat_len {l : Nat → PNd} {n : Nat} (st : List Nat) : st.length ≤ (st.flatMap (ptr_ l n)).length := by
  induction st with
  | nil => simp
  | cons a t ih => rw [List.flatMap_cons, List.length_append, List.length_cons]; have := ptr_len (l := l) (n := n) a; omega

set_option maxHeartbeats 4000000 in
theorem pwhole_in (nn lp tb ib mb lo hi n : Nat) (l : Nat → PNd) (J : Nat → (Nat → Prop) → World → Prop) (Jx : (Nat → Prop) → World → Prop) (S : Nat → Prop) (W : World) (hv : PV l n) (hn : n ≤ 1000) (hn0 : 0 < n) (hst : Stacks W mb lo hi l n)
    (htb : At W tb (.cells #[.int .i64 0] 3)) (hib : At W ib (.cells #[.map (some mb)] 47)) (hS : ∀ b, S b → b < W.heap.size ∧ ¬ (lo ≤ b ∧ b < hi) ∧ b ≠ tb ∧ b ≠ ib) (hJ : Stab J) (hJx : StabX Jx)
    (hY : ∀ m i S W, i < (ptr_ l n 0).length → J i S W → YieldAt Fence.wide m Try.prog lp #[.int .i64 (((ptr_ l n 0).getD i 0 : Nat) : Int)] W (YPost J Jx i S W)) (h0 : J 0 S W) :
    CallsIn Fence.wide nn Try.prog 30 #[.func (.yield lp) #[] #[], .pointer (some ⟨tb, 0, none⟩), .pointer (some ⟨ib, 0, none⟩)] W (IPost J Jx (ptr_ l n 0).length S W) := by
  have hmf : ∀ (fn : Fn) (first cap : Array Value) (w : World), (Instr.makeFunc fn first cap).run Try.prog w = .ok (.func fn first cap) w := fun _ _ _ _ => rfl
  obtain ⟨i0, hi0, hz0, hz1, hz2⟩ := info_parts intZero
  obtain ⟨N, hN⟩ : ∃ N, (ptr_ l n 0).length = N := ⟨_, rfl⟩
  have hNn : N = n := by rw [← hN, ← pord_ptr hv hn0, pord_len hv]
  have HN := Lib.hid hN
  rw [hN] at hY ⊢
  clear hN
  have ct := htb.cell 0
  simp only [List.getElem?_toArray, List.getElem?_cons_zero] at ct
  have HS := Lib.hid hS
  have HY := Lib.hid hY
  have HJ := Lib.hid hJ
  have HJX := Lib.hid hJx
  have HV := Lib.hid hv
  have HST := Lib.hid hst
  have HTB := Lib.hid htb
  have HIB := Lib.hid hib
  obtain ⟨rb, hrb⟩ : ∃ rb, W.heap.size = rb := ⟨_, rfl⟩
  obtain ⟨W2, hW2⟩ : ∃ W2, W2 = (W.alloc (.cells #[.int .i64 0] 3)).alloc (.cells #[.slice (some ⟨rb, 0, none⟩) 1 1] 26) := ⟨_, rfl⟩
  have hB2 : Below W.heap.size W W2 := by rw [hW2]; exact Below.alloc' (Below.alloc' (Below.refl _ _) _) _
  have hAl : At W2 (rb + 1) (.cells #[.slice (some ⟨rb, 0, none⟩) 1 1] 26) := by rw [hW2]; exact At.new' _ (by simp [hrb])
  have hAr : At W2 rb (.cells #[.int .i64 0] 3) := by rw [hW2]; exact (At.new' _ hrb.symm).alloc _
  clear hS hY hJ hJx hv hst htb hib
  refine callsIn_of_wp_marks Try.func30 rfl trivial ?_ rfl
  simp only [Try.ntmps30, List.size_toArray, List.length_cons, List.length_nil, Nat.reduceAdd, Nat.reduceSub, Array.replicate_succ, Array.replicate_zero, List.push_toArray, List.append_toArray, List.nil_append, List.cons_append]
  have hdp : ∀ k : Nat, (Fence.wide.depth.isSome = true → 1 ≤ k) := fun k h => by simp [Fence.wide] at h
  gi_wp2
  rw [← hW2]
  have hw02 : Went S S W W2 := Went.of_below hB2
  have hJ2 := HJ.out 0 S (fun _ => False) W W2 h0 (Out.of_below hB2) (fun _ _ q => q)
  clear hW2 ct
  refine wpIn_loop (fun a' W' => ∃ (k : Nat) (st : List Nat) (v : Value) (S' : Nat → Prop) (Ds : List Nat) (u5 u6 u7 u8 u11 u12 u13 u14 u15 u16 u17 u18 u19 u20 u21 u22 u23 u24 u25 u26 u27 u28 u29 u30 u31 u32 u33 u34 u35 u36 u37 : Value), k ≤ N ∧ Ds.length = k ∧ J k S' W' ∧ Went S S' W W' ∧ (Ds.Nodup ∧ ∀ D ∈ Ds, rb + 1 < D ∧ ¬ S' D ∧ W'.heap[D]? = some (.deferred (some []))) ∧ At W' (rb + 1) (.cells #[v] 26) ∧
    W'.ownsRow rb 3 1 v st.length (pvals st.reverse) ∧ Hid (st.flatMap (ptr_ l n) = (ptr_ l n 0).drop k ∧ ∀ x ∈ st, x < n) ∧ (∀ b, S' b → ¬ (lo ≤ b ∧ b < hi) ∧ b ≠ tb ∧ b ≠ ib ∧ b ≠ rb + 1 ∧ v.ownBlock ≠ some b ∧ b < W'.heap.size) ∧
    a' = { tmps := #[Value.func (Fn.yield lp) #[] #[], Value.pointer (some ⟨tb, 0, none⟩), Value.pointer (some ⟨ib, 0, none⟩), undef, Value.pointer (some ⟨rb + 1, 0, none⟩), u5, u6, u7, u8, Value.int IntKind.i64 0, Value.slice (some ⟨rb, 0, none⟩) 1 1, u11, u12, u13, u14, u15, u16, u17, u18, u19, u20, u21, u22, u23, u24, u25, u26, u27, u28, u29, u30, u31, u32, u33, u34, u35, u36, u37], defers := marks Ds }) (fun a' _ => N - a'.defers.length) ?start ?round
  case start =>
    refine ⟨0, [0], _, S, [], undef, undef, undef, undef, undef, undef, undef, undef, undef, undef, undef, undef, undef, undef, undef, undef, undef, undef, undef, undef, undef, undef, undef, undef, undef, undef, undef, undef, undef, undef, undef, Nat.zero_le _, rfl, hJ2, hw02, ⟨.nil, fun D hD => by cases hD⟩, hAl, ⟨by simp [pvals, pints], .inr ⟨rb, 1, _, rfl, Nat.le_refl _, hAr, by simp, by simp [maxLen], by simp, by simp [pvals, pints]⟩⟩, Lib.hid ⟨by simp, fun x hx => by simp at hx; omega⟩, fun b hb => ?_, rfl⟩
    have h1 := HS.out b hb
    have h2 := hB2.size
    exact ⟨h1.2.1, h1.2.2.1, h1.2.2.2, by omega, by simp [Value.ownBlock]; omega, by omega⟩
  case round =>
    clear hJ2 hw02 hAl hAr hB2 h0
    rintro a' W' ⟨k, st, v, S', Ds, u5, u6, u7, u8, u11, u12, u13, u14, u15, u16, u17, u18, u19, u20, u21, u22, u23, u24, u25, u26, u27, u28, u29, u30, u31, u32, u33, u34, u35, u36, u37, hkN, hDk, hJk, hw, ⟨hDn, hD⟩, hAl, hrow, HF, hS', rfl⟩
    have cl := hAl.cell 0
    simp only [List.getElem?_toArray, List.getElem?_cons_zero] at cl
    have ll := hAl.lt
    have zl := hAl.thaw 0
    cases st with
    | nil =>
      have hkeq : k = N := by
        have h1 := congrArg List.length HF.out.1
        rw [List.length_drop, HN.out] at h1
        simp at h1
        omega
      subst hkeq
      rcases hrow.2 with ⟨rfl, _⟩ | ⟨g, cap, cur, rfl, _⟩
      all_goals
        clear hrow
        gi_wp2
        refine leaves_marks Ds W' hDn (fun E q => (hD E q).2.2) fun W7 ho => ⟨_, results_none rfl _ _ _, ⟨⟨_, rfl⟩, S', hw.more ho (fun b hb => by have := (hD b hb).1; omega), .inl ?_⟩⟩
        exact HJ.out _ _ _ _ _ hJk ho (fun b hb q => (hD b q).2.1 hb)
    | cons p st =>
      have hpn : p < n := HF.out.2 p List.mem_cons_self
      have hkp : Hid (k < N ∧ (ptr_ l n 0).getD k 0 = p ∧ (ptr_ l n 0).drop (k + 1) = (pstack l n (p : Int)).flatMap (ptr_ l n) ++ st.flatMap (ptr_ l n)) := Lib.hid (by
        have h1 := HF.out.1
        rw [List.flatMap_cons, ptr_eq HV.out hpn, List.cons_append] at h1
        have h2 : k < (ptr_ l n 0).length := by
          rcases Nat.lt_or_ge k (ptr_ l n 0).length with q | q
          · exact q
          · rw [List.drop_eq_nil_of_le q] at h1; cases h1
        rw [List.drop_eq_getElem_cons h2] at h1
        injection h1 with h3 h4
        exact ⟨HN.out ▸ h2, by rw [List.getD, List.getElem?_eq_getElem h2]; exact h3.symm, h4.symm⟩)
      have hstl : Hid ((p :: st).length ≤ n) := Lib.hid (by
        have h1 := flat_len (l := l) (n := n) (p :: st)
        rw [HF.out.1, List.length_drop, HN.out] at h1
        omega)
      rcases hrow.2 with ⟨_, h⟩ | ⟨g, cap, cur, rfl, hgb, hg, hle, hcap, hsz, htk⟩
      · simp at h
      obtain ⟨m, hm⟩ : ∃ m, st.length = m := ⟨_, rfl⟩
      obtain ⟨m1, hm1⟩ : ∃ m1, (p :: st).length = m1 := ⟨_, rfl⟩
      obtain ⟨hmm, hmm2⟩ : m1 ≤ m + 1 ∧ m + 1 ≤ m1 := by rw [← hm1, ← hm]; exact ⟨Nat.le_refl _, Nat.le_refl _⟩
      have hgl := (show At W' g _ from hg).lt
      have hgne : g ≠ rb + 1 := fun e => by
        rw [e] at hg
        have h1 := (show W'.heap[rb + 1]? = some (.cells cur 3) from hg).symm.trans hAl
        injection h1 with h1
        injection h1 with _ e2
        exact absurd e2 (by decide)
      have cg : W'.cell? ⟨g, m, none⟩ = some (.int .i64 (p : Int)) := by
        rw [(show At W' g _ from hg).cell]
        have h1 : (cur.toList.take ((p :: st).length * 1))[m]? = (pvals (p :: st).reverse)[m]? := by rw [htk]
        rw [List.getElem?_take, if_pos (by rw [hm1]; omega)] at h1
        rw [← Array.getElem?_toList, h1]
        simp [pvals, pints, ← hm]
      have hm1w : IntKind.i64.wrap ((m1 : Int) - 1) = (m : Int) := by have := hstl.out; rw [hm1] at this; rw [IntWalk.i64_in _ (by omega)]; omega
      have hm10 : (0 : Int) < (m1 : Int) := by omega
      have hmlt : m < m1 := by omega
      rw [hm1] at cl hle hstl
      have hA3 : At (W'.setCell ⟨rb + 1, 0, none⟩ (.slice (some ⟨g, 0, none⟩) m cap)) (rb + 1) (.cells #[.slice (some ⟨g, 0, none⟩) m cap] 26) := hAl.set 0 _
      have hO3 : Out (fun b => b = rb + 1) W' (W'.setCell ⟨rb + 1, 0, none⟩ (.slice (some ⟨g, 0, none⟩) m cap)) := (Out.refl _ _).set (M := fun b => b = rb + 1) rfl 0 _
      have hrow3 : (W'.setCell ⟨rb + 1, 0, none⟩ (.slice (some ⟨g, 0, none⟩) m cap)).ownsRow rb 3 1 (.slice (some ⟨g, 0, none⟩) m cap) st.length (pvals st.reverse) := by
        refine ⟨by simp [pvals, pints], .inr ⟨g, cap, cur, by rw [hm], hgb, (show At W' g _ from hg).out (M := fun b => b = rb + 1) hgne hO3, by omega, hcap, hsz, ?_⟩⟩
        have h1 := congrArg (fun L : List Value => L.take (st.length * 1)) htk
        simp only [List.take_take] at h1
        rw [Nat.min_eq_left (by simp)] at h1
        rw [h1]
        simp [pvals, pints]
      have hJ3 := HJ.out k S' (fun b => b = rb + 1) _ _ hJk hO3 (fun b hb q => (hS' b hb).2.2.2.1 q)
      have hw3 : Went S S' W (W'.setCell ⟨rb + 1, 0, none⟩ (.slice (some ⟨g, 0, none⟩) m cap)) := hw.more hO3 fun b q => by omega
      have HRW := Lib.hid hrow3
      have HHG := Lib.hid hg
      have HHW := Lib.hid hw
      have HM1 := Lib.hid hm1
      have HDS := Lib.hid hD
      have HSP := Lib.hid hS'
      have HDN := Lib.hid hDn
      clear hrow htk hrow3 hw hAl hm1 hD hS' hDn
      gi_upto_region 5 with (fail)
      generalize W'.setCell ⟨rb + 1, 0, none⟩ (.slice (some ⟨g, 0, none⟩) m cap) = W3 at *
      have hyy := HY.out (nn - 1) k S' W3 hkp.out.1 hJ3
      rw [hkp.out.2.1] at hyy
      obtain ⟨fn, tmps, assign, body, hy, hRd⟩ := hyy
      have hy' : (Instr.yield lp #[.int .i64 (p : Int)]).run Try.prog W3 = .ok (.round lp fn tmps assign body) W3 := hy
      have hO3s := hO3.size
      clear cl cg hy zl
      gi_wp2
      refine ⟨hdp _, hRd.mono ?_⟩
      rintro e W4 ⟨S4, hw4, hways⟩
      have hwW := hw3.trans hw4
      have e4 := hw4.1.size
      have eW := hw3.1.size
      have hDs4 : ∀ E ∈ Ds, rb + 1 < E ∧ ¬ S4 E ∧ W4.heap[E]? = some (.deferred (some [])) := fun E hE => by
        obtain ⟨q1, q2, q3⟩ := HDS.out E hE
        have q4 := (Array.getElem?_eq_some_iff.1 q3).1
        refine ⟨q1, fun q => ?_, ?_⟩
        · rcases hw4.2 E q with q | q
          · exact q2 q
          · omega
        · rw [hw4.1.2 E (by omega) q2, hO3.2 E q4 (by omega)]; exact q3
      have hDl4 : ∀ E ∈ Ds, E < W4.heap.size := fun E hE => (Array.getElem?_eq_some_iff.1 (hDs4 E hE).2.2).1
      rcases hways with ⟨rfl, hJ4⟩ | ⟨rfl, hJx4⟩
      · clear hRd hy'
        have ehi := HST.out.le
        have etb := HTB.out.lt
        have eib := HIB.out.lt
        have hS4 : ∀ b, S4 b → ¬ (lo ≤ b ∧ b < hi) ∧ b ≠ tb ∧ b ≠ ib ∧ b ≠ rb + 1 ∧ b ≠ g ∧ b < W4.heap.size := fun b hb => by
          rcases hw4.2 b hb with q | q
          · have := HSP.out b q
            refine ⟨this.1, this.2.1, this.2.2.1, this.2.2.2.1, fun e => this.2.2.2.2.1 (by rw [e]; rfl), by omega⟩
          · exact ⟨by omega, by omega, by omega, by omega, by omega, q.2⟩
        have hA4 := hA3.out (M := S') (fun q => (HSP.out _ q).2.2.2.1 rfl) hw4.1
        have hrow4 := ownsRow_out HRW.out (M := S') (fun g' hg' q => by
          simp [Value.ownBlock] at hg'
          exact (HSP.out _ q).2.2.2.2.1 (by rw [← hg']; rfl)) hw4.1
        have hib4 := HIB.out.out (M := S) (fun q => (HS.out _ q).2.2.2 rfl) hwW.1
        have hst4 := HST.out.out (M := S) (fun b h1 h2 q => (HS.out _ q).2.1 ⟨h1, h2⟩) hwW.1
        obtain ⟨vk, hlk, hvk, hvb⟩ := hst4.look (z := (p : Int)) (by rw [wf_iff]; omega)
        have hkn : ∀ x ∈ pstack l n (p : Int), x < n := fun x hx => (mem_pstack.1 hx).1
        have hkl : (pstack l n (p : Int)).length ≤ n := by rw [length_pstack]; exact length_plist _ _ _
        obtain ⟨L, hL⟩ : ∃ L, pstack l n (p : Int) = L := ⟨_, rfl⟩
        rw [hL] at hvk hkn hkl
        have HVK := Lib.hid hvk
        obtain ⟨A, ck, rfl, _⟩ := hvk.ints
        have ci := hib4.cell 0
        simp only [List.getElem?_toArray, List.getElem?_cons_zero] at ci
        have HLK := Lib.hid hL
        clear hvk hst4 hL hA3
        have hB5 : Below W4.heap.size W4 (W4.alloc (.cells #[.slice A L.length ck] 26)) := Below.alloc' (Below.refl _ _) _
        have hA5 : At (W4.alloc (.cells #[.slice A L.length ck] 26)) W4.heap.size (.cells #[.slice A L.length ck] 26) := At.new _ _
        generalize hW5 : W4.alloc (.cells #[.slice A L.length ck] 26) = W5 at *
        gi_wp2_with ((try refine ⟨trivial, ?_⟩); (try refine ⟨hdp _, ?_⟩); gi_at_call 31; refine (callsIn_wide.2 (pbackw_any A L.length ck W4)).mono ?_; rintro e w' ⟨rfl, rfl⟩; rw [hW5])
        obtain ⟨q, hq⟩ : ∃ q : Nat → Int, Hid (∀ i, q i = (pints L).getD (L.length - 1 - i) 0) := ⟨_, Lib.hid fun _ => rfl⟩
        obtain ⟨ix, hix⟩ : ∃ ix : Nat → Int, Hid (∀ i, ix i = ((L.length - 1 - i : Nat) : Int)) := ⟨_, Lib.hid fun _ => rfl⟩
        have hJ5 := HJ.out (k + 1) S4 (fun _ => False) W4 W5 hJ4 (Out.of_below hB5) (fun _ _ q => q)
        have hA45 := hA4.keep hB5
        have hrow5 := ownsRow_out hrow4 (M := fun _ => False) (fun _ _ q => q) (Out.of_below hB5)
        have e5 := hB5.size
        have hst2 : m ≤ 1000 := by have := hstl.out; omega
        have hg4 : g < W4.heap.size := by have := hO3.size; omega
        have HVK5 := Lib.hid (HVK.out.out (M := fun _ => False) (fun _ _ q => q) (Out.of_below hB5))
        rw [hm] at hrow5
        refine range_own (gf := 37) (first := #[]) (lb := #[.pointer (some ⟨W4.heap.size, 0, none⟩)]) rfl (enters_of Try.func37 (by kernel_rfl) rfl) L.length (fun i => #[.int .i64 (ix i), .int .i64 (q i)]) (fun _ => rfl)
          (fun i S2 V => ∃ S1 v, (∀ b, S2 b ↔ S1 b ∨ b = rb + 1 ∨ v.ownBlock = some b) ∧ (∀ b, S1 b → b ≠ rb + 1 ∧ v.ownBlock ≠ some b ∧ b < V.heap.size) ∧ J (k + 1) S1 V ∧ At V (rb + 1) (.cells #[v] 26) ∧ V.ownsRow rb 3 1 v (m + i) (pvals (st.reverse ++ L.reverse.take i)))
          (fun _ _ => False) ?stab (fun _ _ _ _ h _ _ => h) (fun b => S4 b ∨ b = rb + 1 ∨ b = g) (fun b hb => by rcases hb with hb | hb | hb; (have := (hS4 b hb).2.2.2.2.2; omega); (have := hA45.lt; omega); omega)
          ⟨S4, .slice (some ⟨g, 0, none⟩) m cap, fun b => by simp [Value.ownBlock, eq_comm], fun b hb => ⟨(hS4 b hb).2.2.2.1, fun e => (hS4 b hb).2.2.2.2.1 (by simp [Value.ownBlock] at e; exact e.symm), by have := (hS4 b hb).2.2.2.2.2; omega⟩, hJ5, hA45, by simpa using hrow5⟩
          ?hit (fun i t => ((t.setIfInBounds 32 (.int .i64 (ix i))).setIfInBounds 33 (.int .i64 (q i))).setIfInBounds 8 (.int .i64 (q i))) ?assign ?body ?done ?stop
        case stab =>
          rintro i S2 M V V' ⟨S1, v, h1, h2, h3, h4, h5⟩ ho hm
          exact ⟨S1, v, h1, fun b hb => ⟨(h2 b hb).1, (h2 b hb).2.1, Nat.lt_of_lt_of_le (h2 b hb).2.2 ho.size⟩, HJ.out _ _ _ _ _ h3 ho (fun b hb => hm b ((h1 b).2 (.inl hb))), h4.out (hm _ ((h1 _).2 (.inr (.inl rfl)))) ho, ownsRow_out h5 (fun g' hg' => hm g' ((h1 g').2 (.inr (.inr hg')))) ho⟩
        case hit =>
          intro lp2 J2 Jx2 S1 V hb hs1 hj2 hjx2 hy2 h02
          refine pback_in _ lp2 W4.heap.size (.slice A L.length ck) L J2 Jx2 S1 V (HVK5.out.out (M := fun _ => False) (fun _ _ q => q) (Out.of_below hb)) (hA5.keep hb) (by omega) (fun b hs => ?_) hj2 hjx2 (fun m i S W h1 h2 => by rw [← hq.out i, ← hix.out i]; exact hy2 m i S W h1 h2) h02
          obtain ⟨h1, h2⟩ := hs1 b hs
          refine ⟨h2, ?_, fun e => ?_⟩
          · rcases h1 with (h1 | h1 | h1) | h1
            · have := (hS4 b h1).2.2.2.2.2; omega
            · have := hA4.lt; omega
            · omega
            · have := hA5.lt; omega
          · have h3 := hvb b e
            rcases h1 with (h1 | h1 | h1) | h1
            · exact (hS4 b h1).1 h3
            · omega
            · omega
            · omega
        case assign =>
          intro l1 m1 i V G hi hG
          simp only [List.setIfInBounds_toArray, List.set_cons_zero, List.set_cons_succ] at hG
          gi_wp2
          first | exact hG | simpa using hG
        case body =>
          rintro l1 m9 i S2 V hi ⟨S1, v, h1, h2, h3, h4, h5⟩
          have htk : Hid (pvals (st.reverse ++ L.reverse.take (i + 1)) = pvals (st.reverse ++ L.reverse.take i) ++ [.int .i64 (q i)]) := Lib.hid (by
            have hi2 : i < L.reverse.length := by simpa using hi
            rw [List.take_succ_eq_append_getElem hi2, hq.out i]
            have h9 : L.length - 1 - i < L.length := by omega
            simp [pvals, pints, List.getD, List.getElem?_eq_getElem h9])
          have hvB : v.ownBlock ≠ some (rb + 1) := fun e => by
            rcases h5.2 with ⟨rfl, _⟩ | ⟨g9, cap9, cur9, rfl, _, hg9, _⟩
            · cases e
            · simp [Value.ownBlock] at e
              rw [e] at hg9
              have hx := (show V.heap[rb + 1]? = some (.cells cur9 3) from hg9).symm.trans h4
              injection hx with hx
              injection hx with _ e2
              exact absurd e2 (by decide)
          have hc := h4.cell 0
          have hz := h4.thaw 0
          have hlt := h4.lt
          simp only [List.getElem?_toArray, List.getElem?_cons_zero] at hc
          generalize q i = y at *
          have H1 := Lib.hid h1
          have H2 := Lib.hid h2
          have H3 := Lib.hid h3
          have H4 := Lib.hid h4
          have H5 := Lib.hid h5
          clear h1 h2 h3 h4 h5
          simp only [List.setIfInBounds_toArray, List.set_cons_zero, List.set_cons_succ]
          gi_wp2_with (gi_at_builtin; refine wpListIn_append_own_at _ rfl _ _ 26 rfl rb 3 i0 (.int .i64 0) 1 8 Try.underlying26 hi0 hz0 hz1 hz2 rfl (by decide) _ _ _ rfl (H5.out.alloc _) ⟨V.heap.size, 0, none⟩ 1 1 [.int .i64 y] rfl rfl (cell_one_new _ _ _) (by simp [Value.oneCell']) (by simp only [maxLen]; omega) (by omega) (by simp; omega) ?_)
          intro v' w1 hown' hgrow _ hat
          obtain ⟨g', cap', rfl⟩ := ownsRow_succ hown'
          have hA1 := (H4.out.alloc (.cells #[.int .i64 y] 3)).out (M := fun b => v.ownBlock = some b) hvB (Out.grown hgrow fun b e => e)
          have hc1 := hA1.cell 0
          have hz1' := hA1.thaw 0
          have hl1 := hA1.lt
          simp only [List.getElem?_toArray, List.getElem?_cons_zero] at hc1
          clear hc hz hlt
          gi_wp2
          have hg' : g' ≠ rb + 1 := fun e => by
            rcases hown'.2 with ⟨q1, _⟩ | ⟨g9, cap9, cur9, q1, _, hg9, _⟩
            · cases q1
            · injection q1 with q1
              injection q1 with q1
              injection q1 with q1
              subst q1
              rw [e] at hg9
              have hx := (show w1.heap[rb + 1]? = some (.cells cur9 3) from hg9).symm.trans hA1
              injection hx with hx
              injection hx with _ e2
              exact absurd e2 (by decide)
          have hgl : g' < w1.heap.size := (World.ownsRow.lt hown' g' rfl).2
          have o1 : Out S2 V (V.alloc (.cells #[.int .i64 y] 3)) := Out.of_below (Below.alloc' (Below.refl _ _) _)
          have o2 : Out S2 (V.alloc (.cells #[.int .i64 y] 3)) w1 := Out.grown hgrow fun b e => (H1.out b).2 (.inr (.inr e))
          have o3 : Out (fun b => b = rb + 1) w1 (w1.setCell ⟨rb + 1, 0, none⟩ (.slice (some ⟨g', 0, none⟩) (m + i + 1) cap')) := (Out.refl _ _).set (M := fun b => b = rb + 1) rfl 0 _
          have o4 : Out S2 w1 (w1.setCell ⟨rb + 1, 0, none⟩ (.slice (some ⟨g', 0, none⟩) (m + i + 1) cap')) := o3.mono fun b _ e => (H1.out b).2 (.inr (.inl e))
          have hsV : (V.alloc (.cells #[.int .i64 y] 3)).heap.size = V.heap.size + 1 := by simp
          have hs1 := o2.size
          have hg2 : ∀ b, H2.out = H2.out → b = g' → v.ownBlock = some b ∨ V.heap.size ≤ b := fun b _ e => by
            rcases hat with e9 | e9
            · exact .inl (by rw [e, ← e9]; rfl)
            · simp only [Value.ownBlock, Option.some.injEq] at e9
              exact .inr (by omega)
          have hS1V : ∀ b, S1 b → b < V.heap.size := fun b hb => (H2.out b hb).2.2
          have hsz4 : (w1.setCell ⟨rb + 1, 0, none⟩ (.slice (some ⟨g', 0, none⟩) (m + i + 1) cap')).heap.size = w1.heap.size := by simp [World.setCell]
          refine ⟨fun b => S1 b ∨ b = rb + 1 ∨ b = g', ⟨(o1.trans o2).trans o4, fun b hb => ?_⟩, S1, _, fun b => ?_, fun b hb => ⟨(H2.out b hb).1, fun e => ?_, by have := hS1V b hb; omega⟩, ?_, hA1.set 0 _, ?_⟩
          · rcases hb with hb | hb | hb
            · exact .inl ((H1.out b).2 (.inl hb))
            · exact .inl ((H1.out b).2 (.inr (.inl hb)))
            · rcases hg2 b rfl hb with e | e
              · exact .inl ((H1.out b).2 (.inr (.inr e)))
              · refine .inr ⟨e, ?_⟩
                have : (w1.setCell ⟨rb + 1, 0, none⟩ (.slice (some ⟨g', 0, none⟩) (m + i + 1) cap')).heap.size = w1.heap.size := by simp [World.setCell]
                omega
          · simp only [Value.ownBlock, Option.some.injEq]
            constructor <;> (rintro (hb | hb | hb) <;> first | exact .inl hb | exact .inr (.inl hb) | exact .inr (.inr hb.symm))
          · simp only [Value.ownBlock, Option.some.injEq] at e
            rcases hg2 b rfl e.symm with r | r
            · exact (H2.out b hb).2.1 r
            · have := hS1V b hb; omega
          · refine HJ.out _ S1 (fun b => b = rb + 1 ∨ v.ownBlock = some b) V _ H3.out (Out.trans' (Out.trans' (Out.of_below (Below.alloc' (Below.refl _ _) _)) (Out.grown hgrow (M := fun b => v.ownBlock = some b) fun b e => e) fun b hb e => .inr e) o3 fun b hb e => .inl e) fun b hb q => ?_
            rcases q with q | q
            · exact (H2.out b hb).1 q
            · exact (H2.out b hb).2.1 q
          · rw [htk.out]
            exact ownsRow_out hown' (fun g9 hg9 (q9 : g9 = rb + 1) => hg' (by simp [Value.ownBlock] at hg9; rw [hg9]; exact q9)) o3
        case done =>
          rintro D S2 V hDl hw5 hDS ⟨S1, v, h1, h2, h3, h4, h5⟩ hDo
          have e6 := hw5.1.size
          have hS0 : ∀ b, S4 b ∨ b = rb + 1 ∨ b = g → ¬ (lo ≤ b ∧ b < hi) ∧ b ≠ tb ∧ b ≠ ib := fun b hb => by
            rcases hb with hb | hb | hb
            · exact ⟨(hS4 b hb).1, (hS4 b hb).2.1, (hS4 b hb).2.2.1⟩
            · exact ⟨by omega, by omega, by omega⟩
            · exact ⟨by omega, by omega, by omega⟩
          have hwW6 : Went S S1 W V := by
            refine ⟨⟨hwW.1.1.trans ((hB5.mono (Nat.zero_le _)).trans hw5.1.1), fun b hb hn => ?_⟩, fun b hb => ?_⟩
            · rw [hw5.1.2 b (by omega) (fun r => ?_), hB5.block b (by omega), hwW.1.2 b hb hn]
              rcases r with r | r | r
              · rcases hwW.2 b r with r | r
                · exact hn r
                · omega
              · omega
              · omega
            · have hl := (h2 b hb).2.2
              rcases hw5.2 b ((h1 b).2 (.inl hb)) with (r | r | r) | r
              · rcases hwW.2 b r with r | r
                · exact .inl r
                · exact .inr ⟨r.1, hl⟩
              · exact .inr ⟨by omega, hl⟩
              · exact .inr ⟨by omega, hl⟩
              · exact .inr ⟨by omega, hl⟩
          have hDs6 : ∀ E ∈ D :: Ds, rb + 1 < E ∧ ¬ S1 E ∧ V.heap[E]? = some (.deferred (some [])) := fun E hE => by
            rcases List.mem_cons.1 hE with rfl | hE
            · exact ⟨by omega, fun r => hDS ((h1 _).2 (.inl r)), hDo⟩
            · obtain ⟨q1, q2, q3⟩ := hDs4 E hE
              have q4 := hDl4 E hE
              have q5 : E ≠ g := fun e => by
                have h9 := (HHG.out)
                have h8 := (HDS.out E hE).2.2
                rw [e] at h8
                rw [h9] at h8
                cases h8
              refine ⟨q1, fun r => ?_, ?_⟩
              · rcases hw5.2 E ((h1 E).2 (.inl r)) with (r | r | r) | r
                · exact q2 r
                · omega
                · exact q5 r
                · omega
              · rw [hw5.1.2 E (by omega) (fun r => by rcases r with r | r | r; exact q2 r; omega; exact q5 r), hB5.block E q4]; exact q3
          have hnd : (D :: Ds).Nodup := List.nodup_cons.2 ⟨fun hm => by have := hDl4 D hm; omega, HDN.out⟩
          have hrowF : V.ownsRow rb 3 1 v (L ++ st).length (pvals (L ++ st).reverse) := by
            have h9 : m + L.length = (L ++ st).length := by rw [List.length_append, hm, Nat.add_comm]
            rw [← h9, List.reverse_append, ← List.take_length (l := L.reverse), List.length_reverse]
            exact h5
          have hFN : Hid ((L ++ st).flatMap (ptr_ l n) = (ptr_ l n 0).drop (k + 1) ∧ ∀ x ∈ L ++ st, x < n) := Lib.hid ⟨by rw [hkp.out.2.2, HLK.out, List.flatMap_append], fun x hx => by
            rcases List.mem_append.1 hx with hx | hx
            · exact hkn x hx
            · exact HF.out.2 x (List.mem_cons_of_mem _ hx)⟩
          have hkN2 := hkp.out.1
          gi_wp2
          refine ⟨⟨k + 1, L ++ st, v, S1, D :: Ds, _, _, _, _, _, _, _, _, _, _, _, _, _, _, _, _, _, _, _, _, _, _, _, _, _, _, _, _, _, _, _, by omega, by rw [List.length_cons, hDk], h3, hwW6, ⟨hnd, hDs6⟩, h4, hrowF, hFN, fun b hb => ?_, rfl⟩, ?_⟩
          · have h0 : S4 b ∨ b = rb + 1 ∨ b = g ∨ W5.heap.size ≤ b := by
              rcases hw5.2 b ((h1 b).2 (.inl hb)) with (r | r | r) | r
              · exact .inl r
              · exact .inr (.inl r)
              · exact .inr (.inr (.inl r))
              · exact .inr (.inr (.inr r.1))
            have hh := h2 b hb
            rcases h0 with r | r | r | r
            · exact ⟨(hS0 b (.inl r)).1, (hS0 b (.inl r)).2.1, (hS0 b (.inl r)).2.2, hh.1, hh.2.1, hh.2.2⟩
            · exact absurd r hh.1
            · exact ⟨by omega, by omega, by omega, hh.1, hh.2.1, hh.2.2⟩
            · exact ⟨by omega, by omega, by omega, hh.1, hh.2.1, hh.2.2⟩
          · have hlm : (marks Ds).length = k := by rw [← hDk]; simp [marks]
            simp [hlm]
            omega
        case stop =>
          rintro D S W _ _ _ h _
          exact h.elim
      · clear hRd hy'
        gi_wp2
        exact leaves_marks Ds W4 HDN.out (fun E q => (hDs4 E q).2.2) fun W7 ho => ⟨_, results_none rfl _ _ _, ⟨⟨_, rfl⟩, S4, hwW.more ho (fun b hb => by have := (hDs4 b hb).1; omega), .inr (HJX.out _ _ _ _ hJx4 ho (fun b hb q => (hDs4 b q).2.1 hb))⟩⟩

end Go.Proofs.Ytbmidmpooooheaa.Fix
