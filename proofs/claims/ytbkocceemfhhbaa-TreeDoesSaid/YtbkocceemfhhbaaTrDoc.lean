/- The document's tree of boxes: one slice of boxes of 58 places; the calls that only read it. -/
import Derived.Test.YtbkocceemfhhbaaTrShare
namespace Go.Proofs.Ytbkocceemfhhbaa.Fix
open Go.ChangeShapes Go.WideShapes Go.ChangeAt Go.RowKit Go.Deep Go.Joins Go.Shelf
set_option linter.unusedVariables false
set_option linter.unusedSimpArgs false
set_option linter.unusedSectionVars false
set_option maxRecDepth 100000

/-! a box of the document's -/
def dcells (u : Int) (v : Value) (s : Re.St) : Array Value := #[.bool true, .int .i64 u, v] ++ cells s
def dzero : Array Value := #[.bool false, .int .i64 0, .slice none 0 0] ++ cells Re.zero
theorem dcells_size (u : Int) (v : Value) (s : Re.St) : (dcells u v s).size = 58 := by simp [dcells, cells_size]
theorem dzero_size : dzero.size = 58 := by simp [dzero, cells_size]
theorem dcells_sty (u : Int) (v : Value) (s : Re.St) {j : Nat} (h : j < 55) : (dcells u v s)[3 + j]? = some (cell s j) := by
  unfold dcells
  rw [Array.getElem?_append_right (by simp), show 3 + j - (#[Value.bool true, Value.int .i64 u, v] : Array Value).size = j by simp, cells_get s h]
theorem dcells_low (u : Int) (v : Value) (s : Re.St) {j : Nat} (h : j < 3) : (dcells u v s)[j]? = (#[Value.bool true, Value.int .i64 u, v] : Array Value)[j]? := by
  unfold dcells
  rw [Array.getElem?_append_left (by simpa using h)]
theorem build_dbox (u : Int) (W : World) : (Instr.build 74 #[(0, .bool true), (1, .int .i64 u)]).run Try.prog W = .ok (.agg (dcells u (.slice none 0 0) Re.zero)) W := by kernel_rfl
theorem build_dzero (W : World) : (Instr.build 74 #[]).run Try.prog W = .ok (.agg dzero) W := by kernel_rfl
theorem build_dtree (A : Option Addr) (n c : Nat) (W : World) : (Instr.build 77 #[(0, .slice A n c)]).run Try.prog W = .ok (.agg #[.slice A n c]) W := by kernel_rfl
theorem slice_droot (W : World) : (Instr.buildSlice 75 1 #[(0, .agg (dcells (-1) (.slice none 0 0) Re.zero))]).run Try.prog W = .ok (.slice (some ⟨W.heap.size, 0, none⟩) 1 1) (W.alloc (.cells (dcells (-1) (.slice none 0 0) Re.zero) 74)) := by kernel_rfl
theorem slice_dzero (W : World) : (Instr.buildSlice 75 1 #[(0, .agg dzero)]).run Try.prog W = .ok (.slice (some ⟨W.heap.size, 0, none⟩) 1 1) (W.alloc (.cells dzero 74)) := by kernel_rfl
theorem wpList_buildSlice {ops : Array Oper} {rest : List Oper} {o : Oper} {a : Act} {w w' : World} {Q : Exit → Act → World → Prop} (hw : Region.wanted o (yielded ops a.tmps) = true) (t : TypeId) (n : Nat) (ps : Array (Nat × Operand)) (ho : o.op = .buildSlice t n ps) {v : Value} (qs : Array (Nat × Value)) (hq : (ps.map fun p => (p.1, a.eval p.2)) = qs)
    (hrun : (Instr.buildSlice t n qs).run Try.prog w = .ok v w') (h : wpList Try.prog ops Q rest (a.put o.dst v) w') : wpList Try.prog ops Q (o :: rest) a w :=
  wpList_value hw (by unfold execOp; simp only [ho, hq, Sem.run_bind, hrun, Result.andThen_ok, Sem.run_pure]) h

/-- what stands at a box's place -/
structure Place (cur : Array Value) (i : Nat) (v : Value) (o : Option Tr.Nd) : Prop where
  live : cur[i * 58]? = some (.bool o.isSome)
  up : ∀ nd, o = some nd → cur[i * 58 + 1]? = some (.int .i64 nd.up)
  kids : ∀ nd, o = some nd → cur[i * 58 + 2]? = some v
  sty : ∀ nd, o = some nd → ∀ j, j < 55 → cur[i * 58 + 3 + j]? = some (cell nd.sty j)

/-- the document's tree T lies in block r, its boxes in block g -/
structure Doc (W : World) (r g c m : Nat) (K : Int → Value) (T : Tr.T) : Prop where
  at_ : At W r (.cells #[.slice (some ⟨g, 0, none⟩) m c] 77)
  cur : ∃ cur : Array Value, At W g (.cells cur 74) ∧ cur.size = c * 58 ∧ ∀ i : Nat, i < m → Place cur i (K i) (T i)
  cap : m ≤ c
  lim : c ≤ maxLen
  row : ∀ z nd, T z = some nd → KS W (K z) nd.kids
  range : ∀ z nd, T z = some nd → 0 ≤ z ∧ z < m
  small : m ≤ 4096

/-- its blocks -/
def downed (r g : Nat) (K : Int → Value) (T : Tr.T) (b : Nat) : Prop := b = r ∨ b = g ∨ ∃ z nd, T z = some nd ∧ (K z).ownBlock = some b

section
variable {W W' : World} {r g c m : Nat} {K : Int → Value} {T : Tr.T}

theorem Doc.out {M : Nat → Prop} (h : Doc W r g c m K T) (hm : ∀ b, downed r g K T b → ¬ M b) (k : Out M W W') : Doc W' r g c m K T where
  at_ := h.at_.out (hm r (.inl rfl)) k
  cur := by obtain ⟨cur, h1, h2⟩ := h.cur; exact ⟨cur, h1.out (hm g (.inr (.inl rfl))) k, h2⟩
  cap := h.cap
  lim := h.lim
  row := fun z nd hz => (h.row z nd hz).out (fun b hb => hm b (.inr (.inr ⟨z, nd, hz, hb⟩))) k
  range := h.range
  small := h.small
theorem Doc.after (h : Doc W r g c m K T) (hb : Below W.heap.size W W') : Doc W' r g c m K T := h.out (M := fun _ => False) (fun _ _ q => q) (Out.of_below hb)
theorem Doc.lt (h : Doc W r g c m K T) {b : Nat} (hb : downed r g K T b) : b < W.heap.size := by
  rcases hb with rfl | rfl | ⟨z, nd, hz, hb⟩
  · exact h.at_.lt
  · obtain ⟨cur, h1, _⟩ := h.cur; exact h1.lt
  · exact (h.row z nd hz).lt hb
theorem Doc.cT (h : Doc W r g c m K T) : W.cell? ⟨r, 0, none⟩ = some (.slice (some ⟨g, 0, none⟩) m c) := by rw [h.at_.cell]; rfl
theorem Doc.cLive (h : Doc W r g c m K T) {i : Nat} (hi : i < m) : W.cell? ⟨g, i * 58, none⟩ = some (.bool (T i).isSome) := by
  obtain ⟨cur, h1, _, h3⟩ := h.cur; rw [h1.cell, (h3 i hi).live]
theorem Doc.cUp (h : Doc W r g c m K T) {i : Nat} {nd : Tr.Nd} (hn : T i = some nd) : W.cell? ⟨g, i * 58 + 1, none⟩ = some (.int .i64 nd.up) := by
  obtain ⟨cur, h1, _, h3⟩ := h.cur; rw [h1.cell, (h3 i (by have := h.range _ _ hn; omega)).up nd hn]
theorem Doc.cKids (h : Doc W r g c m K T) {i : Nat} {nd : Tr.Nd} (hn : T i = some nd) : W.cell? ⟨g, i * 58 + 2, none⟩ = some (K i) := by
  obtain ⟨cur, h1, _, h3⟩ := h.cur; rw [h1.cell, (h3 i (by have := h.range _ _ hn; omega)).kids nd hn]
theorem Doc.sty (h : Doc W r g c m K T) {i : Nat} {nd : Tr.Nd} (hn : T i = some nd) : StyAt W g (i * 58 + 3) nd.sty := fun j hj => by
  obtain ⟨cur, h1, _, h3⟩ := h.cur; rw [h1.cell, (h3 i (by have := h.range _ _ hn; omega)).sty nd hn j hj]
theorem Doc.wf (h : Doc W r g c m K T) {z : Int} {nd : Tr.Nd} (hz : T z = some nd) : Wf z := by have := h.range z nd hz; have := h.small; rw [wf_iff]; omega
theorem Doc.nat (h : Doc W r g c m K T) {z : Int} {nd : Tr.Nd} (hz : T z = some nd) : ∃ i : Nat, z = i ∧ i < m := ⟨z.toNat, by have := h.range z nd hz; omega, by have := h.range z nd hz; omega⟩
theorem Doc.rg (h : Doc W r g c m K T) : r ≠ g := fun e => by
  obtain ⟨cur, h1, _⟩ := h.cur
  have := h.at_.uniq (e ▸ h1)
  injection this with _ e2
  exact absurd e2 (by decide)

theorem dhas_any (h : Doc W r g c m K T) (z : Int) : Calls Try.prog 15 #[.pointer (some ⟨r, 0, none⟩), .int .i64 z] W fun e w' => e = .returned (.bool (T z).isSome) ∧ W = w' := by
  have c0 := h.cT
  by_cases h0 : 0 ≤ z
  · by_cases h1 : z < (m : Int)
    · obtain ⟨i, rfl⟩ : ∃ i : Nat, z = i := ⟨z.toNat, by omega⟩
      have cl := h.cLive (i := i) (by omega)
      have him : i < m := by omega
      clear h
      generalize (T (i : Int)).isSome = b at *
      go_enter Try.func15, Try.ntmps15
      go_wp2
      go_ret
      exact ⟨rfl, rfl⟩
    · have hn : (T z).isSome = false := by
        cases e : T z with
        | none => rfl
        | some nd => have := h.range z nd e; omega
      rw [hn]
      clear h hn
      go_enter Try.func15, Try.ntmps15
      go_wp2
      go_ret
      exact ⟨rfl, rfl⟩
  · have hn : (T z).isSome = false := by
      cases e : T z with
      | none => rfl
      | some nd => have := h.range z nd e; omega
    rw [hn]
    clear h hn c0
    go_enter Try.func15, Try.ntmps15
    go_wp2
    go_ret
    exact ⟨rfl, rfl⟩

theorem isSome_of {T : Tr.T} {z : Int} {nd : Tr.Nd} (h : T z = some nd) : (T z).isSome = true := by rw [h]; rfl
theorem isNone_of {T : Tr.T} {z : Int} (h : T z = none) : (T z).isSome = false := by rw [h]; rfl

theorem dup_any (h : Doc W r g c m K T) (z : Int) : Calls Try.prog 17 #[.pointer (some ⟨r, 0, none⟩), .int .i64 z] W fun e w' => e = .returned (.int .i64 (upOf T z)) ∧ W = w' := by
  have key := dhas_any h z
  unfold upOf
  cases hT : T z with
  | none =>
    rw [isNone_of hT] at key
    clear h
    go_enter Try.func17, Try.ntmps17
    go_wp2_with (go_at_call 15; (with_reducible refine key.mono ?_); rintro e w' ⟨rfl, rfl⟩)
    go_ret
    exact ⟨rfl, rfl⟩
  | some nd =>
    rw [isSome_of hT] at key
    obtain ⟨i, rfl, him⟩ := h.nat hT
    have c0 := h.cT
    have c1 := h.cUp hT
    clear h
    go_enter Try.func17, Try.ntmps17
    go_wp2_with (go_at_call 15; (with_reducible refine key.mono ?_); rintro e w' ⟨rfl, rfl⟩)
    go_ret
    exact ⟨rfl, rfl⟩

theorem dkids_any (h : Doc W r g c m K T) (z : Int) : Calls Try.prog 24 #[.pointer (some ⟨r, 0, none⟩), .int .i64 z] W fun e w' => (∃ v, e = .returned v ∧ KS w' v (kidsOf T z)) ∧ W = w' := by
  have key := dhas_any h z
  cases hT : T z with
  | none =>
    have e : kidsOf T z = [] := by unfold kidsOf; rw [hT]; rfl
    rw [e]
    rw [isNone_of hT] at key
    clear h
    go_enter Try.func24, Try.ntmps24
    go_wp2_with (go_at_call 15; (with_reducible refine key.mono ?_); rintro e w' ⟨rfl, rfl⟩)
    go_ret
    exact ⟨⟨_, rfl, KS.nil _⟩, rfl⟩
  | some nd =>
    have e : kidsOf T z = nd.kids := by unfold kidsOf; rw [hT]; rfl
    rw [e]
    rw [isSome_of hT] at key
    obtain ⟨i, rfl, him⟩ := h.nat hT
    have c0 := h.cT
    have c1 := h.cKids hT
    have hks := Lib.hid (h.row _ _ hT)
    obtain ⟨A, cc, hs, _⟩ := hks.out.ints
    rw [hs] at c1 hks
    clear h hs
    go_enter Try.func24, Try.ntmps24
    go_wp2_with (go_at_call 15; (with_reducible refine key.mono ?_); rintro e w' ⟨rfl, rfl⟩)
    go_ret
    exact ⟨⟨_, rfl, hks.out⟩, rfl⟩

theorem dstyle_any (h : Doc W r g c m K T) (z : Int) : Calls Try.prog 21 #[.pointer (some ⟨r, 0, none⟩), .int .i64 z] W fun e w' => e = .returned (.agg (cells (styOf T z))) ∧ Below W.heap.size W w' := by
  have h1 := h.after (Below.alloc' (Below.refl _ _) (.cells (cells Re.zero) 43))
  have key := dhas_any h1 z
  have hA : At (W.alloc (.cells (cells Re.zero) 43)) W.heap.size (.cells (cells Re.zero) 43) := At.new _ _
  have hB : Below W.heap.size W (W.alloc (.cells (cells Re.zero) 43)) := Below.alloc' (Below.refl _ _) _
  cases hT : T z with
  | none =>
    have e : styOf T z = Re.zero := by unfold styOf; rw [hT]; rfl
    rw [e]
    rw [isNone_of hT] at key
    clear h h1
    generalize hW : W.alloc (.cells (cells Re.zero) 43) = w1 at *
    go_enter Try.func21, Try.ntmps21
    go_wp2_with (first | (refine wpList_alloc_style (by rfl) rfl ?_; rw [hW]; clear hW) | (refine wpList_alloc_style (by rfl) rfl ?_) | (refine wpList_build_zero (by rfl) rfl ?_) | (refine wpList_load_style (by rfl) _ rfl rfl (by first | assumption | (with_reducible exact At.new _ _)) ?_) | (refine wpList_store_same (by rfl) _ _ rfl rfl rfl (by first | assumption | (with_reducible exact At.new _ _)) ?_) | (refine wpList_store_style (by rfl) _ _ rfl rfl rfl (by first | assumption | (with_reducible exact At.new _ _)) ?_) | (go_at_call 15; (with_reducible refine key.mono ?_); rintro e w' ⟨rfl, rfl⟩))
    refine bodyPost_ret (results_sty1 rfl _ (by rfl) hA) rfl ⟨rfl, hB⟩
  | some nd =>
    have e : styOf T z = nd.sty := by unfold styOf; rw [hT]; rfl
    rw [e]
    rw [isSome_of hT] at key
    obtain ⟨i, rfl, him⟩ := h.nat hT
    have c0 := h1.cT
    have hS := Lib.hid (h1.sty hT)
    clear h h1
    generalize nd.sty = s at *
    generalize hW : W.alloc (.cells (cells Re.zero) 43) = w1 at *
    generalize hb : W.heap.size = b at *
    go_enter Try.func21, Try.ntmps21
    go_wp2_with (first | (refine wpList_alloc_style (by rfl) rfl ?_; rw [hW, hb]; clear hW) | (refine wpList_load_sty (by rfl) _ rfl rfl hS.out ?_) | (refine wpList_store_style (by rfl) _ _ rfl rfl rfl hA ?_) | (go_at_call 15; (with_reducible refine key.mono ?_); rintro e w' ⟨rfl, rfl⟩))
    refine bodyPost_ret (results_sty1 rfl _ (by rfl) (hA.setRow _)) rfl ⟨rfl, below_setRow hB (Nat.le_refl _) _⟩

theorem ddepth_some (h : Doc W r g c m K T) (hr : ∀ nd, T 0 = some nd → nd.up = -1) {z : Int} {d : Nat} (hd : Tr.Dp T z d) (hd63 : d ≤ 1000) : Calls Try.prog 19 #[.pointer (some ⟨r, 0, none⟩), .int .i64 z] W fun e w' => e = .returned (.int .i64 (d : Int)) ∧ w' = W := by
  have hm : T (-1) = none := by
    cases e : T (-1) with
    | none => rfl
    | some nd => have := (h.range _ nd e).1; omega
  have HR := Lib.hid h
  have HROOT := Lib.hid hr
  have HD := Lib.hid hd
  clear h hr hd
  go_enter Try.func19, Try.ntmps19
  go_wp2
  go_loop [1, 5] (fun i p => (∃ (y : Int) (q : Nat) (k : Int), i = .int .i64 y ∧ p = .int .i64 k ∧ q ≤ d ∧ k = (d : Int) - q - 1 ∧ Tr.Dp T y q) ∨ (i = .int .i64 (-1) ∧ p = .int .i64 (d : Int))) (fun _ p => (d - intOf p).toNat)
  case atStart => exact .inl ⟨z, d, -1, rfl, rfl, Nat.le_refl _, by omega, HD.out⟩
  case round =>
    rcases hrel with ⟨y, q, k, rfl, rfl, hmd, hk, hD⟩ | ⟨rfl, rfl⟩
    · obtain ⟨nd, hT⟩ := hD.live
      obtain ⟨i, rfl, him⟩ := HR.out.nat hT
      have key := dhas_any HR.out (i : Int)
      rw [isSome_of hT] at key
      have c0 := HR.out.cT
      have c1 := HR.out.cUp hT
      have hw : IntKind.i64.wrap (k + 1) = k + 1 := by rw [IntWalk.i64_in _ (by omega)]
      have HK := Lib.hid hk
      have HDD := Lib.hid hD
      clear hk hD
      go_wp2_with (go_at_call 15; (with_reducible refine key.mono ?_); rintro e w' ⟨rfl, rfl⟩)
      go_round
      case rel =>
        have hk := HK.out
        generalize hii : (i : Int) = ii at *
        cases HDD.out with
        | root h0 => rw [HROOT.out nd hT]; exact .inr ⟨rfl, by rw [hk]; congr 1; omega⟩
        | step h1 h0 h2 =>
          rw [hT] at h1; cases h1
          exact .inl ⟨nd.up, _, k + 1, rfl, rfl, by omega, by omega, h2⟩
      case measure => have hk := HK.out; simp [intOf]; omega
    · have key := dhas_any HR.out (-1)
      rw [isNone_of hm] at key
      go_wp2_with (go_at_call 15; (with_reducible refine key.mono ?_); rintro e w' ⟨rfl, rfl⟩)
      go_ret
      exact ⟨rfl, rfl⟩
theorem ddepth_any (h : Doc W r g c m K T) (H : Tr.WF T) (z : Int) : Calls Try.prog 19 #[.pointer (some ⟨r, 0, none⟩), .int .i64 z] W fun e w' => e = .returned (.int .i64 (Tr.dep T z)) ∧ w' = W := by
  cases hT : T z with
  | none =>
    rw [Tr.dep_none hT]
    have key := dhas_any h z
    rw [isNone_of hT] at key
    clear h
    go_enter Try.func19, Try.ntmps19
    go_wp2
    refine wp_loop_rounds 1 ?_
    rw [rounds_succ]
    go_wp2_with (go_at_call 15; (with_reducible refine key.mono ?_); rintro e w' ⟨rfl, rfl⟩)
    go_ret
    exact ⟨rfl, rfl⟩
  | some nd =>
    obtain ⟨d, h1, h2, h3⟩ := H.dep_some hT
    rw [h3]
    exact ddepth_some h (fun _ q => H.root_up q) h2 (by omega)

end
end Go.Proofs.Ytbkocceemfhhbaa.Fix
