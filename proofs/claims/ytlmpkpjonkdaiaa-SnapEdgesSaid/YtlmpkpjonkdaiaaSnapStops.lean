/- The contracts of Stops of the layer snap, and of the document's own answer for it. -/
import Derived.Test.YtlmpkpjonkdaiaaSnapIter
import Derived.Shelf.Abstract
namespace Go.Proofs.Ytlmpkpjonkdaiaa.Fix
open Go.ChangeShapes Go.WideShapes Go.ChangeAt Go.RowKit Go.Shelf
set_option linter.unusedVariables false
attribute [local go_sem] Oper.semAt_some

theorem cell_one_new (w : World) (x : Value) (t : TypeId) : ∀ j u, [x][j]? = some u → (w.alloc (.cells #[x] t)).cell? ((⟨w.heap.size, 0, none⟩ : Addr).add j) = some u := by
  intro j u hj
  match j, hj with
  | 0, hj => simp at hj; subst hj; simp [Addr.add]

/-- where a row that is grown may lie: not among the boxes -/
def offS (ws : Nat) (v : Value) : Prop := ∀ r, v.ownBlock = some r → r = ws ∨ ws + 5 ≤ r

theorem stops_appended {n₀ : Nat} {W w1 : World} {v v' : Value} {k m : Nat} {xs ys : List Value} {tmp : Obj}
    (hv : Boxed W (n₀ + 1) 39 v) (hrow : W.ownsRow n₀ 3 1 v k xs) (hn₀ : n₀ + 5 ≤ W.heap.size) (hoff : offS n₀ v)
    (hown' : w1.ownsRow n₀ 3 1 v' m ys) (hgrow : (W.alloc tmp).grownBy w1 v.ownBlock) (hat : v'.ownBlock = v.ownBlock ∨ v'.ownBlock = some (W.alloc tmp).heap.size) :
    Boxed w1 (n₀ + 1) 39 v ∧ Boxed (w1.setCell ⟨n₀ + 1, 0, none⟩ v') (n₀ + 1) 39 v' ∧ (w1.setCell ⟨n₀ + 1, 0, none⟩ v').ownsRow n₀ 3 1 v' m ys ∧ KeepsOthers W (w1.setCell ⟨n₀ + 1, 0, none⟩ v') ∧ KpS n₀ (n₀ + 1) W (w1.setCell ⟨n₀ + 1, 0, none⟩ v') ∧ offS n₀ v' := by
  obtain ⟨a1, a2, a3, a4, a5⟩ := hv.appended (by decide) hrow (by omega) (by omega) hown' hgrow
  refine ⟨a1, a2, a3, a4, ⟨a5, fun i t u h1 h2 h3 => ((h3.alloc tmp).kept hgrow (fun e => ?_)).kept (grownBy_setCell' w1 (n₀ + 1) v') (fun e => by injection e with e; omega)⟩, fun r hr => ?_⟩
  · have := hoff i e.symm
    omega
  · rcases hat with h | h
    · exact hoff r (h ▸ hr)
    · rw [h] at hr; injection hr with hr; simp at hr; omega

set_option maxRecDepth 100000 in
set_option maxHeartbeats 4000000 in
theorem stops_any (A : Option Addr) (l : Nat → Sn.Ar) (m c : Nat) (p mo : Int) (w : World) (hI : Areas w A l m) (hp : p ≤ 9223372036854775807) (hm : m ≤ 1000) :
    Calls Try.prog 17 #[.slice A m c, .int .i64 p, .int .i64 mo] w fun e w' => ∃ v, e = .returned v ∧ w'.ownsRow w.heap.size 3 1 v (Sn.stops l p mo m).length ((Sn.stops l p mo m).map (Value.int .i64)) ∧ Below w.heap.size w w' := by
  obtain ⟨i0, hi, hz0, hz1, hz2⟩ := info_parts intZero
  have hmf : ∀ (fn : Fn) (first cap : Array Value) (w : World), (Instr.makeFunc fn first cap).run Try.prog w = .ok (.func fn first cap) w := fun _ _ _ _ => rfl
  have HI := Lib.hid hI
  have HA := Lib.hid hI.lt
  clear hI
  refine (callsIn_wide (n := 5)).1 ?_
  refine callsIn_of_wp_marks Try.func17 rfl trivial ?_ rfl
  simp only [Try.ntmps17, List.size_toArray, List.length_cons, List.length_nil, Nat.reduceAdd, Nat.reduceSub, Array.replicate_succ, Array.replicate_zero, List.push_toArray, List.append_toArray, List.nil_append, List.cons_append]
  gi_wp2_with (refine ⟨trivial, ?_⟩; gi_at_call 33; refine (callsIn_wide.2 (seach_any _ _ _ _ _ _)).mono ?_; rintro e w' ⟨rfl, rfl⟩)
  have bT : At _ (w.heap.size + 1) _ := At.new' (W := w.alloc (.cells #[] 3)) (.cells #[.slice (some ⟨w.heap.size, 0, none⟩) 0 0] 39) (by simp)
  have bR : At _ w.heap.size _ := At.new w (.cells #[] 3)
  have b1 : At _ (w.heap.size + 1 + 1) _ := At.new' (W := (w.alloc (.cells #[] 3)).alloc (.cells #[.slice (some ⟨w.heap.size, 0, none⟩) 0 0] 39)) (.cells #[.slice A m c] 23) (by simp)
  have b2 : At _ (w.heap.size + 1 + 2) _ := At.new' (W := ((w.alloc (.cells #[] 3)).alloc (.cells #[.slice (some ⟨w.heap.size, 0, none⟩) 0 0] 39)).alloc (.cells #[.slice A m c] 23)) (.cells #[.int .i64 p] 3) (by simp)
  have b3 : At _ (w.heap.size + 1 + 3) _ := At.new' (W := (((w.alloc (.cells #[] 3)).alloc (.cells #[.slice (some ⟨w.heap.size, 0, none⟩) 0 0] 39)).alloc (.cells #[.slice A m c] 23)).alloc (.cells #[.int .i64 p] 3)) (.cells #[.int .i64 mo] 3) (by simp)
  replace bT := (((bT.alloc (.cells #[.slice A m c] 23)).alloc (.cells #[.int .i64 p] 3)).alloc (.cells #[.int .i64 mo] 3))
  replace bR := ((((bR.alloc (.cells #[.slice (some ⟨w.heap.size, 0, none⟩) 0 0] 39)).alloc (.cells #[.slice A m c] 23)).alloc (.cells #[.int .i64 p] 3)).alloc (.cells #[.int .i64 mo] 3))
  replace b1 := ((b1.alloc (.cells #[.int .i64 p] 3)).alloc (.cells #[.int .i64 mo] 3))
  replace b2 := (b2.alloc (.cells #[.int .i64 mo] 3))
  have hB0 : Below w.heap.size w _ := Below.alloc' (Below.alloc' (Below.alloc' (Below.alloc' (Below.alloc' (Below.refl _ w) (.cells #[] 3)) (.cells #[.slice (some ⟨w.heap.size, 0, none⟩) 0 0] 39)) (.cells #[.slice A m c] 23)) (.cells #[.int .i64 p] 3)) (.cells #[.int .i64 mo] 3)
  have hsz : (((((w.alloc (.cells #[] 3)).alloc (.cells #[.slice (some ⟨w.heap.size, 0, none⟩) 0 0] 39)).alloc (.cells #[.slice A m c] 23)).alloc (.cells #[.int .i64 p] 3)).alloc (.cells #[.int .i64 mo] 3)).heap.size = w.heap.size + 5 := by simp
  generalize (((((w.alloc (.cells #[] 3)).alloc (.cells #[.slice (some ⟨w.heap.size, 0, none⟩) 0 0] 39)).alloc (.cells #[.slice A m c] 23)).alloc (.cells #[.int .i64 p] 3)).alloc (.cells #[.int .i64 mo] 3)) = W0 at *
  have hrow0 : W0.ownsRow w.heap.size 3 1 (.slice (some ⟨w.heap.size, 0, none⟩) 0 0) 0 [] := ⟨by simp, .inr ⟨w.heap.size, 0, #[], rfl, Nat.le_refl _, bR, Nat.le_refl _, by simp [maxLen], by simp, by simp⟩⟩
  have hoff0 : offS w.heap.size (.slice (some ⟨w.heap.size, 0, none⟩) 0 0) := fun r hr => .inl (by simpa [Value.ownBlock] using hr.symm)
  have hIW := HI.out.after hB0
  refine wpIn_rangeFunc_ownG (α := Int) rfl (by omega) (gf := 38) (lb := #[.pointer (some ⟨w.heap.size + 1 + 1, 0, none⟩), .pointer (some ⟨w.heap.size + 1 + 2, 0, none⟩), .pointer (some ⟨w.heap.size + 1 + 3, 0, none⟩)]) rfl trivial (enters_of Try.func38 (by kernel_rfl) rfl)
    (encs := fun x : Int => #[.int .i64 x]) (Kp := KpS w.heap.size (w.heap.size + 1)) (S := fun ys => ys = Sn.stops l p mo m) (Sp := fun _ => True) (N := m) (w0 := W0)
    (fun lp J Jx W hW hJ hJx hY h0 => siter_in 4 (by omega) lp w.heap.size (w.heap.size + 1) A l m c p mo hp (by omega) J Jx hY W hJ (by have := hW.size; omega)
      ((hW.block _ (by omega)).trans b1) ((hW.block _ (by omega)).trans b2) ((hW.block _ (by omega)).trans b3)
      (hIW.keep (hW.mono (by omega)) HA.out) HA.out h0)
    KpS.trans (KpS.putObj (by omega) (by omega)) (Below.refl _ _) (fun _ => rfl)
    (fun pre W => (∃ v, Boxed W (w.heap.size + 1) 39 v ∧ W.ownsRow w.heap.size 3 1 v pre.length (pre.map (Value.int .i64)) ∧ offS w.heap.size v) ∧ Below w.heap.size w W ∧ w.heap.size + 5 ≤ W.heap.size)
    (fun _ _ _ => False)
    (OwnFrom.and (Own.from (holdsRow_own w.heap.size (w.heap.size + 1) 39 3 1 (fun pre : List Int => pre.length) (fun pre => pre.map (Value.int .i64)) (fun _ v => offS w.heap.size v)) _) (OwnFrom.and (ownFrom_below (Nat.le_refl _) (by omega)) (fun _ X Y row h hg _ => Nat.le_trans h hg.size)))
    (fun _ _ _ _ _ hs _ _ => hs)
    ⟨⟨_, bT, hrow0, hoff0⟩, hB0, by omega⟩
    (fun x => { tmps := #[.slice A m c, .int .i64 p, .int .i64 mo, undef, undef, undef, .slice none 0 0, .pointer (some ⟨w.heap.size + 1, 0, none⟩), .int .i64 x, .slice (some ⟨w.heap.size, 0, none⟩) 0 0, .slice A m c, .int .i64 p, .int .i64 mo, .func (.func 38) #[] #[.pointer (some ⟨w.heap.size + 1 + 1, 0, none⟩), .pointer (some ⟨w.heap.size + 1 + 1 + 1, 0, none⟩), .pointer (some ⟨w.heap.size + 1 + 1 + 2, 0, none⟩)], .int .i64 x, undef, undef, undef, undef, undef], defers := [] }) ?assign ?body ?done ?stop
  case assign =>
    intro lp x W K hK
    gi_wp2
    exact hK
  case body =>
    rintro lp pre x W ⟨⟨v, hv, hrow, hoff⟩, hB, hZ⟩ hlt
    have hc := hv.cell
    gi_wp2_with (gi_at_builtin; refine wpListIn_append_own_at _ rfl _ _ 39 rfl w.heap.size 3 i0 (.int .i64 0) 1 8 Try.underlying39 hi hz0 hz1 hz2 rfl (by decide) _ _ _ rfl (hrow.alloc _) ⟨W.heap.size, 0, none⟩ 1 1 [.int .i64 x] rfl rfl (cell_one_new _ _ _) (by simp [Value.oneCell']) (by simp only [maxLen]; omega) (by omega) (by have := hB.size; simp; omega) ?_; intro v' w1 hown' hgrow _ hat; obtain ⟨g', cap', rfl⟩ := ownsRow_succ hown'; obtain ⟨hv1, hv2, hr2, hk2, hb2, ho2⟩ := stops_appended hv hrow hZ hoff hown' hgrow hat; have hc1 := hv1.cell; have hf1 := hv1.frozen)
    exact ⟨hk2.from _, hb2, ⟨_, hv2, by rw [List.map_append, List.length_append]; exact hr2, ho2⟩, hB.trans hb2.1, Nat.le_trans hZ hb2.1.size⟩
  case done =>
    rintro D ys W hD rfl ⟨⟨v, hv, hrow, _⟩, hB, _⟩ hK
    have hc := hv.cell
    gi_wp2
    refine ⟨by simp, .inl ⟨_, _, rfl, run_takeDeferred hK, ?_⟩⟩
    exact ⟨_, results_tmp rfl _ _ _, v, rfl, ownsRow_putObj hrow _ hK rfl, hB.trans (belowK_b (w := w) (Nat.le_refl _) W D _ _ (by omega) hK rfl rfl)⟩
  case stop =>
    rintro D c pre W _ _ h _
    exact h.elim

theorem ownsRow_belowS {W w : World} {base : Nat} {e : TypeId} {sz : Nat} {v : Value} {k : Nat} {xs : List Value} (h : W.ownsRow base e sz v k xs) (hb : Below W.heap.size W w) : w.ownsRow base e sz v k xs :=
  h.kept (grown_of_belowS hb) (by cases hv : v.ownBlock with
    | none => exact .inl rfl
    | some b => exact .inr (by simp))

/-- Stops, as a slice that can be read. -/
theorem stopsI_any (A : Option Addr) (l : Nat → Sn.Ar) (m c : Nat) (p mo : Int) (w : World) (hI : Areas w A l m) (hp : p ≤ 9223372036854775807) (hm : m ≤ 1000) :
    Calls Try.prog 17 #[.slice A m c, .int .i64 p, .int .i64 mo] w fun e w' => ∃ A' c', e = .returned (.slice A' (Sn.stops l p mo m).length c') ∧ Ints w' A' (Sn.stops l p mo m) ∧ Below w.heap.size w w' := by
  refine (stops_any A l m c p mo w hI hp hm).mono ?_
  rintro e w' ⟨v, rfl, hown, hB⟩
  have hl := Sn.stops_len l p mo m
  obtain ⟨A', c', rfl, hI'⟩ := ints_of_own hown (by simp only [maxLen]; omega)
  exact ⟨A', c', rfl, hI', hB⟩

theorem rsnat_at {lo hi e p z : Int} {s : Bool} (w : World) (hz : z = Sn.at_ lo hi e p) (hs : s = Sn.snaps e) :
    Calls Try.prog 13 #[.agg #[.int .i64 lo, .int .i64 hi, .int .i64 e], .int .i64 p] w fun x w' => x = .returned (.tuple #[.int .i64 z, .bool s]) ∧ Below w.heap.size w w' := by
  subst hz; subst hs; exact rsnat_any _ _ _ _ _

set_option maxRecDepth 100000 in
set_option maxHeartbeats 4000000 in
theorem rstopsI_any (A : Option Addr) (l : Nat → Sn.Ar) (m c : Nat) (p mo : Int) (w : World) (hI : Areas w A l m) (hm : m ≤ 1000) :
    Calls Try.prog 18 #[.slice A m c, .int .i64 p, .int .i64 mo] w fun e w' => ∃ A' c', e = .returned (.slice A' (Sn.stops l p mo m).length c') ∧ Ints w' A' (Sn.stops l p mo m) ∧ Below w.heap.size w w' := by
  have HI := Lib.hid hI
  clear hI
  go_enter Try.func18, Try.ntmps18
  go_wp2
  go_loopw [7, 8] (fun v i wr => ∃ k : Nat, k ≤ m ∧ i = .int .i64 k ∧ wr.ownsRow w.heap.size 3 1 v (Sn.stops l p mo k).length ((Sn.stops l p mo k).map (Value.int .i64)) ∧ Below w.heap.size w wr) (fun _ i _ => m - (intOf i).toNat)
  case atStart => exact ⟨0, by omega, rfl, World.ownsRow_nil _ _ _ _, Below.refl _ _⟩
  case round =>
    obtain ⟨k, hk, rfl, hown, hB⟩ := hrel
    by_cases hlt : k < m
    · have hltz : (k : Int) < (m : Int) := by omega
      obtain ⟨b, off, rfl, lb, d0, d1, d2⟩ := (HI.out.after hB).at_ hlt
      obtain ⟨z, hz⟩ : ∃ z, z = Sn.at_ (l k).lo (l k).hi (l k).e p := ⟨_, rfl⟩
      obtain ⟨s, hs⟩ : ∃ s, s = Sn.snaps (l k).e := ⟨_, rfl⟩
      have hcs := inn_cases (l k) p mo z s hz hs
      have hyes := Sn.stops_yes (l := l) (p := p) (m := mo) (k := k)
      have hno := Sn.stops_no (l := l) (p := p) (m := mo) (k := k)
      have hlen := Sn.stops_len l p mo k
      have hz1 := Sn.at_le (l k).lo (l k).hi (l k).e p
      rw [← hz] at hyes hz1
      have hcut := Sn.le_cut z mo hz1
      have HYES := Lib.hid hyes
      have HNO := Lib.hid hno
      have HZ := Lib.hid hz
      have HS := Lib.hid hs
      clear hyes hno hz hs
      generalize (l k).lo = lo at *
      generalize (l k).hi = hi at *
      generalize (l k).e = ed at *
      rcases hcs with ⟨hin, rfl⟩ | ⟨hin, rfl, q1⟩ | ⟨hin, rfl, q1, q2⟩ | ⟨hin, rfl, q1, q2⟩
      · go_wp2_with (first | (go_at_call 13; with_reducible refine (rsnat_at _ HZ.out HS.out).mono ?_; rintro e w2 ⟨rfl, hb⟩) | (first | (go_at_call 25; (with_reducible refine (rcut_any _ _).mono ?_); rintro e w' ⟨rfl, rfl⟩)))
        go_roundw
        case rel => exact ⟨k + 1, by omega, by go_num, by rw [HNO.out hin]; exact ownsRow_belowS hown hb, Below.after hB hb⟩
        case measure => simp [intOf]; omega
      · have e1 : decide (0 ≤ z) = false := by simp; omega
        go_wp2_with (first | (go_at_call 13; with_reducible refine (rsnat_at _ HZ.out HS.out).mono ?_; rintro e w2 ⟨rfl, hb⟩) | (first | (go_at_call 25; (with_reducible refine (rcut_any _ _).mono ?_); rintro e w' ⟨rfl, rfl⟩)))
        go_roundw
        case rel => exact ⟨k + 1, by omega, by go_num, by rw [HNO.out hin]; exact ownsRow_belowS hown hb, Below.after hB hb⟩
        case measure => simp [intOf]; omega
      · have e1 : decide (0 ≤ z) = true := by simp; omega
        have e2 : decide (z ≤ Fx.cut (max mo 0)) = false := by simp; omega
        go_wp2_with (first | (go_at_call 13; with_reducible refine (rsnat_at _ HZ.out HS.out).mono ?_; rintro e w2 ⟨rfl, hb⟩) | (first | (go_at_call 25; (with_reducible refine (rcut_any _ _).mono ?_); rintro e w' ⟨rfl, rfl⟩)))
        go_roundw
        case rel => exact ⟨k + 1, by omega, by go_num, by rw [HNO.out hin]; exact ownsRow_belowS hown hb, Below.after hB hb⟩
        case measure => simp [intOf]; omega
      · have e1 : decide (0 ≤ z) = true := by simp; omega
        have e2 : decide (z ≤ Fx.cut (max mo 0)) = true := by simp; omega
        have HSB : Hid (Below w.heap.size w wr) := Lib.hid hB
        go_wp2_with (first | (go_at_call 13; with_reducible refine (rsnat_at _ HZ.out HS.out).mono ?_; rintro e w2 ⟨rfl, hb⟩; obtain ⟨v', w', hrun, hown2, hB2, hb2⟩ := append_int z (ownsRow_belowS hown hb) (Below.after hB hb) (Below.after hB hb).size (by omega); have HRUN := Lib.hid hrun; clear hrun) | (at_builtin; refine wpList_append_run (by rfl) _ _ 39 rfl rfl rfl HRUN.out ?_) | (first | (go_at_call 25; (with_reducible refine (rcut_any _ _).mono ?_); rintro e w' ⟨rfl, rfl⟩)))
        go_roundw
        case rel => exact ⟨k + 1, by omega, by go_num, by rw [HYES.out hin, List.length_append]; exact hown2, hB2⟩
        case measure => simp [intOf]; omega
    · obtain rfl : k = m := by omega
      have hl := Sn.stops_len l p mo k
      obtain ⟨A', c', rfl, hI'⟩ := ints_of_own hown (by simp only [maxLen]; omega)
      go_wp2
      go_ret
      exact ⟨A', c', rfl, hI', hB⟩

end Go.Proofs.Ytlmpkpjonkdaiaa.Fix
