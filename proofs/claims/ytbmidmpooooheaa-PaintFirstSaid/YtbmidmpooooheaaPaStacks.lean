/- The program's stacks: a map that leads each layer to what is just in it, sorted by a closure. -/
import Derived.Test.YtbmidmpooooheaaPaStk
namespace Go.Proofs.Ytbmidmpooooheaa.Fix
open Go.ChangeShapes Go.WideShapes Go.ChangeAt Go.RowKit Go.Deep Go.Joins
set_option linter.unusedVariables false
set_option linter.unusedSimpArgs false
set_option maxRecDepth 100000

theorem left_struck (left : Lit → Bool) (x z : Int) : ((fun kl : Lit => left kl && !kl.sameKey (.int .i64 x)) (.int .i64 z)) = if z = x then false else left (.int .i64 z) := by
  by_cases e : z = x
  · subst e
    simp [WideAt.sameKey_self (keyLit z)]
  · have : (Lit.int .i64 z).sameKey (.int .i64 x) = false := by
      cases h : (Lit.int .i64 z).sameKey (.int .i64 x) with
      | false => rfl
      | true => exact absurd (WideAt.sameKey_eq h) (key_ne e)
    simp [this, e]

/-- the rows, some of which are sorted -/
def Half (W : World) (B : Int → Value) (l : Nat → PNd) (n : Nat) (left : Lit → Bool) : Prop := ∀ z, Wf z → Rv W (B z) (if left (.int .i64 z) = true then plist l n z else pstack l n z)

/-- one row more -/
theorem Half.step {W W' : World} {B : Int → Value} {l : Nat → PNd} {n : Nat} {left : Lit → Bool} (h : Half W B l n left) {x : Int} {g c N : Nat} {Y : Nat → Nat} (hx : Wf x) (hlx : left (.int .i64 x) = true) (hB : B x = .slice (some ⟨g, 0, none⟩) (plist l n x).length c) (hc : (plist l n x).length ≤ c) (hc2 : c ≤ maxLen)
    (hap : ∀ y z g, y ≠ z → (B y).ownBlock = some g → (B z).ownBlock ≠ some g) (hO : Only g W W') (hV : IsV ⟨fun k => (plist l n x).getD k 0, l, N⟩ W' g Y (plist l n x).length) (hY : So.Blk (pkey ⟨fun k => (plist l n x).getD k 0, l, N⟩) 0 (plist l n x).length Y) : Half W' B l n (fun kl => left kl && !kl.sameKey (.int .i64 x)) := by
  intro z hz
  rw [left_struck left x z]
  by_cases hzx : z = x
  · subst hzx
    rw [if_pos rfl, if_neg (by simp)]
    obtain ⟨T, hT⟩ := hV
    rw [pRow_vals, stack_of_blk hY (fun k => rfl) (sorted_plist l n z)] at hT
    rw [hB]
    have hlen : (pstack l n z).length = (plist l n z).length := length_pstack l n z
    exact .inr ⟨g, c, T, by rw [hlen], by omega, hc2, hT⟩
  · rw [if_neg hzx]
    exact (h z hz).out (M := fun q => q = g) (fun b hb q => hap z x b hzx hb (by rw [hB]; simp [Value.ownBlock, q])) hO

set_option maxHeartbeats 4000000 in
theorem pstacks_any {w : World} {A : Option Addr} {l : Nat → PNd} {n c : Nat} (h : PSl w A l n c) (hv : PV l n) (hn : n ≤ 1000) : Calls Try.prog 26 #[.slice A n c] w fun e w' => (∃ mb, e = .returned (.map (some mb)) ∧ Stacks w' mb w.heap.size w'.heap.size l n) ∧ Below w.heap.size w w' := by
  have hmf : ∀ (fn : Fn) (first cap : Array Value) (w : World), (Instr.makeFunc fn first cap).run Try.prog w = .ok (.func fn first cap) w := fun _ _ _ _ => rfl
  have hmm := @run_makeMap Try.prog
  have HS := Lib.hid h
  have HV := Lib.hid hv
  clear h hv
  go_enter Try.func26, Try.ntmps26
  go_upto_region 2 with (fail)
  have A0 : At ((w.alloc (.cells #[.slice A n c] 22)).alloc (.map #[] 0)) w.heap.size (.cells #[.slice A n c] 22) := (At.new _ _).alloc _
  have G0 : GM 3 ((w.alloc (.cells #[.slice A n c] 22)).alloc (.map #[] 0)) (w.heap.size + 1) 0 (fun _ => none) := by
    have := GM.made 3 (w.alloc (.cells #[.slice A n c] 22))
    simpa using this
  have hB1 : Below w.heap.size w ((w.alloc (.cells #[.slice A n c] 22)).alloc (.map #[] 0)) := Below.alloc' (Below.alloc' (Below.refl _ _) _) _
  obtain ⟨mb, hmb⟩ : ∃ mb, w.heap.size + 1 = mb := ⟨_, rfl⟩
  rw [hmb] at G0
  try rw [hmb]
  generalize (w.alloc (.cells #[.slice A n c] 22)).alloc (.map #[] 0) = W1 at *
  have c0 := A0.cell 0
  simp only [List.getElem?_toArray, List.getElem?_cons_zero] at c0
  have l0 := A0.lt
  go_upto_region 3 with (go_at_call 27; (with_reducible refine (players_any (HS.out.after hB1) HV.out hn).mono ?_); rintro e w2 ⟨⟨rb, rfl, hrb, hR⟩, hB12⟩)
  have A1 := A0.keep hB12
  have G1 := G0.keep hB12
  have hmb1 := G0.lt
  have hB2 : Below w.heap.size w w2 := Below.after2 hB1 (Nat.le_refl _) hB12
  have hrl := hR.lt
  have hFl : Fill w2 mb w2.heap.size 0 (fun _ => .slice none 0 0) (plist l 0) := Fill.start G1 (fun _ => rfl) (by omega) (Nat.le_refl _) _ (fun z => rfl)
  have HA1 := Lib.hid A1
  have HR := Lib.hid hR
  have HB2 := Lib.hid hB2
  have hmbs : w.heap.size < mb := by omega
  have hmbr : mb < rb := by omega
  clear A0 G0 hB1 c0 hB12 A1 G1 hR hB2 hrb
  go_loopw [13] (fun vi wr => ∃ (k : Nat) (B : Int → Value), k ≤ n ∧ vi = .int .i64 k ∧ Fill wr mb w2.heap.size k B (plist l k) ∧ Out (fun b => b = mb) w2 wr) (fun vi _ => n - (intOf vi).toNat)
  case atStart => exact ⟨0, _, by omega, rfl, hFl, Out.refl _ _⟩
  case round =>
    clear hFl
    obtain ⟨k, B, hk, rfl, hF, hO⟩ := hrel
    by_cases hlt : k < n
    · have hltz : (k : Int) < (n : Int) := by omega
      have hRk := HR.out.out (M := fun b => b = mb) (fun q => by omega) hO
      have cr := hRk.cell k
      rw [stRow_get _ hlt, if_pos hlt] at cr
      have lrb := hRk.lt
      obtain ⟨z, hz⟩ : ∃ z, laI l k = z := ⟨_, rfl⟩
      have hzw : Wf z := by
        rw [wf_iff, ← hz]
        unfold laI
        split
        · omega
        · rename_i h0
          have := HV.out.ok.lt k (by omega) hlt
          omega
      have hst : Hid (fset (plist l k) z (plist l k z ++ [k]) = plist l (k + 1)) := Lib.hid (by
        funext y
        unfold fset
        rw [plist_succ, hz]
        by_cases e : y = z
        · rw [if_pos e, if_pos e, e]
        · rw [if_neg e, if_neg e])
      have hlen := length_plist l k z
      obtain ⟨v', W', W3, hap, hmu, hF2, hO2⟩ := hF.push hzw k (by omega) (by omega)
      have hlk := hF.look hzw
      rw [hz] at cr
      obtain ⟨u, hu⟩ : ∃ u, B z = u := ⟨_, rfl⟩
      rw [hu] at hap hlk
      have HAP := Lib.hid hap
      have HF2 := Lib.hid hF2
      have HO2 := Lib.hid hO2
      have HO := Lib.hid hO
      clear hu hF hF2 hO hO2 hz hlen hRk hap
      go_wp2_with (at_builtin; refine wpList_append_run (by rfl) _ _ 26 rfl rfl rfl HAP.out ?_)
      go_roundw
      case rel => exact ⟨k + 1, _, by omega, by go_num, hst.out ▸ HF2.out, Out.trans' HO.out HO2.out fun b hb q => by rcases q with q | q; exact q; omega⟩
      case measure => simp [intOf]; omega
    · obtain rfl : k = n := by omega
      obtain ⟨m, g, hm, ⟨D, hown, hsz, hD⟩, hgz⟩ := hF.gm
      have hAk := HA1.out.out (M := fun b => b = mb) (fun q => by omega) hO
      have hBk : Below w.heap.size w wr := HB2.out.trans (hO.below HB2.out.size fun b hb q => by omega)
      have HF := Lib.hid hF
      have HGZ := Lib.hid hgz
      have HD := Lib.hid hD
      clear hF hO hgz
      go_wp2_with (first | (at_range; refine wpList_range_own _ rfl _ 47 rfl 3 26 keyLaw Try.underlying47 hR mb m D rfl hown ?_; intro w0 hrg0 hg0 hs0) | go_in)
      go_frame
      have hO0 : Out (fun _ => False) wr w0 := Out.grown hg0 (fun b e => by cases e)
      obtain ⟨r, hr⟩ : ∃ r, wr.heap.size = r := ⟨_, rfl⟩
      rw [hr] at hrg0 hs0
      try rw [hr]
      have hbr : w2.heap.size ≤ r := hr ▸ HF.out.le
      have hblk : Hid (∀ z b, (B z).ownBlock = some b → w2.heap.size ≤ b ∧ b < r) := Lib.hid fun z b hb => hr ▸ World.ownsRow.lt (HF.out.rows z) b hb
      have hH0 : Half w0 B l k (Maps.has D) := fun z hz => by
        have h1 := (Rv.of_own (HF.out.rows z)).out (M := fun _ => False) (fun _ _ q => q) hO0
        have h2 := (HD.out (.int .i64 z) (keyLit z)).2
        rw [h2]
        cases hg : g (.int .i64 z) with
        | some v => simpa using h1
        | none =>
          have h3 := (HGZ.out z hz).2.1 hg
          rw [h3] at h1
          have h4 : pstack l k z = [] := by unfold pstack; rw [h3]; rfl
          simpa [h3, h4] using h1
      have hL0 : ∀ z, Maps.has D (.int .i64 z) = true → (g (.int .i64 z)).isSome = true := fun z hz => by rw [← (HD.out (.int .i64 z) (keyLit z)).2]; exact hz
      have hAk0 := hAk.out (M := fun _ => False) (fun q => q) hO0
      have hB0 : Below w.heap.size w w0 := hBk.trans (hO0.below hBk.size fun b hb q => q)
      have HAK := Lib.hid hAk0
      have HB0 := Lib.hid hB0
      clear hO0 hg0 hAk hBk hAk0 hB0 hown
      go_loopw [8] (fun _ wr => ∃ left cnt, wr.ranges Try.prog 3 hR mb r m D left cnt ∧ Half wr B l k left ∧ (∀ z, left (.int .i64 z) = true → (g (.int .i64 z)).isSome = true) ∧ Out (fun b => w2.heap.size ≤ b) w0 wr) (fun _ wr => wr.rangeLeft mb r)
      case atStart => exact ⟨_, _, hrg0, hH0, hL0, Out.refl _ _⟩
      case round =>
        clear hrg0 hH0 hL0
        obtain ⟨left, cnt, hrg, hH, hL, hO⟩ := hrel
        go_wp2_with (first | (at_next; refine wpList_next_ranges _ rfl _ rfl 3 keyLaw hR (Value.int .i64) (fun v : Value => v) (fun key kl hk => by obtain ⟨x, rfl, _⟩ := Maps.keyOf_int_inv Try.underlying3 hk; exact ⟨x, rfl⟩) (fun v y hv => ⟨v, rfl⟩) mb r m _ _ _ rfl hrg ?_ ?_) | go_in)
        · intro hc0 hl0
          have hrl2 := hrg.lt
          have hml := hrg.owns.lt
          have hb2 := HB2.out.size
          have hSt : Hid (Stacks wr mb w.heap.size wr.heap.size l k) := Lib.hid ⟨⟨m, g, ⟨D, hrg.owns, hsz, HD.out⟩, fun z hz => by
            rw [(HGZ.out z hz).1]
            refine ⟨?_, fun b hb => ?_⟩
            · have h1 := hH z hz
              rw [hl0, if_neg (by simp)] at h1
              exact h1
            · have := hblk.out z b hb
              omega⟩, by omega, Nat.le_refl _⟩
          have hBf : Hid (Below w.heap.size w wr) := Lib.hid (HB0.out.trans (hO.below HB0.out.size fun b hb q => by omega))
          clear hrg hH hL hO
          go_wp2
          go_ret
          exact ⟨⟨mb, rfl, hSt.out⟩, hBf.out⟩
        · intro x v kl y1 y2 w3 cnt1 hkey hlx hR' hat hrg1 hlt1 hg1 hs2 hen
          obtain ⟨x', ex, rfl, hxw⟩ := Maps.keyOf_int_inv Try.underlying3 hkey
          injection ex with _ ex
          subst ex
          simp only [hR, Option.some.injEq, Prod.mk.injEq] at hR'
          have hx1 := hL x hlx
          have hne := (HGZ.out x hxw).2.2 hx1
          have ev : v = B x := by
            have e1 := hat (.held (.slice none 0 0))
            rw [(HD.out (.int .i64 x) (keyLit x)).1, (HGZ.out x hxw).1, ← hR'.1] at e1
            injection e1 with e1
            exact e1.symm
          subst ev
          have hrow := hH x hxw
          rw [if_pos hlx] at hrow
          rcases hrow with ⟨_, h0⟩ | ⟨gb, cc, T, eB, hc1, hc2, hT⟩
          · exact absurd h0 hne
          have hgb := hblk.out x gb (by rw [eB]; rfl)
          have hO1 : Out (fun b => b = r) wr w3 := Out.grown hg1 fun b e => by injection e with e; exact e.symm
          have hH3 : Half w3 B l k left := fun z hz => (hH z hz).out (fun b hb q => by have := hblk.out z b hb; omega) hO1
          have hO3 : Out (fun b => w2.heap.size ≤ b) w0 w3 := Out.trans' hO hO1 fun b hb q => by omega
          have hB3 : Below w.heap.size w w3 := HB0.out.trans (hO3.below HB0.out.size fun b hb q => by have := HB2.out.size; omega)
          have hT3 := hT.out (M := fun b => b = r) (by omega) hO1
          have hAx := HAK.out.out (M := fun b => w2.heap.size ≤ b) (by have := HB2.out.size; omega) hO3
          have hlp := length_plist l k x
          have hb2 := HB2.out.size
          have hPK : Hid (PKeys w3 gb w.heap.size A ⟨fun i => (plist l k x).getD i 0, l, k⟩ (plist l k x).length c) := Lib.hid ⟨hAx.cell 0, by omega, Nat.le_of_lt hT3.lt, (HS.out.after hB3).nodes, fun h0 a ha => by
            have := HS.out.nodes.lt h0 a ha
            omega, hn, fun u hu => by
            show (plist l k x).getD u 0 < k
            rw [List.getD, List.getElem?_eq_getElem hu]
            exact (mem_plist.1 (List.getElem_mem hu)).1⟩
          have hIS : Hid (IsV ⟨fun i => (plist l k x).getD i 0, l, k⟩ w3 gb (fun i => i) (plist l k x).length) := Lib.hid ⟨T, by
            rw [pvals_row (plist l k x) (fun i => (plist l k x).getD i 0) (fun _ => rfl)] at hT3
            exact hT3⟩
          have hcl : Hid (w3.rangeLeft mb r < wr.rangeLeft mb r) := Lib.hid (by rw [hrg1.left_eq, hrg.left_eq]; exact hlt1)
          have HH3 := Lib.hid hH3
          have HO3 := Lib.hid hO3
          have HEB := Lib.hid eB
          have HRG := Lib.hid hrg1
          have HL := Lib.hid hL
          have HLX := Lib.hid hlx
          rw [eB] at hen
          try rw [eB]
          clear hH hH3 hO hO1 hO3 hB3 hT hT3 hAx hrg hrg1 hL hat hR' hkey hg1 hx1 hne
          generalize hml : (plist l k x).length = ml at *
          have HML := Lib.hid hml
          clear hml
          go_wp2_with (go_at_call 36; (with_reducible refine (psorting_any gb w.heap.size A ⟨fun i => (plist l k x).getD i 0, l, k⟩ ml c cc _ hPK.out hIS.out (by omega)).mono ?_); rintro e w4 ⟨rfl, hOn, Y, hY, hBl⟩)
          have e := HML.out
          subst e
          have hrg4 := ranges_outH HRG.out (M := fun q => q = gb) (by omega) (by omega) hOn
          refine ⟨⟨_, _, hrg4, HH3.out.step hxw HLX.out HEB.out hc1 hc2 HF.out.apart hOn hY hBl, fun z hz => HL.out z ?_, Out.trans' HO3.out hOn fun b hb q => by omega⟩, ?_⟩
          · simp only [Bool.and_eq_true] at hz
            exact hz.1
          · rw [hrg4.left_eq, ← HRG.out.left_eq]
            exact hcl.out

end Go.Proofs.Ytbmidmpooooheaa.Fix
