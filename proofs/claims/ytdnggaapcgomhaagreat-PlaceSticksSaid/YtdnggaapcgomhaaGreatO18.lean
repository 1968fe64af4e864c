/- What functions of the program do, in plain numbers; no conditions. -/
import Derived.Test.YtdnggaapcgomhaaGreatB17
set_option linter.all false
set_option maxRecDepth 100000
namespace Go.Proofs.YtdnggaapcgomhaaGreat.St
theorem over_top {a b : Int} (ha : Fx.cut a = a) (hb : Fx.cut b = b) : 0 ≤ over a b ∧ over a b ≤ 1099511627776 ∧ (over a b = 0 ∨ over a b ≤ a - b) := by
  refine ⟨Cy a b, Jk a b, ?_⟩
  unfold over Fx.sub
  rw [ha, hb]
  by_cases h : Fx.cut (a - b) ≤ 0
  · rw [if_pos h]; exact .inl rfl
  · rw [if_neg h]
    right
    unfold Fx.cut at *
    (repeat' split) <;> (repeat' split at h) <;> omega
theorem shift_rng (oD uw ilo ihi pU phi : Int) (qZ : Bool) (pV : Int) (x9 : Bool) (wE : Int) : (0 ≤ shift oD uw ilo ihi pU phi qZ pV x9 wE ∧ shift oD uw ilo ihi pU phi qZ pV x9 wE ≤ over ihi uw) ∨ (shift oD uw ilo ihi pU phi qZ pV x9 wE ≤ 0 ∧ -over oD ilo ≤ shift oD uw ilo ihi pU phi qZ pV x9 wE) := by
  have h1 := Cy ihi uw
  have h2 := Cy oD ilo
  unfold shift least
  (repeat' split) <;> omega
theorem shift_off (oD uw ilo ihi pU phi pV wE : Int) : shift oD uw ilo ihi pU phi false pV false wE = 0 := by simp [shift, down, up]
theorem shift_in {Y H G D : Int} (hY : Fx.cut Y = Y) (hG : Fx.cut G = G) (d1 : 0 ≤ D) (d2 : D ≤ 1099511627776) (h1 : G ≤ Y) (h2 : Y + H ≤ G + D) (pU phi : Int) (qZ : Bool) (pV : Int) (x9 : Bool) (wE : Int) {s : Int} (hs : shift (Fx.cut Y) (Fx.hi Y H) (Fx.cut G) (Fx.hi G D) pU phi qZ pV x9 wE = s) :
    G ≤ Fx.cut (Fx.add Y s) ∧ Fx.cut (Fx.add Y s) + H ≤ G + D := by
  have y1 := Fx.dU Y
  have y2 := Fx.fU Y
  have g1 := Fx.dU G
  have g2 := Fx.fU G
  have r := shift_rng (Fx.cut Y) (Fx.hi Y H) (Fx.cut G) (Fx.hi G D) pU phi qZ pV x9 wE
  rw [hs, hY, hG] at r
  rw [hY] at y1 y2
  rw [hG] at g1 g2
  have eD : Fx.hi G D = Fx.cut (G + D) := by unfold Fx.hi Fx.add; rw [hG, Fx.Cw d1, Fx.qo (n := D) (by omega) d2]
  have eM : Fx.hi Y H = Fx.cut (Y + Fx.mx H 0) := by
    unfold Fx.hi Fx.add
    rw [hY, Fx.qo (n := Fx.mx H 0) (by have := Fx.Tt H; omega) (by unfold Fx.mx; split <;> omega)]
  have m : (H ≤ 0 ∧ Fx.mx H 0 = 0) ∨ (0 ≤ H ∧ Fx.mx H 0 = H) := by unfold Fx.mx; split <;> omega
  have o1 := over_top (a := Fx.hi G D) (b := Fx.hi Y H) (by rw [eD, Fx.eT]) (by rw [eM, Fx.eT])
  have o2 := over_top (a := Y) (b := G) hY hG
  have es : Fx.cut s = s := Fx.qo (by omega) (by omega)
  have ea : Fx.add Y s = Fx.cut (Y + s) := by unfold Fx.add; rw [hY, es]
  rw [ea, Fx.eT]
  rw [eD, eM] at o1 r
  generalize Fx.mx H 0 = M at *
  generalize over (Fx.cut (G + D)) (Fx.cut (Y + M)) = A at *
  generalize over Y G = C at *
  unfold Fx.cut at *
  (repeat' split) <;> (repeat' split at o1) <;> omega
end Go.Proofs.YtdnggaapcgomhaaGreat.St
namespace Go.Proofs.YtdnggaapcgomhaaGreat.Fix
open Go.ChangeShapes Go.WideShapes Go.ChangeAt Go.RowKit
set_option linter.unusedVariables false
set_option linter.unusedSimpArgs false
set_option maxRecDepth 100000
theorem mv_cut (p : Pr) (a b : Int) : Fx.cut (p.mv a b).x = (p.mv a b).x ∧ Fx.cut (p.mv a b).y = (p.mv a b).y := ⟨Fx.eT _, Fx.eT _⟩
theorem mv_none {p : Pr} (h : Fx.cut p.x = p.x ∧ Fx.cut p.y = p.y) : p.mv 0 0 = p := by
  obtain ⟨x, y, w, h'⟩ := p
  unfold Pr.mv Fx.add
  simp only at h
  rw [show Fx.cut 0 = 0 from rfl, Int.add_zero, Int.add_zero]
  simp only [h.1, h.2, Fx.eT]
theorem RL_cut (T : Tr.T) (ww wh z : Int) : Fx.cut ((RL T ww wh z).getD p0).h = ((RL T ww wh z).getD p0).h := by
  unfold RL RLl
  cases (Gy T ww wh).find? fun x => x.id == z with
  | none => rfl
  | some x => exact Fx.eT _
theorem cl_cut (n a b : Int) : Fx.cut (Fx.clamp n a b) = Fx.clamp n a b := by unfold Fx.clamp; (repeat' split) <;> exact Fx.eT _
theorem sub_clamp (n lo hi : Int) : Fx.sub 0 (Fx.clamp n lo hi) = -Fx.clamp n lo hi := by
  unfold Fx.sub
  rw [cl_cut, show Fx.cut 0 = 0 from rfl, Int.zero_sub, Fx.yx, cl_cut]
theorem ord_ne0 {T : Tr.T} (H : Tr.WF T) {j : Nat} (h1 : 1 ≤ j) (h2 : j < (Tr.ord T).length) : (Tr.ord T).getD j 0 ≠ 0 := by
  obtain ⟨l, e⟩ : ∃ l, Tr.ord T = 0 :: l := by obtain ⟨nd, h, _⟩ := H.root; exact ⟨_, Tr.fG h⟩
  have hn := H.iD
  rw [e] at hn h2 ⊢
  obtain ⟨k, rfl⟩ : ∃ k, j = k + 1 := ⟨j - 1, by omega⟩
  have hk : k < l.length := by simpa using h2
  rw [List.getD, List.getElem?_cons_succ, List.getElem?_eq_getElem hk, Option.getD_some]
  intro e0
  exact (List.nodup_cons.1 hn).1 (e0 ▸ List.getElem_mem hk)
def wasP (T : Tr.T) (R : Int → Option Pr) (O : Int → Option (Int × Int)) (u : Pr) (up z : Int) : Pr := (((R z).getD p0).mv u.x u.y).mv (-(ZY O up (FN T R up).1 (FN T R up).2).1) (-(ZY O up (FN T R up).1 (FN T R up).2).2)
def inP (T : Tr.T) (R : Int → Option Pr) (O : Int → Option (Int × Int)) (u : Pr) (up : Int) : Pr := (u.ins (bQ T up)).mv (-(ZY O up (FN T R up).1 (FN T R up).2).1) (-(ZY O up (FN T R up).1 (FN T R up).2).2)
theorem less_top (n s : Int) : 0 ≤ Fx.less n s ∧ Fx.less n s ≤ 1099511627776 := by
  refine ⟨Fx.Lf n s, ?_⟩
  have := Fx.dU (Fx.cut n - Fx.cut s)
  unfold Fx.less Fx.sub Fx.mx
  split <;> omega
theorem stick_at {T : Tr.T} {R : Int → Option Pr} {O : Int → Option (Int × Int)} {q : Pr} (H : Tr.WF T) {z : Int} {nd : Tr.Nd} (hT : T z = some nd) (h0 : z ≠ 0) (h4 : (bQ T z).c 1 = 4) {v : Pr × Pr} (hs : Ov T R O q z = some v) {u W I : Pr} (hu : ((Ov T R O q nd.up).getD (p0, p0)).1 = u) (hW : wasP T R O u nd.up z = W) (hI : inP T R O u nd.up = I) :
    (I.y ≤ W.y → W.y + W.h ≤ I.y + I.h → I.y ≤ v.1.y ∧ v.1.y + v.1.h ≤ I.y + I.h) ∧ (Fx.cut v.1.y = v.1.y ∧ v.1.h = W.h) ∧ (Fx.cut W.y = W.y ∧ W.h = ((R z).getD p0).h) ∧ Fx.cut I.y = I.y ∧ (0 ≤ I.h ∧ I.h ≤ 1099511627776) ∧ ((bQ T z).c 23 = 0 → (bQ T z).c 25 = 0 → (bQ T z).c 27 = 0 → (bQ T z).c 29 = 0 → v.1 = W) := by
  rw [NJ H hT h0] at hs
  split at hs
  · have e : v = Ir T R O q (Ov T R O q) nd.up z := (Option.some.inj hs).symm
    have e1 : v.1 = stk (bQ T z) I (Z' T (Ov T R O q) q (Fb T z)) W := by
      rw [e, ← hW, ← hI]
      unfold Ir wasP inP
      rw [if_neg (by omega), if_pos h4, ← hu]
    rw [e1]
    have cW : Fx.cut W.x = W.x ∧ Fx.cut W.y = W.y := by rw [← hW]; exact mv_cut _ _ _
    have cI : Fx.cut I.x = I.x ∧ Fx.cut I.y = I.y := by rw [← hI]; exact mv_cut _ _ _
    have hD : 0 ≤ I.h ∧ I.h ≤ 1099511627776 := by rw [← hI]; exact less_top _ _
    refine ⟨fun h1 h2 => ?_, ⟨Fx.eT _, rfl⟩, ⟨cW.2, by rw [← hW]; rfl⟩, cI.2, hD, fun h1 h2 h3 h5 => ?_⟩
    · exact St.shift_in cW.2 cI.2 hD.1 hD.2 h1 h2 _ _ _ _ _ _ rfl
    · unfold stk
      have f : ∀ b, Fx.dD 0 b = false := fun b => rfl
      simp only [h1, h2, h3, h5, f, St.shift_off]
      exact mv_none cW
  · cases hs
end Go.Proofs.YtdnggaapcgomhaaGreat.Fix
namespace Go.Proofs.YtdnggaapcgomhaaGreat.Fix
open Go.ChangeShapes Go.WideShapes Go.ChangeAt Go.RowKit Go.Deep
set_option linter.unusedVariables false
set_option linter.unusedSimpArgs false
set_option maxRecDepth 100000
section
open aj
variable {P : Program} {ops : Array Oper} {Q : Exit → Act → World → Prop} {S : World → Prop} {N : Value → World → Prop} {so : Oper} {tail : List Oper}
theorem sbr {o : Oper} {os : List Oper} {a a' : Act} {v : Value} (hy : Reads P ops S o v a) (h : fC P ops Q S N so tail os a') (ha : a.put o.dst v = a' := by first | (simp only [Act.put, List.setIfInBounds_toArray, List.set_cons_zero, List.set_cons_succ]; rfl) | rfl) : fC P ops Q S N so tail (o :: os) a := by
  rcases hy with ⟨hw, hv⟩ | ⟨hw, rfl⟩
  · exact OV hw hv (ha ▸ h)
  · exact TN hw (ha ▸ h)
end
theorem qaW {P : Program} {F : FuncId} {A : Array Value} {v : Value} {w : World} (h : Calls P F A w fun e w' => e = .returned v ∧ w = w') : Calls P F A w fun e w' => e = .returned v ∧ Below w.heap.size w w' := h.mono fun _ _ h => ⟨h.1, h.2 ▸ Below.refl _ _⟩
theorem run_neq_rc2 (a b c d : Int) (W : World) : (binOp .neq 40 (.agg #[.int .i64 a, .int .i64 b, .int .i64 c, .int .i64 d]) (.agg #[.int .i64 a, .int .i64 b, .int .i64 c, .int .i64 d])).run Tryz.prog W = .ok (.bool false) W := by
  rw [run_neq_struct]
  go_simp
theorem plsub0_any (c d : Int) (w : World) : Calls Tryz.prog 19 #[pt 0 0, pt c d] w fun e w' => e = .returned (pt (Fx.sub 0 c) (Fx.sub 0 d)) ∧ w = w' := by
  have h : ∀ a b : Int, Fx.sub (Fx.cut a) (Fx.cut b) = Fx.sub a b := fun a b => by unfold Fx.sub; rw [Fx.eT, Fx.eT]
  rw [← h 0 c, ← h 0 d]
  clear h
  go_enter Tryz.func19, Tryz.ntmps19
  go_wp2_with (first | (go_at_call 25; with_reducible refine mI (Rf _ _ _) ?_) | (go_at_call 26; with_reducible refine mI (Rh _ _ _) ?_) | (go_at_call 52; with_reducible refine mI (kD _ _ _) ?_) | (go_at_call 12; with_reducible refine mI (nO _ _ _) ?_))
  go_ret
  exact ⟨rfl, rfl⟩
set_option maxHeartbeats 16000000 in
theorem plsticks_walk (a0 : Option Addr) (ug cap0 : Nat) (a1 : Option Addr) (len1 Gz : Nat) (a2 a3 : Int) (w : World) (w0 : NQ w a0 ug cap0) (wo : Og w a1 len1 Gz) : Calls Tryz.prog 7 #[.slice a0 ug cap0, .slice a1 len1 Gz, .int .i64 a2, .int .i64 a3] w fun e w' => e = .returned (.bool true) ∧ Below w.heap.size w w' := by
  obtain ⟨l, hA⟩ := w0.acts
  obtain ⟨lo, MP⟩ := wo.aj2
  obtain ⟨hc1, hc2⟩ := wo.cap
  clear w0 wo
  go_enter Tryz.func7, Tryz.ntmps7
  go_upto_region 4 with (go_at_call 8; (with_reducible refine (NW _).mono ?_); rintro e w1 ⟨rfl, hb1⟩)
  have kG := Q8 cap0 (hA.after hb1)
  have hs1 := hb1.size
  clear hA
  go_upto_region 5 with (go_at_call 9; (with_reducible refine kG.mono ?_); rintro e w2 ⟨⟨tb, rb, ok, rfl, hok⟩, hb2⟩)
  have HB2 := hb1.trans (hb2.mono hs1)
  have hs2 := hb2.size
  have HOF := Lib.hid (MP.after HB2)
  clear kG hb1 hb2 MP
  cases ok with
  | false =>
    go_wp2
    go_ret
    exact ⟨rfl, HB2⟩
  | true =>
  by_cases b4 : (1048576 : Int) < a2
  · go_wp2
    go_ret
    exact ⟨rfl, HB2⟩
  by_cases b5 : (1048576 : Int) < a3
  · go_wp2
    go_ret
    exact ⟨rfl, HB2⟩
  by_cases b6 : (60 : Int) < (len1 : Int)
  · go_wp2
    go_ret
    exact ⟨rfl, HB2⟩
  obtain ⟨gg, cc, mm, n, L, K, T, two, hn, hvt, hdp⟩ := hok rfl
  have g2 := two.good
  have M : Fz T n := ⟨g2.inv.wf, g2.inv.num, by omega, fun x d h => by have := hdp x d h; omega, fun z nd h => (hvt z nd h).1⟩
  have HM := Lib.hid M
  have HG2 := Lib.hid g2
  have kL := aav HG2.out HM.out a2 a3
  clear two M hvt hdp g2 hok
  go_upto_region 8 with (go_at_call 10; (with_reducible refine kL.mono ?_); rintro e w4 ⟨⟨b1, rfl, aj3, hG1⟩, hb4⟩)
  have hR4 := RM.of hG1 (HM.out.ids _ _)
  obtain ⟨R, hR⟩ : ∃ R, RL T (max a2 0) (max a3 0) = R := ⟨_, rfl⟩
  have hrc : ∀ z, Fx.cut ((R z).getD p0).h = ((R z).getD p0).h := fun z => by rw [← hR]; exact RL_cut _ _ _ _
  have HRC := Lib.hid hrc
  rw [hR] at hR4
  have HB4 := HB2.trans (hb4.mono HB2.size)
  have HG4 := Lib.hid (HG2.out.after hb4)
  have HR4 := Lib.hid hR4
  have HH := Lib.hid HM.out.wf
  have hs4 := Nat.le_trans hs2 hb4.size
  have kOf := acY (cap := Gz) (HOF.out.after hb4) (by omega)
  clear kL HB2 HG2 HOF hb4 hG1 hR aj3 hR4 hrc
  go_upto_region 9 with (go_at_call 20; (with_reducible refine kOf.mono ?_); rintro e w5 ⟨⟨mo, vo, rfl, gmo, BI⟩, hb5⟩)
  obtain ⟨O, hO⟩ : ∃ O, ogo lo len1 len1 = O := ⟨_, rfl⟩
  rw [hO] at BI
  have kS := Bv (HG4.out.after hb5).inv.rep (HR4.out.keep hb5) HH.out mo BI a2 a3
  have HO5 := Lib.hid BI
  clear kOf BI hO gmo
  go_upto_region 10 with (go_at_call 14; (with_reducible refine kS.mono ?_); rintro e w6 ⟨⟨ms, rfl, gms, qL⟩, hb6⟩)
  have aaJ := hb5.trans (hb6.mono hb5.size)
  have hs6 := aaJ.size
  have HST : Hid (∀ z nd v, T z = some nd → z ≠ 0 → (bQ T z).c 1 = 4 → Ov T R O (vY a2 a3) z = some v → ∀ u W I, ((Ov T R O (vY a2 a3) nd.up).getD (p0, p0)).1 = u → wasP T R O u nd.up z = W → inP T R O u nd.up = I → (I.y ≤ W.y → W.y + W.h ≤ I.y + I.h → I.y ≤ v.1.y ∧ v.1.y + v.1.h ≤ I.y + I.h) ∧ (Fx.cut v.1.y = v.1.y ∧ v.1.h = W.h) ∧ (Fx.cut W.y = W.y ∧ Fx.cut W.h = W.h) ∧ Fx.cut I.y = I.y ∧ (0 ≤ I.h ∧ I.h ≤ 1099511627776) ∧ ((bQ T z).c 23 = 0 → (bQ T z).c 25 = 0 → (bQ T z).c 27 = 0 → (bQ T z).c 29 = 0 → v.1 = W)) := Lib.hid fun z nd v h1 h0 h4 h2 u W I hu hW hI => by
    obtain ⟨k1, k2, ⟨k3, k4⟩, k5, k6, k7⟩ := stick_at HH.out h1 h0 h4 h2 hu hW hI
    exact ⟨k1, k2, ⟨k3, by rw [k4, HRC.out]⟩, k5, k6, k7⟩
  obtain ⟨S, hS⟩ : ∃ S, Ov T R O (vY a2 a3) = S := ⟨_, rfl⟩
  obtain ⟨N, hN⟩ : ∃ N, spC S (Tr.ord T) = N := ⟨_, rfl⟩
  rw [hS] at HST
  rw [hS, hN] at qL
  have HG6 := Lib.hid (HG4.out.after aaJ)
  have HR6 := Lib.hid (HR4.out.keep aaJ)
  have HO6 := Lib.hid (HO5.out.keep hb6)
  have HB6 := HB4.trans (aaJ.mono HB4.size)
  have HS6 := Lib.hid qL
  have kO := QX HG6.out
  clear kS hb5 hb6 hS hN qL HG4 HR4 HO5 HB4 aaJ gms
  go_upto_region 11 with (go_at_call 15; (with_reducible refine kO.mono ?_); rintro e wa ⟨⟨v, rfl, hk⟩, hba⟩; obtain ⟨A, c, rfl, hI, -⟩ := hk.row.ints)
  have HBa := HB6.trans (hba.mono HB6.size)
  have HSA := Lib.hid (HS6.out.keep hba)
  have HGA := Lib.hid (HG6.out.after hba)
  have HRA := Lib.hid (HR6.out.keep hba)
  have HOA := Lib.hid (HO6.out.keep hba)
  have HI := Lib.hid hI
  have HOR : Hid (∀ x ∈ Tr.ord T, ∃ nd, T x = some nd) := Lib.hid fun x hx => HM.out.wf.fB.1 hx
  have HO0 : Hid (∀ j, 1 ≤ j → j < (Tr.ord T).length → (Tr.ord T).getD j 0 ≠ 0) := Lib.hid fun j h1 h2 => ord_ne0 HH.out h1 h2
  clear kO HB6 HS6 HG6 HR6 HO6 hba hI hk
  obtain ⟨o, ho⟩ : ∃ o, Tr.ord T = o := ⟨_, rfl⟩
  rw [ho] at HI HOR HO0 ⊢
  have hol : o.length ≤ 64 := by rw [← ho, HM.out.num]; exact HM.out.few
  obtain ⟨no, hno⟩ : ∃ k, o.length = k := ⟨_, rfl⟩
  rw [hno] at hol HO0 ⊢
  have HNO := Lib.hid hno
  have hsa := HBa.size
  clear ho hno
  go_wp2
  go_loopw [18] (fun i wr => ∃ j : Nat, 1 ≤ j ∧ j ≤ max no 1 ∧ i = .int .i64 (j : Int) ∧ Below wa.heap.size wa wr) (fun i _ => no - (intOf i).toNat)
  case atStart => exact ⟨1, by omega, by omega, rfl, Below.refl _ _⟩
  case round =>
    obtain ⟨j, hj1, hj, rfl, hbr⟩ := hrel
    have hsr := hbr.size
    by_cases hjn : j < no
    · have hjz : (j : Int) < (no : Int) := by omega
      obtain ⟨ba, oa, rfl, lba, cx⟩ := (HI.out.after hbr).at_ (k := j) (by rw [HNO.out]; exact hjn)
      obtain ⟨nd, hnd⟩ := HOR.out (o.getD j 0) (by rw [List.getD, List.getElem?_eq_getElem (by rw [HNO.out]; exact hjn)]; exact List.getElem_mem _)
      have hx0 := HO0.out j hj1 hjn
      obtain ⟨x, hx⟩ : ∃ x, o.getD j 0 = x := ⟨_, rfl⟩
      rw [hx] at cx hnd hx0
      have hxw : Wf x := (iQ _).2 (by have := HM.out.wf.range x nd hnd; omega)
      have HND := Lib.hid hnd
      have HX0 := Lib.hid hx0
      obtain ⟨⟨⟨s0, s1, s2, s3⟩, ⟨t0, t1, t2, t3⟩⟩, hsx⟩ : ∃ p, (S x).getD (p0, p0) = p := ⟨_, rfl⟩
      have hla := (HSA.out.keep hbr).look_ok hxw hsx
      obtain ⟨st, hst⟩ : ∃ s, bQ T x = s := ⟨_, rfl⟩
      have kSt := fun X (h : Below wa.heap.size wa X) => dH (HGA.out.after h).inv.rep hxw
      simp only [show (T x).elim Re.zero (·.sty) = st from hst] at kSt
      obtain ⟨β, hβ⟩ : ∃ b, (S x).isSome = b := ⟨_, rfl⟩
      rw [hβ] at hla
      have HSX := Lib.hid hsx
      have HSTT := Lib.hid hst
      have HBT := Lib.hid hβ
      have Uo := Lib.hid kSt
      clear hx hnd hx0 hsx hst hβ kSt
      go_upto_region 15 with (fail)
      generalize hW : World.alloc _ _ = wd
      have A1 : At wd wr.heap.size (.cells #[.int .i64 s0, .int .i64 s1, .int .i64 s2, .int .i64 s3, .int .i64 t0, .int .i64 t1, .int .i64 t2, .int .i64 t3] 42) := hW ▸ At.new _ _
      have hb1' : Below wr.heap.size wr wd := hW ▸ Below.alloc' (Below.refl _ _) _
      have hbd := hbr.trans (hb1'.mono hsr)
      have ZA := (hb1'.cell (p := ⟨ba, oa + j, none⟩) lba).trans cx
      have aiy : ba < wd.heap.size := by have := hb1'.size; omega
      have hsd := hbd.size
      have Rb := Uo.out wd hbd
      clear hW hla cx hbr lba hb1'
      go_upto_region 16 with (first | (refine aS (by rfl) rfl ?_) | (refine bE (by rfl) rfl ?_) | (refine aQ (by rfl) _ rfl rfl (by first | assumption | (with_reducible exact At.new _ _)) ?_) | (refine bF (by rfl) _ _ rfl rfl rfl (by first | assumption | (with_reducible exact At.new _ _)) ?_) | (refine aU (by rfl) _ _ rfl rfl rfl (by first | assumption | (with_reducible exact At.new _ _)) ?_) | (go_at_call 22; (with_reducible refine Rb.mono ?_); rintro e w7 ⟨rfl, nW⟩))
      obtain ⟨bs, hbs⟩ : ∃ b, w7.heap.size = b := ⟨_, rfl⟩
      generalize hW : World.setRow _ _ _ = w8
      have A3 : At w8 bs (.cells (cells st) 68) := hW ▸ hbs ▸ At.setRow (At.new _ _) _
      have oq : Below wd.heap.size wd w8 := hW ▸ aM (Below.alloc' nW _) nW.size _
      rw [hbs]
      have lb3 := A3.lt
      have f1 := A3.st 1 (by decide) rfl
      have A2 := A1.keep oq
      have hbf := hbd.trans (oq.mono hsd)
      have Vn := (oq.cell (p := ⟨ba, oa + j, none⟩) aiy).trans ZA
      have aaL : ba < w8.heap.size := Nat.lt_of_lt_of_le aiy oq.size
      have hsf := hbf.size
      clear hW Rb nW hbs oq A1 hbd ZA aiy hsd
      have hdone : (β = false ∨ β = true ∧ st.c 1 ≠ 4) ∨ (β = true ∧ st.c 1 = 4) := by cases β <;> simp <;> omega
      rcases hdone with (rfl | ⟨rfl, c4⟩) | ⟨rfl, c4⟩
      · go_wp2
        go_roundw
        case rel => exact ⟨j + 1, by omega, by omega, by go_num, hbf⟩
        case measure => simp [intOf]; omega
      · have c4b : (st.c 1 != 4) = true := by simp [c4]
        go_wp2
        go_roundw
        case rel => exact ⟨j + 1, by omega, by omega, by go_num, hbf⟩
        case measure => simp [intOf]; omega
      · have c4b : (st.c 1 != 4) = false := by simp [c4]
        obtain ⟨v, hv⟩ := Option.isSome_iff_exists.1 HBT.out
        have hv1 : v.1 = ⟨s0, s1, s2, s3⟩ := by have := HSX.out; rw [hv] at this; exact congrArg Prod.fst this
        obtain ⟨u, hu⟩ : ∃ u, nd.up = u := ⟨_, rfl⟩
        obtain ⟨su, afK⟩ : ∃ s, bQ T u = s := ⟨_, rfl⟩
        obtain ⟨⟨⟨u0, u1, u2, u3⟩, ⟨v0, v1, v2, v3⟩⟩, hsu⟩ : ∃ p, (S u).getD (p0, p0) = p := ⟨_, rfl⟩
        obtain ⟨⟨r0, r1, r2, r3⟩, hrr⟩ : ∃ r, (R x).getD p0 = r := ⟨_, rfl⟩
        obtain ⟨⟨o0, o1⟩, hoo⟩ : ∃ p, (O u).getD (0, 0) = p := ⟨_, rfl⟩
        obtain ⟨⟨m0, m1⟩, hmm⟩ : ∃ p, FN T R u = p := ⟨_, rfl⟩
        obtain ⟨k0, hk0⟩ : ∃ k, Fx.clamp o0 0 m0 = k := ⟨_, rfl⟩
        obtain ⟨k1, hk1⟩ : ∃ k, Fx.clamp o1 0 m1 = k := ⟨_, rfl⟩
        obtain ⟨⟨g0, g1, g2, g3⟩, hgg⟩ : ∃ p, (⟨r0, r1, r2, r3⟩ : Pr).mv u0 u1 = p := ⟨_, rfl⟩
        obtain ⟨⟨b0, b1', b2, b3⟩, hbb⟩ : ∃ p, (⟨g0, g1, g2, g3⟩ : Pr).mv (-k0) (-k1) = p := ⟨_, rfl⟩
        obtain ⟨⟨h0, h1, h2, h3⟩, MJ⟩ : ∃ p, (⟨u0, u1, u2, u3⟩ : Pr).ins su = p := ⟨_, rfl⟩
        obtain ⟨⟨i0, i1, i2, i3⟩, hii⟩ : ∃ p, (⟨h0, h1, h2, h3⟩ : Pr).mv (-k0) (-k1) = p := ⟨_, rfl⟩
        have hsc : ZY O u m0 m1 = (k0, k1) := by unfold ZY; rw [hoo, hk0, hk1]
        have hwas : wasP T R O ⟨u0, u1, u2, u3⟩ u x = ⟨b0, b1', b2, b3⟩ := by unfold wasP; simp only [hmm, hsc, hrr, hgg, hbb]
        have hin : inP T R O ⟨u0, u1, u2, u3⟩ u = ⟨i0, i1, i2, i3⟩ := by unfold inP; simp only [hmm, hsc, afK, MJ, hii]
        have hST := HST.out x nd v HND.out HX0.out (HSTT.out ▸ c4) hv ⟨u0, u1, u2, u3⟩ ⟨b0, b1', b2, b3⟩ ⟨i0, i1, i2, i3⟩ (by rw [hu, hsu]) (hu ▸ hwas) (hu ▸ hin)
        rw [HSTT.out, hv1] at hST
        obtain ⟨hA, ⟨hs1, rfl⟩, ⟨hw1, hw3⟩, hi1, hi3, hB⟩ := hST
        simp only at hA hs1 hw1 hw3 hi1 hi3
        have hsum : IntKind.i64.wrap (b1' + s3) = b1' + s3 ∧ IntKind.i64.wrap (i1 + i3) = i1 + i3 ∧ IntKind.i64.wrap (s1 + s3) = s1 + s3 := by
          have q1 := Fx.dU b1'
          have q2 := Fx.fU b1'
          have q3 := Fx.dU i1
          have q4 := Fx.fU i1
          have q5 := Fx.dU s1
          have q6 := Fx.fU s1
          have q7 := Fx.dU s3
          have q8 := Fx.fU s3
          rw [hw1] at q1 q2
          rw [hi1] at q3 q4
          rw [hs1] at q5 q6
          rw [hw3] at q7 q8
          exact ⟨IntWalk.i64_in _ (by omega), IntWalk.i64_in _ (by omega), IntWalk.i64_in _ (by omega)⟩
        obtain ⟨e1, e2, e3⟩ := hsum
        have huw : Wf u := by
          obtain ⟨pd, hpd, _⟩ := HH.out.up x nd HND.out HX0.out
          exact (iQ _).2 (by rw [← hu]; have := HH.out.range _ _ hpd; omega)
        have hup := rU HND.out
        rw [hu] at hup
        have kSu := fun X (h : Below wa.heap.size wa X) => dH (HGA.out.after h).inv.rep huw
        simp only [show (T u).elim Re.zero (·.sty) = su from afK] at kSu
        have kUp := fun X (h : Below wa.heap.size wa X) => nZ (HGA.out.after h).inv.rep hxw
        simp only [hup] at kUp
        have hlu := fun X (h : Below wa.heap.size wa X) => (HSA.out.keep h).sm.look huw hsu
        have hlr := fun X (h : Below wa.heap.size wa X) => (HRA.out.keep h).look hxw
        simp only [hrr] at hlr
        have hlo := fun X (h : Below wa.heap.size wa X) => (HOA.out.keep h).look huw
        simp only [hoo] at hlo
        have kM := fun X (h : Below wa.heap.size wa X) => Fg (HGA.out.after h).inv.rep (HRA.out.keep h) HH.out huw
        simp only [hmm] at kM
        have kW := fun X => PW o0 o1 0 0 m0 m1 X
        simp only [hk0, hk1] at kW
        have n0' : Fx.sub 0 k0 = -k0 := by rw [← hk0]; exact Fix.sub_clamp _ _ _
        have n1' : Fx.sub 0 k1 = -k1 := by rw [← hk1]; exact Fix.sub_clamp _ _ _
        have kS := fun X => plsub0_any k0 k1 X
        simp only [n0', n1'] at kS
        have kG := fun X => Kg ⟨r0, r1, r2, r3⟩ u0 u1 X
        simp only [hgg, Pr.ag] at kG
        have kB := fun X => Kg ⟨g0, g1, g2, g3⟩ (-k0) (-k1) X
        simp only [hbb, Pr.ag] at kB
        have kH := fun X => afo ⟨u0, u1, u2, u3⟩ su X
        simp only [MJ, Pr.ag] at kH
        have kI := fun X => Kg ⟨h0, h1, h2, h3⟩ (-k0) (-k1) X
        simp only [hii, Pr.ag] at kI
        have kOf := fun X => qaW (nO u0 u1 X)
        have kE := fun X => Ec su X
        have hfs := Bu u0 u1 u2 u3 v0 v1 v2 v3
        have kU := kUp w8 hbf
        have lU := hlu w8 hbf
        have HA := Lib.hid hA
        have HB := Lib.hid hB
        have HLR := Lib.hid hlr
        have HLO := Lib.hid hlo
        have HKM := Lib.hid kM
        have HKW := Lib.hid kW
        have HKSB := Lib.hid kS
        have HKG := Lib.hid kG
        have HKB := Lib.hid kB
        have HKH := Lib.hid kH
        have HKI := Lib.hid kI
        have HKO := Lib.hid kOf
        have HKE := Lib.hid kE
        have HKT := Lib.hid kSu
        clear hv hv1 hu afK hsu hrr hoo hmm hk0 hk1 hgg hbb MJ hii hsc hwas hin hA hs1 hw1 hw3 hi1 hi3 hB hup kSu kUp hlu hlr hlo kM kW n0' n1' kS kG kB kH kI kOf kE
        go_upto_region 19 with (go_at_call 21; (with_reducible refine kU.mono ?_); rintro e w' ⟨rfl, rfl⟩)
        generalize hW : World.alloc _ _ = we
        have A4 : At we w8.heap.size (.cells #[.int .i64 u0, .int .i64 u1, .int .i64 u2, .int .i64 u3] 40) := hW ▸ At.new _ _
        have hb2' : Below w8.heap.size w8 we := hW ▸ Below.alloc' (Below.refl _ _) _
        have hbe := hbf.trans (hb2'.mono hsf)
        have Vo := (hb2'.cell (p := ⟨ba, oa + j, none⟩) aaL).trans Vn
        have VZ : ba < we.heap.size := by have := hb2'.size; omega
        have QU := A2.keep hb2'
        have QS := A3.keep hb2'
        have hse := hbe.size
        clear hW kU lU Vn hbf aaL hb2' A2 A3 lb3 f1
        have lO := fun X (h : Below we.heap.size we X) => HLO.out X (hbe.trans (h.mono hse))
        have kM9 := fun X (h : Below we.heap.size we X) => HKM.out X (hbe.trans (h.mono hse))
        have hSd : Below we.heap.size we we.drew := Below.drew (Below.refl _ _)
        refine iC (S := fun X => Below we.heap.size we X) 10 ?_ ?_
        · exact hSd
        intro hx
        clear hSd
        refine aF 0 ?_
        refine aF 1 ?_
        refine jh 2 rfl (aZ (by rfl) rfl rfl rfl (fun X h => lO X h)) ?_
        refine aF 3 ?_
        refine aF 4 ?_
        refine aF 5 ?_
        refine tk1 6 ?_
        refine BH (kM9 _ hx) hx ?_
        clear hx
        intro y6 hx
        refine tk1 7 ?_
        refine BH (qaW (HKW.out _)) hx ?_
        clear hx
        intro y7 hx
        refine tk1 8 ?_
        refine BH (qaW (HKSB.out _)) hx ?_
        clear hx
        intro y8 hx
        refine aF 9 ?_
        refine gZ ?_
        have hbg := hbe.trans (hx.mono hse)
        have cx6 := (hx.cell (p := ⟨ba, oa + j, none⟩) VZ).trans Vo
        have lba6 : ba < y8.heap.size := Nat.lt_of_lt_of_le VZ hx.size
        have B2 := QU.keep hx
        have B3 := QS.keep hx
        have B4 := A4.keep hx
        have hsg := hbg.size
        have c4' := B4.lc
        have lR := fun X (h : Below y8.heap.size y8 X) => HLR.out X (hbg.trans (h.mono hsg))
        clear lO kM9 hx hbe Vo VZ QU QS A4 hse HLO HKM
        go_upto_region 20 with (fail)
        refine sbt [0, 1, 2, 3, 4, 5, 6, 7, 8, 9, 10, 11, 12, 13] 14 15 ?_ (norm := [⟨_, _, _, _, _, _⟩, ⟨_, _, _, _, _, _⟩, ⟨_, _, _, _, _, _⟩, ⟨_, _, _, _, _, _⟩, ⟨_, _, _, _, _, _⟩, ⟨_, _, _, _, _, _⟩, ⟨_, _, _, _, _, _⟩, ⟨_, _, _, _, _, _⟩, ⟨_, _, _, _, _, _⟩, ⟨_, _, _, _, _, _⟩, ⟨_, _, _, _, _, _⟩, ⟨_, _, _, _, _, _⟩, ⟨_, _, _, _, _, _⟩, ⟨_, _, _, _, _, _⟩]) (tail := [⟨_, _, _, _, _, _⟩]) (x := .cells #[.int .i64 0, .int .i64 0, .int .i64 0, .int .i64 0] 40) (so := ⟨_, _, _, _, _, _⟩)
        refine sbv ?_
        refine sbv ?_
        refine sbv ?_
        refine sbv ?_
        refine sbv ?_
        refine sbr (aZ (by rfl) rfl rfl rfl (fun X h => lR X h)) ?_
        refine sbv ?_
        refine sbv ?_
        refine sbv ?_
        refine sbv ?_
        refine sbc ?_ (hc := fun w2 hS => HKO.out w2)
        refine sbc ?_ (hc := fun w2 hS => HKG.out w2)
        refine sbv ?_
        refine sbc ?_ (hc := fun w2 hS => HKB.out w2)
        refine aj.yj ?_; intro n0 w2 hn hA hS; (try simp only [bM, bN, bO, tks])
        have hc0 := hA.nM
        refine wz ?_; intro K hK; go_simp; refine hK _ _ (aj.bC ?_); clear hK K
        generalize hW : World.setCell (World.setCell (World.setCell (World.setCell _ _ _) _ _) _ _) _ _ = wf
        have A5 : At wf n0 (.cells #[.int .i64 b0, .int .i64 b1', .int .i64 b2, .int .i64 s3] 40) := hW ▸ At.SV hA _ _ _ _
        have hb5 : Below y8.heap.size y8 wf := hW ▸ Below.setCell (Below.setCell (Below.setCell (Below.setCell hS hn _) hn _) hn _) hn _
        have hbh := hbg.trans (hb5.mono hsg)
        have cx7 := (hb5.cell (p := ⟨ba, oa + j, none⟩) lba6).trans cx6
        have lba7 : ba < wf.heap.size := Nat.lt_of_lt_of_le lba6 hb5.size
        have C2 := B2.keep hb5
        have C3 := B3.keep hb5
        have C4 := B4.keep hb5
        have hsh := hbh.size
        clear hW hc0 hA hS hn c4' lR hb5 hbg cx6 lba6 B2 B3 B4 hsg HLR HKO HKG HKB
        have c4' := C4.lc
        go_upto_region 21 with (fail)
        refine sbt [0, 1, 2, 3, 4, 5, 6, 7] 8 9 ?_ (norm := [⟨_, _, _, _, _, _⟩, ⟨_, _, _, _, _, _⟩, ⟨_, _, _, _, _, _⟩, ⟨_, _, _, _, _, _⟩, ⟨_, _, _, _, _, _⟩, ⟨_, _, _, _, _, _⟩, ⟨_, _, _, _, _, _⟩, ⟨_, _, _, _, _, _⟩]) (tail := [⟨_, _, _, _, _, _⟩]) (x := .cells #[.int .i64 0, .int .i64 0, .int .i64 0, .int .i64 0] 40) (so := ⟨_, _, _, _, _, _⟩)
        refine sbv ?_
        refine sbv ?_
        refine sbv ?_
        refine sbc ?_ (hc := fun w2 hS => HKT.out w2 (hbh.trans (hS.mono hsh)))
        refine sbc ?_ (hc := fun w2 hS => HKE.out w2)
        refine sbc ?_ (hc := fun w2 hS => HKH.out w2)
        refine sbv ?_
        refine sbc ?_ (hc := fun w2 hS => HKI.out w2)
        refine aj.yj ?_; intro n0 w2 hn hA hS; (try simp only [bM, bN, bO, tks])
        have hc0 := hA.nM
        refine wz ?_; intro K hK; go_simp; refine hK _ _ (aj.bC ?_); clear hK K
        generalize hW : World.setCell (World.setCell (World.setCell (World.setCell _ _ _) _ _) _ _) _ _ = wg
        have A6 : At wg n0 (.cells #[.int .i64 i0, .int .i64 i1, .int .i64 i2, .int .i64 i3] 40) := hW ▸ At.SV hA _ _ _ _
        have hb6 : Below wf.heap.size wf wg := hW ▸ Below.setCell (Below.setCell (Below.setCell (Below.setCell hS hn _) hn _) hn _) hn _
        have hbi := hbh.trans (hb6.mono hsh)
        have c1' := (C2.keep hb6).lc
        have C3' := C3.keep hb6
        have l3' := C3'.lt
        have f23 := C3'.st 23 (by decide) rfl
        have f25 := C3'.st 25 (by decide) rfl
        have f27 := C3'.st 27 (by decide) rfl
        have f29 := C3'.st 29 (by decide) rfl
        have c5' := (A5.keep hb6).lc
        have c6' := A6.lc
        clear hW hc0 hA hS hn c4' hbh cx7 lba7 C2 C3 C3' C4 A5 A6 hb6 hsh HKT HKE HKH HKI c4 c4b
        have hcase : decide (i1 ≤ b1') = false ∨ (decide (i1 ≤ b1') = true ∧ decide (b1' + s3 ≤ i1 + i3) = false) ∨ (decide (i1 ≤ b1') = true ∧ decide (b1' + s3 ≤ i1 + i3) = true ∧ decide (s1 < i1) = false ∧ decide (i1 + i3 < s1 + s3) = false) := by
          by_cases a1 : i1 ≤ b1'
          · by_cases a2 : b1' + s3 ≤ i1 + i3
            · have := HA.out a1 a2
              exact .inr (.inr ⟨decide_eq_true a1, decide_eq_true a2, decide_eq_false (by omega), decide_eq_false (by omega)⟩)
            · exact .inr (.inl ⟨decide_eq_true a1, decide_eq_false a2⟩)
          · exact .inl (decide_eq_false a1)
        have hfree : (st.c 23 == 0) = false ∨ ((st.c 23 == 0) = true ∧ (st.c 25 == 0) = false) ∨ ((st.c 23 == 0) = true ∧ (st.c 25 == 0) = true ∧ (st.c 27 == 0) = false) ∨ ((st.c 23 == 0) = true ∧ (st.c 25 == 0) = true ∧ (st.c 27 == 0) = true ∧ (st.c 29 == 0) = false) ∨ ((st.c 23 == 0) = true ∧ (st.c 25 == 0) = true ∧ (st.c 27 == 0) = true ∧ (st.c 29 == 0) = true ∧ s0 = b0 ∧ s1 = b1' ∧ s2 = b2) := by
          by_cases a1 : st.c 23 = 0
          · by_cases a2 : st.c 25 = 0
            · by_cases a3 : st.c 27 = 0
              · by_cases a4 : st.c 29 = 0
                · have := HB.out a1 a2 a3 a4
                  simp only [Pr.mk.injEq] at this
                  exact .inr (.inr (.inr (.inr ⟨by simp [a1], by simp [a2], by simp [a3], by simp [a4], this.1, this.2.1, this.2.2.1⟩)))
                · exact .inr (.inr (.inr (.inl ⟨by simp [a1], by simp [a2], by simp [a3], by simp [a4]⟩)))
              · exact .inr (.inr (.inl ⟨by simp [a1], by simp [a2], by simp [a3]⟩))
            · exact .inr (.inl ⟨by simp [a1], by simp [a2]⟩)
          · exact .inl (by simp [a1])
        clear HA HB
        rcases hfree with a | ⟨a, b⟩ | ⟨a, b, c'⟩ | ⟨a, b, c', d⟩ | ⟨a, b, c', d, rfl, rfl, rfl⟩
        all_goals
          rcases hcase with d1 | ⟨d1, d2⟩ | ⟨d1, d2, d3, d4⟩
        all_goals
          as_aux_lemma =>
            try have hneq := run_neq_rc2 s0 s1 s2 s3
            go_wp2
            go_roundw
            case rel => exact ⟨j + 1, by omega, by omega, by go_num, hbi⟩
            case measure => simp [intOf]; omega
    · have hjz : ¬ (j : Int) < (no : Int) := by omega
      have hHB : Below w.heap.size w wr := HBa.trans (hbr.mono hsa)
      go_wp2
      go_ret
      exact ⟨rfl, hHB⟩
end Go.Proofs.YtdnggaapcgomhaaGreat.Fix
