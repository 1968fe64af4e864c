/- Plain numbers of the layer stick: how far what sticks is shifted. No program in sight. -/
import Derived.Test.YtdgphjpjgldbaaaLenMath
namespace Go.Proofs.Ytdgphjpjgldbaaa
set_option linter.unusedVariables false
namespace St
/-- how much one is greater -/
def over (a b : Int) : Int := if Fx.sub a b ≤ 0 then 0 else Fx.sub a b
def least (a b : Int) : Int := if b < a then b else a

def down (blo plo : Int) (bon : Bool) (bby : Int) : Int := if bon then over (Fx.add plo bby) blo else 0
def up (blo bhi plo phi : Int) (bon : Bool) (bby : Int) (eon : Bool) (eby : Int) : Int :=
  if eon then (if bon then least (over bhi (Fx.sub phi eby)) (over blo (Fx.add plo bby)) else over bhi (Fx.sub phi eby)) else 0

/-- the shift of a box (blo, bhi), within (ilo, ihi), to the port (plo, phi) -/
def shift (blo bhi ilo ihi plo phi : Int) (bon : Bool) (bby : Int) (eon : Bool) (eby : Int) : Int :=
  if 0 < down blo plo bon bby then least (down blo plo bon bby) (over ihi bhi)
  else if 0 < up blo bhi plo phi bon bby eon eby then -least (up blo bhi plo phi bon bby eon eby) (over blo ilo)
  else 0

theorem over_ge (a b : Int) : 0 ≤ over a b := by unfold over; split <;> omega
theorem over_le (a b : Int) : over a b ≤ 1099511627776 := by
  have := Fx.cut_le (Fx.cut a - Fx.cut b)
  unfold over Fx.sub; split <;> omega
theorem down_ge (blo plo : Int) (bon : Bool) (bby : Int) : 0 ≤ down blo plo bon bby := by unfold down; split <;> first | exact over_ge _ _ | omega
theorem down_le (blo plo : Int) (bon : Bool) (bby : Int) : down blo plo bon bby ≤ 1099511627776 := by unfold down; split <;> first | exact over_le _ _ | omega
theorem up_bd (blo bhi plo phi : Int) (bon : Bool) (bby : Int) (eon : Bool) (eby : Int) : 0 ≤ up blo bhi plo phi bon bby eon eby ∧ up blo bhi plo phi bon bby eon eby ≤ 1099511627776 := by
  have h1 := over_ge bhi (Fx.sub phi eby)
  have h2 := over_le bhi (Fx.sub phi eby)
  have h3 := over_ge blo (Fx.add plo bby)
  have h4 := over_le blo (Fx.add plo bby)
  unfold up least
  (repeat' split) <;> omega

/-- where nothing is cut -/
theorem over_plain {a b : Int} (a1 : -137438953472 ≤ a) (a2 : a ≤ 137438953472) (b1 : -137438953472 ≤ b) (b2 : b ≤ 137438953472) : over a b = if a ≤ b then 0 else a - b := by
  unfold over Fx.sub
  rw [Fx.cut_id (n := a) (by omega) (by omega), Fx.cut_id (n := b) (by omega) (by omega), Fx.cut_id (by omega) (by omega)]
  (repeat' split) <;> omega

def Sm (n : Int) : Prop := -4294967296 ≤ n ∧ n ≤ 4294967296
theorem add_sm {a b : Int} (ha : Sm a) (hb : Sm b) : Fx.add a b = a + b := by
  unfold Sm at *
  unfold Fx.add
  rw [Fx.cut_id (n := a) (by omega) (by omega), Fx.cut_id (n := b) (by omega) (by omega), Fx.cut_id (by omega) (by omega)]
theorem sub_sm {a b : Int} (ha : Sm a) (hb : Sm b) : Fx.sub a b = a - b := by
  unfold Sm at *
  unfold Fx.sub
  rw [Fx.cut_id (n := a) (by omega) (by omega), Fx.cut_id (n := b) (by omega) (by omega), Fx.cut_id (by omega) (by omega)]

def dn (blo plo : Int) (bon : Bool) (bby : Int) : Int := if bon then (if plo + bby ≤ blo then 0 else plo + bby - blo) else 0
def upp (blo bhi plo phi : Int) (bon : Bool) (bby : Int) (eon : Bool) (eby : Int) : Int :=
  if eon then (if bon then least (if bhi ≤ phi - eby then 0 else bhi - (phi - eby)) (if blo ≤ plo + bby then 0 else blo - (plo + bby)) else if bhi ≤ phi - eby then 0 else bhi - (phi - eby)) else 0

section
variable {blo bhi ilo ihi plo phi bby eby : Int} (bon eon : Bool)
theorem shift_plain (h1 : Sm blo) (h2 : Sm bhi) (h3 : Sm ilo) (h4 : Sm ihi) (h5 : Sm plo) (h6 : Sm phi) (h7 : Sm bby) (h8 : Sm eby) :
    shift blo bhi ilo ihi plo phi bon bby eon eby = if 0 < dn blo plo bon bby then least (dn blo plo bon bby) (if ihi ≤ bhi then 0 else ihi - bhi) else if 0 < upp blo bhi plo phi bon bby eon eby then -least (upp blo bhi plo phi bon bby eon eby) (if blo ≤ ilo then 0 else blo - ilo) else 0 := by
  have e1 := add_sm h5 h7
  have e2 := sub_sm h6 h8
  unfold Sm at *
  have d : down blo plo bon bby = dn blo plo bon bby := by
    unfold down dn
    rw [e1, over_plain (by omega) (by omega) (by omega) (by omega)]
  have u : up blo bhi plo phi bon bby eon eby = upp blo bhi plo phi bon bby eon eby := by
    unfold up upp
    rw [e1, e2, over_plain (by omega) (by omega) (by omega) (by omega), over_plain (by omega) (by omega) (by omega) (by omega)]
  unfold shift
  rw [d, u, over_plain (a := ihi) (by omega) (by omega) (by omega) (by omega), over_plain (a := blo) (b := ilo) (by omega) (by omega) (by omega) (by omega)]

theorem shift_within (h1 : Sm blo) (h2 : Sm bhi) (h3 : Sm ilo) (h4 : Sm ihi) (h5 : Sm plo) (h6 : Sm phi) (h7 : Sm bby) (h8 : Sm eby) :
    (ilo ≤ blo → bhi ≤ ihi → ilo ≤ blo + shift blo bhi ilo ihi plo phi bon bby eon eby ∧ bhi + shift blo bhi ilo ihi plo phi bon bby eon eby ≤ ihi) ∧ (0 < shift blo bhi ilo ihi plo phi bon bby eon eby → bon = true) ∧ (shift blo bhi ilo ihi plo phi bon bby eon eby < 0 → eon = true) := by
  rw [shift_plain bon eon h1 h2 h3 h4 h5 h6 h7 h8]
  unfold dn upp least
  cases bon <;> cases eon <;> simp only [Bool.false_eq_true, if_false, if_true] <;> refine ⟨fun a b => ?_, ?_, ?_⟩ <;> (repeat' split) <;> first | omega | (intro _; rfl) | (intro _; trivial) | (intro h; omega)

theorem shift_bd (h1 : Sm blo) (h2 : Sm bhi) (h3 : Sm ilo) (h4 : Sm ihi) (h5 : Sm plo) (h6 : Sm phi) (h7 : Sm bby) (h8 : Sm eby) : -34359738368 ≤ shift blo bhi ilo ihi plo phi bon bby eon eby ∧ shift blo bhi ilo ihi plo phi bon bby eon eby ≤ 34359738368 := by
  rw [shift_plain bon eon h1 h2 h3 h4 h5 h6 h7 h8]
  unfold Sm at *
  unfold dn upp least
  cases bon <;> cases eon <;> simp only [Bool.false_eq_true, if_false, if_true] <;> (repeat' split) <;> omega

theorem shift_least (h1 : Sm blo) (h2 : Sm bhi) (h3 : Sm ilo) (h4 : Sm ihi) (h5 : Sm plo) (h6 : Sm phi) (h7 : Sm bby) (h8 : Sm eby) (o1 : blo ≤ bhi) (o2 : ilo ≤ ihi) (o3 : plo ≤ phi) {n : Int} (hn : shift blo bhi ilo ihi plo phi bon bby eon eby = n) :
    ((bon = false ∨ plo + bby ≤ blo) → (eon = false ∨ bhi ≤ phi - eby) → n = 0) ∧ ((bon = false ∨ plo + bby ≤ blo) → n ≤ 0) ∧ ((eon = false ∨ bhi ≤ phi - eby) → 0 ≤ n) ∧
    (0 < n → bhi + n = ihi ∨ blo + n = plo + bby) ∧ (n < 0 → blo + n = ilo ∨ bhi + n = phi - eby ∨ (bon = true ∧ blo + n = plo + bby)) := by
  rw [shift_plain bon eon h1 h2 h3 h4 h5 h6 h7 h8] at hn
  subst hn
  unfold dn upp least
  cases bon <;> cases eon <;> simp only [Bool.false_eq_true, if_false, if_true, true_or, false_or, false_and, true_and, or_false, forall_const, Bool.true_eq_false] <;> (repeat' split) <;> refine ⟨?_, ?_, ?_, ?_, ?_⟩ <;> omega

theorem shift_more {more : Int} (h1 : Sm blo) (h2 : Sm bhi) (h3 : Sm ilo) (h4 : Sm ihi) (h5 : Sm plo) (h6 : Sm phi) (h7 : Sm bby) (h8 : Sm (plo + more)) (h9 : Sm (phi + more)) (m0 : 0 ≤ more) :
    0 ≤ shift blo bhi ilo ihi plo phi bon bby false 0 ∧ shift blo bhi ilo ihi plo phi bon bby false 0 ≤ shift blo bhi ilo ihi (plo + more) (phi + more) bon bby false 0 ∧ shift blo bhi ilo ihi (plo + more) (phi + more) bon bby false 0 - shift blo bhi ilo ihi plo phi bon bby false 0 ≤ more := by
  have z : Sm 0 := by unfold Sm; omega
  rw [shift_plain bon false h1 h2 h3 h4 h5 h6 h7 z, shift_plain bon false h1 h2 h3 h4 h8 h9 h7 z]
  unfold dn upp least
  cases bon <;> simp only [Bool.false_eq_true, if_false, if_true] <;> (repeat' split) <;> omega

theorem shift_none (blo bhi ilo ihi plo phi bby eby : Int) : shift blo bhi ilo ihi plo phi false bby false eby = 0 := by
  unfold shift down up; simp

theorem shift_moves {by_ : Int} (h1 : Sm blo) (h2 : Sm bhi) (h3 : Sm ilo) (h4 : Sm ihi) (h5 : Sm plo) (h6 : Sm phi) (h7 : Sm bby) (h8 : Sm eby) (k1 : Sm (blo + by_)) (k2 : Sm (bhi + by_)) (k3 : Sm (ilo + by_)) (k4 : Sm (ihi + by_)) (k5 : Sm (plo + by_)) (k6 : Sm (phi + by_)) :
    shift (blo + by_) (bhi + by_) (ilo + by_) (ihi + by_) (plo + by_) (phi + by_) bon bby eon eby = shift blo bhi ilo ihi plo phi bon bby eon eby := by
  rw [shift_plain bon eon h1 h2 h3 h4 h5 h6 h7 h8, shift_plain bon eon k1 k2 k3 k4 k5 k6 h7 h8]
  have a : dn (blo + by_) (plo + by_) bon bby = dn blo plo bon bby := by unfold dn; (repeat' split) <;> omega
  have b : upp (blo + by_) (bhi + by_) (plo + by_) (phi + by_) bon bby eon eby = upp blo bhi plo phi bon bby eon eby := by unfold upp least; (repeat' split) <;> omega
  have c : (if ihi + by_ ≤ bhi + by_ then (0 : Int) else ihi + by_ - (bhi + by_)) = if ihi ≤ bhi then 0 else ihi - bhi := by (repeat' split) <;> omega
  have d : (if blo + by_ ≤ ilo + by_ then (0 : Int) else blo + by_ - (ilo + by_)) = if blo ≤ ilo then 0 else blo - ilo := by (repeat' split) <;> omega
  rw [a, b, c, d]
end
end St
end Go.Proofs.Ytdgphjpjgldbaaa
