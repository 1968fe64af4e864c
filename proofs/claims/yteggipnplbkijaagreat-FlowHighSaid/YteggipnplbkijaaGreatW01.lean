/- Boxes laid by the program: what its functions do, part 1. -/
set_option linter.unusedVariables false
set_option linter.unusedSimpArgs false
set_option linter.unusedSectionVars false
set_option maxRecDepth 100000
namespace Go.Proofs.YteggipnplbkijaaGreat
namespace Fx
def cut (n:Int):Int:=if 1099511627776<n then 1099511627776 else if n < -1099511627776 then -1099511627776 else n
def add (a b:Int):Int:=cut (cut a + cut b)
def sub (a b:Int):Int:=cut (cut a - cut b)
def mul (a b:Int):Int:=cut (cut a * cut b)
def div (a b:Int):Int:=if b≤0 then 0 else cut a / cut b
def parts (n:Int):Int:=if n<0 then 0 else if 1000000<n then 1000000 else n
def part (a n:Int):Int:=cut (cut a * parts n / 10000)
def clamp (n lo hi:Int):Int:=if (if cut hi<cut n then cut hi else cut n)<cut lo then cut lo else (if cut hi<cut n then cut hi else cut n)
def sumTo (s:Int) (l:List Int):Int:=l.foldl add s
def sum (l:List Int):Int:=sumTo 0 l
theorem cut_le (n:Int):cut n≤1099511627776:=by unfold cut;split <;> (try split) <;> omega
theorem cut_ge (n:Int) : -1099511627776≤cut n:=by unfold cut;split <;> (try split) <;> omega
theorem cut_id {n:Int} (a : -1099511627776≤n) (b:n≤1099511627776):cut n=n:=by unfold cut;split <;> (try split) <;> omega
theorem cut_cut (n:Int):cut (cut n)=cut n:=cut_id (cut_ge n) (cut_le n)
theorem cut_neg (n:Int):cut (-n) = -cut n:=by unfold cut;(repeat' split) <;> omega
theorem cut_pos {n:Int} (h:1≤n):1≤cut n:=by unfold cut;(repeat' split) <;> omega
theorem parts_ge (n:Int):0≤parts n:=by unfold parts;split <;> (try split) <;> omega
theorem parts_le (n:Int):parts n≤1000000:=by unfold parts;split <;> (try split) <;> omega
theorem tdiv_down {a b:Int} (hb:1≤b) (h:a.tmod b<0):a.tdiv b - 1=a / b:=by
 have e:=Int.mul_tdiv_add_tmod a b
 have l:=Int.lt_tmod_of_pos a (show 0<b by omega)
 have:a=(b + a.tmod b) + b * (a.tdiv b - 1):=by rw [Int.mul_sub];omega
 have u:=(Int.ediv_emod_unique (a:=a) (r:=b + a.tmod b) (q:=a.tdiv b - 1) (show 0<b by omega)).2 ⟨this.symm,by omega,by omega⟩
 exact u.1.symm
theorem tdiv_same {a b:Int} (hb:1≤b) (h:0≤a.tmod b):a.tdiv b=a / b:=by
 have e:=Int.mul_tdiv_add_tmod a b
 have l:=Int.tmod_lt_of_pos a (show 0<b by omega)
 have u:=(Int.ediv_emod_unique (a:=a) (r:=a.tmod b) (q:=a.tdiv b) (show 0<b by omega)).2 ⟨by omega,by omega,by omega⟩
 exact u.1.symm
theorem ediv_ge {a b c:Int} (hb:1≤b) (h0:0≤c) (h : -c≤a) : -c≤a / b:=by
 apply Int.le_ediv_of_mul_le (by omega)
 have:c * 1≤c * b:=Int.mul_le_mul_of_nonneg_left hb h0
 rw [Int.neg_mul];omega
theorem ediv_le {a b c:Int} (hb:1≤b) (h0:0≤c) (h:a≤c):a / b≤c:=by
 apply Int.ediv_le_of_le_mul (by omega)
 have:c * 1≤c * b:=Int.mul_le_mul_of_nonneg_left hb h0
 omega
theorem tdiv_ge {a b:Int} (hb:1≤b) (h3 : -1152921504606846976≤a) : -1152921504606846976≤a.tdiv b:=by
 have:=ediv_ge hb (by omega) h3
 by_cases h:a.tmod b<0
 · have:=tdiv_down hb h;omega
 · have:=tdiv_same hb (by omega:0≤a.tmod b);omega
theorem tdiv_le {a b:Int} (hb:1≤b) (h3:a≤1152921504606846976):a.tdiv b≤1152921504606846977:=by
 have:=ediv_le hb (by omega) h3
 by_cases h:a.tmod b<0
 · have:=tdiv_down hb h;omega
 · have:=tdiv_same hb (by omega:0≤a.tmod b);omega
theorem clamp_parts (n:Int):clamp n 0 1000000=parts n:=by
 unfold clamp parts cut
 (repeat' split) <;> omega
theorem part_bd (a n:Int) : -1152921504606846976≤cut a * parts n∧cut a * parts n≤1152921504606846976:=by
 have h1:=cut_le a
 have h2:=cut_ge a
 have h3:=parts_ge n
 have h4:=parts_le n
 constructor
 · have:(-1099511627776) * parts n≤cut a * parts n:=Int.mul_le_mul_of_nonneg_right h2 h3
   omega
 · have:cut a * parts n≤1099511627776 * parts n:=Int.mul_le_mul_of_nonneg_right h1 h3
   omega
theorem sum_nil:sum []=0:=rfl
def siz (n:Int):Int:=if n<0 then -n else n
theorem siz_bd (a:Int):0≤siz (cut a)∧siz (cut a)≤1099511627776:=by
 have h1:=cut_le a
 have h2:=cut_ge a
 unfold siz;split <;> omega
theorem mul_siz (a b:Int):mul a b=bif !(decide (cut a<0) == decide (cut b<0)) then -cut (siz (cut a) * siz (cut b)) else cut (siz (cut a) * siz (cut b)):=by
 unfold mul siz
 by_cases ha:cut a<0 <;> by_cases hb:cut b<0 <;> simp [ha,hb,Int.neg_mul,Int.mul_neg,Int.neg_neg,cut_neg]
theorem halves (a b:Int):a * b=(a / 4294967296) * (b / 4294967296) * 18446744073709551616 + ((a / 4294967296) * (b % 4294967296) + (a % 4294967296) * (b / 4294967296)) * 4294967296 + (a % 4294967296) * (b % 4294967296):=by
 generalize hx:a / 4294967296=x
 generalize hy:a % 4294967296=y
 generalize hz:b / 4294967296=z
 generalize hu:b % 4294967296=u
 have ea:a=x * 4294967296 + y:=by omega
 have eb:b=z * 4294967296 + u:=by omega
 rw [ea,eb]
 simp only [Int.add_mul,Int.mul_add]
 have e1:x * 4294967296 * (z * 4294967296)=x * z * 18446744073709551616:=by
  rw [Int.mul_assoc,Int.mul_left_comm (4294967296) z, ← Int.mul_assoc x z];congr 1
 have e2:x * 4294967296 * u=x * u * 4294967296:=by rw [Int.mul_assoc,Int.mul_comm 4294967296 u, ← Int.mul_assoc]
 have e3:y * (z * 4294967296)=y * z * 4294967296:=by rw [← Int.mul_assoc]
 rw [e1,e2,e3]
 omega
theorem mul_bd {x y c d:Int} (h1:0≤x) (h2:x≤c) (h3:0≤y) (h4:y≤d):0≤x * y∧x * y≤c * d :=
 ⟨Int.mul_nonneg h1 h3,Int.mul_le_mul h2 h4 h3 (by omega)⟩
theorem or_nat (x y:Nat) (hy:y<4294967296):x * 4294967296 ||| y=x * 4294967296 + y:=by
 have:=Nat.shiftLeft_add_eq_or_of_lt (i:=32) (b:=y) (by simpa using hy) x
 rw [Nat.shiftLeft_eq] at this
 simpa using this.symm
theorem add_comm (a b:Int):add a b=add b a:=by unfold add;rw [Int.add_comm]
theorem mul_comm (a b:Int):mul a b=mul b a:=by unfold mul;rw [Int.mul_comm]
theorem part_none {a:Int}:part a 0=0:=by
 unfold part;rw [show parts 0=0 from rfl,Int.mul_zero];rfl
theorem mul_neg (a b:Int):mul (-a) b = -mul a b:=by unfold mul;rw [cut_neg,Int.neg_mul,cut_neg]
theorem mul_zero (a:Int):mul a 0=0:=by unfold mul;rw [show cut 0=0 from rfl,Int.mul_zero];rfl
theorem mul_one (a:Int):mul a 1=cut a:=by unfold mul;rw [show cut 1=1 from rfl,Int.mul_one,cut_cut]
theorem part_cut (a n:Int):cut (part a n)=part a n:=cut_cut _
def eight (a b c:Int):List Int:=[cut a,add a b,sub a b,mul a b,div a b,part a b,clamp a b c,sum [a,b,c]]
def tot (l:List Int):Int:=l.foldr (· + ·) 0
end Fx
namespace Fx
def mx (a b:Int):Int:=if a<b then b else a
def size (a b:Int):Int:=if 0<sub b a then sub b a else 0
def has (a b n:Int):Bool:=decide (a≤n) && decide (n<b)
def ends (a b c d:Int):Bool:=decide (c≤a) && decide (b≤d)
def inn (a b c d:Int):Bool:=decide (b≤a) || ends a b c d
def fit (a b c d:Int):Int:=if ends a b c d then 0 else if a<c∨size c d<size a b then sub c a else sub d b
theorem inn_iff {a b c d:Int}:inn a b c d=true↔(b≤a∨(c≤a∧b≤d)):=by unfold inn ends;simp
end Fx
namespace Fx
def fixd (k base:Int):Bool:=decide (k=1) || (decide (k=2) && decide (0≤base))
def len (k n base none:Int):Int:=if k=1 then cut n else if k=2∧0≤base then part base n else cut none
def valid (k n:Int):Bool:=if k=0 then decide (n=0) else if k=1 then decide (n=cut n) else if k=2 then decide (0≤n) && decide (n≤1000000) else false
def limit (n lk ln hk hn base:Int):Int:=mx (clamp n (len lk ln base (-1099511627776)) (len hk hn base 1099511627776)) 0
theorem fixd_iff {k base:Int}:fixd k base=true↔k=1∨(k=2∧0≤base):=by unfold fixd;simp
theorem fixd_not {k base:Int}:fixd k base=false↔k≠1∧(k=2→base<0):=by unfold fixd;simp
theorem len_px {k n base none:Int} (h:k=1):len k n base none=cut n:=by unfold len;rw [if_pos h]
theorem len_per {k n base none:Int} (h:k=2) (h2:0≤base):len k n base none=part base n:=by unfold len;rw [if_neg (by omega),if_pos ⟨h,h2⟩]
theorem len_not {k n base none:Int} (h:fixd k base=false):len k n base none=cut none:=by
 rw [fixd_not] at h
 unfold len;rw [if_neg h.1,if_neg (by omega)]
theorem len_cut (k n base none:Int):cut (len k n base none)=len k n base none:=by
 unfold len
 (repeat' split)
 · exact cut_cut _
 · exact part_cut _ _
 · exact cut_cut _
theorem len_le (k n base none:Int):len k n base none≤1099511627776:=by rw [← len_cut];exact cut_le _
theorem limit_ge0 (n lk ln hk hn base:Int):0≤limit n lk ln hk hn base:=by unfold limit mx;split <;> omega
theorem limit_cut (n lk ln hk hn base:Int):cut (limit n lk ln hk hn base)=limit n lk ln hk hn base:=by
 have l1:=cut_le n
 have l2:=cut_ge n
 have l3:=len_le hk hn base 1099511627776
 have l5:=len_le lk ln base (-1099511627776)
 refine cut_id (by have:=limit_ge0 n lk ln hk hn base;omega) ?_
 unfold limit clamp
 rw [len_cut,len_cut]
 unfold mx;(repeat' split) <;> omega
def lv (k n v:Int):Prop:=if k=0 then v=0 else if k=1 then v=n else 0≤v
end Fx
end Go.Proofs.YteggipnplbkijaaGreat
namespace Go.Proofs.YteggipnplbkijaaGreat.Re
def isB (i:Nat):Bool:=i == 45 || i == 47 || i == 51 || i == 52
structure St where
 c:Nat→Int
 b:Nat→Bool
def num (s:St) (i:Nat):Int:=if isB i=true then (if s.b i=true then 1 else 0) else s.c i
def inn (n lo hi:Int):Bool:=decide (lo≤n) && decide (n≤hi)
def lens:List Nat:=[3,5,7,9,11,13,41,15,23,17,25,19,27,21,29]
def sizes:List Nat:=[46,53,54,31,35,32,36,33,37,34,38]
def kindsV (s:St):Bool:=inn (s.c 0) 0 3 && inn (s.c 1) 0 4 && inn (s.c 2) 0 2 && inn (s.c 43) 0 5 && inn (s.c 44) 0 3 && inn (s.c 49) 0 2 && inn (s.c 50) 0 3
def lensV (s:St):Bool:=lens.all fun i=>Fx.valid (s.c i) (s.c (i + 1))
def sizesV (s:St):Bool:=sizes.all fun i=>inn (s.c i) 0 1048576
def valid (s:St):Bool:=kindsV s && lensV s && sizesV s && inn (s.c 39) 0 1000 && inn (s.c 40) 0 1000 && inn (s.c 48) (-1048576) 1048576
def zero:St:=⟨fun _=>0,fun _=>false⟩
def same (s t:St):Prop:=∀ i,i<55→(if isB i=true then s.b i=t.b i else s.c i=t.c i)
theorem inn_iff {n lo hi:Int}:inn n lo hi=true↔lo≤n∧n≤hi:=by unfold inn;simp
theorem num_c {s:St} {i:Nat} (h:isB i=false):num s i=s.c i:=by unfold num;rw [if_neg (by simp [h])]
theorem same.symm {s t:St} (h:same s t):same t s:=fun i hi=>by
 have:=h i hi
 by_cases e:isB i=true
 · rw [if_pos e] at this ⊢; exact this.symm
 · rw [if_neg e] at this ⊢; exact this.symm
theorem same.c {s t:St} (h:same s t) (i:Nat) (hi:i<55) (hb:isB i=false):s.c i=t.c i:=by
 have:=h i hi
 rwa [if_neg (by simp [hb])] at this
theorem same.b {s t:St} (h:same s t) (i:Nat) (hi:i<55) (hb:isB i=true):s.b i=t.b i:=by
 have:=h i hi
 rwa [if_pos hb] at this
theorem valid_same {s t:St} (h:same s t):valid s=valid t:=by
 unfold valid kindsV lensV sizesV lens sizes
 simp only [List.all_cons,List.all_nil]
 rw [h.c 0 (by decide) rfl,h.c 1 (by decide) rfl,h.c 2 (by decide) rfl,h.c 3 (by decide) rfl,h.c 4 (by decide) rfl,h.c 5 (by decide) rfl,h.c 6 (by decide) rfl,h.c 7 (by decide) rfl,h.c 8 (by decide) rfl,h.c 9 (by decide) rfl,
  h.c 10 (by decide) rfl,h.c 11 (by decide) rfl,h.c 12 (by decide) rfl,h.c 13 (by decide) rfl,h.c 14 (by decide) rfl,h.c 15 (by decide) rfl,h.c 16 (by decide) rfl,h.c 17 (by decide) rfl,h.c 18 (by decide) rfl,h.c 19 (by decide) rfl,
  h.c 20 (by decide) rfl,h.c 21 (by decide) rfl,h.c 22 (by decide) rfl,h.c 23 (by decide) rfl,h.c 24 (by decide) rfl,h.c 25 (by decide) rfl,h.c 26 (by decide) rfl,h.c 27 (by decide) rfl,h.c 28 (by decide) rfl,h.c 29 (by decide) rfl,
  h.c 30 (by decide) rfl,h.c 31 (by decide) rfl,h.c 32 (by decide) rfl,h.c 33 (by decide) rfl,h.c 34 (by decide) rfl,h.c 35 (by decide) rfl,h.c 36 (by decide) rfl,h.c 37 (by decide) rfl,h.c 38 (by decide) rfl,h.c 39 (by decide) rfl,
  h.c 40 (by decide) rfl,h.c 41 (by decide) rfl,h.c 42 (by decide) rfl,h.c 43 (by decide) rfl,h.c 44 (by decide) rfl,h.c 46 (by decide) rfl,h.c 48 (by decide) rfl,h.c 49 (by decide) rfl,h.c 50 (by decide) rfl,h.c 53 (by decide) rfl,h.c 54 (by decide) rfl]
end Go.Proofs.YteggipnplbkijaaGreat.Re
namespace Go.Proofs.YteggipnplbkijaaGreat.Fw
def wr (x:Int):Int:=(x + 9223372036854775808) % 18446744073709551616 - 9223372036854775808
def sd (y e:Nat):Nat:=if y=0 then (if e=0 then 3 else 1) else (if e=0 then 0 else 2)
def ed (s:Re.St) (i:Nat):Int:=wr (s.c (31 + i) + s.c (35 + i))
def eds (s:Re.St) (y:Nat):Int:=wr (ed s (sd y 0) + ed s (sd y 1))
def fxd (s:Re.St) (y:Nat) (base:Int):Bool:=Fx.fixd (s.c (3 + 2 * y)) base
def lng (s:Re.St) (y:Nat) (base none:Int):Int:=Fx.len (s.c (3 + 2 * y)) (s.c (4 + 2 * y)) base none
def lim (s:Re.St) (y:Nat) (n base:Int):Int:=Fx.limit n (s.c (7 + 2 * y)) (s.c (8 + 2 * y)) (s.c (11 + 2 * y)) (s.c (12 + 2 * y)) base
def mg (s:Re.St) (y e:Nat) (r:Int):Int:=Fx.len (s.c (15 + 2 * sd y e)) (s.c (16 + 2 * sd y e)) (if y=0 then r else -1) 0
def mgs (s:Re.St) (y:Nat) (r:Int):Int:=wr (mg s y 0 r + mg s y 1 r)
def wth (s:Re.St) (y:Nat) (r0 r t:Int):Int :=
 if t ≠ -1 then max (wr (t - eds s y)) 0
 else if fxd s y r=true then lim s y (lng s y r 0) r
 else if y=0 then lim s y (max (wr (wr (r - mgs s y r0) - eds s y)) 0) r else -1
def byc (s:Re.St) (r0:Int):Int:=wr (lim s 0 (s.c 53) r0 + eds s 0)
def ins (s:Re.St) (y e:Nat) (r:Int):Int:=Fx.len (s.c (23 + 2 * sd y e)) (s.c (24 + 2 * sd y e)) r 0
def inF (s:Re.St) (y e:Nat) (r:Int):Bool:=Fx.fixd (s.c (23 + 2 * sd y e)) r
def opn (s:Re.St) (ib:Bool) (e:Nat):Bool :=
 (ib && s.c 0 == 0 && s.c 2 == 0 && ed s (sd 1 e) == 0) && (e == 0 || (s.c 5 == 0 && s.c 9 == 0))
end Go.Proofs.YteggipnplbkijaaGreat.Fw
namespace Go.Proofs.YteggipnplbkijaaGreat
namespace Fx
def top (l:List Int):Int:=l.foldl max 0
def bot (l:List Int):Int:=l.foldl min 0
def coll (l:List Int):Int:=add (top l) (bot l)
theorem top_snoc (l:List Int) (x:Int):top (l ++ [x])=max (top l) x:=by simp [top]
theorem bot_snoc (l:List Int) (x:Int):bot (l ++ [x])=min (bot l) x:=by simp [bot]
theorem foldl_max_le (l:List Int) (s x:Int):l.foldl max s≤x↔s≤x∧∀ z ∈ l,z≤x:=by
 induction l generalizing s with
 | nil=>simp
 | cons y l ih =>
   rw [List.foldl_cons,ih]
   constructor
   · rintro ⟨h1,h2⟩
     exact ⟨by omega,fun z hz=>by rcases List.mem_cons.1 hz with rfl | hz;(· omega);exact h2 z hz⟩
   · rintro ⟨h1,h2⟩
     exact ⟨by have:=h2 y (by simp);omega,fun z hz=>h2 z (by simp [hz])⟩
def shA (n:Int) (a b:Bool):Int:=if n≤0 then 0 else if a then (if b then n / 2 else n) else 0
def shB (n:Int) (a b:Bool):Int:=if n≤0 then 0 else if b then (if a then sub n (n / 2) else n) else 0
def left (room size f l:Int):Int:=sub (sub room size) (add f l)
def autoA (room size f l:Int) (x y:Bool):Int:=add f (shA (left room size f l) (!x) (!y))
def autoB (room size f l:Int) (x y:Bool):Int:=add l (shB (left room size f l) (!x) (!y))
theorem sub_ge (a b:Int) : -1099511627776≤sub a b:=cut_ge _
theorem sub_le (a b:Int):sub a b≤1099511627776:=cut_le _
def stEnd (s t b:List Int):Nat→Int
 | 0=>0
 | k + 1=>add (if k=0 then 0 else add (stEnd s t b k) (coll [b.getD (k - 1) 0,t.getD k 0])) (s.getD k 0)
def stBeg (s t b:List Int) (k:Nat):Int:=if k=0 then 0 else add (stEnd s t b k) (coll [b.getD (k - 1) 0,t.getD k 0])
def stBegs (s t b:List Int) (n:Nat):List Int:=(List.range n).map (stBeg s t b)
theorem stEnd_succ (s t b:List Int) (k:Nat):stEnd s t b (k + 1)=add (stBeg s t b k) (s.getD k 0):=rfl
theorem stBeg_zero (s t b:List Int):stBeg s t b 0=0:=rfl
theorem stBeg_pos (s t b:List Int) {k:Nat} (h:0<k):stBeg s t b k=add (stEnd s t b k) (coll [b.getD (k - 1) 0,t.getD k 0]):=by unfold stBeg;rw [if_neg (by omega)]
theorem stBegs_length (s t b:List Int) (n:Nat):(stBegs s t b n).length=n:=by simp [stBegs]
theorem stBegs_get (s t b:List Int) {n k:Nat} (h:k<n):(stBegs s t b n).getD k 0=stBeg s t b k:=by simp [stBegs,h]
end Fx
namespace Li
def next (gap s x:Int):Int:=Fx.add (Fx.add s gap) x
def long (gap:Int):List Int→Int
 | []=>0
 | x :: l=>l.foldl (next gap) (Fx.cut x)
theorem long_snoc (gap:Int) (l:List Int) (x:Int) (h:l≠[]):long gap (l ++ [x])=next gap (long gap l) x:=by
 cases l with
 | nil=>exact absurd rfl h
 | cons y l=>simp [long]
theorem take_snoc (l:List Int) {k:Nat} (h:k<l.length):l.take (k + 1)=l.take k ++ [l.getD k 0]:=by
 rw [List.take_succ_eq_append_getElem h];simp [List.getElem?_eq_getElem h]
theorem take_ne (l:List Int) {k:Nat} (h0:0<k) (h:0<l.length):l.take k≠[]:=by
 intro e
 have h1:(l.take k).length=0:=by rw [e];rfl
 rw [List.length_take] at h1
 omega
theorem long_take (gap:Int) (l:List Int) {k:Nat} (h0:0<k) (h:k<l.length):long gap (l.take (k + 1))=next gap (long gap (l.take k)) (l.getD k 0):=by
 rw [take_snoc l h,long_snoc _ _ _ (take_ne l h0 (by omega))]
theorem long_take_one (gap:Int) (l:List Int) (h:0<l.length):long gap (l.take 1)=Fx.cut (l.getD 0 0):=by
 rw [take_snoc l h];rfl
def goes (room gap:Int) (wrap:Bool) (l:List Int) (n:Nat):Bool:=decide (n<l.length) && (decide (n<64) && (!wrap || decide (long gap (l.take (n + 1))≤room)))
theorem goes_iff {room gap:Int} {wrap:Bool} {l:List Int} {n:Nat}:goes room gap wrap l n=true↔n<l.length∧n<64∧(wrap=true→long gap (l.take (n + 1))≤room):=by
 unfold goes
 cases wrap <;> simp
def cntF (room gap:Int) (wrap:Bool) (l:List Int):Nat→Nat→Nat
 | 0,n=>n
 | f + 1,n=>if goes room gap wrap l n then cntF room gap wrap l f (n + 1) else n
def cnt (room gap:Int) (wrap:Bool) (l:List Int):Nat:=cntF room gap wrap l 64 1
structure IsCnt (room gap:Int) (wrap:Bool) (l:List Int) (n:Nat):Prop where
 one:1≤n
 all:∀ k,1≤k→k<n→goes room gap wrap l k=true
 end_:goes room gap wrap l n=false
theorem cntF_is (room gap:Int) (wrap:Bool) (l:List Int):∀ f n,64≤f + n→1≤n→(∀ k,1≤k→k<n→goes room gap wrap l k=true)→IsCnt room gap wrap l (cntF room gap wrap l f n)
 | 0,n,hf,h1,ha=>⟨h1,ha,by
   show goes room gap wrap l n=false
   cases h:goes room gap wrap l n with
   | false=>rfl
   | true=>have:=goes_iff.1 h;omega⟩
 | f + 1,n,hf,h1,ha=>by
   unfold cntF
   split
   · rename_i h
     refine cntF_is room gap wrap l f (n + 1) (by omega) (by omega) fun k k1 k2 => ?_
     rcases Nat.lt_or_ge k n with k3 | k3
     · exact ha k k1 k3
     · obtain rfl:k=n:=by omega
       exact h
   · rename_i h
     exact ⟨h1,ha,by simpa using h⟩
theorem cnt_is (room gap:Int) (wrap:Bool) (l:List Int):IsCnt room gap wrap l (cnt room gap wrap l):=cntF_is room gap wrap l 64 1 (by omega) (Nat.le_refl _) fun k h1 h2=>by omega
theorem IsCnt.unique {room gap:Int} {wrap:Bool} {l:List Int} {n m:Nat} (h:IsCnt room gap wrap l n) (k:IsCnt room gap wrap l m):n=m:=by
 rcases Nat.lt_trichotomy n m with h1 | h1 | h1
 · have:=k.all n h.one h1;rw [h.end_] at this;cases this
 · exact h1
 · have:=h.all m k.one h1;rw [k.end_] at this;cases this
theorem IsCnt.eq {room gap:Int} {wrap:Bool} {l:List Int} {n:Nat} (h:IsCnt room gap wrap l n):cnt room gap wrap l=n:=(cnt_is room gap wrap l).unique h
theorem IsCnt.le {room gap:Int} {wrap:Bool} {l:List Int} {n:Nat} (h:IsCnt room gap wrap l n) (h0:0<l.length):n≤l.length∧n≤64:=by
 rcases Nat.lt_or_ge 1 n with h1 | h1
 · have:=goes_iff.1 (h.all (n - 1) (by omega) (by omega));omega
 · omega
theorem cnt_le (room gap:Int) (wrap:Bool) (l:List Int) (h0:0<l.length):cnt room gap wrap l≤l.length:=((cnt_is room gap wrap l).le h0).1
theorem cnt_pos (room gap:Int) (wrap:Bool) (l:List Int):1≤cnt room gap wrap l:=(cnt_is room gap wrap l).one
def brkF (room gap:Int) (wrap:Bool) (l:List Int):Nat→Nat→List (Nat × Nat)
 | 0,_=>[]
 | f + 1,at_=>if at_<l.length then (at_,at_ + cnt room gap wrap (l.drop at_)) :: brkF room gap wrap l f (at_ + cnt room gap wrap (l.drop at_)) else []
def tail (room gap:Int) (wrap:Bool) (l:List Int) (at_:Nat):List (Nat × Nat):=brkF room gap wrap l (l.length - at_) at_
def brk (room gap:Int) (wrap:Bool) (l:List Int):List (Nat × Nat):=tail room gap wrap l 0
theorem brkF_more (room gap:Int) (wrap:Bool) (l:List Int):∀ f g at_,l.length≤f + at_→l.length≤g + at_→brkF room gap wrap l f at_=brkF room gap wrap l g at_
 | 0,0,_,_,_=>rfl
 | 0,g + 1,at_,h,_=>by unfold brkF;rw [if_neg (by omega)]
 | f + 1,0,at_,_,h=>by unfold brkF;rw [if_neg (by omega)]
 | f + 1,g + 1,at_,hf,hg=>by
   unfold brkF
   split
   · rename_i h
     have:=cnt_pos room gap wrap (l.drop at_)
     rw [brkF_more room gap wrap l f g _ (by omega) (by omega)]
   · rfl
theorem tail_end (room gap:Int) (wrap:Bool) (l:List Int) {at_:Nat} (h:l.length≤at_):tail room gap wrap l at_=[]:=by
 unfold tail
 rw [show l.length - at_=0 by omega]
 rfl
def stop (room gap:Int) (wrap:Bool) (l:List Int) (at_:Nat):Nat:=at_ + cnt room gap wrap (l.drop at_)
theorem stop_gt (room gap:Int) (wrap:Bool) (l:List Int) (at_:Nat):at_<stop room gap wrap l at_:=by
 have:=cnt_pos room gap wrap (l.drop at_)
 unfold stop;omega
theorem stop_le (room gap:Int) (wrap:Bool) (l:List Int) {at_:Nat} (h:at_<l.length):stop room gap wrap l at_≤l.length:=by
 have:=cnt_le room gap wrap (l.drop at_) (by rw [List.length_drop];omega)
 rw [List.length_drop] at this
 unfold stop;omega
theorem tail_step (room gap:Int) (wrap:Bool) (l:List Int) {at_:Nat} (h:at_<l.length):tail room gap wrap l at_=(at_,stop room gap wrap l at_) :: tail room gap wrap l (stop room gap wrap l at_):=by
 have h1:=stop_gt room gap wrap l at_
 unfold tail
 obtain ⟨f,hf⟩:∃ f,l.length - at_=f + 1:=⟨l.length - at_ - 1,by omega⟩
 rw [hf]
 conv=>lhs;unfold brkF
 rw [if_pos h]
 show (at_,stop room gap wrap l at_) :: brkF room gap wrap l f (stop room gap wrap l at_)=_
 rw [brkF_more room gap wrap l f (l.length - stop room gap wrap l at_) _ (by omega) (by omega)]
theorem tail_length (room gap:Int) (wrap:Bool) (l:List Int) (at_:Nat):(tail room gap wrap l at_).length≤l.length - at_:=by
 obtain ⟨d,hd⟩:∃ d,l.length - at_≤d:=⟨_,Nat.le_refl _⟩
 induction d generalizing at_ with
 | zero=>rw [tail_end _ _ _ _ (by omega)];simp
 | succ d ih =>
   rcases Nat.lt_or_ge at_ l.length with h | h
   · have h1:=stop_gt room gap wrap l at_
     rw [tail_step _ _ _ _ h]
     have:=ih (stop room gap wrap l at_) (by omega)
     simp only [List.length_cons]
     omega
   · rw [tail_end _ _ _ _ h];simp
theorem brk_length (room gap:Int) (wrap:Bool) (l:List Int):(brk room gap wrap l).length≤l.length:=tail_length room gap wrap l 0
def flat (l:List (Nat × Nat)):List Int:=l.flatMap fun x=>[(x.1:Int),(x.2:Int)]
theorem flat_snoc (l:List (Nat × Nat)) (x:Nat × Nat):flat (l ++ [x])=flat l ++ [(x.1:Int),(x.2:Int)]:=by simp [flat]
theorem flat_get (l:List (Nat × Nat)) {k:Nat} (h:k<l.length):(flat l)[k * 2]? = some ((l[k]).1:Int)∧(flat l)[k * 2 + 1]? = some ((l[k]).2:Int):=by
 induction l generalizing k with
 | nil=>simp at h
 | cons x l ih =>
   have e:flat (x :: l)=(x.1:Int) :: (x.2:Int) :: flat l:=rfl
   cases k with
   | zero=>rw [e];simp
   | succ k =>
     have:=ih (k:=k) (by simpa using h)
     rw [e,show (k + 1) * 2=k * 2 + 1 + 1 by omega]
     simpa using this
end Li
end Go.Proofs.YteggipnplbkijaaGreat
namespace Go.Proofs.YteggipnplbkijaaGreat.Fe
def to (n m:Int):Int:=if m<n then m else if n<0 then 0 else n
theorem to_ge {n m:Int} (h:0≤m):0≤to n m:=by unfold to;(repeat' split) <;> omega
theorem to_le {n m:Int} (h:0≤m):to n m≤m:=by unfold to;(repeat' split) <;> omega
theorem to_id {n m:Int} (h:0≤n) (h2:n≤m):to n m=n:=by unfold to;(repeat' split) <;> omega
theorem to_to {n m:Int} (h:0≤m):to (to n m) m=to n m:=to_id (to_ge h) (to_le h)
def cw (n:Int):Int:=to n 1073741824
theorem cw_ge (n:Int):0≤cw n:=to_ge (by omega)
theorem cw_le (n:Int):cw n≤1073741824:=to_le (by omega)
structure It where
 b:Int
 lo:Int
 hi:Int
 g:Int
 s:Int
def cnt (x:It):It:=⟨to x.b 1048576,to x.lo 1048576,to x.hi 1048576,to x.g 1000,to x.s 1000⟩
theorem cnt_cnt (x:It):cnt (cnt x)=cnt x:=by unfold cnt;simp [to_to]
def inn (lo hi n:Int):Int:=if (if hi<n then hi else n)<lo then lo else (if hi<n then hi else n)
def clamp (x:It) (n:Int):Int:=inn (cnt x).lo (cnt x).hi n
theorem clamp_cnt (x:It) (n:Int):clamp (cnt x) n=clamp x n:=by unfold clamp;rw [cnt_cnt]
theorem cnt_bd (x:It):0≤(cnt x).b∧(cnt x).b≤1048576∧0≤(cnt x).lo∧(cnt x).lo≤1048576∧0≤(cnt x).hi∧(cnt x).hi≤1048576∧0≤(cnt x).g∧(cnt x).g≤1000∧0≤(cnt x).s∧(cnt x).s≤1000:=by
 unfold cnt
 exact ⟨to_ge (by omega),to_le (by omega),to_ge (by omega),to_le (by omega),to_ge (by omega),to_le (by omega),to_ge (by omega),to_le (by omega),to_ge (by omega),to_le (by omega)⟩
theorem inn_bd {lo hi n:Int} (h1:0≤lo) (h2:lo≤1048576) (h3:0≤hi) (h4:hi≤1048576):0≤inn lo hi n∧inn lo hi n≤1048576:=by
 unfold inn;(repeat' split) <;> omega
theorem clamp_bd (x:It) (n:Int):0≤clamp x n∧clamp x n≤1048576:=by
 obtain ⟨_,_,h1,h2,h3,h4,_⟩:=cnt_bd x
 exact inn_bd h1 h2 h3 h4
theorem fix_to {n m:Int} (h:0≤m) (h2:m≤1073741824):Fx.clamp n 0 m=to n m:=by
 unfold Fx.clamp Fx.cut to;(repeat' split) <;> omega
theorem fix_inn {n lo hi:Int} (h1:0≤lo) (h2:lo≤1048576) (h3:0≤hi) (h4:hi≤1048576):Fx.clamp n lo hi=inn lo hi n:=by
 unfold Fx.clamp Fx.cut inn;(repeat' split) <;> omega
def up (w:List Int):Nat→Int
 | 0=>0
 | k + 1=>up w k + cw (w.getD k 0)
theorem up_step (w:List Int) (k:Nat):up w k≤up w (k + 1):=by have:=cw_ge (w.getD k 0);simp only [up];omega
theorem up_mono (w:List Int) {i j:Nat} (h:i≤j):up w i≤up w j:=by
 induction j with
 | zero=>obtain rfl:i=0:=(by omega);exact Int.le_refl _
 | succ j ih =>
   rcases Nat.lt_or_ge i (j + 1) with h' | h'
   · exact Int.le_trans (ih (by omega)) (up_step w j)
   · obtain rfl:i=j + 1:=by omega
     exact Int.le_refl _
theorem up_ge (w:List Int) (k:Nat):0≤up w k:=up_mono w (Nat.zero_le k)
theorem up_le (w:List Int) (k:Nat):up w k≤1073741824 * k:=by
 induction k with
 | zero=>simp [up]
 | succ k ih=>have:=cw_le (w.getD k 0);simp only [up];omega
def all (w:List Int):Int:=up w w.length
def so (n:Int) (w:List Int) (k:Nat):Int:=to n 67108864 * up w k / all w
def part (n:Int) (w:List Int) (k:Nat):Int:=so n w (k + 1) - so n w k
def share (n:Int) (w:List Int):List Int:=(List.range w.length).map (part n w)
theorem share_length (n:Int) (w:List Int):(share n w).length=w.length:=by simp [share]
theorem share_get (n:Int) (w:List Int) {k:Nat} (h:k<w.length):(share n w).getD k 0=part n w k:=by simp [share,h]
theorem so_zero (n:Int) (w:List Int):so n w 0=0:=by simp [so,up]
theorem prod_bd {a b c d:Int} (h1:0≤a) (h2:a≤c) (h3:0≤b) (h4:b≤d):0≤a * b∧a * b≤c * d:=Fx.mul_bd h1 h2 h3 h4
theorem so_mono (n:Int) (w:List Int) {i j:Nat} (h:i≤j):so n w i≤so n w j:=by
 unfold so
 rcases Int.lt_or_le 0 (all w) with h0 | h0
 · exact Int.ediv_le_ediv h0 (Int.mul_le_mul_of_nonneg_left (up_mono w h) (to_ge (by omega)))
 · have:all w=0:=by have:=up_ge w w.length;unfold all at *; omega
   rw [this];simp
theorem so_ge (n:Int) (w:List Int) (k:Nat):0≤so n w k:=by rw [← so_zero n w];exact so_mono n w (Nat.zero_le k)
theorem so_le (n:Int) (w:List Int) {k:Nat} (h:k≤w.length):so n w k≤to n 67108864:=by
 unfold so
 rcases Int.lt_or_le 0 (all w) with h0 | h0
 · refine Int.le_trans (Int.ediv_le_ediv h0 (Int.mul_le_mul_of_nonneg_left (up_mono w h) (to_ge (by omega)))) ?_
   show to n 67108864 * all w / all w≤_
   rw [Int.mul_ediv_cancel _ (by omega)];exact Int.le_refl _
 · have:all w=0:=by have:=up_ge w w.length;unfold all at *; omega
   rw [this];simp;exact to_ge (by omega)
theorem part_bd (n:Int) (w:List Int) {k:Nat} (h:k<w.length):0≤part n w k∧part n w k≤67108864:=by
 have h1:=so_mono n w (show k≤k + 1 by omega)
 have h2:=so_le n w (k:=k + 1) h
 have h3:=so_ge n w k
 have h4:to n 67108864≤67108864:=to_le (by omega)
 unfold part;omega
theorem part_none {n:Int} {w:List Int} (h:all w=0) (k:Nat):part n w k=0:=by simp [part,so,h]
theorem so_bd (n:Int) (w:List Int) {k:Nat} (h:k≤64):0≤to n 67108864 * up w k∧to n 67108864 * up w k≤4611686018427387904:=by
 have h1:=up_ge w k
 have h2:=up_le w k
 have:=prod_bd (to_ge (n:=n) (m:=67108864) (by omega)) (to_le (by omega)) h1 (show up w k≤68719476736 by omega)
 omega
structure St where
 x:It
 z:Int
 m:Int
 f:Bool
def fac (gr:Bool) (x:It):Int:=if gr then x.g else x.s
def wt (gr:Bool) (x:It):Int:=if gr then x.g else x.s * x.b
def sg (gr:Bool):Int:=if gr then 1 else -1
def stay (gr:Bool) (c:It) (z:Int):Bool:=decide (fac gr c=0) || decide (sg gr * z<sg gr * c.b)
def sumz (l:Nat→It):Nat→Int
 | 0=>0
 | k + 1=>sumz l k + clamp (l k) (cnt (l k)).b
def gro (l:Nat→It) (n:Nat) (room:Int):Bool:=decide (sumz l n<room)
def fresh (l:Nat→It):Nat→St:=fun i=>⟨cnt (l i),clamp (l i) (cnt (l i)).b,0,false⟩
def begun (gr:Bool) (l:Nat→It):Nat→St:=fun i=>⟨cnt (l i),clamp (l i) (cnt (l i)).b,0,stay gr (cnt (l i)) (clamp (l i) (cnt (l i)).b)⟩
def pl (S:Nat→St):Nat→Nat
 | 0=>0
 | k + 1=>pl S k + if (S k).f then 0 else 1
def ws (gr:Bool) (S:Nat→St):Nat→List Int
 | 0=>[]
 | k + 1=>if (S k).f then ws gr S k else ws gr S k ++ [wt gr (S k).x]
def left (room:Int) (S:Nat→St):Nat→Int
 | 0=>room
 | k + 1=>if (S k).f then left room S k - (S k).z else left room S k - (S k).x.b
def free (gr:Bool) (room:Int) (S:Nat→St) (n:Nat):Int:=if sg gr * left room S n<0 then 0 else sg gr * left room S n
def parts (gr:Bool) (room:Int) (S:Nat→St) (n:Nat):List Int:=share (free gr room S n) (ws gr S n)
def want (gr:Bool) (p:List Int) (S:Nat→St) (i:Nat):Int:=(S i).x.b + sg gr * p.getD (pl S i) 0
def sharedBy (gr:Bool) (p:List Int) (S:Nat→St):Nat→St:=fun i =>
 if (S i).f then S i else ⟨(S i).x,clamp (S i).x (want gr p S i),clamp (S i).x (want gr p S i) - want gr p S i,false⟩
def shared (gr:Bool) (room:Int) (n:Nat) (S:Nat→St):Nat→St:=sharedBy gr (parts gr room S n) S
def made (S:Nat→St):Nat→Int
 | 0=>0
 | k + 1=>if (S k).f then made S k else made S k + (S k).m
def frz (t m:Int):Bool:=decide (t=0) || (decide (0<t) && decide (0<m)) || (decide (t<0) && decide (m<0))
def froze (n:Nat) (S:Nat→St):Nat→St:=fun i=>if (S i).f then S i else ⟨(S i).x,(S i).z,(S i).m,frz (made S n) (S i).m⟩
def round (gr:Bool) (room:Int) (n:Nat) (S:Nat→St):Nat→St:=froze n (shared gr room n S)
def rounds (gr:Bool) (room:Int) (n:Nat) (S:Nat→St):Nat→Nat→St
 | 0=>S
 | k + 1=>round gr room n (rounds gr room n S k)
def fin (l:Nat→It) (n:Nat) (room:Int):Nat→St:=rounds (gro l n room) room n (begun (gro l n room) l) n
theorem pl_le (S:Nat→St) (k:Nat):pl S k≤k:=by
 induction k with
 | zero=>simp [pl]
 | succ k ih=>simp only [pl];split <;> omega
theorem ws_length (gr:Bool) (S:Nat→St) (k:Nat):(ws gr S k).length=pl S k:=by
 induction k with
 | zero=>rfl
 | succ k ih=>simp only [ws,pl];split <;> simp [ih]
theorem pl_mono (S:Nat→St) {i j:Nat} (h:i≤j):pl S i≤pl S j:=by
 induction j with
 | zero=>obtain rfl:i=0:=(by omega);exact Nat.le_refl _
 | succ j ih =>
   rcases Nat.lt_or_ge i (j + 1) with h' | h'
   · exact Nat.le_trans (ih (by omega)) (by simp only [pl];omega)
   · obtain rfl:i=j + 1:=by omega
     exact Nat.le_refl _
theorem pl_lt (S:Nat→St) {i n:Nat} (h:i<n) (hf:(S i).f=false):pl S i<pl S n:=by
 have h1:pl S (i + 1)=pl S i + 1:=by simp [pl,hf]
 have:=pl_mono S (show i + 1≤n by omega)
 omega
theorem pl_none {S:Nat→St} {n:Nat} (h:pl S n=0):∀ i,i<n→(S i).f=true:=by
 intro i hi
 cases hf:(S i).f with
 | true=>rfl
 | false=>have:=pl_lt S hi hf;omega
theorem pl_all {S:Nat→St} {n:Nat} (h:∀ i,i<n→(S i).f=true):pl S n=0:=by
 induction n with
 | zero=>rfl
 | succ n ih=>simp only [pl,h n (by omega),if_true];rw [ih fun i hi=>h i (by omega)]
theorem pl_same {S T:Nat→St} {n:Nat} (h:∀ i,i<n→(S i).f=(T i).f):pl S n=pl T n:=by
 induction n with
 | zero=>rfl
 | succ n ih=>simp only [pl,h n (by omega)];rw [ih fun i hi=>h i (by omega)]
theorem pl_less {S T:Nat→St} {n:Nat} (h:∀ i,i<n→(S i).f=true→(T i).f=true):pl T n≤pl S n:=by
 induction n with
 | zero=>exact Nat.le_refl _
 | succ n ih =>
   have:=ih fun i hi=>h i (by omega)
   have h2:=h n (by omega)
   simp only [pl]
   cases hs:(S n).f <;> cases ht:(T n).f <;> simp_all <;> omega
theorem pl_lesser {S T:Nat→St} {n i:Nat} (h:∀ i,i<n→(S i).f=true→(T i).f=true) (hi:i<n) (h1:(S i).f=false) (h2:(T i).f=true):pl T n<pl S n:=by
 induction n with
 | zero=>omega
 | succ n ih =>
   have hle:=pl_less (n:=n) fun i hi=>h i (by omega)
   rcases Nat.lt_or_ge i n with h' | h'
   · have:=ih (fun i hi=>h i (by omega)) h'
     have h3:=h n (by omega)
     simp only [pl]
     cases hs:(S n).f <;> cases ht:(T n).f <;> simp_all <;> omega
   · obtain rfl:i=n:=by omega
     simp only [pl,h1,h2,if_true];simp;omega
theorem made_sign {S:Nat→St} {n:Nat} (h:∀ i,i<n→(S i).f=false→(S i).m≤0):made S n≤0:=by
 induction n with
 | zero=>exact Int.le_refl _
 | succ n ih =>
   have h1:=ih fun i hi=>h i (by omega)
   simp only [made]
   split
   · exact h1
   · have:=h n (by omega) (by simp_all);omega
theorem made_sign' {S:Nat→St} {n:Nat} (h:∀ i,i<n→(S i).f=false→0≤(S i).m):0≤made S n:=by
 induction n with
 | zero=>exact Int.le_refl _
 | succ n ih =>
   have h1:=ih fun i hi=>h i (by omega)
   simp only [made]
   split
   · exact h1
   · have:=h n (by omega) (by simp_all);omega
theorem froze_one {S:Nat→St} {n:Nat} (h:0<pl S n):∃ i,i<n∧(S i).f=false∧(froze n S i).f=true:=by
 apply Classical.byContradiction
 intro hne
 have hall:∀ i,i<n→(S i).f=false→frz (made S n) (S i).m=false:=by
  intro i hi hf
  cases hz:frz (made S n) (S i).m with
  | false=>rfl
  | true=>exact absurd ⟨i,hi,hf,by simp [froze,hf,hz]⟩ hne
 rcases Int.lt_trichotomy (made S n) 0 with ht | ht | ht
 · have:=made_sign' (S:=S) (n:=n) fun i hi hf=>by
    have:=hall i hi hf
    simp only [frz,Bool.or_eq_false_iff,Bool.and_eq_false_iff,decide_eq_false_iff_not] at this
    omega
   omega
 · have h0:∀ i,i<n→(S i).f=true:=by
    intro i hi
    cases hf:(S i).f with
    | true=>rfl
    | false=>have:=hall i hi hf;simp [frz,ht] at this
   have:=pl_all h0
   omega
 · have:=made_sign (S:=S) (n:=n) fun i hi hf=>by
    have:=hall i hi hf
    simp only [frz,Bool.or_eq_false_iff,Bool.and_eq_false_iff,decide_eq_false_iff_not] at this
    omega
   omega
theorem shared_f (gr:Bool) (p:List Int) (S:Nat→St) (i:Nat):(sharedBy gr p S i).f=(S i).f:=by
 unfold sharedBy;cases h:(S i).f <;> simp [h]
theorem round_less (gr:Bool) (room:Int) {n:Nat} {S:Nat→St} (h:0<pl S n):pl (round gr room n S) n<pl S n:=by
 have e:pl (shared gr room n S) n=pl S n:=pl_same fun i _=>shared_f gr _ S i
 obtain ⟨i,hi,h1,h2⟩:=froze_one (S:=shared gr room n S) (n:=n) (by omega)
 have:=pl_lesser (S:=shared gr room n S) (T:=round gr room n S) (fun j _ hj=>by simp [round,froze,hj]) hi h1 h2
 omega
theorem round_still {gr:Bool} {room:Int} {n:Nat} {S:Nat→St} {i:Nat} (h:(S i).f=true):round gr room n S i=S i:=by
 have e:shared gr room n S i=S i:=by simp [shared,sharedBy,h]
 simp [round,froze,e,h]
theorem rounds_still {gr:Bool} {room:Int} {n:Nat} {S:Nat→St} {k:Nat} {i:Nat} (h:(rounds gr room n S k i).f=true):∀ m,k≤m→rounds gr room n S m i=rounds gr room n S k i:=by
 intro m hm
 induction m with
 | zero=>obtain rfl:k=0:=(by omega);rfl
 | succ m ih =>
   rcases Nat.lt_or_ge k (m + 1) with h' | h'
   · have:=ih (by omega)
     show round gr room n (rounds gr room n S m) i=_
     rw [round_still (by rw [this];exact h),this]
   · obtain rfl:k=m + 1:=by omega
     rfl
theorem left_bd {room:Int} {S:Nat→St} (hx:∀ i,0≤(S i).x.b∧(S i).x.b≤1048576) (hz:∀ i,0≤(S i).z∧(S i).z≤1048576) (k:Nat):room - 1048576 * k≤left room S k∧left room S k≤room:=by
 induction k with
 | zero=>simp [left]
 | succ k ih =>
   obtain ⟨h1,h2⟩:=ih
   have:=hx k
   have:=hz k
   simp only [left]
   split <;> constructor <;> omega
end Go.Proofs.YteggipnplbkijaaGreat.Fe
namespace Go.Proofs.YteggipnplbkijaaGreat
namespace Ju
def pq (kind left n:Int):Int × Int × Int :=
 if kind=1 then (1,0,1)
 else if kind=3 then (if 0<left∧1<n then (0,1,n - 1) else (0,0,1))
 else if kind=4 then (if 0<left then (1,2,2 * n) else (1,0,2))
 else if kind=5 then (if 0<left then (1,1,n + 1) else (1,0,2))
 else if kind=2 then (1,0,2) else (0,0,1)
def fr (left p s q k:Int):Int:=Fx.div (Fx.mul left (p + s * k)) q
def F (kind left n k:Int):Int:=fr left (pq kind left n).1 (pq kind left n).2.1 (pq kind left n).2.2 k
theorem pq_bd (kind left n:Int):0≤(pq kind left n).1∧(pq kind left n).1≤1∧0≤(pq kind left n).2.1∧(pq kind left n).2.1≤2:=by
 unfold pq;(repeat' split) <;> simp
def at_ (f:Int→Int) (l:List Int) (gap:Int):Nat→Int
 | 0=>f 0
 | k + 1=>Fx.add (Fx.add (Fx.add (at_ f l gap k) (l.getD k 0)) gap) (Fx.sub (f ((k + 1:Nat):Int)) (f (k:Int)))
def row (f:Nat→Int) (n:Nat):List Int:=(List.range n).map f
theorem row_length (f:Nat→Int) (n:Nat):(row f n).length=n:=by simp [row]
theorem row_get (f:Nat→Int) {n k:Nat} (h:k<n):(row f n).getD k 0=f k:=by simp [row,List.getD_eq_getElem?_getD,h]
def left (room gap:Int) (l:List Int):Int:=Fx.sub room (Li.long gap l)
def starts (kind room gap:Int) (l:List Int):Nat→Int:=at_ (F kind (left room gap l) l.length) l gap
def across (kind size room:Int):Int:=if kind=2 then Fx.div (Fx.sub room size) 2 else if kind=3 then Fx.sub room size else 0
end Ju
namespace Fw
structure Ld where
 id:Int
 i0:Int
 i1:Int
 s0:Int
 s1:Int
 a0:Int
 a1:Int
instance:Inhabited Ld:=⟨⟨0,0,0,0,0,0,0⟩⟩
structure Bx where
 sty:Re.St
 fl:List Int
 ap:List Int
 ib:Bool
def sizes (l:Nat→Fe.It) (n:Nat) (x:Int):List Int:=(List.range n).map fun i=>(Fe.fin l n (Fe.to x 67108864) i).z
def asI (s:Re.St) (y:Nat) (base room:Int):Fe.It:=⟨Fx.len (s.c 41) (s.c 42) room base,Fx.limit 0 (s.c (7 + 2 * y)) (s.c (8 + 2 * y)) 0 0 room,max (Fx.len (s.c (11 + 2 * y)) (s.c (12 + 2 * y)) room 1048576) 0,s.c 39,s.c 40⟩
section
variable (B:Int→Bx)
def meet (e:Nat):Nat→Int→List Int
 | 0,z=>[mg (B z).sty 1 e (-1)]
 | f + 1,z=>mg (B z).sty 1 e (-1) :: (if opn (B z).sty (B z).ib e=true then
  (match (if e=0 then (B z).fl.head? else (B z).fl.getLast?) with
   | some k=>meet e f k
   | none=>[]) else [])
def lay1 (cont:Int→Int→Int→List Ld × Int) (z r0 r1 t0 t1:Int):Ld :=
 let s:=(B z).sty
 let i0:=wth s 0 r0 r0 t0
 let i1:=wth s 1 r0 r1 t1
 ⟨z,i0,i1,wr (i0 + eds s 0),wr ((if i1 = -1 then lim s 1 (cont z i0 i1).2 r1 else i1) + eds s 1),0,0⟩
variable (lay:Int→Int→Int→Int→Int→Ld)
def blkKid (i0 i1:Int) (k:Int):Ld :=
 let x:=lay k i0 i1 (-1) (-1)
 let s:=(B k).sty
 { x with a0:=Fx.autoA i0 x.s0 (Fx.len (s.c 21) (s.c 22) i0 0) (Fx.len (s.c 17) (s.c 18) i0 0) (Fx.fixd (s.c 21) i0) (Fx.fixd (s.c 17) i0) }
def mblock (f:Nat) (z i0 i1:Int):List Ld × Int :=
 let b:=B z
 let ks:=b.fl.map (blkKid B lay i0 i1)
 let sz:=ks.map (·.s1)
 let tp:=b.fl.map fun k=>Fx.coll (meet B 0 f k)
 let bt:=b.fl.map fun k=>Fx.coll (meet B 1 f k)
 let first:=if opn b.sty b.ib 0=true then 0 else tp.getD 0 0
 let last:=if opn b.sty b.ib 1=true then 0 else bt.getD (bt.length - 1) 0
 (ks.mapIdx fun i x=>{ x with a1:=wr (first + Fx.stBeg sz tp bt i) },wr (wr (first + Fx.stEnd sz tp bt b.fl.length) + last))
def kex (i0:Int) (y:Nat) (k:Int):Int:=wr (mgs (B k).sty y i0 + eds (B k).sty y)
def kout (i0:Int) (y:Nat) (x:Ld):Int:=wr ((if y=0 then x.s0 else x.s1) + mgs (B x.id).sty y i0)
def left (i0 r gap:Int) (y:Nat) (ks:List Int):Int:=ks.foldl (fun a k=>wr (a - kex B i0 y k)) (wr (r - wr (gap * wr ((ks.length:Int) - 1))))
def flexed (i0 r gap:Int) (y:Nat) (it:Int→Fe.It) (ks:List Int):List Int:=sizes (fun i=>it (ks.getD i 0)) ks.length (left B i0 r gap y ks)
def rowIt (i0:Int) (k:Int):Fe.It:=asI (B k).sty 0 (Fx.len ((B k).sty.c 3) ((B k).sty.c 4) i0 ((B k).sty.c 53)) i0
def rowLine (z i0 i1 high:Int) (ks:List Int):List Ld × Int :=
 let s:=(B z).sty
 let sz:=flexed B i0 i0 (s.c 46) 0 (rowIt B i0) ks
 let xs:=ks.mapIdx fun i k=>lay k i0 i1 (wr (sz.getD i 0 + eds (B k).sty 0)) (-1)
 let deep:=if high = -1 then (xs.map (kout B i0 1)).foldl max 0 else high
 let ys:=if s.c 44=0 then xs.map fun x=>if fxd (B x.id).sty 1 i1=true then x else lay x.id i0 i1 x.s0 (wr (lim (B x.id).sty 1 (max (wr (deep - kex B i0 1 x.id)) 0) i1 + eds (B x.id).sty 1)) else xs
 let st:=Ju.starts (s.c 43) i0 (s.c 46) (ys.map (kout B i0 0))
 (ys.mapIdx fun i x=>{ x with a0:=wr (st i + mg (B x.id).sty 0 0 i0),a1:=wr (Ju.across (s.c 44) (kout B i0 1 x) deep + mg (B x.id).sty 1 0 i0) },deep)
def rowLines (z i0 i1 high:Int) (fl:List Int):Bool→Int→List (Nat × Nat)→List Ld × Int
 | _,y,[]=>([],y)
 | fst,y,p :: ps =>
   let y1:=if fst=true then y else wr (y + (B z).sty.c 46)
   let l:=rowLine B lay z i0 i1 high ((fl.drop p.1).take (p.2 - p.1))
   let r:=rowLines z i0 i1 high fl false (wr (y1 + l.2)) ps
   (l.1.map (fun x=>{ x with a1:=wr (x.a1 + y1) }) ++ r.1,r.2)
def mrow (z i0 i1:Int):List Ld × Int :=
 let b:=B z
 let br:=Li.brk i0 (b.sty.c 46) (b.sty.b 45) (b.fl.map fun k=>wr (Fe.clamp (rowIt B i0 k) (rowIt B i0 k).b + kex B i0 0 k))
 rowLines B lay z i0 i1 (if br.length=1 then i1 else -1) b.fl true 0 br
def colSet (z i0:Int) (k:Int):Int:=if fxd (B k).sty 0 i0=false∧(B z).sty.c 44≠0 then byc (B k).sty i0 else -1
def mcolumn (z i0 i1:Int):List Ld × Int :=
 let b:=B z
 let s:=b.sty
 let it:=fun k=>asI (B k).sty 1 (wr ((lay k i0 i1 (colSet B z i0 k) (-1)).s1 - eds (B k).sty 1)) i1
 let sz:=if i1 ≠ -1∧b.fl.length≤64 then flexed B i0 i1 (s.c 46) 1 it b.fl else b.fl.map fun k=>Fe.clamp (it k) (it k).b
 let xs:=b.fl.mapIdx fun i k=>lay k i0 i1 (colSet B z i0 k) (wr (sz.getD i 0 + eds (B k).sty 1))
 let long:=xs.map (kout B i0 1)
 let high:=Li.long (s.c 46) long
 let st:=Ju.starts (s.c 43) (if i1 = -1 then high else i1) (s.c 46) long
 (xs.mapIdx fun i x=>{ x with a0:=wr (Ju.across (s.c 44) (kout B i0 0 x) i0 + mg (B x.id).sty 0 0 i0),a1:=wr (st i + mg (B x.id).sty 1 0 i0) },high)
def mv1 (s:Re.St) (y:Nat) (r a:Int):Int:=if inF s y 0 r=true then wr (a + ins s y 0 r) else if inF s y 1 r=true then wr (a - ins s y 1 r) else a
def mv (i0 i1:Int) (x:Ld):Ld:=if (B x.id).sty.c 1=1 then { x with a0:=mv1 (B x.id).sty 0 i0 x.a0,a1:=mv1 (B x.id).sty 1 i1 x.a1 } else x
def kind (f:Nat) (z i0 i1:Int):List Ld × Int :=
 if (B z).sty.c 0=1 then mrow B lay z i0 i1 else if (B z).sty.c 0=2 then mcolumn B lay z i0 i1 else mblock B lay f z i0 i1
end
def cont (B:Int→Bx):Nat→Int→Int→Int→List Ld × Int
 | 0,z,i0,i1=>([],(B z).sty.c 54)
 | f + 1,z,i0,i1=>if (B z).fl=[] then ([],(B z).sty.c 54) else
  let c:=kind B (lay1 B (cont B f)) f z i0 i1
  (c.1.map (mv B i0 i1),c.2)
def lay (B:Int→Bx) (f:Nat):Int→Int→Int→Int→Int→Ld:=lay1 B (cont B f)
def cst (B:Int→Bx):Nat→Int→Nat
 | 0,_=>1
 | f + 1,z=>1 + 3 * ((B z).fl.map (cst B f)).sum
end Fw
end Go.Proofs.YteggipnplbkijaaGreat
