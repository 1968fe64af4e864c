/- Steps of the program (1); no conditions. -/
set_option linter.all false
set_option maxRecDepth 100000
set_option maxHeartbeats 400000
namespace Go.Proofs.YtdnggaapcgomhaaGreat
namespace Fx
variable {a b:Int}
def cut(n:Int):Int:=if 1099511627776<n then 1099511627776 else if n < -1099511627776 then -1099511627776 else n
def add(a b:Int):Int:=cut (cut a+cut b)
def sub(a b:Int):Int:=cut (cut a-cut b)
def mul(a b:Int):Int:=cut (cut a*cut b)
def div(a b:Int):Int:=if b<=0 then 0 else cut a/cut b
def parts(n:Int):Int:=if n<0 then 0 else if 1000000<n then 1000000 else n
def part(a n:Int):Int:=cut (cut a*parts n/10000)
def clamp(n lo hi:Int):Int:=if (if cut hi<cut n then cut hi else cut n)<cut lo then cut lo else (if cut hi<cut n then cut hi else cut n)
def sumTo(s:Int)(l:List Int):Int:=l.foldl add s
def sum(l:List Int):Int:=sumTo 0 l
theorem dU(n:Int):cut n<=1099511627776:=by unfold cut;split<;>(try split)<;>omega
theorem fU(n:Int) : -1099511627776<=cut n:=by unfold cut;split<;>(try split)<;>omega
theorem qo{n:Int}(a : -1099511627776<=n)(b:n<=1099511627776):cut n=n:=by unfold cut;split<;>(try split)<;>omega
theorem eT(n:Int):cut (cut n)=cut n:=qo (fU n) (dU n)
theorem WH(h:a<=b):cut a<=cut b:=by unfold cut;(repeat' split)<;>omega
theorem yx(n:Int):cut (-n) = -cut n:=by unfold cut;(repeat' split)<;>omega
theorem Rj{n:Int}(h:1<=n):1<=cut n:=by unfold cut;(repeat' split)<;>omega
theorem WI(n:Int):0<=parts n:=by unfold parts;split<;>(try split)<;>omega
theorem WJ(n:Int):parts n<=1000000:=by unfold parts;split<;>(try split)<;>omega
theorem zH(hb:1<=b)(h:a.tmod b<0):a.tdiv b-1=a/b:=by
 have e:=Int.mul_tdiv_add_tmod a b;have l:=Int.lt_tmod_of_pos a (show 0<b by omega);have:a=(b+a.tmod b)+b*(a.tdiv b-1):=by rw[Int.mul_sub];omega
 have u:=(Int.ediv_emod_unique (a:=a) (r:=b+a.tmod b) (q:=a.tdiv b-1) (show 0<b by omega)).2 ⟨this.symm,by omega,by omega⟩;exact u.1.symm
theorem zI(hb:1<=b)(h:0<=a.tmod b):a.tdiv b=a/b:=by
 have e:=Int.mul_tdiv_add_tmod a b;have l:=Int.tmod_lt_of_pos a (show 0<b by omega);have u:=(Int.ediv_emod_unique (a:=a) (r:=a.tmod b) (q:=a.tdiv b) (show 0<b by omega)).2 ⟨by omega,by omega,by omega⟩;exact u.1.symm
theorem aaU{a b c:Int}(hb:1<=b)(h0:0<=c)(h : -c<=a) : -c<=a/b:=by
 apply Int.le_ediv_of_mul_le (by omega);have:c*1<=c*b:=Int.mul_le_mul_of_nonneg_left hb h0;rw[Int.neg_mul];omega
theorem aaV{a b c:Int}(hb:1<=b)(h0:0<=c)(h:a<=c):a/b<=c:=by
 apply Int.ediv_le_of_le_mul (by omega);have:c*1<=c*b:=Int.mul_le_mul_of_nonneg_left hb h0;omega
theorem aaW(hb:1<=b)(h3 : -1152921504606846976<=a) : -1152921504606846976<=a.tdiv b:=by
 have:=aaU hb (by omega) h3;by_cases h:a.tmod b<0
 . have:=zH hb h;omega
 . have:=zI hb (by omega:0<=a.tmod b);omega
theorem tdiv_le(hb:1<=b)(h3:a<=1152921504606846976):a.tdiv b<=1152921504606846977:=by
 have:=aaV hb (by omega) h3;by_cases h:a.tmod b<0
 . have:=zH hb h;omega
 . have:=zI hb (by omega:0<=a.tmod b);omega
theorem KW(n:Int):clamp n 0 1000000=parts n:=by
 unfold clamp parts cut
 (repeat' split)<;>omega
theorem Cv(a n:Int) : -1152921504606846976<=cut a*parts n/\cut a*parts n<=1152921504606846976:=by
 have h1:=dU a;have h2:=fU a;have h3:=WI n;have h4:=WJ n;constructor
 . have:(-1099511627776)*parts n<=cut a*parts n:=Int.mul_le_mul_of_nonneg_right h2 h3
   omega
 . have:cut a*parts n<=1099511627776*parts n:=Int.mul_le_mul_of_nonneg_right h1 h3
   omega
theorem sum_nil:sum []=0:=rfl
def V8(n:Int):Int:=if n<0 then -n else n
theorem WK(a:Int):0<=V8 (cut a)/\V8 (cut a)<=1099511627776:=by
 have h1:=dU a;have h2:=fU a;unfold V8;split<;>omega
theorem aaX(a b:Int):mul a b=bif !(decide (cut a<0)==decide (cut b<0))then -cut (V8 (cut a)*V8 (cut b))else cut (V8 (cut a)*V8 (cut b)):=by
 unfold mul V8;by_cases ha:cut a<0<;>by_cases hb:cut b<0<;>simp[ha,hb,Int.neg_mul,Int.mul_neg,Int.neg_neg,yx]
theorem halves(a b:Int):a*b=(a/4294967296)*(b/4294967296)*18446744073709551616+((a/4294967296)*(b%4294967296)+(a%4294967296)*(b/4294967296))*4294967296+(a%4294967296)*(b%4294967296):=by
 generalize hx:a/4294967296=x;generalize hy:a%4294967296=y;generalize hz:b/4294967296=z;generalize hu:b%4294967296=u;have ea:a=x*4294967296+y:=by omega
 have eb:b=z*4294967296+u:=by omega
 rw[ea,eb];simp only[Int.add_mul,Int.mul_add];have e1:x*4294967296*(z*4294967296)=x*z*18446744073709551616:=by
  rw[Int.mul_assoc,Int.mul_left_comm (4294967296) z,<-Int.mul_assoc x z];congr 1
 have e2:x*4294967296*u=x*u*4294967296:=by rw[Int.mul_assoc,Int.mul_comm 4294967296 u,<-Int.mul_assoc]
 have e3:y*(z*4294967296)=y*z*4294967296:=by rw[<-Int.mul_assoc]
 rw[e1,e2,e3];omega
theorem zJ{x y c d:Int}(h1:0<=x)(h2:x<=c)(h3:0<=y)(h4:y<=d):0<=x*y/\x*y<=c*d :=
 ⟨Int.mul_nonneg h1 h3,Int.mul_le_mul h2 h4 h3 (by omega)⟩
theorem adE(x y:Nat)(hy:y<4294967296):x*4294967296 ||| y=x*4294967296+y:=by
 have:=Nat.shiftLeft_add_eq_or_of_lt (i:=32) (b:=y) (by simpa using hy) x;rw[Nat.shiftLeft_eq]at this;simpa using this.symm
theorem add_comm(a b:Int):add a b=add b a:=by unfold add;rw[Int.add_comm]
theorem mul_comm(a b:Int):mul a b=mul b a:=by unfold mul;rw[Int.mul_comm]
theorem GR{a:Int}:part a 0=0:=by
 unfold part;rw[show parts 0=0 from rfl,Int.mul_zero];rfl
theorem mul_neg(a b:Int):mul (-a) b = -mul a b:=by unfold mul;rw[yx,Int.neg_mul,yx]
theorem mul_zero(a:Int):mul a 0=0:=by unfold mul;rw[show cut 0=0 from rfl,Int.mul_zero];rfl
theorem mul_one(a:Int):mul a 1=cut a:=by unfold mul;rw[show cut 1=1 from rfl,Int.mul_one,eT]
theorem WL(a n:Int):cut (part a n)=part a n:=eT _
def eight(a b c:Int):List Int:=[cut a,add a b,sub a b,mul a b,div a b,part a b,clamp a b c,sum [a,b,c]]
def tot(l:List Int):Int:=l.foldr (· + ·) 0
end Fx
namespace Fx
variable {a b c d:Int}
def mn(a b:Int):Int:=if b<a then b else a
def mx(a b:Int):Int:=if a<b then b else a
def size(a b:Int):Int:=if 0<sub b a then sub b a else 0
def has(a b n:Int):Bool:=decide (a<=n)&&decide (n<b)
def ends(a b c d:Int):Bool:=decide (c<=a)&&decide (b<=d)
def lH(a b c d:Int):Int:=if mn b d<=mx a c then 0 else mx a c
def uU(a b c d:Int):Int:=if mn b d<=mx a c then 0 else mn b d
def OD(a b c d:Int):Int:=if b<=a then (if d<=c then 0 else c)else if d<=c then a else mn a c
def OE(a b c d:Int):Int:=if b<=a then (if d<=c then 0 else d)else if d<=c then b else mx b d
def inn(a b c d:Int):Bool:=decide (b<=a)||ends a b c d
def fit(a b c d:Int):Int:=if ends a b c d then 0 else if a<c\/size c d<size a b then sub c a else sub d b
theorem aaY(a b c d:Int):(decide (mn a c=c)&&decide (mx b d=d))=ends a b c d:=by
 unfold ends mn mx;rw[Bool.eq_iff_iff];simp;constructor
 . rintro⟨h1,h2⟩
   (repeat' split at h1)<;>(repeat' split at h2)<;>omega
 . rintro⟨h1,h2⟩
   (repeat' split)<;>omega
theorem add_plain{a b:Int}(h1 : -549755813888<=a)(h2:a<=549755813888)(h3 : -549755813888<=b)(h4:b<=549755813888):add a b=a+b:=by unfold add;rw[qo (n:=a) (by omega) (by omega),qo (n:=b) (by omega) (by omega),qo (by omega) (by omega)]
theorem Cw{a:Int}(h:0<=a):mx a 0=a:=by unfold mx;rw[if_neg (by omega)]
theorem aaZ(h1:c<=a)(h2:b<=d):ends a b c d=true:=by unfold ends;simp[h1,h2]
theorem KZ(h1:c<=a)(h2:b<=d):inn a b c d=true:=by unfold inn;rw[aaZ h1 h2];simp
theorem Rk:inn a b c d=true↔(b<=a\/(c<=a/\b<=d)):=by unfold inn ends;simp
end Fx
namespace Fx
variable {k n base none:Int}
def dD(k base:Int):Bool:=decide (k=1)||(decide (k=2)&&decide (0<=base))
def len(k n base none:Int):Int:=if k=1 then cut n else if k=2/\0<=base then part base n else cut none
def valid(k n:Int):Bool:=if k=0 then decide (n=0)else if k=1 then decide (n=cut n)else if k=2 then decide (0<=n)&&decide (n<=1000000)else false
def limit(n lk ln hk hn base:Int):Int:=mx (clamp n (len lk ln base (-1099511627776)) (len hk hn base 1099511627776)) 0
theorem WM{k base:Int}:dD k base=true↔k=1\/(k=2/\0<=base):=by unfold dD;simp
theorem WO{k base:Int}:dD k base=false↔k≠1/\(k=2->base<0):=by unfold dD;simp
theorem adF(h:k=1):len k n base none=cut n:=by unfold len;rw[if_pos h]
theorem aa0(h:k=2)(h2:0<=base):len k n base none=part base n:=by unfold len;rw[if_neg (by omega),if_pos ⟨h,h2⟩]
theorem aa1(h:dD k base=false):len k n base none=cut none:=by
 rw[WO]at h;unfold len;rw[if_neg h.1,if_neg (by omega)]
theorem I4(k n base none:Int):cut (len k n base none)=len k n base none:=by
 unfold len
 (repeat' split)
 . exact eT _
 . exact WL _ _
 . exact eT _
theorem WQ(k n base none:Int):len k n base none<=1099511627776:=by rw[<-I4];exact dU _
theorem GU(n lk ln hk hn base:Int):0<=limit n lk ln hk hn base:=by unfold limit mx;split<;>omega
theorem Tg(n lk ln hk hn base:Int):cut (limit n lk ln hk hn base)=limit n lk ln hk hn base:=by
 have l1:=dU n;have l2:=fU n;have l3:=WQ hk hn base 1099511627776;have l5:=WQ lk ln base (-1099511627776);refine qo (by have:=GU n lk ln hk hn base;omega) ?_;unfold limit clamp;rw[I4,I4];unfold mx;(repeat' split)<;>omega
def lv(k n v:Int):Prop:=if k=0 then v=0 else if k=1 then v=n else 0<=v
end Fx
end Go.Proofs.YtdnggaapcgomhaaGreat
namespace Go.Proofs.YtdnggaapcgomhaaGreat.Re
def rW(i:Nat):Bool:=i==45||i==47||i==51||i==52
structure St where
 c:Nat->Int
 b:Nat->Bool
def num(s:St)(i:Nat):Int:=if rW i=true then (if s.b i=true then 1 else 0)else s.c i
def inn(n lo hi:Int):Bool:=decide (lo<=n)&&decide (n<=hi)
def lens:List Nat:=[3,5,7,9,11,13,41,15,23,17,25,19,27,21,29]
def sizes:List Nat:=[46,53,54,31,35,32,36,33,37,34,38]
def fV(s:St):Bool:=inn (s.c 0) 0 3&&inn (s.c 1) 0 4&&inn (s.c 2) 0 2&&inn (s.c 43) 0 5&&inn (s.c 44) 0 3&&inn (s.c 49) 0 2&&inn (s.c 50) 0 3
def K6(s:St):Bool:=lens.all λi=>Fx.valid (s.c i) (s.c (i+1))
def Dj(s:St):Bool:=sizes.all λi=>inn (s.c i) 0 1048576
def valid(s:St):Bool:=fV s&&K6 s&&Dj s&&inn (s.c 39) 0 1000&&inn (s.c 40) 0 1000&&inn (s.c 48) (-1048576) 1048576
def zero:St:=⟨λ_=>0,λ_=>false⟩
def same(s t:St):Prop:=∀i,i<55->(if rW i=true then s.b i=t.b i else s.c i=t.c i)
theorem Rk{n lo hi:Int}:inn n lo hi=true↔lo<=n/\n<=hi:=by unfold inn;simp
theorem KP{s:St}{i:Nat}(h:rW i=false):num s i=s.c i:=by unfold num;rw[if_neg (by simp[h])]
theorem same.symm{s t:St}(h:same s t):same t s:=λi hi=>by
 have:=h i hi;by_cases e:rW i=true
 . rw[if_pos e]at this ⊢;exact this.symm
 . rw[if_neg e]at this ⊢;exact this.symm
theorem same.c{s t:St}(h:same s t)(i:Nat)(hi:i<55)(hb:rW i=false):s.c i=t.c i:=by
 have:=h i hi
 rwa [if_neg (by simp[hb])]at this
theorem same.b{s t:St}(h:same s t)(i:Nat)(hi:i<55)(hb:rW i=true):s.b i=t.b i:=by
 have:=h i hi
 rwa [if_pos hb]at this
theorem OG{s t:St}(h:same s t):valid s=valid t:=by
 unfold valid fV K6 Dj lens sizes;simp only[List.all_cons,List.all_nil]
 rw[h.c 0 (by decide) rfl,h.c 1 (by decide) rfl,h.c 2 (by decide) rfl,h.c 3 (by decide) rfl,h.c 4 (by decide) rfl,h.c 5 (by decide) rfl,h.c 6 (by decide) rfl,h.c 7 (by decide) rfl,h.c 8 (by decide) rfl,h.c 9 (by decide) rfl,
  h.c 10 (by decide) rfl,h.c 11 (by decide) rfl,h.c 12 (by decide) rfl,h.c 13 (by decide) rfl,h.c 14 (by decide) rfl,h.c 15 (by decide) rfl,h.c 16 (by decide) rfl,h.c 17 (by decide) rfl,h.c 18 (by decide) rfl,h.c 19 (by decide) rfl,
  h.c 20 (by decide) rfl,h.c 21 (by decide) rfl,h.c 22 (by decide) rfl,h.c 23 (by decide) rfl,h.c 24 (by decide) rfl,h.c 25 (by decide) rfl,h.c 26 (by decide) rfl,h.c 27 (by decide) rfl,h.c 28 (by decide) rfl,h.c 29 (by decide) rfl,
  h.c 30 (by decide) rfl,h.c 31 (by decide) rfl,h.c 32 (by decide) rfl,h.c 33 (by decide) rfl,h.c 34 (by decide) rfl,h.c 35 (by decide) rfl,h.c 36 (by decide) rfl,h.c 37 (by decide) rfl,h.c 38 (by decide) rfl,h.c 39 (by decide) rfl,
  h.c 40 (by decide) rfl,h.c 41 (by decide) rfl,h.c 42 (by decide) rfl,h.c 43 (by decide) rfl,h.c 44 (by decide) rfl,h.c 46 (by decide) rfl,h.c 48 (by decide) rfl,h.c 49 (by decide) rfl,h.c 50 (by decide) rfl,h.c 53 (by decide) rfl,h.c 54 (by decide) rfl]
end Go.Proofs.YtdnggaapcgomhaaGreat.Re
namespace Go.Proofs.YtdnggaapcgomhaaGreat
namespace Fx
open List renaming range → jb',foldl_cons → jc5
def top(l:List Int):Int:=l.foldl max 0
def bot(l:List Int):Int:=l.foldl min 0
def coll(l:List Int):Int:=add (top l) (bot l)
theorem WR(l:List Int)(x:Int):top (l++[x])=max (top l) x:=by simp[top]
theorem WS(l:List Int)(x:Int):bot (l++[x])=min (bot l) x:=by simp[bot]
theorem sI(l:List Int)(s x:Int):l.foldl max s<=x↔s<=x/\∀z∈l,z<=x:=by
 induction l generalizing s with
 | nil=>simp
 | cons y l ih =>
   rw[jc5,ih];constructor
   . rintro⟨h1,h2⟩
     exact⟨by omega,λz hz=>by rcases List.mem_cons.1 hz with rfl|hz;(· omega);exact h2 z hz⟩
   . rintro⟨h1,h2⟩
     exact⟨by have:=h2 y (by simp);omega,λz hz=>h2 z (by simp[hz])⟩
def shA(n:Int)(a b:Bool):Int:=if n<=0 then 0 else if a then (if b then n/2 else n)else 0
def shB(n:Int)(a b:Bool):Int:=if n<=0 then 0 else if b then (if a then sub n (n/2)else n)else 0
def left(room size f l:Int):Int:=sub (sub room size) (add f l)
def WT(room size f l:Int)(x y:Bool):Int:=add f (shA (left room size f l) (!x) (!y))
def afN(room size f l:Int)(x y:Bool):Int:=add l (shB (left room size f l) (!x) (!y))
theorem adG(a b:Int) : -1099511627776<=sub a b:=fU _
theorem sub_le(a b:Int):sub a b<=1099511627776:=dU _
def uV(s t b:List Int):Nat->Int
 | 0=>0
 | k+1=>add (if k=0 then 0 else add (uV s t b k) (coll [b.getD (k-1) 0,t.getD k 0])) (s.getD k 0)
def nV(s t b:List Int)(k:Nat):Int:=if k=0 then 0 else add (uV s t b k) (coll [b.getD (k-1) 0,t.getD k 0])
def uW(s t b:List Int)(n:Nat):List Int:=(jb' n).map (nV s t b)
theorem OH(s t b:List Int)(k:Nat):uV s t b (k+1)=add (nV s t b k) (s.getD k 0):=rfl
theorem OI(s t b:List Int):nV s t b 0=0:=rfl
theorem Ti(s t b:List Int){k:Nat}(h:0<k):nV s t b k=add (uV s t b k) (coll [b.getD (k-1) 0,t.getD k 0]):=by unfold nV;rw[if_neg (by omega)]
theorem qp(s t b:List Int)(n:Nat):(uW s t b n).length=n:=by simp[uW]
theorem Dk(s t b:List Int){n k:Nat}(h:k<n):(uW s t b n).getD k 0=nV s t b k:=by simp[uW,h]
end Fx
end Go.Proofs.YtdnggaapcgomhaaGreat
namespace Go.Proofs.YtdnggaapcgomhaaGreat.Tr
open List renaming mem_cons_of_mem → ja8,mem_cons_self → jb3,range → jb',foldl_cons → jc5,cons_append → jd1
variable {x a:Int}{l:List Int}{f i n:Nat}
structure Nd where
 up:Int
 kids:List Int
 sty:Re.St
abbrev T:=Int->Option Nd
def set(t:T)(x:Int)(n:Nd):T:=λy=>if y=x then some n else t y
def del(t:T)(l:List Int):T:=λy=>if y∈l then none else t y
theorem aP(t:T)(x:Int)(n:Nd):set t x n x=some n:=by simp[set]
theorem aK(t:T){x y:Int}(n:Nd)(h:y≠x):set t x n y=t y:=by simp[set,h]
inductive Dp(t:T):Int->Nat->Prop
 | root {nd:Nd}:t 0=some nd->Dp t 0 0
 | step {x:Int} {nd:Nd} {n:Nat}:t x=some nd->x≠0->Dp t nd.up n->Dp t x (n+1)
inductive FI(t:T)(a:Int):Int->Prop
 | refl {nd:Nd}:t a=some nd->FI t a a
 | step {x:Int} {nd:Nd}:t x=some nd->x≠0->FI t a nd.up->FI t a x
structure WF(t:T):Prop where
 root:∃nd,t 0=some nd/\nd.up = -1
 range:∀x nd,t x=some nd->0<=x/\x<4096
 up:∀x nd,t x=some nd->x≠0->∃p,t nd.up=some p/\x∈p.kids
 kid:∀u p x,t u=some p->x∈p.kids->x≠0/\∃nd,t x=some nd/\nd.up=u
 nodup:∀u p,t u=some p->p.kids.Nodup
 deep:∀x nd,t x=some nd->∃n,n<=63/\Dp t x n
def sub(t:T):Nat->Int->List Int
 | 0,_=>[]
 | f+1,x=>match t x with
   | none=>[]
   | some nd=>x::nd.kids.flatMap (sub t f)
def hgt(t:T):Nat->Int->Nat
 | 0,_=>0
 | f+1,x=>match t x with
   | none=>0
   | some nd=>nd.kids.foldl (λm k=>max m (1+hgt t f k)) 0
def Fit(t:T):Nat->Int->Prop
 | 0,_=>False
 | f+1,x=>∃nd,t x=some nd/\∀k∈nd.kids,Fit t f k
def ord(t:T):List Int:=sub t 64 0
theorem fG{t:T}{nd:Nd}(h:t x=some nd):sub t (f+1) x=x::nd.kids.flatMap (sub t f):=by simp[sub,h]
theorem ny{t:T}{nd:Nd}(h:t x=some nd):hgt t (f+1) x=nd.kids.foldl (λm k=>max m (1+hgt t f k)) 0:=by simp[hgt,h]
theorem Dp.live{t:T}(h:Dp t x n):∃nd,t x=some nd:=by cases h with|root h=>exact⟨_,h⟩|step h _ _=>exact⟨_,h⟩
theorem FI.live{t:T}{a x:Int}(h:FI t a x):∃nd,t x=some nd:=by cases h with|refl h=>exact⟨_,h⟩|step h _ _=>exact⟨_,h⟩
theorem Dp.WU{t:T}{m n:Nat}(h:Dp t x m)(k:Dp t x n):m=n:=by
 induction h generalizing n with
 | root h=>cases k with|root _=>rfl|step _ h0 _=>exact absurd rfl h0
 | step h h0 _ ih =>
   cases k with
   | root _=>exact absurd rfl h0
   | step h' _ k'=>rw[h]at h';cases h';rw[ih k']
theorem FI.trans{t:T}{a b x:Int}(h:FI t a b)(k:FI t b x):FI t a x:=by
 induction k with
 | refl _=>exact h
 | step h1 h0 _ ih=>exact .step h1 h0 ih
theorem FI.le{t:T}{a x:Int}{m n:Nat}(h:FI t a x)(ha:Dp t a m)(hx:Dp t x n):m<=n/\(m=n->a=x):=by
 induction h generalizing n with
 | refl _=>exact⟨Nat.le_of_eq (ha.WU hx),λ_=>rfl⟩
 | step h1 h0 _ ih =>
   cases hx with
   | root _=>exact absurd rfl h0
   | step h' _ k' =>
     rw[h1]at h';cases h';have:=(ih k').1;exact⟨by omega,λe=>by omega⟩
theorem FI.uniq{t:T}{a b x:Int}{m n:Nat}(h:FI t a x)(k:FI t b x)(ha:Dp t a m)(hb:Dp t b m)(hx:Dp t x n):a=b:=by
 induction h generalizing n with
 | refl _=>obtain rfl:=ha.WU hx;exact((k.le hb hx).2 rfl).symm
 | step h1 h0 h2 ih =>
   cases k with
   | refl _=>obtain rfl:=hb.WU hx;exact((FI.step h1 h0 h2).le ha hx).2 rfl
   | step h' _ k' =>
     rw[h1]at h';cases h';cases hx with
     | root _=>exact absurd rfl h0
     | step h'' _ hx'=>rw[h1]at h'';cases h'';exact ih k' hx'
section
variable {t:T} (H:WF t)
include H
theorem WF.qR{u x:Int}{p:Nd}(hu:t u=some p)(hx:x∈p.kids)(hd:Dp t u n):Dp t x (n+1):=by
 obtain⟨h0,nd,h1,rfl⟩:=H.kid u p x hu hx;exact .step h1 h0 hd
theorem WF.WV{u x:Int}{p:Nd}(hu:t u=some p)(hx:x∈p.kids):FI t u x:=by
 obtain⟨h0,nd,h1,rfl⟩:=H.kid u p x hu hx;exact .step h1 h0 (.refl hu)
theorem WF.aa2(h:Dp t x n):n<=63:=by
 obtain⟨nd,h1⟩:=h.live;obtain⟨m,hm,hd⟩:=H.deep x nd h1;rw[h.WU hd];exact hm
theorem WF.fit(h:Dp t x n):∀f,64<=n+f->Fit t f x:=by
 intro f
 induction f generalizing x n with
 | zero=>intro hf;have:=H.aa2 h;omega
 | succ f ih =>
   intro hf;obtain⟨nd,h1⟩:=h.live;exact⟨nd,h1,λk hk=>ih (H.qR h1 hk h) (by omega)⟩
theorem WF.gD{nd:Nd}(h:t x=some nd):Fit t 64 x:=by
 obtain⟨n,_,hd⟩:=H.deep x nd h;exact H.fit hd 64 (by omega)
theorem WF.aiC{nd:Nd}(h:t x=some nd):FI t 0 x:=by
 obtain⟨n,h63,hd⟩:=H.deep x nd h;clear h h63
 induction hd with
 | root h=>exact .refl h
 | step h h0 _ ih=>exact .step h h0 ih
theorem WF.up_down{a x:Int}(h:FI t a x):x=a\/∃p k,t a=some p/\k∈p.kids/\FI t k x:=by
 induction h with
 | refl _=>exact .inl rfl
 | step h1 h0 _ ih =>
   rename_i x nd _
   rcases ih with e|⟨p,k,hp,hk,ha⟩
   . obtain⟨p,hp,hx⟩:=H.up x nd h1 h0
     exact .inr ⟨p,x,e▸hp,hx,.refl h1⟩
   . exact .inr ⟨p,k,hp,hk,.step h1 h0 ha⟩
theorem WF.fZ{a x:Int}(hf:Fit t f a):x∈sub t f a↔FI t a x:=by
 induction f generalizing a with
 | zero=>exact hf.elim
 | succ f ih =>
   obtain⟨nd,h1,hk⟩:=hf;rw[fG h1,List.mem_cons,List.mem_flatMap];constructor
   . rintro(rfl|⟨k,hkm,hx⟩)
     . exact .refl h1
     . exact(H.WV h1 hkm).trans ((ih (hk k hkm)).1 hx)
   . intro h
     rcases H.up_down h with rfl|⟨p,k,hp,hkm,ha⟩
     . exact .inl rfl
     . rw[h1]at hp;cases hp
       exact .inr ⟨k,hkm,(ih (hk k hkm)).2 ha⟩
theorem WF.zK(hf:Fit t f a):(sub t f a).Nodup:=by
 induction f generalizing a with
 | zero=>exact hf.elim
 | succ f ih =>
   obtain⟨nd,h1,hk⟩:=hf;obtain⟨n,_,hd⟩:=H.deep a nd h1;rw[fG h1,List.nodup_cons];refine⟨λhm => ?_,?_⟩
   . obtain⟨k,hkm,hx⟩:=List.mem_flatMap.1 hm
     have:=(((H.fZ (hk k hkm)).1 hx).le (H.qR h1 hkm hd) hd).1;omega
   . refine List.pairwise_flatMap.2 ⟨λk hkm=>ih (hk k hkm),?_⟩
     have hq:∀l:List Int,(∀k∈l,k∈nd.kids)->l.Nodup->l.Pairwise (λa₁ a₂=>∀x∈sub t f a₁,∀y∈sub t f a₂,x≠y):=by
      intro l
      induction l with
      | nil=>intro _ _;exact .nil
      | cons k l ihl =>
        intro hl hn;refine .cons (λk' hk' x hx y hy e => ?_) (ihl (λj hj=>hl j (ja8 _ hj)) (List.nodup_cons.1 hn).2);subst e;have m1:=hl k jb3;have m2:=hl k' (ja8 _ hk');have a1:=(H.fZ (hk k m1)).1 hx;have a2:=(H.fZ (hk k' m2)).1 hy;obtain⟨ndx,hlx⟩:=a1.live;obtain⟨q,_,OJ⟩:=H.deep x ndx hlx;have e:=a1.uniq a2 (H.qR h1 m1 hd) (H.qR h1 m2 hd) OJ;exact(List.nodup_cons.1 hn).1 (e▸hk')
     exact hq nd.kids (λ_ h=>h) (H.nodup a nd h1)
theorem WF.uH:Fit t 64 0:=by
 obtain⟨nd,h,_⟩:=H.root;exact H.gD h
theorem WF.fB:x∈ord t↔∃nd,t x=some nd:=by
 rw[ord,H.fZ H.uH];exact⟨λh=>h.live,λ⟨nd,h⟩=>H.aiC h⟩
theorem WF.iD:(ord t).Nodup:=H.zK H.uH
omit H in
theorem sJ(hn:l.Nodup)(hr:∀x∈l,0<=x/\x<4096):l.length<=4096:=by
 have hs:l ⊆ (jb' 4096).map (λn:Nat=>(n:Int)):=λx hx=>by
  obtain⟨h0,h1⟩:=hr x hx;exact List.mem_map.2 ⟨x.toNat,List.mem_range.2 (by omega),by omega⟩
 have:=hn.length_le_of_subset hs;simpa using this
theorem WF.sK{nd:Nd}(h:t x=some nd):nd.kids.length<=4096 :=
 sJ (H.nodup x nd h) λk hk=>by
  obtain⟨_,kd,h1,_⟩:=H.kid x nd k h hk;exact H.range k kd h1
theorem WF.iE:(ord t).length<=4096:=sJ H.iD λx hx=>by
 obtain⟨nd,h⟩:=H.fB.1 hx;exact H.range x nd h
theorem WF.behind(hf:Fit t f a):∀l1 x l2,sub t f a=l1++x::l2->(l1=[]/\x=a)\/∃nd,t x=some nd/\x≠0/\nd.up∈l1:=by
 induction f generalizing a with
 | zero=>exact hf.elim
 | succ f ih =>
   intro l1 x l2 he;obtain⟨nd,h1,hk⟩:=hf;rw[fG h1]at he;cases l1 with
   | nil=>simp only[List.nil_append,List.cons.injEq]at he;exact .inl ⟨rfl,he.1.symm⟩
   | cons y l1 =>
     simp only[jd1,List.cons.injEq]at he;obtain⟨rfl,he⟩:=he;right;have key:∀ks:List Int,(∀k∈ks,k∈nd.kids)->∀l1,ks.flatMap (sub t f)=l1++x::l2->∃xd,t x=some xd/\x≠0/\(xd.up=a\/xd.up∈l1):=by
      intro ks
      induction ks with
      | nil=>intro _ l1 he;simp at he
      | cons k ks ihk =>
        intro hks l1 he;rw[List.flatMap_cons,List.append_eq_append_iff]at he;have hkm:=hks k jb3;rcases he with⟨as,e1,e2⟩|⟨bs,e1,e2⟩
        . obtain⟨xd,h2,h0,h3⟩:=ihk (λj hj=>hks j (ja8 _ hj)) as e2
          exact⟨xd,h2,h0,h3.imp_right λh=>by rw[e1];exact List.mem_append_right _ h⟩
        . cases bs with
          | nil =>
            simp only[List.nil_append]at e2;obtain⟨xd,h2,h0,h3⟩:=ihk (λj hj=>hks j (ja8 _ hj)) [] (by rw[<-e2];rfl);exact⟨xd,h2,h0,h3.imp_right λh=>by cases h⟩
          | cons z bs =>
            simp only[jd1,List.cons.injEq]at e2;obtain⟨rfl,e2⟩:=e2;rcases ih (hk k hkm) l1 x bs e1 with⟨rfl,rfl⟩|⟨xd,h2,h0,h3⟩
            . obtain⟨h0,xd,h2,h3⟩:=H.kid a nd x h1 hkm
              exact⟨xd,h2,h0,.inl h3⟩
            . exact⟨xd,h2,h0,.inr h3⟩
     obtain⟨xd,h2,h0,h3⟩:=key nd.kids (λ_ h=>h) l1 he;exact⟨xd,h2,h0,by rcases h3 with h3|h3<;>simp[h3]⟩
end
theorem Fit.mono{t:T}(h:Fit t f x):∀g,f<=g->Fit t g x/\sub t g x=sub t f x/\hgt t g x=hgt t f x:=by
 induction f generalizing x with
 | zero=>exact h.elim
 | succ f ih =>
   intro g hg;obtain⟨nd,h1,hk⟩:=h;obtain⟨g,rfl⟩:∃g',g=g'+1:=⟨g-1,by omega⟩;refine⟨⟨nd,h1,λk hkm=>(ih (hk k hkm) g (by omega)).1⟩,?_,?_⟩
   . rw[fG h1,fG h1]
     congr 1;rw[List.flatMap_def,List.flatMap_def];congr 1;exact List.map_congr_left λk hkm=>(ih (hk k hkm) g (by omega)).2.1
   . rw[ny h1,ny h1]
     have e:∀(ks:List Int) (m:Nat),(∀k∈ks,k∈nd.kids)->ks.foldl (λm k=>max m (1+hgt t g k)) m=ks.foldl (λm k=>max m (1+hgt t f k)) m:=by
      intro ks
      induction ks with
      | nil=>intro _ _;rfl
      | cons k ks ihk =>
        intro m hks;simp only[jc5];rw[(ih (hk k (hks k jb3)) g (by omega)).2.2];exact ihk _ λj hj=>hks j (ja8 _ hj)
     exact e nd.kids 0 λ_ h=>h
theorem Fit.congr{t s:T}(hf:Fit t f a)(hs:∀x∈sub t f a,∀nd,t x=some nd->∃nd',s x=some nd'/\nd'.kids=nd.kids):Fit s f a/\sub s f a=sub t f a/\hgt s f a=hgt t f a:=by
 induction f generalizing a with
 | zero=>exact hf.elim
 | succ f ih =>
   obtain⟨nd,h1,hk⟩:=hf;rw[fG h1]at hs ⊢;obtain⟨nd',h2,he⟩:=hs a jb3 nd h1;have hk':∀k∈nd.kids,Fit s f k/\sub s f k=sub t f k/\hgt s f k=hgt t f k:=λk hkm=>ih (hk k hkm) λx hx=>hs x (ja8 _ (List.mem_flatMap.2 ⟨k,hkm,hx⟩));refine⟨⟨nd',h2,λk hkm=>(hk' k (he▸hkm)).1⟩,?_,?_⟩
   . rw[fG h2,he]
     congr 1;rw[List.flatMap_def,List.flatMap_def];congr 1;exact List.map_congr_left λk hkm=>(hk' k hkm).2.1
   . rw[ny h2,ny h1,he]
     have e:∀(ks:List Int) (m:Nat),(∀k∈ks,k∈nd.kids)->ks.foldl (λm k=>max m (1+hgt s f k)) m=ks.foldl (λm k=>max m (1+hgt t f k)) m:=by
      intro ks
      induction ks with
      | nil=>intro _ _;rfl
      | cons k ks ihk =>
        intro m hks;simp only[jc5];rw[(hk' k (hks k jb3)).2.2];exact ihk _ λj hj=>hks j (ja8 _ hj)
     exact e nd.kids 0 λ_ h=>h
theorem sI{f:Int->Nat}{ks:List Int}:∀{m B:Nat},ks.foldl (λm k=>max m (1+f k)) m<=B↔m<=B/\∀k∈ks,1+f k<=B:=by
 induction ks with
 | nil=>intro m B;simp
 | cons k ks ih =>
   intro m B;simp only[jc5,ih,List.forall_mem_cons,Nat.max_le];exact⟨λh=>⟨h.1.1,h.1.2,h.2⟩,λh=>⟨⟨h.1,h.2.1⟩,h.2.2⟩⟩
theorem FR{f:Int->Nat}{ks:List Int}:∀{m:Nat},ks.foldl (λm k=>max m (1+f k)) m=m\/∃k∈ks,ks.foldl (λm k=>max m (1+f k)) m=1+f k:=by
 induction ks with
 | nil=>intro m;exact .inl rfl
 | cons k ks ih =>
   intro m;simp only[jc5];rcases ih (m:=max m (1+f k))with h|⟨j,hj,h⟩
   . rcases Nat.le_total (1+f k) m with h2|h2
     . left;rw[h];omega
     . right;exact⟨k,jb3,by rw[h];omega⟩
   . exact .inr ⟨j,ja8 _ hj,h⟩
theorem WF.WW{t:T}(H:WF t){a x:Int}{n m:Nat}(hf:Fit t f a)(ha:Dp t a n)(hx:x∈sub t f a)(hd:Dp t x m):m<=n+hgt t f a:=by
 induction f generalizing a n with
 | zero=>exact hf.elim
 | succ f ih =>
   obtain⟨nd,h1,hk⟩:=hf;rw[fG h1,List.mem_cons,List.mem_flatMap]at hx;rw[ny h1];rcases hx with rfl|⟨k,hkm,hx⟩
   . rw[hd.WU ha];omega
   . have h2:=ih (hk k hkm) (H.qR h1 hkm ha) hx
     have h3:=(sI (f:=hgt t f) (ks:=nd.kids) (m:=0)).1 (Nat.le_refl _);have h4:=h3.2 k hkm;omega
theorem WF.Rl{t:T}(H:WF t)(hf:Fit t f a)(ha:Dp t a n):∃x∈sub t f a,Dp t x (n+hgt t f a):=by
 induction f generalizing a n with
 | zero=>exact hf.elim
 | succ f ih =>
   obtain⟨nd,h1,hk⟩:=hf;rw[fG h1,ny h1];rcases FR (f:=hgt t f) (ks:=nd.kids) (m:=0)with h|⟨k,hkm,h⟩
   . rw[h];exact⟨a,jb3,ha⟩
   . rw[h]
     obtain⟨x,hx,hd⟩:=ih (hk k hkm) (H.qR h1 hkm ha);exact⟨x,ja8 _ (List.mem_flatMap.2 ⟨k,hkm,hx⟩),by rw[show n+(1+hgt t f k)=n+1+hgt t f k by omega];exact hd⟩
def wo(l:List Int)(x:Int):List Int:=l.filter λy=>y != x
def wi(l:List Int)(i:Nat)(x:Int):List Int:=l.take i++x::l.drop i
theorem xG{x y:Int}:y∈wo l x↔y∈l/\y≠x:=by simp[wo]
theorem OL{x y:Int}:y∈wi l i x↔y=x\/y∈l:=by
 have:y∈l↔y∈l.take i\/y∈l.drop i:=by rw[<-List.mem_append,List.take_append_drop]
 simp only[wi,List.mem_append,List.mem_cons,this];constructor
 . rintro(h|h|h)
   . exact .inr (.inl h)
   . exact .inl h
   . exact .inr (.inr h)
 . rintro(h|h|h)
   . exact .inr (.inl h)
   . exact .inl h
   . exact .inr (.inr h)
theorem Dl(h:l.Nodup)(x:Int):(wo l x).Nodup:=h.filter _
theorem K8(h:l.Nodup)(i:Nat)(hx:x ∉ l):(wi l i x).Nodup:=by
 have h2:(l.take i++l.drop i).Nodup:=by rw[List.take_append_drop];exact h
 rw[List.nodup_append]at h2;rw[wi,List.nodup_append];refine⟨h2.1,List.nodup_cons.2 ⟨λhm=>hx (List.mem_of_mem_drop hm),h2.2.1⟩,λa ha b hb => ?_⟩;rcases List.mem_cons.1 hb with rfl|hb
 . exact λe=>hx (e▸List.mem_of_mem_take ha)
 . exact h2.2.2 a ha b hb
theorem lD(l:List Int)(i:Nat)(x:Int):(wi l i x).length=l.length+1:=by simp[wi];omega
theorem uX(h:x ∉ l):wo l x=l:=List.filter_eq_self.2 λy hy=>by simp;rintro rfl;exact h hy
theorem acZ(h:x ∉ l)(i:Nat):wo (wi l i x) x=l:=by
 have h1:wo (l.take i) x=l.take i:=uX λhm=>h (List.mem_of_mem_take hm);have h2:wo (l.drop i) x=l.drop i:=uX λhm=>h (List.mem_of_mem_drop hm);unfold wo at *;rw[wi,List.filter_append,List.filter_cons,h1,h2];simp
theorem WX(h:l.Nodup)(hi:l[i]? = some x):wo l x=l.take i++l.drop (i+1):=by
 obtain⟨hlt,he⟩:=List.getElem?_eq_some_iff.1 hi;have hs:l=l.take i++x::l.drop (i+1):=by rw[<-he,<-List.drop_eq_getElem_cons hlt,List.take_append_drop]
 have hn:=h;rw[hs,List.nodup_append]at hn;have h1:x ∉ l.take i:=λhm=>hn.2.2 x hm x jb3 rfl;have h2:x ∉ l.drop (i+1):=(List.nodup_cons.1 hn.2.1).1;have e1:wo (l.take i) x=l.take i:=uX h1;have e2:wo (l.drop (i+1)) x=l.drop (i+1):=uX h2
 conv=>lhs;rw[hs]
 unfold wo at *;rw[List.filter_append,List.filter_cons,e1,e2];simp
theorem afO(h:l.Nodup)(hi:l[i]? = some x):wi (wo l x) i x=l:=by
 rw[WX h hi,wi];obtain⟨hlt,he⟩:=List.getElem?_eq_some_iff.1 hi;have hl:(l.take i).length=i:=by simp;omega
 rw[List.take_append_of_le_length (by omega),List.take_of_length_le (by omega),List.drop_append_of_le_length (by omega),List.drop_of_length_le (by omega),List.nil_append,<-he,<-List.drop_eq_getElem_cons hlt,List.take_append_drop]
theorem GV(h:l.Nodup)(hx:x∈l):(wo l x).length+1=l.length:=by
 obtain⟨i,hi,he⟩:=List.mem_iff_getElem.1 hx;rw[WX h (List.getElem?_eq_some_iff.2 ⟨hi,he⟩)];simp;omega
def leave(t:T)(x:Int):T:=match t x with
 | none=>t
 | some nd=>match t nd.up with
   | none=>t
   | some p=>set t nd.up { p with kids:=wo p.kids x }
def enter(t:T)(x u:Int)(i:Nat):T:=match t u,t x with
 | some p,some nd=>set (set t u { p with kids:=wi p.kids i x }) x { nd with up:=u }
 | _,_=>t
def nX(t:T)(x u:Int)(i:Nat):T:=enter (set t x ⟨0,[],Re.zero⟩) x u i
def Dm(t:T)(x:Int):T:=del (leave t x) (sub t 64 x)
def j3(t:T)(x u:Int)(i:Nat):T:=enter (leave t x) x u i
def FT(t:T)(x:Int)(s:Re.St):T:=match t x with
 | none=>t
 | some nd=>set t x { nd with sty:=s }
def Alike(t s:T):Prop:=∀x,(t x).map (λn=>(n.up,n.kids))=(s x).map (λn=>(n.up,n.kids))
theorem Alike.some{t s:T}(h:Alike t s){nd:Nd}(hx:t x=some nd):∃nd',s x=Option.some nd'/\nd'.up=nd.up/\nd'.kids=nd.kids:=by
 have:=h x;rw[hx]at this;cases hs:s x with
 | none=>rw[hs]at this;cases this
 | some nd'=>rw[hs]at this;simp at this;exact⟨nd',rfl,this.1.symm,this.2.symm⟩
theorem Alike.symm{t s:T}(h:Alike t s):Alike s t:=λx=>(h x).symm
theorem Alike.dp{t s:T}(h:Alike t s)(hd:Dp t x n):Dp s x n:=by
 induction hd with
 | root h0=>obtain⟨nd',h1,_⟩:=h.some h0;exact .root h1
 | step h1 h0 _ ih=>obtain⟨nd',h2,h3,_⟩:=h.some h1;exact .step h2 h0 (h3▸ih)
theorem WF.alike{t s:T}(H:WF t)(h:Alike t s):WF s where
 root:=by obtain⟨nd,h1,h2⟩:=H.root;obtain⟨nd',h3,h4,_⟩:=h.some h1;exact⟨nd',h3,h4.trans h2⟩
 range:=λx nd hx=>by obtain⟨nd',h1,_⟩:=h.symm.some hx;exact H.range x nd' h1
 up:=λx nd hx h0=>by
  obtain⟨nd',h1,h2,_⟩:=h.symm.some hx;obtain⟨p,h3,h4⟩:=H.up x nd' h1 h0;obtain⟨p',h5,_,h6⟩:=h.some h3;exact⟨p',h2▸h5,h6▸h4⟩
 kid:=λu p x hu hx=>by
  obtain⟨p',h1,_,h2⟩:=h.symm.some hu;obtain⟨h0,nd,h3,h4⟩:=H.kid u p' x h1 (h2▸hx);obtain⟨nd',h5,h6,_⟩:=h.some h3;exact⟨h0,nd',h5,h6.trans h4⟩
 nodup:=λu p hu=>by obtain⟨p',h1,_,h2⟩:=h.symm.some hu;exact h2▸H.nodup u p' h1
 deep:=λx nd hx=>by
  obtain⟨nd',h1,_⟩:=h.symm.some hx;obtain⟨n,hn,hd⟩:=H.deep x nd' h1;exact⟨n,hn,h.dp hd⟩
theorem Tj(t:T)(x:Int)(s:Re.St):Alike t (FT t x s):=λy=>by
 unfold FT;cases h:t x with
 | none=>rfl
 | some nd =>
   show _=Option.map _ (set t x { nd with sty:=s } y);by_cases e:y=x
   . subst e;rw[aP,h];rfl
   . rw[aK t _ e]
theorem I5{t:T}{x u:Int}{p:Nd}(hu:t u=some p)(hx:t x=none)(y:Int) :
  nX t x u i y=if y=x then some ⟨u,[],Re.zero⟩else if y=u then some { p with kids:=wi p.kids i x }else t y:=by
 have hne:u≠x:=by rintro rfl;rw[hu]at hx;cases hx
 unfold nX enter;rw[aK t _ hne,hu,aP];show set _ x _ y=_;by_cases e:y=x
 . subst e;rw[if_pos rfl];simp only[aP]
 . rw[if_neg e,aK _ _ e]
   by_cases e2:y=u
   . subst e2;rw[if_pos rfl,aP]
   . rw[if_neg e2,aK _ _ e2,aK _ _ e]
theorem WF.add{t:T}(H:WF t){x u:Int}{p:Nd}(hu:t u=some p)(hx:t x=none)(hr:0<=x/\x<4096)(hd:Dp t u n)(hn:n<=62):WF (nX t x u i):=by
 have hxl:∀y q,t y=some q->y≠x:=λy q h e=>by rw[e,hx]at h;cases h
 have hnk:∀y q,t y=some q->x ∉ q.kids:=λy q h hm=>by obtain⟨_,nd,h2,_⟩:=H.kid y q x h hm;rw[hx]at h2;cases h2
 have A:=λy=>I5 (i:=i) hu hx y
 have old:∀y q,t y=some q->∃q',nX t x u i y=some q'/\q'.up=q.up/\(∀k,k∈q'.kids↔k∈q.kids\/(y=u/\k=x))/\q'.kids.Nodup:=λy q h=>by
  rw[A y,if_neg (hxl y q h)];by_cases e:y=u
  . subst e
    rw[h]at hu;cases hu;rw[if_pos rfl];exact⟨_,rfl,rfl,λk=>by simp only[OL,true_and,or_comm],K8 (H.nodup _ _ h) _ (hnk _ _ h)⟩
  . rw[if_neg e,h]
    exact⟨q,rfl,rfl,λk=>by simp[e],H.nodup _ _ h⟩
 have new:nX t x u i x=some ⟨u,[],Re.zero⟩:=by rw[A x,if_pos rfl]
 have back:∀y q',nX t x u i y=some q'->(y=x/\q'=⟨u,[],Re.zero⟩)\/∃q,t y=some q/\q'.up=q.up/\(∀k,k∈q'.kids↔k∈q.kids\/(y=u/\k=x))/\q'.kids.Nodup:=λy q' h=>by
  by_cases e:y=x
  . subst e;rw[new]at h;cases h;exact .inl ⟨rfl,rfl⟩
  . right
    cases hy:t y with
    | none =>
      rw[A y,if_neg e]at h;by_cases e2:y=u
      . subst e2;rw[hy]at hu;cases hu
      . rw[if_neg e2,hy]at h;cases h
    | some q =>
      obtain⟨q'',h1,h2⟩:=old y q hy;rw[h]at h1;cases h1;exact⟨q,rfl,h2⟩
 have dp:∀{y:Int} {m:Nat},Dp t y m->Dp (nX t x u i) y m:=λ{y m} h=>by
  induction h with
  | root h0=>obtain⟨q',h1,_⟩:=old _ _ h0;exact .root h1
  | step h1 h0 _ ih=>obtain⟨q',h2,h3,_⟩:=old _ _ h1;exact .step h2 h0 (h3▸ih)
 have hx0:x≠0:=λe=>by obtain⟨nd,h,_⟩:=H.root;exact hxl 0 nd h e.symm
 refine⟨?_,?_,?_,?_,?_,?_⟩
 . obtain⟨nd,h,h2⟩:=H.root
   obtain⟨q',h3,h4,_⟩:=old 0 nd h;exact⟨q',h3,h4.trans h2⟩
 . intro y nd h
   rcases back y nd h with⟨rfl,_⟩|⟨q,h2,_⟩
   . exact hr
   . exact H.range y q h2
 . intro y nd h h0
   rcases back y nd h with⟨rfl,rfl⟩|⟨q,h2,h3,_⟩
   . obtain⟨q',h3,_,h4,_⟩:=old u p hu
     exact⟨q',h3,(h4 y).2 (.inr ⟨rfl,rfl⟩)⟩
   . obtain⟨r,h4,h5⟩:=H.up y q h2 h0
     obtain⟨r',h6,_,h7,_⟩:=old _ r h4;exact⟨r',h3▸h6,(h7 y).2 (.inl h5)⟩
 . intro v q' y h hy
   rcases back v q' h with⟨rfl,rfl⟩|⟨q,h2,h3,h4,_⟩
   . cases hy
   . rcases(h4 y).1 hy with h5|⟨rfl,rfl⟩
     . obtain⟨h0,nd,h6,h7⟩:=H.kid v q y h2 h5
       obtain⟨nd',h8,h9,_⟩:=old y nd h6;exact⟨h0,nd',h8,h9.trans h7⟩
     . exact⟨hx0,_,new,rfl⟩
 . intro v q' h
   rcases back v q' h with⟨rfl,rfl⟩|⟨q,h2,h3,h4,h5⟩
   . exact .nil
   . exact h5
 . intro y nd h
   rcases back y nd h with⟨rfl,rfl⟩|⟨q,h2,_⟩
   . exact⟨n+1,by omega,.step new hx0 (dp hd)⟩
   . obtain⟨m,hm,h3⟩:=H.deep y q h2
     exact⟨m,hm,dp h3⟩
theorem WF.aa3{t:T}(H:WF t){x u:Int}{p:Nd}(hu:t u=some p)(hx:t x=none)(H':WF (nX t x u i)):(ord (nX t x u i)).length=(ord t).length+1:=by
 have hp:(ord (nX t x u i)).Perm (x::ord t):=by
  refine(List.perm_ext_iff_of_nodup H'.iD (List.nodup_cons.2 ⟨λhm => ?_,H.iD⟩)).2 λy => ?_
  . obtain⟨nd,h⟩:=H.fB.1 hm;rw[hx]at h;cases h
  . rw[H'.fB,List.mem_cons,H.fB,I5 hu hx]
    by_cases e:y=x
    . simp[e]
    . by_cases e2:y=u
      . subst e2;simp[e,hu]
      . simp[e,e2]
 simpa using hp.length_eq
theorem oM{t:T}{nd p:Nd}(hx:t x=some nd)(hp:t nd.up=some p)(y:Int):leave t x y=if y=nd.up then some { p with kids:=wo p.kids x }else t y:=by
 unfold leave;rw[hx];simp only[hp];by_cases e:y=nd.up
 . subst e;rw[if_pos rfl,aP]
 . rw[if_neg e,aK _ _ e]
section
variable {t:T} (H:WF t) {x:Int} {nd:Nd} (hx:t x=some nd) (h0:x≠0)
include H hx h0
theorem WF.oN:nd.up ∉ sub t 64 x:=λhm=>by
 have ha:=(H.fZ (H.gD hx)).1 hm;obtain⟨n,_,hd⟩:=H.deep x nd hx;cases hd with
 | root _=>exact h0 rfl
 | step h1 _ h2 =>
   rw[hx]at h1;cases h1;have:=(ha.le (.step hx h0 h2) h2).1;omega
theorem WF.WY:(0:Int) ∉ sub t 64 x:=λhm=>by
 have ha:=(H.fZ (H.gD hx)).1 hm;obtain⟨n,_,hd⟩:=H.deep x nd hx;obtain⟨r,hr,_⟩:=H.root;have:=ha.le hd (.root hr);exact h0 (this.2 (by omega))
omit h0 in
theorem WF.I6{y:Int}{q:Nd}(hy:t y=some q)(hn:y ∉ sub t 64 x)(hy0:y≠0):q.up ∉ sub t 64 x:=λhm=>hn ((H.fZ (H.gD hx)).2 (.step hy hy0 ((H.fZ (H.gD hx)).1 hm)))
theorem WF.aa4{y v:Int}{q:Nd}(hv:t v=some q)(hy:y∈q.kids)(hn:v ∉ sub t 64 x)(hne:y≠x):y ∉ sub t 64 x:=λhm=>by
 obtain⟨hy0,yd,h1,h2⟩:=H.kid v q y hv hy;have ha:=(H.fZ (H.gD hx)).1 hm;cases ha with
 | refl _=>exact hne rfl
 | step h3 _ h4=>rw[h1]at h3;cases h3;exact hn ((H.fZ (H.gD hx)).2 (h2▸h4))
theorem WF.La{v:Int}{q:Nd}(hv:t v=some q)(hm:x∈q.kids):v=nd.up:=by
 obtain⟨_,xd,h1,h2⟩:=H.kid v q x hv hm;rw[hx]at h1;cases h1;exact h2.symm
theorem WF.aa5:x∈sub t 64 x:=(H.fZ (H.gD hx)).2 (.refl hx)
theorem WF.qU{y:Int}(e:y=x):y∈sub t 64 x:=by rw[e];exact H.aa5 hx h0
theorem WF.rem:WF (Dm t x):=by
 obtain⟨p,hp,hxp⟩:=H.up x nd hx h0
 have A:∀y,Dm t x y=if y∈sub t 64 x then none else if y=nd.up then some { p with kids:=wo p.kids x }else t y:=λy=>by
  unfold Dm del;rw[oM hx hp]
 have old:∀y q,t y=some q->y ∉ sub t 64 x->∃q',Dm t x y=some q'/\q'.up=q.up/\(∀k,k∈q'.kids↔k∈q.kids/\k≠x)/\q'.kids.Nodup:=λy q h hn=>by
  rw[A y,if_neg hn];by_cases e:y=nd.up
  . rw[if_pos e]
    rw[e,hp]at h;cases h;exact⟨_,rfl,rfl,λk=>xG,Dl (H.nodup _ _ hp) _⟩
  . rw[if_neg e,h]
    exact⟨q,rfl,rfl,λk=>⟨λhk=>⟨hk,λek=>e (H.La hx h0 h (ek▸hk))⟩,λhk=>hk.1⟩,H.nodup _ _ h⟩
 have back:∀y q',Dm t x y=some q'->y ∉ sub t 64 x/\∃q,t y=some q/\q'.up=q.up/\(∀k,k∈q'.kids↔k∈q.kids/\k≠x)/\q'.kids.Nodup:=λy q' h=>by
  by_cases hn:y∈sub t 64 x
  . rw[A y,if_pos hn]at h;cases h
  . refine⟨hn,?_⟩
    cases hy:t y with
    | none =>
      rw[A y,if_neg hn]at h;by_cases e:y=nd.up
      . rw[e,hp]at hy;cases hy
      . rw[if_neg e,hy]at h;cases h
    | some q =>
      obtain⟨q'',h1,h2⟩:=old y q hy hn;rw[h]at h1;cases h1;exact⟨q,rfl,h2⟩
 have dp:∀{y:Int} {m:Nat},Dp t y m->y ∉ sub t 64 x->Dp (Dm t x) y m:=λ{y m} h=>by
  induction h with
  | root h1=>intro hn;obtain⟨q',h2,_⟩:=old _ _ h1 hn;exact .root h2
  | step h1 hz _ ih=>intro hn;obtain⟨q',h2,h3,_⟩:=old _ _ h1 hn;exact .step h2 hz (h3▸ih (H.I6 hx h1 hn hz))
 refine⟨?_,?_,?_,?_,?_,?_⟩
 . obtain⟨r,h1,h2⟩:=H.root
   obtain⟨q',h3,h4,_⟩:=old 0 r h1 (H.WY hx h0);exact⟨q',h3,h4.trans h2⟩
 . intro y q' h
   obtain⟨_,q,h1,_⟩:=back y q' h;exact H.range y q h1
 . intro y q' h hy0
   obtain⟨hn,q,h1,h2,_⟩:=back y q' h;obtain⟨r,h3,h4⟩:=H.up y q h1 hy0;obtain⟨r',h5,_,h6,_⟩:=old _ r h3 (H.I6 hx h1 hn hy0);exact⟨r',h2▸h5,(h6 y).2 ⟨h4,λe=>hn (H.qU hx h0 e)⟩⟩
 . intro v q' y h hy
   obtain⟨hn,q,h1,h2,h3,_⟩:=back v q' h;obtain⟨h4,h5⟩:=(h3 y).1 hy;obtain⟨hy0,yd,h6,h7⟩:=H.kid v q y h1 h4;obtain⟨y',h8,h9,_⟩:=old y yd h6 (H.aa4 hx h0 h1 h4 hn h5);exact⟨hy0,y',h8,h9.trans h7⟩
 . intro v q' h
   obtain⟨_,q,_,_,_,h5⟩:=back v q' h;exact h5
 . intro y q' h
   obtain⟨hn,q,h1,_⟩:=back y q' h;obtain⟨m,hm,h3⟩:=H.deep y q h1;exact⟨m,hm,dp h3 hn⟩
theorem WF.Lb(y:Int):(∃q,Dm t x y=some q)↔(∃q,t y=some q)/\y ∉ sub t 64 x:=by
 obtain⟨p,hp,hxp⟩:=H.up x nd hx h0;unfold Dm del;rw[oM hx hp];by_cases hn:y∈sub t 64 x
 . simp[hn]
 . by_cases e:y=nd.up
   . subst e;simp[hn,hp]
   . simp[hn,e]
theorem WF.Cx:(ord (Dm t x)).length+(sub t 64 x).length=(ord t).length:=by
 have hp:(ord t).Perm (ord (Dm t x)++sub t 64 x):=by
  have H':=H.rem hx h0;refine(List.perm_ext_iff_of_nodup H.iD (List.nodup_append.2 ⟨H'.iD,H.zK (H.gD hx),λa ha b hb e => ?_⟩)).2 λy => ?_
  . subst e;exact((H.Lb hx h0 a).1 (H'.fB.1 ha)).2 hb
  . rw[List.mem_append,H.fB,H'.fB,H.Lb hx h0]
    by_cases hn:y∈sub t 64 x
    . simp only[hn,not_true_eq_false,and_false,or_true,iff_true]
      exact((H.fZ (H.gD hx)).1 hn).live
    . simp[hn]
 have:=hp.length_eq;simp at this;omega
theorem WF.Tk:Fit (leave t x) 64 x/\sub (leave t x) 64 x=sub t 64 x/\hgt (leave t x) 64 x=hgt t 64 x:=by
 obtain⟨p,hp,hxp⟩:=H.up x nd hx h0;refine(H.gD hx).congr λy hy q hq => ?_;rw[oM hx hp,if_neg (λe:y=nd.up=>H.oN hx h0 (by rw[<-e];exact hy))];exact⟨q,hq,rfl⟩
section
variable {u:Int} {q:Nd} (hu:t u=some q) (hun:u ∉ sub t 64 x)
include hu hun
theorem WF.xH(i:Nat)(y:Int):j3 t x u i y=(t y).map λr=>{ r with up:=if y=x then u else r.up,kids:=if y=u then wi (if y=nd.up then wo r.kids x else r.kids) i x else if y=nd.up then wo r.kids x else r.kids }:=by
 obtain⟨p,hp,hxp⟩:=H.up x nd hx h0;have hxu:u≠x:=λe=>hun (H.qU hx h0 e);have hxn:x≠nd.up:=λe=>H.oN hx h0 (H.qU hx h0 e.symm);have L:=λy=>oM hx hp y;have Lx:leave t x x=some nd:=by rw[L,if_neg hxn,hx]
 unfold j3 enter;by_cases e:u=nd.up
 . subst e
   rw[hu]at hp;cases hp;have Lu:leave t x nd.up=some { q with kids:=wo q.kids x }:=by rw[L,if_pos rfl]
   rw[Lu,Lx];simp only;by_cases e1:y=x
   . subst e1;rw[aP,hx];simp[hxn]
   . rw[aK _ _ e1]
     by_cases e2:y=nd.up
     . rw[e2,aP,hu];simp[hxu]
     . rw[aK _ _ e2,L,if_neg e2]
       cases t y<;>simp[e1,e2]
 . have Lu:leave t x u=some q:=by rw[L,if_neg e,hu]
   rw[Lu,Lx];simp only;by_cases e1:y=x
   . subst e1;rw[aP,hx];simp[hxn,hxu.symm]
   . rw[aK _ _ e1]
     by_cases e2:y=u
     . rw[e2,aP,hu];simp[e,hxu]
     . rw[aK _ _ e2,L]
       by_cases e3:y=nd.up
       . rw[if_pos e3,e3,hp];simp[hxn.symm,show¬ nd.up=u from λh=>e h.symm]
       . rw[if_neg e3]
         cases t y<;>simp[e1,e2,e3]
theorem WF.mov{du:Nat}(hdu:Dp t u du)(Rn:du+1+hgt t 64 x<=63):WF (j3 t x u i):=by
 obtain⟨p,hp,hxp⟩:=H.up x nd hx h0;have hxu:u≠x:=λe=>hun (H.qU hx h0 e);have hxn:x≠nd.up:=λe=>H.oN hx h0 (H.qU hx h0 e.symm);have A:=λy=>H.xH hx h0 hu hun i y
 have old:∀y r,t y=some r->∃r',j3 t x u i y=some r'/\(y≠x->r'.up=r.up)/\(y=x->r'.up=u)/\(∀k,k≠x->(k∈r'.kids↔k∈r.kids))/\(x∈r'.kids↔y=u)/\r'.kids.Nodup:=λy r h=>by
  have hk:x ∉ (if y=nd.up then wo r.kids x else r.kids):=by
   split
   . exact λhm=>(xG.1 hm).2 rfl
   . rename_i e;exact λhm=>e (H.La hx h0 h hm)
  have hn:(if y=nd.up then wo r.kids x else r.kids).Nodup:=by
   split
   . exact Dl (H.nodup y r h) x
   . exact H.nodup y r h
  have hm:∀k,k≠x->(k∈(if y=nd.up then wo r.kids x else r.kids)↔k∈r.kids):=λk hkx=>by
   split
   . rw[xG];simp[hkx]
   . exact Iff.rfl
  rw[A y,h];refine⟨_,rfl,λe=>if_neg e,λe=>if_pos e,λk hkx => ?_,?_,?_⟩
  . show k∈(if y=u then _ else _)↔_
    split
    . rw[OL];simp only[hkx,false_or];exact hm k hkx
    . exact hm k hkx
  . show x∈(if y=u then _ else _)↔_
    split
    . rename_i e;rw[OL];simp[e]
    . rename_i e;simp only[e,iff_false];exact hk
  . show(if y=u then _ else _:List Int).Nodup
    split
    . exact K8 hn i hk
    . exact hn
 have back:∀y r',j3 t x u i y=some r'->∃r,t y=some r/\(y≠x->r'.up=r.up)/\(y=x->r'.up=u)/\(∀k,k≠x->(k∈r'.kids↔k∈r.kids))/\(x∈r'.kids↔y=u)/\r'.kids.Nodup:=λy r' h=>by
  cases hy:t y with
  | none=>rw[A y,hy]at h;cases h
  | some r =>
    obtain⟨r'',h1,h2⟩:=old y r hy;rw[h]at h1;cases h1;exact⟨r,rfl,h2⟩
 have dpo:∀{y:Int} {m:Nat},Dp t y m->y ∉ sub t 64 x->Dp (j3 t x u i) y m:=λ{y m} h=>by
  induction h with
  | root h1=>intro hn;obtain⟨q',h2,_⟩:=old _ _ h1;exact .root h2
  | step h1 hz _ ih =>
    intro hn;obtain⟨q',h2,h3,_⟩:=old _ _ h1;exact .step h2 hz (h3 (λe=>hn (H.qU hx h0 e))▸ih (H.I6 hx h1 hn hz))
 obtain⟨dx,_,OJ⟩:=H.deep x nd hx;obtain⟨x',hx1,_,hx2,_⟩:=old x nd hx;have dpx:Dp (j3 t x u i) x (du+1):=.step hx1 h0 (hx2 rfl▸dpo hdu hun)
 have dpi:∀{y:Int},FI t x y->∀n,Dp t y n->dx<=n/\Dp (j3 t x u i) y (n-dx+du+1):=λ{y} ha=>by
  induction ha with
  | refl _=>intro n hn;obtain rfl:=OJ.WU hn;exact⟨Nat.le_refl _,by rw[Nat.sub_self,Nat.zero_add];exact dpx⟩
  | step h1 hz ha ih =>
    rename_i y yd
    intro n hn;cases hn with
    | root _=>exact absurd rfl hz
    | step h2 _ h3 =>
      rename_i n _
      rw[h1]at h2;cases h2;obtain⟨hle,h4⟩:=ih _ h3;obtain⟨r',h5,h6,_⟩:=old _ _ h1;have hyx:y≠x:=λe=>by subst e;have:=OJ.WU (.step h1 hz h3);omega
      refine⟨by omega,?_⟩;rw[show n+1-dx+du+1=n-dx+du+1+1 by omega];exact .step h5 hz (h6 hyx▸h4)
 refine⟨?_,?_,?_,?_,?_,?_⟩
 . obtain⟨r,h1,h2⟩:=H.root
   obtain⟨r',h3,h4,_⟩:=old 0 r h1;exact⟨r',h3,(h4 h0.symm).trans h2⟩
 . intro y r' h
   obtain⟨r,h1,_⟩:=back y r' h;exact H.range y r h1
 . intro y r' h hy0
   obtain⟨r,h1,h2,h3,_⟩:=back y r' h;by_cases e:y=x
   . obtain⟨u',h4,_,_,_,h5,_⟩:=old u q hu
     exact⟨u',h3 e▸h4,e▸h5.2 rfl⟩
   . obtain⟨v,h4,h5⟩:=H.up y r h1 hy0
     obtain⟨v',h6,_,_,h7,_⟩:=old _ v h4;exact⟨v',h2 e▸h6,(h7 y e).2 h5⟩
 . intro v r' y h hy
   obtain⟨r,h1,_,_,h3,h4,_⟩:=back v r' h;by_cases e:y=x
   . subst e
     exact⟨h0,x',hx1,(hx2 rfl).trans (h4.1 hy).symm⟩
   . obtain⟨hy0,yd,h5,h6⟩:=H.kid v r y h1 ((h3 y e).1 hy)
     obtain⟨y',h7,h8,_⟩:=old y yd h5;exact⟨hy0,y',h7,(h8 e).trans h6⟩
 . intro v r' h
   obtain⟨_,_,_,_,_,_,h5⟩:=back v r' h;exact h5
 . intro y r' h
   obtain⟨r,h1,_⟩:=back y r' h;obtain⟨m,hm,h3⟩:=H.deep y r h1;by_cases hn:y∈sub t 64 x
   . obtain⟨hle,h4⟩:=dpi ((H.fZ (H.gD hx)).1 hn) m h3
     have:=H.WW (H.gD hx) OJ hn h3;exact⟨_,by omega,h4⟩
   . exact⟨m,hm,dpo h3 hn⟩
theorem WF.WZ(i:Nat)(y:Int):(∃r,j3 t x u i y=some r)↔∃r,t y=some r:=by
 rw[H.xH hx h0 hu hun];cases t y<;>simp
theorem WF.aa6(H':WF (j3 t x u i)):(ord (j3 t x u i)).length=(ord t).length:=by
 refine((List.perm_ext_iff_of_nodup H'.iD H.iD).2 λy => ?_).length_eq;rw[H'.fB,H.fB,H.WZ hx h0 hu hun]
theorem WF.I7(i:Nat):sub (j3 t x u i) 64 x=sub t 64 x/\hgt (j3 t x u i) 64 x=hgt t 64 x:=by
 refine((H.gD hx).congr λy hy r hr => ?_).2;rw[H.xH hx h0 hu hun,hr];exact⟨_,rfl,by show(if y=u then _ else _)=_;rw[if_neg (λe:y=u=>hun (by rw[<-e];exact hy)),if_neg (λe:y=nd.up=>H.oN hx h0 (by rw[<-e];exact hy))]⟩
end
theorem WF.Xa{u:Int}{q:Nd}(hu:t u=some q)(hun:u ∉ sub t 64 x){i j:Nat}{p:Nd}(hp:t nd.up=some p)(hj:p.kids[j]? = some x)(H':WF (j3 t x u i)):j3 (j3 t x u i) x nd.up j=t:=by
 have hxu:u≠x:=λe=>hun (H.qU hx h0 e);have hxn:x≠nd.up:=λe=>H.oN hx h0 (H.qU hx h0 e.symm);have A:=λy=>H.xH hx h0 hu hun i y;have hx1:j3 t x u i x=some { nd with up:=u }:=by rw[A,hx];simp[hxu.symm,hxn]
 have hp1:∃p',j3 t x u i nd.up=some p':=by rw[A,hp];exact⟨_,rfl⟩
 obtain⟨p',hp1⟩:=hp1;have hn1:nd.up ∉ sub (j3 t x u i) 64 x:=by rw[(H.I7 hx h0 hu hun i).1];exact H.oN hx h0
 funext y;rw[H'.xH hx1 h0 hp1 hn1 j y,A y];cases hy:t y with
 | none=>rfl
 | some r =>
   have hk:x ∉ (if y=nd.up then wo r.kids x else r.kids):=by
    split
    . exact λhm=>(xG.1 hm).2 rfl
    . rename_i e;exact λhm=>e (H.La hx h0 hy hm)
   have e1:(if y=u then wo (if y=u then wi (if y=nd.up then wo r.kids x else r.kids) i x else if y=nd.up then wo r.kids x else r.kids) x else if y=u then wi (if y=nd.up then wo r.kids x else r.kids) i x else if y=nd.up then wo r.kids x else r.kids)=if y=nd.up then wo r.kids x else r.kids:=by
    by_cases e:y=u
    . rw[if_pos e,if_pos e,acZ hk]
    . rw[if_neg e,if_neg e]
   simp only[Option.map_some,Option.some.injEq];rw[e1];by_cases e:y=nd.up
   . have e2:=e
     subst e;rw[hp]at hy;cases hy;simp only[if_true,if_neg hxn.symm];rw[afO (H.nodup _ _ hp) hj]
   . simp only[if_neg e]
     by_cases ex:y=x
     . subst ex;rw[hx]at hy;cases hy;simp
     . simp[ex]
end
def dp(t:T):Nat->Int->Int
 | 0,_ => -1
 | f+1,x=>match t x with
   | none => -1
   | some nd=>dp t f nd.up+1
def dep(t:T)(x:Int):Int:=dp t 100 x
theorem afP{t:T}(h1:∀nd,t 0=some nd->nd.up = -1)(h2:t (-1)=none){d:Nat}(h:Dp t x d):∀f,d<f->dp t f x=d:=by
 induction h with
 | root h =>
   intro f hf;cases f with
   | zero=>omega
   | succ f =>
     simp only[dp,h,h1 _ h];cases f with
     | zero=>simp[dp]
     | succ f=>simp[dp,h2]
 | step h h0 _ ih =>
   intro f hf;cases f with
   | zero=>omega
   | succ f =>
     simp only[dp,h,ih f (by omega)];omega
theorem WF.eU{t:T}(H:WF t){nd:Nd}(h:t 0=some nd):nd.up = -1:=by
 obtain⟨r,h1,h2⟩:=H.root;rw[h]at h1;cases h1;exact h2
theorem WF.low{t:T}(H:WF t)(h:x<0):t x=none:=by
 cases e:t x with
 | none=>rfl
 | some nd=>have:=H.range x nd e;omega
theorem Lc{t:T}(h:t x=none):dep t x = -1:=by simp[dep,dp,h]
theorem WF.I8{t:T}(H:WF t){d:Nat}(h:Dp t x d):dep t x=d:=afP (λ_ h=>H.eU h) (H.low (by omega)) h 100 (by have:=H.aa2 h;omega)
theorem WF.iF{t:T}(H:WF t){nd:Nd}(h:t x=some nd):∃d:Nat,d<=63/\Dp t x d/\dep t x=d:=by
 obtain⟨d,h1,h2⟩:=H.deep x nd h;exact⟨d,h1,h2,H.I8 h2⟩
def Free(t:T)(z:Int):Prop:=0<=z/\t z=none/\∀y,0<=y->y<z->t y≠none
open Classical in
noncomputable def free(t:T):Int:=if h:∃z,Free t z then h.choose else 0
theorem free_eq{t:T}{z:Int}(h:Free t z):free t=z:=by
 have he:∃z,Free t z:=⟨z,h⟩;unfold free;rw[dif_pos he];have hc:=he.choose_spec;generalize he.choose=y at *;by_cases h1:y<z
 . exact absurd hc.2.1 (h.2.2 y hc.1 h1)
 . by_cases h2:z<y
   . exact absurd h.2.1 (hc.2.2 z h.1 h2)
   . omega
theorem WF.full{t:T}(H:WF t){k:Nat}(h:∀y:Int,0<=y->y<k->t y≠none):k<=(ord t).length:=by
 have hn:((jb' k).map (λn:Nat=>(n:Int))).Nodup:=List.Pairwise.map _ (λa b hab e=>hab (by omega)) List.nodup_range
 have hs:((jb' k).map (λn:Nat=>(n:Int))) ⊆ ord t:=λx hx=>by
  obtain⟨n,hn,rfl⟩:=List.mem_map.1 hx;have:=h n (by omega) (by have:=List.mem_range.1 hn;omega);obtain⟨nd,hnd⟩:=Option.ne_none_iff_exists'.1 this;exact H.fB.2 ⟨nd,hnd⟩
 have:=hn.length_le_of_subset hs;simpa using this
theorem WF.I9{t:T}(H:WF t):Free t (free t)/\free t<=((ord t).length:Int):=by
 have hex:∃k:Nat,t (k:Int)=none/\∀y:Int,0<=y->y<k->t y≠none:=by
  by_cases h:∀k:Nat,t (k:Int)≠none
  . have:=H.full (k:=(ord t).length+1) (λy h0 _=>by have:=h y.toNat;rwa [Int.toNat_of_nonneg h0]at this)
    omega
  . obtain⟨k,hk⟩:=Classical.not_forall.1 h
    replace hk:=Classical.not_not.1 hk
    induction k using Nat.strongRecOn with
    | ind k ih =>
      by_cases hl:∀y:Int,0<=y->y<k->t y≠none
      . exact⟨k,hk,hl⟩
      . obtain⟨y,hy⟩:=Classical.not_forall.1 hl
        have h0:0<=y/\y<k/\t y=none:=by
         refine⟨?_,?_,?_⟩
         . exact Classical.byContradiction λq=>hy λq2=>absurd q2 q
         . exact Classical.byContradiction λq=>hy λ_ q2=>absurd q2 q
         . exact Classical.byContradiction λq=>hy λ_ _ q2=>q q2
        refine ih y.toNat (by omega) ?_;rw[Int.toNat_of_nonneg h0.1];exact h0.2.2
 obtain⟨k,h1,h2⟩:=hex;have hf:Free t (k:Int):=⟨by omega,h1,h2⟩;rw[free_eq hf];exact⟨hf,by have:=H.full h2;omega⟩
theorem WF.pR{t:T}(H:WF t){u:Int}{p:Nd}(hu:t u=some p):p.kids.length<=(ord t).length :=
 (H.nodup u p hu).length_le_of_subset λx hx=>by
  obtain⟨_,nd,h,_⟩:=H.kid u p x hu hx;exact H.fB.2 ⟨nd,h⟩
def lI(t:T)(u a:Int):Int:=match t u with
 | none=>2
 | some p=>if a<0\/(p.kids.length:Int)<a then 1 else if 63<=dep t u then 5 else 0
noncomputable def sM(t:T)(u a:Int):Int:=if lI t u a=0 then free t else -1
noncomputable def jG(t:T)(u a:Int):T:=if lI t u a=0 then nX t (free t) u a.toNat else t
theorem WF.jG{t:T}(H:WF t)(u a:Int)(hn:(ord t).length<4096):WF (jG t u a)/\(ord (Tr.jG t u a)).length=(ord t).length+(if lI t u a=0 then 1 else 0):=by
 unfold Tr.jG;by_cases h:lI t u a=0
 . rw[if_pos h,if_pos h]
   unfold lI at h;cases hu:t u with
   | none=>rw[hu]at h;cases h
   | some p =>
     rw[hu]at h;dsimp only at h;split at h
     . cases h
     . split at h
       . cases h
       . rename_i h1 h2
         obtain⟨d,h3,h4,h5⟩:=H.iF hu;obtain⟨⟨f0,f1,_⟩,f2⟩:=H.I9;have W:=H.add (i:=a.toNat) hu f1 ⟨f0,by omega⟩ h4 (by omega);exact⟨W,H.aa3 hu f1 W⟩
 . rw[if_neg h,if_neg h]
   exact⟨H,rfl⟩
def qw(t:T)(x:Int):Int:=match t x with
 | none=>2
 | some _=>if x=0 then 1 else 0
def wQ(t:T)(x:Int):Int:=if qw t x=0 then (sub t 64 x).length else 0
def mq(t:T)(x:Int):T:=if qw t x=0 then Dm t x else t
theorem WF.mq{t:T}(H:WF t)(x:Int):WF (mq t x)/\((ord (Tr.mq t x)).length:Int)+wQ t x=(ord t).length:=by
 unfold Tr.mq wQ;by_cases h:qw t x=0
 . rw[if_pos h,if_pos h]
   unfold qw at h;cases hx:t x with
   | none=>rw[hx]at h;cases h
   | some nd =>
     rw[hx]at h;dsimp only at h;split at h
     . cases h
     . rename_i h0
       refine⟨H.rem hx h0,?_⟩;have:=H.Cx hx h0;omega
 . rw[if_neg h,if_neg h]
   exact⟨H,by omega⟩
def jf(t:T)(x u a:Int):Int:=match t x,t u with
 | some _,some p=>if x=0 then 1 else if u∈sub t 64 x then 3 else if a<0\/((wo p.kids x).length:Int)<a then 1 else if 63<dep t u+1+hgt t 64 x then 5 else 0
 | _,_=>2
def j4(t:T)(x u a:Int):T:=if jf t x u a=0 then j3 t x u a.toNat else t
theorem GX{t:T}{x u a:Int}(h:jf t x u a=0):∃nd p,t x=some nd/\t u=some p/\x≠0/\u ∉ sub t 64 x/\0<=a/\a<=(wo p.kids x).length/\dep t u+1+hgt t 64 x<=63:=by
 unfold jf at h;cases hx:t x with
 | none=>rw[hx]at h;cases h
 | some nd =>
   cases hu:t u with
   | none=>rw[hx,hu]at h;cases h
   | some p =>
     rw[hx,hu]at h;dsimp only at h;split at h
     . cases h
     . split at h
       . cases h
       . split at h
         . cases h
         . split at h
           . cases h
           . exact⟨nd,p,rfl,rfl,by assumption,by assumption,by omega,by omega,by omega⟩
theorem WF.j4{t:T}(H:WF t)(x u a:Int):WF (j4 t x u a)/\(ord (Tr.j4 t x u a)).length=(ord t).length:=by
 unfold Tr.j4;by_cases h:jf t x u a=0
 . rw[if_pos h]
   obtain⟨nd,p,hx,hu,h0,hun,ha,hal,hd⟩:=GX h;obtain⟨d,h3,h4,h5⟩:=H.iF hu;have W:=H.mov (i:=a.toNat) hx h0 hu hun h4 (by omega);exact⟨W,H.aa6 hx h0 hu hun W⟩
 . rw[if_neg h]
   exact⟨H,rfl⟩
theorem WF.others{t:T}(H:WF t){x u:Int}{nd p:Nd}(hx:t x=some nd)(hu:t u=some p)(h0:x≠0):((wo p.kids x).length:Int)=if nd.up=u then (p.kids.length:Int)-1 else p.kids.length:=by
 by_cases e:nd.up=u
 . rw[if_pos e]
   obtain⟨q,hq,hm⟩:=H.up x nd hx h0;rw[e,hu]at hq;cases hq;have:=GV (H.nodup u p hu) hm;omega
 . rw[if_neg e,uX]
   intro hm;obtain⟨_,nd',h1,h2⟩:=H.kid u p x hu hm;rw[hx]at h1;cases h1;exact e h2
end Go.Proofs.YtdnggaapcgomhaaGreat.Tr
namespace Go.Proofs.YtdnggaapcgomhaaGreat.Fw
def wr(x:Int):Int:=(x+9223372036854775808)%18446744073709551616-9223372036854775808
def sd(y e:Nat):Nat:=if y=0 then (if e=0 then 3 else 1)else (if e=0 then 0 else 2)
def ed(s:Re.St)(i:Nat):Int:=wr (s.c (31+i)+s.c (35+i))
def wD(s:Re.St)(y:Nat):Int:=wr (ed s (sd y 0)+ed s (sd y 1))
def Kw(s:Re.St)(y:Nat)(base:Int):Bool:=Fx.dD (s.c (3+2*y)) base
def lng(s:Re.St)(y:Nat)(base none:Int):Int:=Fx.len (s.c (3+2*y)) (s.c (4+2*y)) base none
def lim(s:Re.St)(y:Nat)(n base:Int):Int:=Fx.limit n (s.c (7+2*y)) (s.c (8+2*y)) (s.c (11+2*y)) (s.c (12+2*y)) base
def mg(s:Re.St)(y e:Nat)(r:Int):Int:=Fx.len (s.c (15+2*sd y e)) (s.c (16+2*sd y e)) (if y=0 then r else -1) 0
def mgs(s:Re.St)(y:Nat)(r:Int):Int:=wr (mg s y 0 r+mg s y 1 r)
def FU(s:Re.St)(y:Nat)(r0 r t:Int):Int :=
 if t ≠ -1 then max (wr (t-wD s y)) 0
 else if Kw s y r=true then lim s y (lng s y r 0) r
 else if y=0 then lim s y (max (wr (wr (r-mgs s y r0)-wD s y)) 0) r else -1
def byc(s:Re.St)(r0:Int):Int:=wr (lim s 0 (s.c 53) r0+wD s 0)
def ins(s:Re.St)(y e:Nat)(r:Int):Int:=Fx.len (s.c (23+2*sd y e)) (s.c (24+2*sd y e)) r 0
def FH(s:Re.St)(y e:Nat)(r:Int):Bool:=Fx.dD (s.c (23+2*sd y e)) r
def opn(s:Re.St)(ib:Bool)(e:Nat):Bool :=
 (ib&&s.c 0==0&&s.c 2==0&&ed s (sd 1 e)==0)&&(e==0||(s.c 5==0&&s.c 9==0))
end Go.Proofs.YtdnggaapcgomhaaGreat.Fw
namespace Go.Proofs.YtdnggaapcgomhaaGreat
namespace Fx
def emp(w h:Int):Bool:=decide (w<=0)||decide (h<=0)
def hi(x w:Int):Int:=add x (mx w 0)
def mLo(x w y v:Int):Int:=lH (cut x) (hi x w) (cut y) (hi y v)
def mHi(x w y v:Int):Int:=uU (cut x) (hi x w) (cut y) (hi y v)
def Le(x w y v:Int):Int:=size (mLo x w y v) (mHi x w y v)
def jLo(x w y v:Int):Int:=OD (cut x) (hi x w) (cut y) (hi y v)
def jHi(x w y v:Int):Int:=OE (cut x) (hi x w) (cut y) (hi y v)
def jSz(x w y v:Int):Int:=size (jLo x w y v) (jHi x w y v)
def zif(c:Bool)(n:Int):Int:=bif c then 0 else n
def WG(x y w h x' y' w' h' v:Int):Int:=zif (emp (Le x w x' w') (Le y h y' h')) v
def Tf(w h w' h' va vb vj:Int):Int:=bif emp w h then (bif emp w' h' then 0 else vb)else (bif emp w' h' then va else vj)
def Tn(x y w h x' y' w' h':Int):Bool:=emp w h||(inn (cut x) (hi x w) (cut x') (hi x' w')&&inn (cut y) (hi y h) (cut y') (hi y' h'))
def less(n s:Int):Int:=mx (sub n s) 0
def small(x y w h:Int):Bool:=decide (-1073741824<=x)&&decide (x<=1073741824)&&decide (-1073741824<=y)&&decide (y<=1073741824)&&decide (0<=w)&&decide (w<=1073741824)&&decide (0<=h)&&decide (h<=1073741824)
theorem Tt(a:Int):0<=mx a 0:=by unfold mx;split<;>omega
theorem Lf(n s:Int):0<=less n s:=Tt _
theorem Tw{w h:Int}(h1:0<w)(h2:0<h):emp w h=false:=by unfold emp;simp;omega
theorem Xb{w h:Int}(h1:w<=0\/h<=0):emp w h=true:=by unfold emp;simp;omega
end Fx
end Go.Proofs.YtdnggaapcgomhaaGreat
namespace Go.Proofs.YtdnggaapcgomhaaGreat.Fe
open List renaming range → jb'
variable {n k:Nat}{room:Int}
def to(n m:Int):Int:=if m<n then m else if n<0 then 0 else n
theorem qV{n m:Int}(h:0<=m):0<=to n m:=by unfold to;(repeat' split)<;>omega
theorem um{n m:Int}(h:0<=m):to n m<=m:=by unfold to;(repeat' split)<;>omega
theorem afQ{n m:Int}(h:0<=n)(h2:n<=m):to n m=n:=by unfold to;(repeat' split)<;>omega
theorem afR{n m:Int}(h:0<=m):to (to n m) m=to n m:=afQ (qV h) (um h)
def cw(n:Int):Int:=to n 1073741824
theorem Xc(n:Int):0<=cw n:=qV (by omega)
theorem Xd(n:Int):cw n<=1073741824:=um (by omega)
structure It where
 b:Int
 lo:Int
 hi:Int
 g:Int
 s:Int
def cnt(x:It):It:=⟨to x.b 1048576,to x.lo 1048576,to x.hi 1048576,to x.g 1000,to x.s 1000⟩
theorem aa7(x:It):cnt (cnt x)=cnt x:=by unfold cnt;simp[afR]
def inn(lo hi n:Int):Int:=if (if hi<n then hi else n)<lo then lo else (if hi<n then hi else n)
def clamp(x:It)(n:Int):Int:=inn (cnt x).lo (cnt x).hi n
theorem Tz(x:It)(n:Int):clamp (cnt x) n=clamp x n:=by unfold clamp;rw[aa7]
theorem Ja(x:It):0<=(cnt x).b/\(cnt x).b<=1048576/\0<=(cnt x).lo/\(cnt x).lo<=1048576/\0<=(cnt x).hi/\(cnt x).hi<=1048576/\0<=(cnt x).g/\(cnt x).g<=1000/\0<=(cnt x).s/\(cnt x).s<=1000:=by
 unfold cnt;exact⟨qV (by omega),um (by omega),qV (by omega),um (by omega),qV (by omega),um (by omega),qV (by omega),um (by omega),qV (by omega),um (by omega)⟩
theorem adH{lo hi n:Int}(h1:0<=lo)(h2:lo<=1048576)(h3:0<=hi)(h4:hi<=1048576):0<=inn lo hi n/\inn lo hi n<=1048576:=by
 unfold inn;(repeat' split)<;>omega
theorem nA(x:It)(n:Int):0<=clamp x n/\clamp x n<=1048576:=by
 obtain⟨_,_,h1,h2,h3,h4,_⟩:=Ja x;exact adH h1 h2 h3 h4
theorem Xe{n m:Int}(h:0<=m)(h2:m<=1073741824):Fx.clamp n 0 m=to n m:=by
 unfold Fx.clamp Fx.cut to;(repeat' split)<;>omega
theorem aa8{n lo hi:Int}(h1:0<=lo)(h2:lo<=1048576)(h3:0<=hi)(h4:hi<=1048576):Fx.clamp n lo hi=inn lo hi n:=by
 unfold Fx.clamp Fx.cut inn;(repeat' split)<;>omega
def up(w:List Int):Nat->Int
 | 0=>0
 | k+1=>up w k+cw (w.getD k 0)
theorem aa9(w:List Int)(k:Nat):up w k<=up w (k+1):=by have:=Xc (w.getD k 0);simp only[up];omega
theorem Jb(w:List Int){i j:Nat}(h:i<=j):up w i<=up w j:=by
 induction j with
 | zero=>obtain rfl:i=0:=(by omega);exact Int.le_refl _
 | succ j ih =>
   rcases Nat.lt_or_ge i (j+1)with h'|h'
   . exact Int.le_trans (ih (by omega)) (aa9 w j)
   . obtain rfl:i=j+1:=by omega
     exact Int.le_refl _
theorem Dn(w:List Int)(k:Nat):0<=up w k:=Jb w (Nat.zero_le k)
theorem Lg(w:List Int)(k:Nat):up w k<=1073741824*k:=by
 induction k with
 | zero=>simp[up]
 | succ k ih=>have:=Xd (w.getD k 0);simp only[up];omega
def all(w:List Int):Int:=up w w.length
def so(n:Int)(w:List Int)(k:Nat):Int:=to n 67108864*up w k/all w
def part(n:Int)(w:List Int)(k:Nat):Int:=so n w (k+1)-so n w k
def share(n:Int)(w:List Int):List Int:=(jb' w.length).map (part n w)
theorem Jc(n:Int)(w:List Int):(share n w).length=w.length:=by simp[share]
theorem GY(n:Int)(w:List Int)(h:k<w.length):(share n w).getD k 0=part n w k:=by simp[share,h]
theorem Ro(n:Int)(w:List Int):so n w 0=0:=by simp[so,up]
theorem Rp{a b c d:Int}(h1:0<=a)(h2:a<=c)(h3:0<=b)(h4:b<=d):0<=a*b/\a*b<=c*d:=Fx.zJ h1 h2 h3 h4
theorem Jd(n:Int)(w:List Int){i j:Nat}(h:i<=j):so n w i<=so n w j:=by
 unfold so;rcases Int.lt_or_le 0 (all w)with h0|h0
 . exact Int.ediv_le_ediv h0 (Int.mul_le_mul_of_nonneg_left (Jb w h) (qV (by omega)))
 . have:all w=0:=by have:=Dn w w.length;unfold all at *;omega
   rw[this];simp
theorem ac0(n:Int)(w:List Int)(k:Nat):0<=so n w k:=by rw[<-Ro n w];exact Jd n w (Nat.zero_le k)
theorem ac1(n:Int)(w:List Int)(h:k<=w.length):so n w k<=to n 67108864:=by
 unfold so;rcases Int.lt_or_le 0 (all w)with h0|h0
 . refine Int.le_trans (Int.ediv_le_ediv h0 (Int.mul_le_mul_of_nonneg_left (Jb w h) (qV (by omega)))) ?_
   show to n 67108864*all w/all w<=_;rw[Int.mul_ediv_cancel _ (by omega)];exact Int.le_refl _
 . have:all w=0:=by have:=Dn w w.length;unfold all at *;omega
   rw[this];simp;exact qV (by omega)
theorem Cv(n:Int)(w:List Int)(h:k<w.length):0<=part n w k/\part n w k<=67108864:=by
 have h1:=Jd n w (show k<=k+1 by omega);have h2:=ac1 n w (k:=k+1) h;have h3:=ac0 n w k;have h4:to n 67108864<=67108864:=um (by omega);unfold part;omega
theorem GR{n:Int}{w:List Int}(h:all w=0)(k:Nat):part n w k=0:=by simp[part,so,h]
theorem afS(n:Int)(w:List Int)(h:k<=64):0<=to n 67108864*up w k/\to n 67108864*up w k<=4611686018427387904:=by
 have h1:=Dn w k;have h2:=Lg w k;have:=Rp (qV (n:=n) (m:=67108864) (by omega)) (um (by omega)) h1 (show up w k<=68719476736 by omega);omega
structure St where
 x:It
 z:Int
 m:Int
 f:Bool
def fac(gr:Bool)(x:It):Int:=if gr then x.g else x.s
def wt(gr:Bool)(x:It):Int:=if gr then x.g else x.s*x.b
def sg(gr:Bool):Int:=if gr then 1 else -1
def stay(gr:Bool)(c:It)(z:Int):Bool:=decide (fac gr c=0)||decide (sg gr*z<sg gr*c.b)
def yA(l:Nat->It):Nat->Int
 | 0=>0
 | k+1=>yA l k+clamp (l k) (cnt (l k)).b
def Dq(l:Nat->It)(n:Nat)(room:Int):Bool:=decide (yA l n<room)
def fresh(l:Nat->It):Nat->St:=λi=>⟨cnt (l i),clamp (l i) (cnt (l i)).b,0,false⟩
def begun(gr:Bool)(l:Nat->It):Nat->St:=λi=>⟨cnt (l i),clamp (l i) (cnt (l i)).b,0,stay gr (cnt (l i)) (clamp (l i) (cnt (l i)).b)⟩
def pl(S:Nat->St):Nat->Nat
 | 0=>0
 | k+1=>pl S k+if (S k).f then 0 else 1
def ws(gr:Bool)(S:Nat->St):Nat->List Int
 | 0=>[]
 | k+1=>if (S k).f then ws gr S k else ws gr S k++[wt gr (S k).x]
def left(room:Int)(S:Nat->St):Nat->Int
 | 0=>room
 | k+1=>if (S k).f then left room S k-(S k).z else left room S k-(S k).x.b
def free(gr:Bool)(room:Int)(S:Nat->St)(n:Nat):Int:=if sg gr*left room S n<0 then 0 else sg gr*left room S n
def parts(gr:Bool)(room:Int)(S:Nat->St)(n:Nat):List Int:=share (free gr room S n) (ws gr S n)
def want(gr:Bool)(p:List Int)(S:Nat->St)(i:Nat):Int:=(S i).x.b+sg gr*p.getD (pl S i) 0
def gP(gr:Bool)(p:List Int)(S:Nat->St):Nat->St:=λi =>
 if (S i).f then S i else ⟨(S i).x,clamp (S i).x (want gr p S i),clamp (S i).x (want gr p S i)-want gr p S i,false⟩
def shared(gr:Bool)(room:Int)(n:Nat)(S:Nat->St):Nat->St:=gP gr (parts gr room S n) S
def made(S:Nat->St):Nat->Int
 | 0=>0
 | k+1=>if (S k).f then made S k else made S k+(S k).m
def Rq(t m:Int):Bool:=decide (t=0)||(decide (0<t)&&decide (0<m))||(decide (t<0)&&decide (m<0))
def froze(n:Nat)(S:Nat->St):Nat->St:=λi=>if (S i).f then S i else ⟨(S i).x,(S i).z,(S i).m,Rq (made S n) (S i).m⟩
def round(gr:Bool)(room:Int)(n:Nat)(S:Nat->St):Nat->St:=froze n (shared gr room n S)
def rounds(gr:Bool)(room:Int)(n:Nat)(S:Nat->St):Nat->Nat->St
 | 0=>S
 | k+1=>round gr room n (rounds gr room n S k)
def fin(l:Nat->It)(n:Nat)(room:Int):Nat->St:=rounds (Dq l n room) room n (begun (Dq l n room) l) n
theorem Rs(S:Nat->St)(k:Nat):pl S k<=k:=by
 induction k with
 | zero=>simp[pl]
 | succ k ih=>simp only[pl];split<;>omega
theorem qW(gr:Bool)(S:Nat->St)(k:Nat):(ws gr S k).length=pl S k:=by
 induction k with
 | zero=>rfl
 | succ k ih=>simp only[ws,pl];split<;>simp[ih]
theorem aa'(S:Nat->St){i j:Nat}(h:i<=j):pl S i<=pl S j:=by
 induction j with
 | zero=>obtain rfl:i=0:=(by omega);exact Nat.le_refl _
 | succ j ih =>
   rcases Nat.lt_or_ge i (j+1)with h'|h'
   . exact Nat.le_trans (ih (by omega)) (by simp only[pl];omega)
   . obtain rfl:i=j+1:=by omega
     exact Nat.le_refl _
theorem Rt(S:Nat->St){i n:Nat}(h:i<n)(hf:(S i).f=false):pl S i<pl S n:=by
 have h1:pl S (i+1)=pl S i+1:=by simp[pl,hf]
 have:=aa' S (show i+1<=n by omega);omega
theorem abb{S:Nat->St}(h:pl S n=0):∀i,i<n->(S i).f=true:=by
 intro i hi;cases hf:(S i).f with
 | true=>rfl
 | false=>have:=Rt S hi hf;omega
theorem adI{S:Nat->St}(h:∀i,i<n->(S i).f=true):pl S n=0:=by
 induction n with
 | zero=>rfl
 | succ n ih=>simp only[pl,h n (by omega),if_true];rw[ih λi hi=>h i (by omega)]
theorem abd{S T:Nat->St}(h:∀i,i<n->(S i).f=(T i).f):pl S n=pl T n:=by
 induction n with
 | zero=>rfl
 | succ n ih=>simp only[pl,h n (by omega)];rw[ih λi hi=>h i (by omega)]
theorem abe{S T:Nat->St}(h:∀i,i<n->(S i).f=true->(T i).f=true):pl T n<=pl S n:=by
 induction n with
 | zero=>exact Nat.le_refl _
 | succ n ih =>
   have:=ih λi hi=>h i (by omega);have h2:=h n (by omega);simp only[pl];cases hs:(S n).f<;>cases ht:(T n).f<;>simp_all<;>omega
theorem TA{S T:Nat->St}{n i:Nat}(h:∀i,i<n->(S i).f=true->(T i).f=true)(hi:i<n)(h1:(S i).f=false)(h2:(T i).f=true):pl T n<pl S n:=by
 induction n with
 | zero=>omega
 | succ n ih =>
   have hle:=abe (n:=n) λi hi=>h i (by omega);rcases Nat.lt_or_ge i n with h'|h'
   . have:=ih (λi hi=>h i (by omega)) h'
     have h3:=h n (by omega);simp only[pl];cases hs:(S n).f<;>cases ht:(T n).f<;>simp_all<;>omega
   . obtain rfl:i=n:=by omega
     simp only[pl,h1,h2,if_true];simp;omega
theorem TB{S:Nat->St}(h:∀i,i<n->(S i).f=false->(S i).m<=0):made S n<=0:=by
 induction n with
 | zero=>exact Int.le_refl _
 | succ n ih =>
   have h1:=ih λi hi=>h i (by omega);simp only[made];split
   . exact h1
   . have:=h n (by omega) (by simp_all);omega
theorem OO{S:Nat->St}(h:∀i,i<n->(S i).f=false->0<=(S i).m):0<=made S n:=by
 induction n with
 | zero=>exact Int.le_refl _
 | succ n ih =>
   have h1:=ih λi hi=>h i (by omega);simp only[made];split
   . exact h1
   . have:=h n (by omega) (by simp_all);omega
theorem TD{S:Nat->St}(h:0<pl S n):∃i,i<n/\(S i).f=false/\(froze n S i).f=true:=by
 apply Classical.byContradiction;intro hne;have hall:∀i,i<n->(S i).f=false->Rq (made S n) (S i).m=false:=by
  intro i hi hf;cases hz:Rq (made S n) (S i).m with
  | false=>rfl
  | true=>exact absurd ⟨i,hi,hf,by simp[froze,hf,hz]⟩ hne
 rcases Int.lt_trichotomy (made S n) 0 with ht|ht|ht
 . have:=OO (S:=S) (n:=n) λi hi hf=>by
    have:=hall i hi hf;simp only[Rq,Bool.or_eq_false_iff,Bool.and_eq_false_iff,decide_eq_false_iff_not]at this;omega
   omega
 . have h0:∀i,i<n->(S i).f=true:=by
    intro i hi;cases hf:(S i).f with
    | true=>rfl
    | false=>have:=hall i hi hf;simp[Rq,ht]at this
   have:=adI h0;omega
 . have:=TB (S:=S) (n:=n) λi hi hf=>by
    have:=hall i hi hf;simp only[Rq,Bool.or_eq_false_iff,Bool.and_eq_false_iff,decide_eq_false_iff_not]at this;omega
   omega
theorem Xf(gr:Bool)(p:List Int)(S:Nat->St)(i:Nat):(gP gr p S i).f=(S i).f:=by
 unfold gP;cases h:(S i).f<;>simp[h]
theorem Dr(gr:Bool)(room:Int){S:Nat->St}(h:0<pl S n):pl (round gr room n S) n<pl S n:=by
 have e:pl (shared gr room n S) n=pl S n:=abd λi _=>Xf gr _ S i;obtain⟨i,hi,h1,h2⟩:=TD (S:=shared gr room n S) (n:=n) (by omega);have:=TA (S:=shared gr room n S) (T:=round gr room n S) (λj _ hj=>by simp[round,froze,hj]) hi h1 h2;omega
theorem Lh{gr:Bool}{S:Nat->St}{i:Nat}(h:(S i).f=true):round gr room n S i=S i:=by
 have e:shared gr room n S i=S i:=by simp[shared,gP,h]
 simp[round,froze,e,h]
theorem Je{gr:Bool}{S:Nat->St}{i:Nat}(h:(rounds gr room n S k i).f=true):∀m,k<=m->rounds gr room n S m i=rounds gr room n S k i:=by
 intro m hm
 induction m with
 | zero=>obtain rfl:k=0:=(by omega);rfl
 | succ m ih =>
   rcases Nat.lt_or_ge k (m+1)with h'|h'
   . have:=ih (by omega)
     show round gr room n (rounds gr room n S m) i=_;rw[Lh (by rw[this];exact h),this]
   . obtain rfl:k=m+1:=by omega
     rfl
theorem Jf{S:Nat->St}(hx:∀i,0<=(S i).x.b/\(S i).x.b<=1048576)(hz:∀i,0<=(S i).z/\(S i).z<=1048576)(k:Nat):room-1048576*k<=left room S k/\left room S k<=room:=by
 induction k with
 | zero=>simp[left]
 | succ k ih =>
   obtain⟨h1,h2⟩:=ih;have:=hx k;have:=hz k;simp only[left];split<;>constructor<;>omega
end Go.Proofs.YtdnggaapcgomhaaGreat.Fe
namespace Go.Proofs.YtdnggaapcgomhaaGreat
namespace Li
variable {room gap:Int}{l:List Int}{wrap:Bool}{k:Nat}
def next(gap s x:Int):Int:=Fx.add (Fx.add s gap) x
def long(gap:Int):List Int->Int
 | []=>0
 | x::l=>l.foldl (next gap) (Fx.cut x)
theorem TF(gap:Int)(l:List Int)(x:Int)(h:l≠[]):long gap (l++[x])=next gap (long gap l) x:=by
 cases l with
 | nil=>exact absurd rfl h
 | cons y l=>simp[long]
theorem GZ(l:List Int)(h:k<l.length):l.take (k+1)=l.take k++[l.getD k 0]:=by
 rw[List.take_succ_eq_append_getElem h];simp[List.getElem?_eq_getElem h]
theorem abf(l:List Int)(h0:0<k)(h:0<l.length):l.take k≠[]:=by
 intro e;have h1:(l.take k).length=0:=by rw[e];rfl
 rw[List.length_take]at h1;omega
theorem zL(gap:Int)(l:List Int)(h0:0<k)(h:k<l.length):long gap (l.take (k+1))=next gap (long gap (l.take k)) (l.getD k 0):=by
 rw[GZ l h,TF _ _ _ (abf l h0 (by omega))]
theorem wX(gap:Int)(l:List Int)(h:0<l.length):long gap (l.take 1)=Fx.cut (l.getD 0 0):=by
 rw[GZ l h];rfl
def goes(room gap:Int)(wrap:Bool)(l:List Int)(n:Nat):Bool:=decide (n<l.length)&&(decide (n<64)&&(!wrap||decide (long gap (l.take (n+1))<=room)))
theorem oO{n:Nat}:goes room gap wrap l n=true↔n<l.length/\n<64/\(wrap=true->long gap (l.take (n+1))<=room):=by
 unfold goes;cases wrap<;>simp
def cntF(room gap:Int)(wrap:Bool)(l:List Int):Nat->Nat->Nat
 | 0,n=>n
 | f+1,n=>if goes room gap wrap l n then cntF room gap wrap l f (n+1)else n
def cnt(room gap:Int)(wrap:Bool)(l:List Int):Nat:=cntF room gap wrap l 64 1
structure uo(room gap:Int)(wrap:Bool)(l:List Int)(n:Nat):Prop where
 one:1<=n
 all:∀k,1<=k->k<n->goes room gap wrap l k=true
 end_:goes room gap wrap l n=false
theorem Ru(room gap:Int)(wrap:Bool)(l:List Int):∀f n,64<=f+n->1<=n->(∀k,1<=k->k<n->goes room gap wrap l k=true)->uo room gap wrap l (cntF room gap wrap l f n)
 | 0,n,hf,h1,ha=>⟨h1,ha,by
   show goes room gap wrap l n=false;cases h:goes room gap wrap l n with
   | false=>rfl
   | true=>have:=oO.1 h;omega⟩
 | f+1,n,hf,h1,ha=>by
   unfold cntF;split
   . rename_i h
     refine Ru room gap wrap l f (n+1) (by omega) (by omega) λk k1 k2 => ?_;rcases Nat.lt_or_ge k n with k3|k3
     . exact ha k k1 k3
     . obtain rfl:k=n:=by omega
       exact h
   . rename_i h
     exact⟨h1,ha,by simpa using h⟩
theorem OP(room gap:Int)(wrap:Bool)(l:List Int):uo room gap wrap l (cnt room gap wrap l):=Ru room gap wrap l 64 1 (by omega) (Nat.le_refl _) λk h1 h2=>by omega
theorem uo.unique{n m:Nat}(h:uo room gap wrap l n)(k:uo room gap wrap l m):n=m:=by
 rcases Nat.lt_trichotomy n m with h1|h1|h1
 . have:=k.all n h.one h1;rw[h.end_]at this;cases this
 . exact h1
 . have:=h.all m k.one h1;rw[k.end_]at this;cases this
theorem uo.eq{n:Nat}(h:uo room gap wrap l n):cnt room gap wrap l=n:=(OP room gap wrap l).unique h
theorem uo.le{n:Nat}(h:uo room gap wrap l n)(h0:0<l.length):n<=l.length/\n<=64:=by
 rcases Nat.lt_or_ge 1 n with h1|h1
 . have:=oO.1 (h.all (n-1) (by omega) (by omega));omega
 . omega
theorem adJ(room gap:Int)(wrap:Bool)(l:List Int)(h0:0<l.length):cnt room gap wrap l<=l.length:=((OP room gap wrap l).le h0).1
theorem Rx(room gap:Int)(wrap:Bool)(l:List Int):1<=cnt room gap wrap l:=(OP room gap wrap l).one
def Jg(room gap:Int)(wrap:Bool)(l:List Int):Nat->Nat->List (Nat×Nat)
 | 0,_=>[]
 | f+1,at_=>if at_<l.length then (at_,at_+cnt room gap wrap (l.drop at_))::Jg room gap wrap l f (at_+cnt room gap wrap (l.drop at_))else []
def tail(room gap:Int)(wrap:Bool)(l:List Int)(at_:Nat):List (Nat×Nat):=Jg room gap wrap l (l.length-at_) at_
def brk(room gap:Int)(wrap:Bool)(l:List Int):List (Nat×Nat):=tail room gap wrap l 0
theorem G5(room gap:Int)(wrap:Bool)(l:List Int):∀f g at_,l.length<=f+at_->l.length<=g+at_->Jg room gap wrap l f at_=Jg room gap wrap l g at_
 | 0,0,_,_,_=>rfl
 | 0,g+1,at_,h,_=>by unfold Jg;rw[if_neg (by omega)]
 | f+1,0,at_,_,h=>by unfold Jg;rw[if_neg (by omega)]
 | f+1,g+1,at_,hf,hg=>by
   unfold Jg;split
   . rename_i h
     have:=Rx room gap wrap (l.drop at_);rw[G5 room gap wrap l f g _ (by omega) (by omega)]
   . rfl
theorem qX(room gap:Int)(wrap:Bool)(l:List Int){at_:Nat}(h:l.length<=at_):tail room gap wrap l at_=[]:=by
 unfold tail;rw[show l.length-at_=0 by omega];rfl
def stop(room gap:Int)(wrap:Bool)(l:List Int)(at_:Nat):Nat:=at_+cnt room gap wrap (l.drop at_)
theorem yB(room gap:Int)(wrap:Bool)(l:List Int)(at_:Nat):at_<stop room gap wrap l at_:=by
 have:=Rx room gap wrap (l.drop at_);unfold stop;omega
theorem Jh(room gap:Int)(wrap:Bool)(l:List Int){at_:Nat}(h:at_<l.length):stop room gap wrap l at_<=l.length:=by
 have:=adJ room gap wrap (l.drop at_) (by rw[List.length_drop];omega);rw[List.length_drop]at this;unfold stop;omega
theorem qY(room gap:Int)(wrap:Bool)(l:List Int){at_:Nat}(h:at_<l.length):tail room gap wrap l at_=(at_,stop room gap wrap l at_)::tail room gap wrap l (stop room gap wrap l at_):=by
 have h1:=yB room gap wrap l at_;unfold tail;obtain⟨f,hf⟩:∃f,l.length-at_=f+1:=⟨l.length-at_-1,by omega⟩;rw[hf]
 conv=>lhs;unfold Jg
 rw[if_pos h];show(at_,stop room gap wrap l at_)::Jg room gap wrap l f (stop room gap wrap l at_)=_;rw[G5 room gap wrap l f (l.length-stop room gap wrap l at_) _ (by omega) (by omega)]
theorem Lj(room gap:Int)(wrap:Bool)(l:List Int)(at_:Nat):(tail room gap wrap l at_).length<=l.length-at_:=by
 obtain⟨d,hd⟩:∃d,l.length-at_<=d:=⟨_,Nat.le_refl _⟩
 induction d generalizing at_ with
 | zero=>rw[qX _ _ _ _ (by omega)];simp
 | succ d ih =>
   rcases Nat.lt_or_ge at_ l.length with h|h
   . have h1:=yB room gap wrap l at_
     rw[qY _ _ _ _ h];have:=ih (stop room gap wrap l at_) (by omega);simp only[List.length_cons];omega
   . rw[qX _ _ _ _ h];simp
theorem Dt(room gap:Int)(wrap:Bool)(l:List Int):(brk room gap wrap l).length<=l.length:=Lj room gap wrap l 0
def flat(l:List (Nat×Nat)):List Int:=l.flatMap λx=>[(x.1:Int),(x.2:Int)]
theorem TG(l:List (Nat×Nat))(x:Nat×Nat):flat (l++[x])=flat l++[(x.1:Int),(x.2:Int)]:=by simp[flat]
theorem flat_get(l:List (Nat×Nat))(h:k<l.length):(flat l)[k*2]? = some ((l[k]).1:Int)/\(flat l)[k*2+1]? = some ((l[k]).2:Int):=by
 induction l generalizing k with
 | nil=>simp at h
 | cons x l ih =>
   have e:flat (x::l)=(x.1:Int)::(x.2:Int)::flat l:=rfl;cases k with
   | zero=>rw[e];simp
   | succ k =>
     have:=ih (k:=k) (by simpa using h);rw[e,show(k+1)*2=k*2+1+1 by omega];simpa using this
end Li
namespace Ju
open List renaming range → jb'
def pq(kind left n:Int):Int×Int×Int :=
 if kind=1 then (1,0,1)
 else if kind=3 then (if 0<left/\1<n then (0,1,n-1)else (0,0,1))
 else if kind=4 then (if 0<left then (1,2,2*n)else (1,0,2))
 else if kind=5 then (if 0<left then (1,1,n+1)else (1,0,2))
 else if kind=2 then (1,0,2)else (0,0,1)
def fr(left p s q k:Int):Int:=Fx.div (Fx.mul left (p+s*k)) q
def F(kind left n k:Int):Int:=fr left (pq kind left n).1 (pq kind left n).2.1 (pq kind left n).2.2 k
theorem afT(kind left n:Int):0<=(pq kind left n).1/\(pq kind left n).1<=1/\0<=(pq kind left n).2.1/\(pq kind left n).2.1<=2:=by
 unfold pq;(repeat' split)<;>simp
def at_(f:Int->Int)(l:List Int)(gap:Int):Nat->Int
 | 0=>f 0
 | k+1=>Fx.add (Fx.add (Fx.add (at_ f l gap k) (l.getD k 0)) gap) (Fx.sub (f ((k+1:Nat):Int)) (f (k:Int)))
def row(f:Nat->Int)(n:Nat):List Int:=(jb' n).map f
theorem oP(f:Nat->Int)(n:Nat):(row f n).length=n:=by simp[row]
theorem Ji(f:Nat->Int){n k:Nat}(h:k<n):(row f n).getD k 0=f k:=by simp[row,List.getD_eq_getElem?_getD,h]
def left(room gap:Int)(l:List Int):Int:=Fx.sub room (Li.long gap l)
def starts(kind room gap:Int)(l:List Int):Nat->Int:=at_ (F kind (left room gap l) l.length) l gap
def across(kind size room:Int):Int:=if kind=2 then Fx.div (Fx.sub room size) 2 else if kind=3 then Fx.sub room size else 0
end Ju
namespace Fw
open List renaming range → jb'
structure Ld where
 id:Int
 i0:Int
 i1:Int
 s0:Int
 s1:Int
 a0:Int
 a1:Int
instance:Inhabited Ld:=⟨⟨0,0,0,0,0,0,0⟩⟩
structure Bx where
 sty:Re.St
 fl:List Int
 ap:List Int
 ib:Bool
def sizes(l:Nat->Fe.It)(n:Nat)(x:Int):List Int:=(jb' n).map λi=>(Fe.fin l n (Fe.to x 67108864) i).z
def asI(s:Re.St)(y:Nat)(base room:Int):Fe.It:=⟨Fx.len (s.c 41) (s.c 42) room base,Fx.limit 0 (s.c (7+2*y)) (s.c (8+2*y)) 0 0 room,max (Fx.len (s.c (11+2*y)) (s.c (12+2*y)) room 1048576) 0,s.c 39,s.c 40⟩
section
variable (B:Int->Bx)
def meet(e:Nat):Nat->Int->List Int
 | 0,z=>[mg (B z).sty 1 e (-1)]
 | f+1,z=>mg (B z).sty 1 e (-1)::(if opn (B z).sty (B z).ib e=true then
  (match (if e=0 then (B z).fl.head? else (B z).fl.getLast?)with
   | some k=>meet e f k
   | none=>[])else [])
def TH(cont:Int->Int->Int->List Ld×Int)(z r0 r1 t0 t1:Int):Ld :=
 let s:=(B z).sty
 let i0:=FU s 0 r0 r0 t0
 let i1:=FU s 1 r0 r1 t1
 ⟨z,i0,i1,wr (i0+wD s 0),wr ((if i1 = -1 then lim s 1 (cont z i0 i1).2 r1 else i1)+wD s 1),0,0⟩
variable (lay:Int->Int->Int->Int->Int->Ld)
def Du(i0 i1:Int)(k:Int):Ld :=
 let x:=lay k i0 i1 (-1) (-1)
 let s:=(B k).sty
 { x with a0:=Fx.WT i0 x.s0 (Fx.len (s.c 21) (s.c 22) i0 0) (Fx.len (s.c 17) (s.c 18) i0 0) (Fx.dD (s.c 21) i0) (Fx.dD (s.c 17) i0) }
def zM(f:Nat)(z i0 i1:Int):List Ld×Int :=
 let b:=B z
 let ks:=b.fl.map (Du B lay i0 i1)
 let sz:=ks.map (·.s1)
 let tp:=b.fl.map λk=>Fx.coll (meet B 0 f k)
 let bt:=b.fl.map λk=>Fx.coll (meet B 1 f k)
 let first:=if opn b.sty b.ib 0=true then 0 else tp.getD 0 0
 let last:=if opn b.sty b.ib 1=true then 0 else bt.getD (bt.length-1) 0
 (ks.mapIdx λi x=>{ x with a1:=wr (first+Fx.nV sz tp bt i) },wr (wr (first+Fx.uV sz tp bt b.fl.length)+last))
def TI(i0:Int)(y:Nat)(k:Int):Int:=wr (mgs (B k).sty y i0+wD (B k).sty y)
def Dv(i0:Int)(y:Nat)(x:Ld):Int:=wr ((if y=0 then x.s0 else x.s1)+mgs (B x.id).sty y i0)
def left(i0 r gap:Int)(y:Nat)(ks:List Int):Int:=ks.foldl (λa k=>wr (a-TI B i0 y k)) (wr (r-wr (gap*wr ((ks.length:Int)-1))))
def uY(i0 r gap:Int)(y:Nat)(it:Int->Fe.It)(ks:List Int):List Int:=sizes (λi=>it (ks.getD i 0)) ks.length (left B i0 r gap y ks)
def uq(i0:Int)(k:Int):Fe.It:=asI (B k).sty 0 (Fx.len ((B k).sty.c 3) ((B k).sty.c 4) i0 ((B k).sty.c 53)) i0
def nY(z i0 i1 high:Int)(ks:List Int):List Ld×Int :=
 let s:=(B z).sty
 let sz:=uY B i0 i0 (s.c 46) 0 (uq B i0) ks
 let xs:=ks.mapIdx λi k=>lay k i0 i1 (wr (sz.getD i 0+wD (B k).sty 0)) (-1)
 let deep:=if high = -1 then (xs.map (Dv B i0 1)).foldl max 0 else high
 let ys:=if s.c 44=0 then xs.map λx=>if Kw (B x.id).sty 1 i1=true then x else lay x.id i0 i1 x.s0 (wr (lim (B x.id).sty 1 (max (wr (deep-TI B i0 1 x.id)) 0) i1+wD (B x.id).sty 1))else xs
 let st:=Ju.starts (s.c 43) i0 (s.c 46) (ys.map (Dv B i0 0))
 (ys.mapIdx λi x=>{ x with a0:=wr (st i+mg (B x.id).sty 0 0 i0),a1:=wr (Ju.across (s.c 44) (Dv B i0 1 x) deep+mg (B x.id).sty 1 0 i0) },deep)
def dO(z i0 i1 high:Int)(fl:List Int):Bool->Int->List (Nat×Nat)->List Ld×Int
 | _,y,[]=>([],y)
 | fst,y,p::ps =>
   let y1:=if fst=true then y else wr (y+(B z).sty.c 46)
   let l:=nY B lay z i0 i1 high ((fl.drop p.1).take (p.2-p.1))
   let r:=dO z i0 i1 high fl false (wr (y1+l.2)) ps
   (l.1.map (λx=>{ x with a1:=wr (x.a1+y1) })++r.1,r.2)
def TJ(z i0 i1:Int):List Ld×Int :=
 let b:=B z
 let br:=Li.brk i0 (b.sty.c 46) (b.sty.b 45) (b.fl.map λk=>wr (Fe.clamp (uq B i0 k) (uq B i0 k).b+TI B i0 0 k))
 dO B lay z i0 i1 (if br.length=1 then i1 else -1) b.fl true 0 br
def lJ(z i0:Int)(k:Int):Int:=if Kw (B k).sty 0 i0=false/\(B z).sty.c 44≠0 then byc (B k).sty i0 else -1
def sN(z i0 i1:Int):List Ld×Int :=
 let b:=B z
 let s:=b.sty
 let it:=λk=>asI (B k).sty 1 (wr ((lay k i0 i1 (lJ B z i0 k) (-1)).s1-wD (B k).sty 1)) i1
 let sz:=if i1 ≠ -1/\b.fl.length<=64 then uY B i0 i1 (s.c 46) 1 it b.fl else b.fl.map λk=>Fe.clamp (it k) (it k).b
 let xs:=b.fl.mapIdx λi k=>lay k i0 i1 (lJ B z i0 k) (wr (sz.getD i 0+wD (B k).sty 1))
 let long:=xs.map (Dv B i0 1)
 let high:=Li.long (s.c 46) long
 let st:=Ju.starts (s.c 43) (if i1 = -1 then high else i1) (s.c 46) long
 (xs.mapIdx λi x=>{ x with a0:=wr (Ju.across (s.c 44) (Dv B i0 0 x) i0+mg (B x.id).sty 0 0 i0),a1:=wr (st i+mg (B x.id).sty 1 0 i0) },high)
def zw(s:Re.St)(y:Nat)(r a:Int):Int:=if FH s y 0 r=true then wr (a+ins s y 0 r)else if FH s y 1 r=true then wr (a-ins s y 1 r)else a
def mv(i0 i1:Int)(x:Ld):Ld:=if (B x.id).sty.c 1=1 then { x with a0:=zw (B x.id).sty 0 i0 x.a0,a1:=zw (B x.id).sty 1 i1 x.a1 }else x
def kind(f:Nat)(z i0 i1:Int):List Ld×Int :=
 if (B z).sty.c 0=1 then TJ B lay z i0 i1 else if (B z).sty.c 0=2 then sN B lay z i0 i1 else zM B lay f z i0 i1
end
def cont(B:Int->Bx):Nat->Int->Int->Int->List Ld×Int
 | 0,z,i0,i1=>([],(B z).sty.c 54)
 | f+1,z,i0,i1=>if (B z).fl=[]then ([],(B z).sty.c 54)else
  let c:=kind B (TH B (cont B f)) f z i0 i1
  (c.1.map (mv B i0 i1),c.2)
def lay(B:Int->Bx)(f:Nat):Int->Int->Int->Int->Int->Ld:=TH B (cont B f)
def cst(B:Int->Bx):Nat->Int->Nat
 | 0,_=>1
 | f+1,z=>1+3*((B z).fl.map (cst B f)).sum
end Fw
end Go.Proofs.YtdnggaapcgomhaaGreat
namespace Go.Proofs.YtdnggaapcgomhaaGreat.Fw
open List renaming ext_getElem → jb5
section
variable (B:Int->Bx) (f:Nat)
theorem Dw(z r0 r1 t0 t1:Int):(lay B f z r0 r1 t0 t1).id=z:=rfl
theorem OQ(z i0 i1:Int):(zM B (lay B f) f z i0 i1).1.map (·.id)=(B z).fl:=by
 unfold zM;simp only[];exact jb5 (by simp) λi h1 h2=>by simp[Du,Dw]
theorem Ll(z i0 i1:Int):(sN B (lay B f) z i0 i1).1.map (·.id)=(B z).fl:=by
 unfold sN;simp only[];exact jb5 (by simp) λi h1 h2=>by simp[Dw]
theorem Lm(z i0 i1 high:Int)(ks:List Int):(nY B (lay B f) z i0 i1 high ks).1.map (·.id)=ks:=by
 unfold nY;simp only[];split
 . exact jb5 (by simp) λi h1 h2=>by
    simp only[List.getElem_map,List.getElem_mapIdx];split<;>simp[Dw]
 . exact jb5 (by simp) λi h1 h2=>by simp[Dw]
theorem Jj(z i0 i1 high:Int)(fl:List Int)(room gap:Int)(wrap:Bool)(l:List Int)(hl:l.length=fl.length):∀(n at_:Nat) (fst:Bool) (y:Int),l.length-at_<=n->at_<=l.length->(dO B (lay B f) z i0 i1 high fl fst y (Li.tail room gap wrap l at_)).1.map (·.id)=fl.drop at_:=by
 intro n
 induction n with
 | zero =>
   intro at_ fst y h1 h2;rw[Li.qX _ _ _ _ (by omega),List.drop_of_length_le (by omega)];rfl
 | succ n ih =>
   intro at_ fst y h1 h2;by_cases h:at_<l.length
   . have hg:=Li.yB room gap wrap l at_
     have hs:=Li.Jh room gap wrap l h;rw[Li.qY _ _ _ _ h];simp only[dO,List.map_append,List.map_map];rw[ih _ _ _ (by omega) hs];have e:((λx=>x.id)∘λx:Ld=>{ x with a1:=wr (x.a1+if fst=true then y else wr (y+(B z).sty.c 46)) })=(λx:Ld=>x.id):=rfl;rw[e,Lm]
     conv=>rhs;rw[<-List.take_append_drop (Li.stop room gap wrap l at_-at_) (fl.drop at_)]
     rw[List.drop_drop,show at_+(Li.stop room gap wrap l at_-at_)=Li.stop room gap wrap l at_ by omega]
   . rw[Li.qX _ _ _ _ (by omega),List.drop_of_length_le (by omega)]
     rfl
theorem Xg(z i0 i1:Int):(TJ B (lay B f) z i0 i1).1.map (·.id)=(B z).fl:=by
 unfold TJ;simp only[];unfold Li.brk;rw[Jj B f z i0 i1 _ (B z).fl _ _ _ _ (by simp) _ 0 _ _ (Nat.le_refl _) (Nat.zero_le _)];rfl
theorem Lp(z i0 i1:Int):(kind B (lay B f) f z i0 i1).1.map (·.id)=(B z).fl:=by
 unfold kind;split
 . exact Xg B f z i0 i1
 . split
   . exact Ll B f z i0 i1
   . exact OQ B f z i0 i1
end
theorem afU(x:Int) : -9223372036854775808<=wr x:=by unfold wr;omega
theorem afV(x:Int):wr x<=9223372036854775807:=by unfold wr;omega
theorem adK(s:Re.St)(y:Nat)(n base:Int):0<=lim s y n base:=Fx.GU _ _ _ _ _ _
theorem adL(s:Re.St)(y:Nat)(n base:Int):lim s y n base<=1099511627776:=by
 unfold lim;rw[<-Fx.Tg];exact Fx.dU _
theorem Dx(s:Re.St)(y:Nat)(r0 r t:Int) : -1<=FU s y r0 r t/\FU s y r0 r t<=9223372036854775807:=by
 unfold FU;have h1:=afU (t-wD s y);have h2:=afV (t-wD s y);have h3:=λn base=>adK s y n base;have h4:=λn base=>adL s y n base;split
 . omega
 . split
   . have a:=h3 (lng s y r 0) r;have b:=h4 (lng s y r 0) r;omega
   . split
     . have a:=h3 (max (wr (wr (r-mgs s y r0)-wD s y)) 0) r;have b:=h4 (max (wr (wr (r-mgs s y r0)-wD s y)) 0) r;omega
     . omega
end Go.Proofs.YtdnggaapcgomhaaGreat.Fw
namespace Go.Proofs.YtdnggaapcgomhaaGreat
namespace St
def over(a b:Int):Int:=if Fx.sub a b<=0 then 0 else Fx.sub a b
def least(a b:Int):Int:=if b<a then b else a
def down(oD pU:Int)(qZ:Bool)(pV:Int):Int:=if qZ then over (Fx.add pU pV) oD else 0
def up(oD uw pU phi:Int)(qZ:Bool)(pV:Int)(x9:Bool)(wE:Int):Int :=
 if x9 then (if qZ then least (over uw (Fx.sub phi wE)) (over oD (Fx.add pU pV))else over uw (Fx.sub phi wE))else 0
def shift(oD uw ilo ihi pU phi:Int)(qZ:Bool)(pV:Int)(x9:Bool)(wE:Int):Int :=
 if 0<down oD pU qZ pV then least (down oD pU qZ pV) (over ihi uw)
 else if 0<up oD uw pU phi qZ pV x9 wE then -least (up oD uw pU phi qZ pV x9 wE) (over oD ilo)
 else 0
theorem Cy(a b:Int):0<=over a b:=by unfold over;split<;>omega
theorem Jk(a b:Int):over a b<=1099511627776:=by
 have:=Fx.dU (Fx.cut a-Fx.cut b);unfold over Fx.sub;split<;>omega
theorem ac2(oD uw pU phi:Int)(qZ:Bool)(pV:Int)(x9:Bool)(wE:Int):0<=up oD uw pU phi qZ pV x9 wE/\up oD uw pU phi qZ pV x9 wE<=1099511627776:=by
 have h1:=Cy uw (Fx.sub phi wE);have h2:=Jk uw (Fx.sub phi wE);have h3:=Cy oD (Fx.add pU pV);have h4:=Jk oD (Fx.add pU pV);unfold up least
 (repeat' split)<;>omega
section
variable {oD uw ilo ihi pU phi pV wE:Int} (qZ x9:Bool)
end
end St
end Go.Proofs.YtdnggaapcgomhaaGreat
namespace Go.Proofs.YtdnggaapcgomhaaGreat.Fe
end Go.Proofs.YtdnggaapcgomhaaGreat.Fe
