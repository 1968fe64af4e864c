/- What functions of the program do, in plain numbers, part 1; no conditions. -/
set_option linter.unusedVariables false
set_option linter.unusedSimpArgs false
set_option linter.unusedSectionVars false
set_option maxRecDepth 100000
namespace Go.Proofs.YtmidaiklolmkcaaGreat
namespace Fx
def cut(n:Int):Int:=if 1099511627776<n then 1099511627776 else if n < -1099511627776 then -1099511627776 else n
def add(a b:Int):Int:=cut (cut a+cut b)
def sub(a b:Int):Int:=cut (cut a-cut b)
def mul(a b:Int):Int:=cut (cut a*cut b)
def div(a b:Int):Int:=if b<=0 then 0 else cut a/cut b
def parts(n:Int):Int:=if n<0 then 0 else if 1000000<n then 1000000 else n
def part(a n:Int):Int:=cut (cut a*parts n/10000)
def clamp(n lo hi:Int):Int:=if (if cut hi<cut n then cut hi else cut n)<cut lo then cut lo else (if cut hi<cut n then cut hi else cut n)
def sumTo(s:Int)(l:List Int):Int:=l.foldl add s
def sum(l:List Int):Int:=sumTo 0 l
theorem jP(n:Int):cut n<=1099511627776:=by unfold cut;split<;>(try split)<;>omega
theorem nK(n:Int) : -1099511627776<=cut n:=by unfold cut;split<;>(try split)<;>omega
theorem fM{n:Int}(a : -1099511627776<=n)(b:n<=1099511627776):cut n=n:=by unfold cut;split<;>(try split)<;>omega
theorem yt(n:Int):cut (cut n)=cut n:=fM (nK n) (jP n)
theorem Ue{a b:Int}(h:a<=b):cut a<=cut b:=by unfold cut;(repeat' split)<;>omega
theorem Hw(n:Int):cut (-n) = -cut n:=by unfold cut;(repeat' split)<;>omega
theorem YL{n:Int}(h:1<=n):1<=cut n:=by unfold cut;(repeat' split)<;>omega
theorem xC{n:Int}(h:0<=n):0<=cut n:=by unfold cut;(repeat' split)<;>omega
theorem CU(n:Int):0<=parts n:=by unfold parts;split<;>(try split)<;>omega
theorem Uf(n:Int):parts n<=1000000:=by unfold parts;split<;>(try split)<;>omega
theorem zF{a b:Int}(hb:1<=b)(h:a.tmod b<0):a.tdiv b-1=a/b:=by
 have e:=Int.mul_tdiv_add_tmod a b;have l:=Int.lt_tmod_of_pos a (show 0<b by omega);have:a=(b+a.tmod b)+b*(a.tdiv b-1):=by rw[Int.mul_sub];omega
 have u:=(Int.ediv_emod_unique (a:=a) (r:=b+a.tmod b) (q:=a.tdiv b-1) (show 0<b by omega)).2 ⟨this.symm,by omega,by omega⟩;exact u.1.symm
theorem zG{a b:Int}(hb:1<=b)(h:0<=a.tmod b):a.tdiv b=a/b:=by
 have e:=Int.mul_tdiv_add_tmod a b;have l:=Int.tmod_lt_of_pos a (show 0<b by omega);have u:=(Int.ediv_emod_unique (a:=a) (r:=a.tmod b) (q:=a.tdiv b) (show 0<b by omega)).2 ⟨by omega,by omega,by omega⟩;exact u.1.symm
theorem YM{a b c:Int}(hb:1<=b)(h0:0<=c)(h : -c<=a) : -c<=a/b:=by
 apply Int.le_ediv_of_mul_le (by omega);have:c*1<=c*b:=Int.mul_le_mul_of_nonneg_left hb h0;rw[Int.neg_mul];omega
theorem YN{a b c:Int}(hb:1<=b)(h0:0<=c)(h:a<=c):a/b<=c:=by
 apply Int.ediv_le_of_le_mul (by omega);have:c*1<=c*b:=Int.mul_le_mul_of_nonneg_left hb h0;omega
theorem YO{a b:Int}(hb:1<=b)(h3 : -1152921504606846976<=a) : -1152921504606846976<=a.tdiv b:=by
 have:=YM hb (by omega) h3;by_cases h:a.tmod b<0
 . have:=zF hb h;omega
 . have:=zG hb (by omega:0<=a.tmod b);omega
theorem tdiv_le{a b:Int}(hb:1<=b)(h3:a<=1152921504606846976):a.tdiv b<=1152921504606846977:=by
 have:=YN hb (by omega) h3;by_cases h:a.tmod b<0
 . have:=zF hb h;omega
 . have:=zG hb (by omega:0<=a.tmod b);omega
theorem JO(n:Int):clamp n 0 1000000=parts n:=by
 unfold clamp parts cut
 (repeat' split)<;>omega
theorem Ca(a n:Int) : -1152921504606846976<=cut a*parts n/\cut a*parts n<=1152921504606846976:=by
 have h1:=jP a;have h2:=nK a;have h3:=CU n;have h4:=Uf n;constructor
 . have:(-1099511627776)*parts n<=cut a*parts n:=Int.mul_le_mul_of_nonneg_right h2 h3
   omega
 . have:cut a*parts n<=1099511627776*parts n:=Int.mul_le_mul_of_nonneg_right h1 h3
   omega
theorem sum_nil:sum []=0:=rfl
def Tw(n:Int):Int:=if n<0 then -n else n
theorem Ug(a:Int):0<=Tw (cut a)/\Tw (cut a)<=1099511627776:=by
 have h1:=jP a;have h2:=nK a;unfold Tw;split<;>omega
theorem YP(a b:Int):mul a b=bif !(decide (cut a<0)==decide (cut b<0))then -cut (Tw (cut a)*Tw (cut b))else cut (Tw (cut a)*Tw (cut b)):=by
 unfold mul Tw;by_cases ha:cut a<0<;>by_cases hb:cut b<0<;>simp[ha,hb,Int.neg_mul,Int.mul_neg,Int.neg_neg,Hw]
theorem halves(a b:Int):a*b=(a/4294967296)*(b/4294967296)*18446744073709551616+((a/4294967296)*(b%4294967296)+(a%4294967296)*(b/4294967296))*4294967296+(a%4294967296)*(b%4294967296):=by
 generalize hx:a/4294967296=x;generalize hy:a%4294967296=y;generalize hz:b/4294967296=z;generalize hu:b%4294967296=u;have ea:a=x*4294967296+y:=by omega
 have eb:b=z*4294967296+u:=by omega
 rw[ea,eb];simp only[Int.add_mul,Int.mul_add];have e1:x*4294967296*(z*4294967296)=x*z*18446744073709551616:=by
  rw[Int.mul_assoc,Int.mul_left_comm (4294967296) z,<-Int.mul_assoc x z];congr 1
 have e2:x*4294967296*u=x*u*4294967296:=by rw[Int.mul_assoc,Int.mul_comm 4294967296 u,<-Int.mul_assoc]
 have e3:y*(z*4294967296)=y*z*4294967296:=by rw[<-Int.mul_assoc]
 rw[e1,e2,e3];omega
theorem zH{x y c d:Int}(h1:0<=x)(h2:x<=c)(h3:0<=y)(h4:y<=d):0<=x*y/\x*y<=c*d :=
 ⟨Int.mul_nonneg h1 h3,Int.mul_le_mul h2 h4 h3 (by omega)⟩
theorem ab5(x y:Nat)(hy:y<4294967296):x*4294967296 ||| y=x*4294967296+y:=by
 have:=Nat.shiftLeft_add_eq_or_of_lt (i:=32) (b:=y) (by simpa using hy) x;rw[Nat.shiftLeft_eq]at this;simpa using this.symm
theorem add_comm(a b:Int):add a b=add b a:=by unfold add;rw[Int.add_comm]
theorem mul_comm(a b:Int):mul a b=mul b a:=by unfold mul;rw[Int.mul_comm]
theorem zI{a:Int}:part a 0=0:=by
 unfold part;rw[show parts 0=0 from rfl,Int.mul_zero];rfl
theorem mul_neg(a b:Int):mul (-a) b = -mul a b:=by unfold mul;rw[Hw,Int.neg_mul,Hw]
theorem mul_zero(a:Int):mul a 0=0:=by unfold mul;rw[show cut 0=0 from rfl,Int.mul_zero];rfl
theorem mul_one(a:Int):mul a 1=cut a:=by unfold mul;rw[show cut 1=1 from rfl,Int.mul_one,yt]
theorem Uh(a n:Int):cut (part a n)=part a n:=yt _
def eight(a b c:Int):List Int:=[cut a,add a b,sub a b,mul a b,div a b,part a b,clamp a b c,sum [a,b,c]]
def tot(l:List Int):Int:=l.foldr (· + ·) 0
end Fx
namespace Fx
def mn(a b:Int):Int:=if b<a then b else a
def mx(a b:Int):Int:=if a<b then b else a
def size(a b:Int):Int:=if 0<sub b a then sub b a else 0
def has(a b n:Int):Bool:=decide (a<=n)&&decide (n<b)
def ends(a b c d:Int):Bool:=decide (c<=a)&&decide (b<=d)
def inn(a b c d:Int):Bool:=decide (b<=a)||ends a b c d
def fit(a b c d:Int):Int:=if ends a b c d then 0 else if a<c\/size c d<size a b then sub c a else sub d b
theorem Hy{a b c d:Int}:inn a b c d=true↔(b<=a\/(c<=a/\b<=d)):=by unfold inn ends;simp
end Fx
namespace Fx
def jg(k base:Int):Bool:=decide (k=1)||(decide (k=2)&&decide (0<=base))
def len(k n base none:Int):Int:=if k=1 then cut n else if k=2/\0<=base then part base n else cut none
def valid(k n:Int):Bool:=if k=0 then decide (n=0)else if k=1 then decide (n=cut n)else if k=2 then decide (0<=n)&&decide (n<=1000000)else false
def limit(n lk ln hk hn base:Int):Int:=mx (clamp n (len lk ln base (-1099511627776)) (len hk hn base 1099511627776)) 0
theorem JQ{k base:Int}:jg k base=true↔k=1\/(k=2/\0<=base):=by unfold jg;simp
theorem Ui{k base:Int}:jg k base=false↔k≠1/\(k=2->base<0):=by unfold jg;simp
theorem Na{k n base none:Int}(h:k=1):len k n base none=cut n:=by unfold len;rw[if_pos h]
theorem YQ{k n base none:Int}(h:k=2)(h2:0<=base):len k n base none=part base n:=by unfold len;rw[if_neg (by omega),if_pos ⟨h,h2⟩]
theorem yu{k n base none:Int}(h:jg k base=false):len k n base none=cut none:=by
 rw[Ui]at h;unfold len;rw[if_neg h.1,if_neg (by omega)]
theorem yw{k n base none none':Int}(h:jg k base=true):len k n base none=len k n base none':=by
 rw[JQ]at h;unfold len;by_cases h1:k=1
 . rw[if_pos h1,if_pos h1]
 . rw[if_neg h1,if_neg h1,if_pos (by omega),if_pos (by omega)]
theorem vX(k n base none:Int):cut (len k n base none)=len k n base none:=by
 unfold len
 (repeat' split)
 . exact yt _
 . exact Uh _ _
 . exact yt _
theorem Hz(k n base none:Int):len k n base none<=1099511627776:=by rw[<-vX];exact jP _
theorem Uj(k n base none:Int) : -1099511627776<=len k n base none:=by rw[<-vX];exact nK _
theorem Uk(n lk ln hk hn base:Int):limit n lk ln hk hn base =
  mx (bif jg lk base then mx (bif jg hk base then mn (cut n) (len hk hn base 0)else cut n) (len lk ln base 0)else (bif jg hk base then mn (cut n) (len hk hn base 0)else cut n)) 0:=by
 have l1:=jP n;have l2:=nK n;have l3:=Hz hk hn base 0;have l4:=Uj hk hn base 0;have l5:=Hz lk ln base 0;have l6:=Uj lk ln base 0;unfold limit clamp;rw[vX,vX];cases h1:jg lk base<;>cases h2:jg hk base<;>simp only[cond_true,cond_false]
 . rw[yu h1,yu h2];simp only[fM (n:=1099511627776) (by omega) (by omega),fM (n := -1099511627776) (by omega) (by omega)]
   unfold mx;(repeat' split)<;>omega
 . rw[yu h1,yw (none':=0) h2];simp only[fM (n := -1099511627776) (by omega) (by omega)]
   unfold mx mn;(repeat' split)<;>omega
 . rw[yu h2,yw (none':=0) h1];simp only[fM (n:=1099511627776) (by omega) (by omega)]
   unfold mx;(repeat' split)<;>omega
 . rw[yw (none':=0) h1,yw (none:=1099511627776) (none':=0) h2]
   unfold mx mn;(repeat' split)<;>omega
theorem Ga{a n m:Int}(h:0<=a)(h2:n<=m):part a n<=part a m:=by
 unfold part;refine Ue (Int.ediv_le_ediv (by omega) (Int.mul_le_mul_of_nonneg_left ?_ (xC h)));unfold parts;(repeat' split)<;>omega
theorem Ul{a:Int}(h:0<=a)(h2:a<=1099511627776):part a 10000=a:=by
 unfold part;have e:parts 10000=10000:=by decide
 rw[e,fM (n:=a) (by omega) (by omega),Int.mul_ediv_cancel a (by omega),fM (by omega) h2]
theorem Um{a n:Int}(h:0<=a):0<=part a n:=by
 have:=@Ga a 0 (parts n) h (CU n);have e:part a 0=0:=zI;unfold part;exact xC (Int.ediv_nonneg (Int.mul_nonneg (xC h) (CU n)) (by omega))
theorem Gc(n lk ln hk hn base:Int):0<=limit n lk ln hk hn base:=by unfold limit mx;split<;>omega
theorem QT(n lk ln hk hn base:Int):cut (limit n lk ln hk hn base)=limit n lk ln hk hn base:=by
 have l1:=jP n;have l2:=nK n;have l3:=Hz hk hn base 1099511627776;have l5:=Hz lk ln base (-1099511627776);refine fM (by have:=Gc n lk ln hk hn base;omega) ?_;unfold limit clamp;rw[vX,vX];unfold mx;(repeat' split)<;>omega
def lv(k n v:Int):Prop:=if k=0 then v=0 else if k=1 then v=n else 0<=v
end Fx
end Go.Proofs.YtmidaiklolmkcaaGreat
namespace Go.Proofs.YtmidaiklolmkcaaGreat.Re
def sO(i:Nat):Bool:=i==45||i==47||i==51||i==52
structure St where
 c:Nat->Int
 b:Nat->Bool
def num(s:St)(i:Nat):Int:=if sO i=true then (if s.b i=true then 1 else 0)else s.c i
def inn(n lo hi:Int):Bool:=decide (lo<=n)&&decide (n<=hi)
def lens:List Nat:=[3,5,7,9,11,13,41,15,23,17,25,19,27,21,29]
def sizes:List Nat:=[46,53,54,31,35,32,36,33,37,34,38]
def gD(s:St):Bool:=inn (s.c 0) 0 3&&inn (s.c 1) 0 4&&inn (s.c 2) 0 2&&inn (s.c 43) 0 5&&inn (s.c 44) 0 3&&inn (s.c 49) 0 2&&inn (s.c 50) 0 3
def CW(s:St):Bool:=lens.all λi=>Fx.valid (s.c i) (s.c (i+1))
def xD(s:St):Bool:=sizes.all λi=>inn (s.c i) 0 1048576
def valid(s:St):Bool:=gD s&&CW s&&xD s&&inn (s.c 39) 0 1000&&inn (s.c 40) 0 1000&&inn (s.c 48) (-1048576) 1048576
def zero:St:=⟨λ_=>0,λ_=>false⟩
def same(s t:St):Prop:=∀i,i<55->(if sO i=true then s.b i=t.b i else s.c i=t.c i)
theorem Hy{n lo hi:Int}:inn n lo hi=true↔lo<=n/\n<=hi:=by unfold inn;simp
theorem JI{s:St}{i:Nat}(h:sO i=false):num s i=s.c i:=by unfold num;rw[if_neg (by simp[h])]
theorem same.symm{s t:St}(h:same s t):same t s:=λi hi=>by
 have:=h i hi;by_cases e:sO i=true
 . rw[if_pos e]at this ⊢;exact this.symm
 . rw[if_neg e]at this ⊢;exact this.symm
theorem same.c{s t:St}(h:same s t)(i:Nat)(hi:i<55)(hb:sO i=false):s.c i=t.c i:=by
 have:=h i hi
 rwa [if_neg (by simp[hb])]at this
theorem same.b{s t:St}(h:same s t)(i:Nat)(hi:i<55)(hb:sO i=true):s.b i=t.b i:=by
 have:=h i hi
 rwa [if_pos hb]at this
theorem Nb{s t:St}(h:same s t):valid s=valid t:=by
 unfold valid gD CW xD lens sizes;simp only[List.all_cons,List.all_nil]
 rw[h.c 0 (by decide) rfl,h.c 1 (by decide) rfl,h.c 2 (by decide) rfl,h.c 3 (by decide) rfl,h.c 4 (by decide) rfl,h.c 5 (by decide) rfl,h.c 6 (by decide) rfl,h.c 7 (by decide) rfl,h.c 8 (by decide) rfl,h.c 9 (by decide) rfl,
  h.c 10 (by decide) rfl,h.c 11 (by decide) rfl,h.c 12 (by decide) rfl,h.c 13 (by decide) rfl,h.c 14 (by decide) rfl,h.c 15 (by decide) rfl,h.c 16 (by decide) rfl,h.c 17 (by decide) rfl,h.c 18 (by decide) rfl,h.c 19 (by decide) rfl,
  h.c 20 (by decide) rfl,h.c 21 (by decide) rfl,h.c 22 (by decide) rfl,h.c 23 (by decide) rfl,h.c 24 (by decide) rfl,h.c 25 (by decide) rfl,h.c 26 (by decide) rfl,h.c 27 (by decide) rfl,h.c 28 (by decide) rfl,h.c 29 (by decide) rfl,
  h.c 30 (by decide) rfl,h.c 31 (by decide) rfl,h.c 32 (by decide) rfl,h.c 33 (by decide) rfl,h.c 34 (by decide) rfl,h.c 35 (by decide) rfl,h.c 36 (by decide) rfl,h.c 37 (by decide) rfl,h.c 38 (by decide) rfl,h.c 39 (by decide) rfl,
  h.c 40 (by decide) rfl,h.c 41 (by decide) rfl,h.c 42 (by decide) rfl,h.c 43 (by decide) rfl,h.c 44 (by decide) rfl,h.c 46 (by decide) rfl,h.c 48 (by decide) rfl,h.c 49 (by decide) rfl,h.c 50 (by decide) rfl,h.c 53 (by decide) rfl,h.c 54 (by decide) rfl]
end Go.Proofs.YtmidaiklolmkcaaGreat.Re
namespace Go.Proofs.YtmidaiklolmkcaaGreat.Fw
def wr(x:Int):Int:=(x+9223372036854775808)%18446744073709551616-9223372036854775808
def sd(y e:Nat):Nat:=if y=0 then (if e=0 then 3 else 1)else (if e=0 then 0 else 2)
def ed(s:Re.St)(i:Nat):Int:=wr (s.c (31+i)+s.c (35+i))
def iB(s:Re.St)(y:Nat):Int:=wr (ed s (sd y 0)+ed s (sd y 1))
def zJ(s:Re.St)(y:Nat)(base:Int):Bool:=Fx.jg (s.c (3+2*y)) base
def Tz(s:Re.St)(y:Nat)(base none:Int):Int:=Fx.len (s.c (3+2*y)) (s.c (4+2*y)) base none
def lim(s:Re.St)(y:Nat)(n base:Int):Int:=Fx.limit n (s.c (7+2*y)) (s.c (8+2*y)) (s.c (11+2*y)) (s.c (12+2*y)) base
def mg(s:Re.St)(y e:Nat)(r:Int):Int:=Fx.len (s.c (15+2*sd y e)) (s.c (16+2*sd y e)) (if y=0 then r else -1) 0
def Cc(s:Re.St)(y:Nat)(r:Int):Int:=wr (mg s y 0 r+mg s y 1 r)
def jk(s:Re.St)(y:Nat)(r0 r t:Int):Int :=
 if t ≠ -1 then max (wr (t-iB s y)) 0
 else if zJ s y r=true then lim s y (Tz s y r 0) r
 else if y=0 then lim s y (max (wr (wr (r-Cc s y r0)-iB s y)) 0) r else -1
def JR(s:Re.St)(r0:Int):Int:=wr (lim s 0 (s.c 53) r0+iB s 0)
def ins(s:Re.St)(y e:Nat)(r:Int):Int:=Fx.len (s.c (23+2*sd y e)) (s.c (24+2*sd y e)) r 0
def BU(s:Re.St)(y e:Nat)(r:Int):Bool:=Fx.jg (s.c (23+2*sd y e)) r
def opn(s:Re.St)(ib:Bool)(e:Nat):Bool :=
 (ib&&s.c 0==0&&s.c 2==0&&ed s (sd 1 e)==0)&&(e==0||(s.c 5==0&&s.c 9==0))
end Go.Proofs.YtmidaiklolmkcaaGreat.Fw
namespace Go.Proofs.YtmidaiklolmkcaaGreat
namespace Fx
def top(l:List Int):Int:=l.foldl max 0
def bot(l:List Int):Int:=l.foldl min 0
def coll(l:List Int):Int:=add (top l) (bot l)
theorem Un(l:List Int)(x:Int):top (l++[x])=max (top l) x:=by simp[top]
theorem Uo(l:List Int)(x:Int):bot (l++[x])=min (bot l) x:=by simp[bot]
theorem kC(l:List Int)(s x:Int):l.foldl max s<=x↔s<=x/\∀z∈l,z<=x:=by
 induction l generalizing s with
 | nil=>simp
 | cons y l ih =>
   rw[List.foldl_cons,ih];constructor
   . rintro⟨h1,h2⟩
     exact⟨by omega,λz hz=>by rcases List.mem_cons.1 hz with rfl|hz;(· omega);exact h2 z hz⟩
   . rintro⟨h1,h2⟩
     exact⟨by have:=h2 y (by simp);omega,λz hz=>h2 z (by simp[hz])⟩
theorem yx(l:List Int)(s x:Int):x<=l.foldl min s↔x<=s/\∀z∈l,x<=z:=by
 induction l generalizing s with
 | nil=>simp
 | cons y l ih =>
   rw[List.foldl_cons,ih];constructor
   . rintro⟨h1,h2⟩
     exact⟨by omega,λz hz=>by rcases List.mem_cons.1 hz with rfl|hz;(· omega);exact h2 z hz⟩
   . rintro⟨h1,h2⟩
     exact⟨by have:=h2 y (by simp);omega,λz hz=>h2 z (by simp[hz])⟩
theorem H6(l:List Int):0<=top l:=((kC l 0 (top l)).1 (Int.le_refl _)).1
theorem Pz(l:List Int):bot l<=0:=((yx l 0 (bot l)).1 (Int.le_refl _)).1
def shA(n:Int)(a b:Bool):Int:=if n<=0 then 0 else if a then (if b then n/2 else n)else 0
def shB(n:Int)(a b:Bool):Int:=if n<=0 then 0 else if b then (if a then sub n (n/2)else n)else 0
def left(room size f l:Int):Int:=sub (sub room size) (add f l)
def PD(room size f l:Int)(x y:Bool):Int:=add f (shA (left room size f l) (!x) (!y))
def aee(room size f l:Int)(x y:Bool):Int:=add l (shB (left room size f l) (!x) (!y))
theorem ab6(a b:Int) : -1099511627776<=sub a b:=nK _
theorem sub_le(a b:Int):sub a b<=1099511627776:=jP _
def pI(s t b:List Int):Nat->Int
 | 0=>0
 | k+1=>add (if k=0 then 0 else add (pI s t b k) (coll [b.getD (k-1) 0,t.getD k 0])) (s.getD k 0)
def kZ(s t b:List Int)(k:Nat):Int:=if k=0 then 0 else add (pI s t b k) (coll [b.getD (k-1) 0,t.getD k 0])
def uV(s t b:List Int)(n:Nat):List Int:=(List.range n).map (kZ s t b)
theorem xE(s t b:List Int)(k:Nat):pI s t b (k+1)=add (kZ s t b k) (s.getD k 0):=rfl
theorem CX(s t b:List Int):kZ s t b 0=0:=rfl
theorem Gd(s t b:List Int){k:Nat}(h:0<k):kZ s t b k=add (pI s t b k) (coll [b.getD (k-1) 0,t.getD k 0]):=by unfold kZ;rw[if_neg (by omega)]
theorem qU(s t b:List Int)(n:Nat):(uV s t b n).length=n:=by simp[uV]
theorem CY(s t b:List Int){n k:Nat}(h:k<n):(uV s t b n).getD k 0=kZ s t b k:=by simp[uV,h]
end Fx
namespace Li
def next(gap s x:Int):Int:=Fx.add (Fx.add s gap) x
def long(gap:Int):List Int->Int
 | []=>0
 | x::l=>l.foldl (next gap) (Fx.cut x)
theorem QU(gap:Int)(l:List Int)(x:Int)(h:l≠[]):long gap (l++[x])=next gap (long gap l) x:=by
 cases l with
 | nil=>exact absurd rfl h
 | cons y l=>simp[long]
theorem Gf(l:List Int){k:Nat}(h:k<l.length):l.take (k+1)=l.take k++[l.getD k 0]:=by
 rw[List.take_succ_eq_append_getElem h];simp[List.getElem?_eq_getElem h]
theorem YR(l:List Int){k:Nat}(h0:0<k)(h:0<l.length):l.take k≠[]:=by
 intro e;have h1:(l.take k).length=0:=by rw[e];rfl
 rw[List.length_take]at h1;omega
theorem zK(gap:Int)(l:List Int){k:Nat}(h0:0<k)(h:k<l.length):long gap (l.take (k+1))=next gap (long gap (l.take k)) (l.getD k 0):=by
 rw[Gf l h,QU _ _ _ (YR l h0 (by omega))]
theorem wS(gap:Int)(l:List Int)(h:0<l.length):long gap (l.take 1)=Fx.cut (l.getD 0 0):=by
 rw[Gf l h];rfl
def goes(room gap:Int)(wrap:Bool)(l:List Int)(n:Nat):Bool:=decide (n<l.length)&&(decide (n<64)&&(!wrap||decide (long gap (l.take (n+1))<=room)))
theorem qc{room gap:Int}{wrap:Bool}{l:List Int}{n:Nat}:goes room gap wrap l n=true↔n<l.length/\n<64/\(wrap=true->long gap (l.take (n+1))<=room):=by
 unfold goes;cases wrap<;>simp
def cntF(room gap:Int)(wrap:Bool)(l:List Int):Nat->Nat->Nat
 | 0,n=>n
 | f+1,n=>if goes room gap wrap l n then cntF room gap wrap l f (n+1)else n
def cnt(room gap:Int)(wrap:Bool)(l:List Int):Nat:=cntF room gap wrap l 64 1
structure uw(room gap:Int)(wrap:Bool)(l:List Int)(n:Nat):Prop where
 one:1<=n
 all:∀k,1<=k->k<n->goes room gap wrap l k=true
 end_:goes room gap wrap l n=false
theorem PE(room gap:Int)(wrap:Bool)(l:List Int):∀f n,64<=f+n->1<=n->(∀k,1<=k->k<n->goes room gap wrap l k=true)->uw room gap wrap l (cntF room gap wrap l f n)
 | 0,n,hf,h1,ha=>⟨h1,ha,by
   show goes room gap wrap l n=false;cases h:goes room gap wrap l n with
   | false=>rfl
   | true=>have:=qc.1 h;omega⟩
 | f+1,n,hf,h1,ha=>by
   unfold cntF;split
   . rename_i h
     refine PE room gap wrap l f (n+1) (by omega) (by omega) λk k1 k2 => ?_;rcases Nat.lt_or_ge k n with k3|k3
     . exact ha k k1 k3
     . obtain rfl:k=n:=by omega
       exact h
   . rename_i h
     exact⟨h1,ha,by simpa using h⟩
theorem Nc(room gap:Int)(wrap:Bool)(l:List Int):uw room gap wrap l (cnt room gap wrap l):=PE room gap wrap l 64 1 (by omega) (Nat.le_refl _) λk h1 h2=>by omega
theorem uw.unique{room gap:Int}{wrap:Bool}{l:List Int}{n m:Nat}(h:uw room gap wrap l n)(k:uw room gap wrap l m):n=m:=by
 rcases Nat.lt_trichotomy n m with h1|h1|h1
 . have:=k.all n h.one h1;rw[h.end_]at this;cases this
 . exact h1
 . have:=h.all m k.one h1;rw[k.end_]at this;cases this
theorem uw.eq{room gap:Int}{wrap:Bool}{l:List Int}{n:Nat}(h:uw room gap wrap l n):cnt room gap wrap l=n:=(Nc room gap wrap l).unique h
theorem uw.le{room gap:Int}{wrap:Bool}{l:List Int}{n:Nat}(h:uw room gap wrap l n)(h0:0<l.length):n<=l.length/\n<=64:=by
 rcases Nat.lt_or_ge 1 n with h1|h1
 . have:=qc.1 (h.all (n-1) (by omega) (by omega));omega
 . omega
theorem ab7(room gap:Int)(wrap:Bool)(l:List Int)(h0:0<l.length):cnt room gap wrap l<=l.length:=((Nc room gap wrap l).le h0).1
theorem PG(room gap:Int)(wrap:Bool)(l:List Int):1<=cnt room gap wrap l:=(Nc room gap wrap l).one
def H7(room gap:Int)(wrap:Bool)(l:List Int):Nat->Nat->List (Nat×Nat)
 | 0,_=>[]
 | f+1,at_=>if at_<l.length then (at_,at_+cnt room gap wrap (l.drop at_))::H7 room gap wrap l f (at_+cnt room gap wrap (l.drop at_))else []
def tail(room gap:Int)(wrap:Bool)(l:List Int)(at_:Nat):List (Nat×Nat):=H7 room gap wrap l (l.length-at_) at_
def brk(room gap:Int)(wrap:Bool)(l:List Int):List (Nat×Nat):=tail room gap wrap l 0
theorem Gg(room gap:Int)(wrap:Bool)(l:List Int):∀f g at_,l.length<=f+at_->l.length<=g+at_->H7 room gap wrap l f at_=H7 room gap wrap l g at_
 | 0,0,_,_,_=>rfl
 | 0,g+1,at_,h,_=>by unfold H7;rw[if_neg (by omega)]
 | f+1,0,at_,_,h=>by unfold H7;rw[if_neg (by omega)]
 | f+1,g+1,at_,hf,hg=>by
   unfold H7;split
   . rename_i h
     have:=PG room gap wrap (l.drop at_);rw[Gg room gap wrap l f g _ (by omega) (by omega)]
   . rfl
theorem oN(room gap:Int)(wrap:Bool)(l:List Int){at_:Nat}(h:l.length<=at_):tail room gap wrap l at_=[]:=by
 unfold tail;rw[show l.length-at_=0 by omega];rfl
def stop(room gap:Int)(wrap:Bool)(l:List Int)(at_:Nat):Nat:=at_+cnt room gap wrap (l.drop at_)
theorem vY(room gap:Int)(wrap:Bool)(l:List Int)(at_:Nat):at_<stop room gap wrap l at_:=by
 have:=PG room gap wrap (l.drop at_);unfold stop;omega
theorem Ce(room gap:Int)(wrap:Bool)(l:List Int){at_:Nat}(h:at_<l.length):stop room gap wrap l at_<=l.length:=by
 have:=ab7 room gap wrap (l.drop at_) (by rw[List.length_drop];omega);rw[List.length_drop]at this;unfold stop;omega
theorem pW(room gap:Int)(wrap:Bool)(l:List Int){at_:Nat}(h:at_<l.length):tail room gap wrap l at_=(at_,stop room gap wrap l at_)::tail room gap wrap l (stop room gap wrap l at_):=by
 have h1:=vY room gap wrap l at_;unfold tail;obtain⟨f,hf⟩:∃f,l.length-at_=f+1:=⟨l.length-at_-1,by omega⟩;rw[hf]
 conv=>lhs;unfold H7
 rw[if_pos h];show(at_,stop room gap wrap l at_)::H7 room gap wrap l f (stop room gap wrap l at_)=_;rw[Gg room gap wrap l f (l.length-stop room gap wrap l at_) _ (by omega) (by omega)]
theorem JU(room gap:Int)(wrap:Bool)(l:List Int)(at_:Nat):(tail room gap wrap l at_).length<=l.length-at_:=by
 obtain⟨d,hd⟩:∃d,l.length-at_<=d:=⟨_,Nat.le_refl _⟩
 induction d generalizing at_ with
 | zero=>rw[oN _ _ _ _ (by omega)];simp
 | succ d ih =>
   rcases Nat.lt_or_ge at_ l.length with h|h
   . have h1:=vY room gap wrap l at_
     rw[pW _ _ _ _ h];have:=ih (stop room gap wrap l at_) (by omega);simp only[List.length_cons];omega
   . rw[oN _ _ _ _ h];simp
theorem CZ(room gap:Int)(wrap:Bool)(l:List Int):(brk room gap wrap l).length<=l.length:=JU room gap wrap l 0
def flat(l:List (Nat×Nat)):List Int:=l.flatMap λx=>[(x.1:Int),(x.2:Int)]
theorem QV(l:List (Nat×Nat))(x:Nat×Nat):flat (l++[x])=flat l++[(x.1:Int),(x.2:Int)]:=by simp[flat]
theorem flat_get(l:List (Nat×Nat)){k:Nat}(h:k<l.length):(flat l)[k*2]? = some ((l[k]).1:Int)/\(flat l)[k*2+1]? = some ((l[k]).2:Int):=by
 induction l generalizing k with
 | nil=>simp at h
 | cons x l ih =>
   have e:flat (x::l)=(x.1:Int)::(x.2:Int)::flat l:=rfl;cases k with
   | zero=>rw[e];simp
   | succ k =>
     have:=ih (k:=k) (by simpa using h);rw[e,show(k+1)*2=k*2+1+1 by omega];simpa using this
end Li
end Go.Proofs.YtmidaiklolmkcaaGreat
namespace Go.Proofs.YtmidaiklolmkcaaGreat.Fe
def to(n m:Int):Int:=if m<n then m else if n<0 then 0 else n
theorem rP{n m:Int}(h:0<=m):0<=to n m:=by unfold to;(repeat' split)<;>omega
theorem uy{n m:Int}(h:0<=m):to n m<=m:=by unfold to;(repeat' split)<;>omega
theorem aef{n m:Int}(h:0<=n)(h2:n<=m):to n m=n:=by unfold to;(repeat' split)<;>omega
theorem aeg{n m:Int}(h:0<=m):to (to n m) m=to n m:=aef (rP h) (uy h)
def cw(n:Int):Int:=to n 1073741824
theorem Uq(n:Int):0<=cw n:=rP (by omega)
theorem Ur(n:Int):cw n<=1073741824:=uy (by omega)
structure It where
 b:Int
 lo:Int
 hi:Int
 g:Int
 s:Int
def cnt(x:It):It:=⟨to x.b 1048576,to x.lo 1048576,to x.hi 1048576,to x.g 1000,to x.s 1000⟩
theorem YS(x:It):cnt (cnt x)=cnt x:=by unfold cnt;simp[aeg]
def inn(lo hi n:Int):Int:=if (if hi<n then hi else n)<lo then lo else (if hi<n then hi else n)
def clamp(x:It)(n:Int):Int:=inn (cnt x).lo (cnt x).hi n
theorem Gh(x:It)(n:Int):clamp (cnt x) n=clamp x n:=by unfold clamp;rw[YS]
theorem H8(x:It):0<=(cnt x).b/\(cnt x).b<=1048576/\0<=(cnt x).lo/\(cnt x).lo<=1048576/\0<=(cnt x).hi/\(cnt x).hi<=1048576/\0<=(cnt x).g/\(cnt x).g<=1000/\0<=(cnt x).s/\(cnt x).s<=1000:=by
 unfold cnt;exact⟨rP (by omega),uy (by omega),rP (by omega),uy (by omega),rP (by omega),uy (by omega),rP (by omega),uy (by omega),rP (by omega),uy (by omega)⟩
theorem ab8{lo hi n:Int}(h1:0<=lo)(h2:lo<=1048576)(h3:0<=hi)(h4:hi<=1048576):0<=inn lo hi n/\inn lo hi n<=1048576:=by
 unfold inn;(repeat' split)<;>omega
theorem jQ(x:It)(n:Int):0<=clamp x n/\clamp x n<=1048576:=by
 obtain⟨_,_,h1,h2,h3,h4,_⟩:=H8 x;exact ab8 h1 h2 h3 h4
theorem YT(lo hi n:Int):inn lo hi (inn lo hi n)=inn lo hi n:=by unfold inn;(repeat' split)<;>omega
theorem Al(x:It)(n:Int):clamp x (clamp x n)=clamp x n:=YT _ _ _
theorem Us{n m:Int}(h:0<=m)(h2:m<=1073741824):Fx.clamp n 0 m=to n m:=by
 unfold Fx.clamp Fx.cut to;(repeat' split)<;>omega
theorem YU{n lo hi:Int}(h1:0<=lo)(h2:lo<=1048576)(h3:0<=hi)(h4:hi<=1048576):Fx.clamp n lo hi=inn lo hi n:=by
 unfold Fx.clamp Fx.cut inn;(repeat' split)<;>omega
def up(w:List Int):Nat->Int
 | 0=>0
 | k+1=>up w k+cw (w.getD k 0)
theorem YV(w:List Int)(k:Nat):up w k<=up w (k+1):=by have:=Uq (w.getD k 0);simp only[up];omega
theorem H9(w:List Int){i j:Nat}(h:i<=j):up w i<=up w j:=by
 induction j with
 | zero=>obtain rfl:i=0:=(by omega);exact Int.le_refl _
 | succ j ih =>
   rcases Nat.lt_or_ge i (j+1)with h'|h'
   . exact Int.le_trans (ih (by omega)) (YV w j)
   . obtain rfl:i=j+1:=by omega
     exact Int.le_refl _
theorem C8(w:List Int)(k:Nat):0<=up w k:=H9 w (Nat.zero_le k)
theorem JV(w:List Int)(k:Nat):up w k<=1073741824*k:=by
 induction k with
 | zero=>simp[up]
 | succ k ih=>have:=Ur (w.getD k 0);simp only[up];omega
def all(w:List Int):Int:=up w w.length
def so(n:Int)(w:List Int)(k:Nat):Int:=to n 67108864*up w k/all w
def part(n:Int)(w:List Int)(k:Nat):Int:=so n w (k+1)-so n w k
def share(n:Int)(w:List Int):List Int:=(List.range w.length).map (part n w)
theorem Ia(n:Int)(w:List Int):(share n w).length=w.length:=by simp[share]
theorem Gi(n:Int)(w:List Int){k:Nat}(h:k<w.length):(share n w).getD k 0=part n w k:=by simp[share,h]
theorem PI(n:Int)(w:List Int):so n w 0=0:=by simp[so,up]
theorem PK{a b c d:Int}(h1:0<=a)(h2:a<=c)(h3:0<=b)(h4:b<=d):0<=a*b/\a*b<=c*d:=Fx.zH h1 h2 h3 h4
theorem Ib(n:Int)(w:List Int){i j:Nat}(h:i<=j):so n w i<=so n w j:=by
 unfold so;rcases Int.lt_or_le 0 (all w)with h0|h0
 . exact Int.ediv_le_ediv h0 (Int.mul_le_mul_of_nonneg_left (H9 w h) (rP (by omega)))
 . have:all w=0:=by have:=C8 w w.length;unfold all at *;omega
   rw[this];simp
theorem abw(n:Int)(w:List Int)(k:Nat):0<=so n w k:=by rw[<-PI n w];exact Ib n w (Nat.zero_le k)
theorem abx(n:Int)(w:List Int){k:Nat}(h:k<=w.length):so n w k<=to n 67108864:=by
 unfold so;rcases Int.lt_or_le 0 (all w)with h0|h0
 . refine Int.le_trans (Int.ediv_le_ediv h0 (Int.mul_le_mul_of_nonneg_left (H9 w h) (rP (by omega)))) ?_
   show to n 67108864*all w/all w<=_;rw[Int.mul_ediv_cancel _ (by omega)];exact Int.le_refl _
 . have:all w=0:=by have:=C8 w w.length;unfold all at *;omega
   rw[this];simp;exact rP (by omega)
theorem Ca(n:Int)(w:List Int){k:Nat}(h:k<w.length):0<=part n w k/\part n w k<=67108864:=by
 have h1:=Ib n w (show k<=k+1 by omega);have h2:=abx n w (k:=k+1) h;have h3:=abw n w k;have h4:to n 67108864<=67108864:=uy (by omega);unfold part;omega
theorem zI{n:Int}{w:List Int}(h:all w=0)(k:Nat):part n w k=0:=by simp[part,so,h]
theorem aeh(n:Int)(w:List Int){k:Nat}(h:k<=64):0<=to n 67108864*up w k/\to n 67108864*up w k<=4611686018427387904:=by
 have h1:=C8 w k;have h2:=JV w k;have:=PK (rP (n:=n) (m:=67108864) (by omega)) (uy (by omega)) h1 (show up w k<=68719476736 by omega);omega
structure St where
 x:It
 z:Int
 m:Int
 f:Bool
def fac(gr:Bool)(x:It):Int:=if gr then x.g else x.s
def wt(gr:Bool)(x:It):Int:=if gr then x.g else x.s*x.b
def sg(gr:Bool):Int:=if gr then 1 else -1
def stay(gr:Bool)(c:It)(z:Int):Bool:=decide (fac gr c=0)||decide (sg gr*z<sg gr*c.b)
def yA(l:Nat->It):Nat->Int
 | 0=>0
 | k+1=>yA l k+clamp (l k) (cnt (l k)).b
def yB(l:Nat->It)(n:Nat)(room:Int):Bool:=decide (yA l n<room)
def fresh(l:Nat->It):Nat->St:=λi=>⟨cnt (l i),clamp (l i) (cnt (l i)).b,0,false⟩
def begun(gr:Bool)(l:Nat->It):Nat->St:=λi=>⟨cnt (l i),clamp (l i) (cnt (l i)).b,0,stay gr (cnt (l i)) (clamp (l i) (cnt (l i)).b)⟩
def pl(S:Nat->St):Nat->Nat
 | 0=>0
 | k+1=>pl S k+if (S k).f then 0 else 1
def ws(gr:Bool)(S:Nat->St):Nat->List Int
 | 0=>[]
 | k+1=>if (S k).f then ws gr S k else ws gr S k++[wt gr (S k).x]
def left(room:Int)(S:Nat->St):Nat->Int
 | 0=>room
 | k+1=>if (S k).f then left room S k-(S k).z else left room S k-(S k).x.b
def free(gr:Bool)(room:Int)(S:Nat->St)(n:Nat):Int:=if sg gr*left room S n<0 then 0 else sg gr*left room S n
def parts(gr:Bool)(room:Int)(S:Nat->St)(n:Nat):List Int:=share (free gr room S n) (ws gr S n)
def want(gr:Bool)(p:List Int)(S:Nat->St)(i:Nat):Int:=(S i).x.b+sg gr*p.getD (pl S i) 0
def fU(gr:Bool)(p:List Int)(S:Nat->St):Nat->St:=λi =>
 if (S i).f then S i else ⟨(S i).x,clamp (S i).x (want gr p S i),clamp (S i).x (want gr p S i)-want gr p S i,false⟩
def shared(gr:Bool)(room:Int)(n:Nat)(S:Nat->St):Nat->St:=fU gr (parts gr room S n) S
def made(S:Nat->St):Nat->Int
 | 0=>0
 | k+1=>if (S k).f then made S k else made S k+(S k).m
def PL(t m:Int):Bool:=decide (t=0)||(decide (0<t)&&decide (0<m))||(decide (t<0)&&decide (m<0))
def froze(n:Nat)(S:Nat->St):Nat->St:=λi=>if (S i).f then S i else ⟨(S i).x,(S i).z,(S i).m,PL (made S n) (S i).m⟩
def round(gr:Bool)(room:Int)(n:Nat)(S:Nat->St):Nat->St:=froze n (shared gr room n S)
def rounds(gr:Bool)(room:Int)(n:Nat)(S:Nat->St):Nat->Nat->St
 | 0=>S
 | k+1=>round gr room n (rounds gr room n S k)
def fin(l:Nat->It)(n:Nat)(room:Int):Nat->St:=rounds (yB l n room) room n (begun (yB l n room) l) n
theorem PN(S:Nat->St)(k:Nat):pl S k<=k:=by
 induction k with
 | zero=>simp[pl]
 | succ k ih=>simp only[pl];split<;>omega
theorem rQ(gr:Bool)(S:Nat->St)(k:Nat):(ws gr S k).length=pl S k:=by
 induction k with
 | zero=>rfl
 | succ k ih=>simp only[ws,pl];split<;>simp[ih]
theorem YW(S:Nat->St){i j:Nat}(h:i<=j):pl S i<=pl S j:=by
 induction j with
 | zero=>obtain rfl:i=0:=(by omega);exact Nat.le_refl _
 | succ j ih =>
   rcases Nat.lt_or_ge i (j+1)with h'|h'
   . exact Nat.le_trans (ih (by omega)) (by simp only[pl];omega)
   . obtain rfl:i=j+1:=by omega
     exact Nat.le_refl _
theorem PO(S:Nat->St){i n:Nat}(h:i<n)(hf:(S i).f=false):pl S i<pl S n:=by
 have h1:pl S (i+1)=pl S i+1:=by simp[pl,hf]
 have:=YW S (show i+1<=n by omega);omega
theorem YX{S:Nat->St}{n:Nat}(h:pl S n=0):∀i,i<n->(S i).f=true:=by
 intro i hi;cases hf:(S i).f with
 | true=>rfl
 | false=>have:=PO S hi hf;omega
theorem ab9{S:Nat->St}{n:Nat}(h:∀i,i<n->(S i).f=true):pl S n=0:=by
 induction n with
 | zero=>rfl
 | succ n ih=>simp only[pl,h n (by omega),if_true];rw[ih λi hi=>h i (by omega)]
theorem YZ{S T:Nat->St}{n:Nat}(h:∀i,i<n->(S i).f=(T i).f):pl S n=pl T n:=by
 induction n with
 | zero=>rfl
 | succ n ih=>simp only[pl,h n (by omega)];rw[ih λi hi=>h i (by omega)]
theorem Y0{S T:Nat->St}{n:Nat}(h:∀i,i<n->(S i).f=true->(T i).f=true):pl T n<=pl S n:=by
 induction n with
 | zero=>exact Nat.le_refl _
 | succ n ih =>
   have:=ih λi hi=>h i (by omega);have h2:=h n (by omega);simp only[pl];cases hs:(S n).f<;>cases ht:(T n).f<;>simp_all<;>omega
theorem QW{S T:Nat->St}{n i:Nat}(h:∀i,i<n->(S i).f=true->(T i).f=true)(hi:i<n)(h1:(S i).f=false)(h2:(T i).f=true):pl T n<pl S n:=by
 induction n with
 | zero=>omega
 | succ n ih =>
   have hle:=Y0 (n:=n) λi hi=>h i (by omega);rcases Nat.lt_or_ge i n with h'|h'
   . have:=ih (λi hi=>h i (by omega)) h'
     have h3:=h n (by omega);simp only[pl];cases hs:(S n).f<;>cases ht:(T n).f<;>simp_all<;>omega
   . obtain rfl:i=n:=by omega
     simp only[pl,h1,h2,if_true];simp;omega
theorem QX{S:Nat->St}{n:Nat}(h:∀i,i<n->(S i).f=false->(S i).m<=0):made S n<=0:=by
 induction n with
 | zero=>exact Int.le_refl _
 | succ n ih =>
   have h1:=ih λi hi=>h i (by omega);simp only[made];split
   . exact h1
   . have:=h n (by omega) (by simp_all);omega
theorem Nf{S:Nat->St}{n:Nat}(h:∀i,i<n->(S i).f=false->0<=(S i).m):0<=made S n:=by
 induction n with
 | zero=>exact Int.le_refl _
 | succ n ih =>
   have h1:=ih λi hi=>h i (by omega);simp only[made];split
   . exact h1
   . have:=h n (by omega) (by simp_all);omega
theorem QY{S:Nat->St}{n:Nat}(h:0<pl S n):∃i,i<n/\(S i).f=false/\(froze n S i).f=true:=by
 apply Classical.byContradiction;intro hne;have hall:∀i,i<n->(S i).f=false->PL (made S n) (S i).m=false:=by
  intro i hi hf;cases hz:PL (made S n) (S i).m with
  | false=>rfl
  | true=>exact absurd ⟨i,hi,hf,by simp[froze,hf,hz]⟩ hne
 rcases Int.lt_trichotomy (made S n) 0 with ht|ht|ht
 . have:=Nf (S:=S) (n:=n) λi hi hf=>by
    have:=hall i hi hf;simp only[PL,Bool.or_eq_false_iff,Bool.and_eq_false_iff,decide_eq_false_iff_not]at this;omega
   omega
 . have h0:∀i,i<n->(S i).f=true:=by
    intro i hi;cases hf:(S i).f with
    | true=>rfl
    | false=>have:=hall i hi hf;simp[PL,ht]at this
   have:=ab9 h0;omega
 . have:=QX (S:=S) (n:=n) λi hi hf=>by
    have:=hall i hi hf;simp only[PL,Bool.or_eq_false_iff,Bool.and_eq_false_iff,decide_eq_false_iff_not]at this;omega
   omega
theorem Ut(gr:Bool)(p:List Int)(S:Nat->St)(i:Nat):(fU gr p S i).f=(S i).f:=by
 unfold fU;cases h:(S i).f<;>simp[h]
theorem Da(gr:Bool)(room:Int){n:Nat}{S:Nat->St}(h:0<pl S n):pl (round gr room n S) n<pl S n:=by
 have e:pl (shared gr room n S) n=pl S n:=YZ λi _=>Ut gr _ S i;obtain⟨i,hi,h1,h2⟩:=QY (S:=shared gr room n S) (n:=n) (by omega);have:=QW (S:=shared gr room n S) (T:=round gr room n S) (λj _ hj=>by simp[round,froze,hj]) hi h1 h2;omega
theorem Ao{gr:Bool}{room:Int}{n:Nat}{S:Nat->St}{i:Nat}(h:(S i).f=true):round gr room n S i=S i:=by
 have e:shared gr room n S i=S i:=by simp[shared,fU,h]
 simp[round,froze,e,h]
theorem Ic{gr:Bool}{room:Int}{n:Nat}{S:Nat->St}{k:Nat}{i:Nat}(h:(rounds gr room n S k i).f=true):∀m,k<=m->rounds gr room n S m i=rounds gr room n S k i:=by
 intro m hm
 induction m with
 | zero=>obtain rfl:k=0:=(by omega);rfl
 | succ m ih =>
   rcases Nat.lt_or_ge k (m+1)with h'|h'
   . have:=ih (by omega)
     show round gr room n (rounds gr room n S m) i=_;rw[Ao (by rw[this];exact h),this]
   . obtain rfl:k=m+1:=by omega
     rfl
theorem Ie{room:Int}{S:Nat->St}(hx:∀i,0<=(S i).x.b/\(S i).x.b<=1048576)(hz:∀i,0<=(S i).z/\(S i).z<=1048576)(k:Nat):room-1048576*k<=left room S k/\left room S k<=room:=by
 induction k with
 | zero=>simp[left]
 | succ k ih =>
   obtain⟨h1,h2⟩:=ih;have:=hx k;have:=hz k;simp only[left];split<;>constructor<;>omega
end Go.Proofs.YtmidaiklolmkcaaGreat.Fe
namespace Go.Proofs.YtmidaiklolmkcaaGreat
namespace Ju
def pq(kind left n:Int):Int×Int×Int :=
 if kind=1 then (1,0,1)
 else if kind=3 then (if 0<left/\1<n then (0,1,n-1)else (0,0,1))
 else if kind=4 then (if 0<left then (1,2,2*n)else (1,0,2))
 else if kind=5 then (if 0<left then (1,1,n+1)else (1,0,2))
 else if kind=2 then (1,0,2)else (0,0,1)
def fr(left p s q k:Int):Int:=Fx.div (Fx.mul left (p+s*k)) q
def F(kind left n k:Int):Int:=fr left (pq kind left n).1 (pq kind left n).2.1 (pq kind left n).2.2 k
theorem aby(kind left n:Int):0<=(pq kind left n).1/\(pq kind left n).1<=1/\0<=(pq kind left n).2.1/\(pq kind left n).2.1<=2:=by
 unfold pq;(repeat' split)<;>simp
def at_(f:Int->Int)(l:List Int)(gap:Int):Nat->Int
 | 0=>f 0
 | k+1=>Fx.add (Fx.add (Fx.add (at_ f l gap k) (l.getD k 0)) gap) (Fx.sub (f ((k+1:Nat):Int)) (f (k:Int)))
def row(f:Nat->Int)(n:Nat):List Int:=(List.range n).map f
theorem qd(f:Nat->Int)(n:Nat):(row f n).length=n:=by simp[row]
theorem Ig(f:Nat->Int){n k:Nat}(h:k<n):(row f n).getD k 0=f k:=by simp[row,List.getD_eq_getElem?_getD,h]
def left(room gap:Int)(l:List Int):Int:=Fx.sub room (Li.long gap l)
def starts(kind room gap:Int)(l:List Int):Nat->Int:=at_ (F kind (left room gap l) l.length) l gap
def across(kind size room:Int):Int:=if kind=2 then Fx.div (Fx.sub room size) 2 else if kind=3 then Fx.sub room size else 0
theorem Y1(f:Int->Int)(l:List Int)(gap:Int):at_ f l gap 0=f 0:=rfl
theorem Y2(f:Int->Int)(l:List Int)(gap:Int)(k:Nat):at_ f l gap (k+1)=Fx.add (Fx.add (Fx.add (at_ f l gap k) (l.getD k 0)) gap) (Fx.sub (f ((k+1:Nat):Int)) (f (k:Int))):=rfl
end Ju
namespace Fw
structure Ld where
 id:Int
 i0:Int
 i1:Int
 s0:Int
 s1:Int
 a0:Int
 a1:Int
instance:Inhabited Ld:=⟨⟨0,0,0,0,0,0,0⟩⟩
structure Bx where
 sty:Re.St
 fl:List Int
 ap:List Int
 ib:Bool
def sizes(l:Nat->Fe.It)(n:Nat)(x:Int):List Int:=(List.range n).map λi=>(Fe.fin l n (Fe.to x 67108864) i).z
def EX(s:Re.St)(y:Nat)(base room:Int):Fe.It:=⟨Fx.len (s.c 41) (s.c 42) room base,Fx.limit 0 (s.c (7+2*y)) (s.c (8+2*y)) 0 0 room,max (Fx.len (s.c (11+2*y)) (s.c (12+2*y)) room 1048576) 0,s.c 39,s.c 40⟩
section
variable (B:Int->Bx)
def meet(e:Nat):Nat->Int->List Int
 | 0,z=>[mg (B z).sty 1 e (-1)]
 | f+1,z=>mg (B z).sty 1 e (-1)::(if opn (B z).sty (B z).ib e=true then
  (match (if e=0 then (B z).fl.head? else (B z).fl.getLast?)with
   | some k=>meet e f k
   | none=>[])else [])
def iU(cont:Int->Int->Int->List Ld×Int)(z r0 r1 t0 t1:Int):Ld :=
 let s:=(B z).sty
 let i0:=jk s 0 r0 r0 t0
 let i1:=jk s 1 r0 r1 t1
 ⟨z,i0,i1,wr (i0+iB s 0),wr ((if i1 = -1 then lim s 1 (cont z i0 i1).2 r1 else i1)+iB s 1),0,0⟩
variable (lay:Int->Int->Int->Int->Int->Ld)
def jR(i0 i1:Int)(k:Int):Ld :=
 let x:=lay k i0 i1 (-1) (-1)
 let s:=(B k).sty
 { x with a0:=Fx.PD i0 x.s0 (Fx.len (s.c 21) (s.c 22) i0 0) (Fx.len (s.c 17) (s.c 18) i0 0) (Fx.jg (s.c 21) i0) (Fx.jg (s.c 17) i0) }
def lH(f:Nat)(z i0 i1:Int):List Ld×Int :=
 let b:=B z
 let ks:=b.fl.map (jR B lay i0 i1)
 let sz:=ks.map (·.s1)
 let tp:=b.fl.map λk=>Fx.coll (meet B 0 f k)
 let bt:=b.fl.map λk=>Fx.coll (meet B 1 f k)
 let first:=if opn b.sty b.ib 0=true then 0 else tp.getD 0 0
 let last:=if opn b.sty b.ib 1=true then 0 else bt.getD (bt.length-1) 0
 (ks.mapIdx λi x=>{ x with a1:=wr (first+Fx.kZ sz tp bt i) },wr (wr (first+Fx.pI sz tp bt b.fl.length)+last))
def wJ(i0:Int)(y:Nat)(k:Int):Int:=wr (Cc (B k).sty y i0+iB (B k).sty y)
def jr(i0:Int)(y:Nat)(x:Ld):Int:=wr ((if y=0 then x.s0 else x.s1)+Cc (B x.id).sty y i0)
def left(i0 r gap:Int)(y:Nat)(ks:List Int):Int:=ks.foldl (λa k=>wr (a-wJ B i0 y k)) (wr (r-wr (gap*wr ((ks.length:Int)-1))))
def iY(i0 r gap:Int)(y:Nat)(it:Int->Fe.It)(ks:List Int):List Int:=sizes (λi=>it (ks.getD i 0)) ks.length (left B i0 r gap y ks)
def jG(i0:Int)(k:Int):Fe.It:=EX (B k).sty 0 (Fx.len ((B k).sty.c 3) ((B k).sty.c 4) i0 ((B k).sty.c 53)) i0
def eX(z i0 i1 high:Int)(ks:List Int):List Ld×Int :=
 let s:=(B z).sty
 let sz:=iY B i0 i0 (s.c 46) 0 (jG B i0) ks
 let xs:=ks.mapIdx λi k=>lay k i0 i1 (wr (sz.getD i 0+iB (B k).sty 0)) (-1)
 let deep:=if high = -1 then (xs.map (jr B i0 1)).foldl max 0 else high
 let ys:=if s.c 44=0 then xs.map λx=>if zJ (B x.id).sty 1 i1=true then x else lay x.id i0 i1 x.s0 (wr (lim (B x.id).sty 1 (max (wr (deep-wJ B i0 1 x.id)) 0) i1+iB (B x.id).sty 1))else xs
 let st:=Ju.starts (s.c 43) i0 (s.c 46) (ys.map (jr B i0 0))
 (ys.mapIdx λi x=>{ x with a0:=wr (st i+mg (B x.id).sty 0 0 i0),a1:=wr (Ju.across (s.c 44) (jr B i0 1 x) deep+mg (B x.id).sty 1 0 i0) },deep)
def aY(z i0 i1 high:Int)(fl:List Int):Bool->Int->List (Nat×Nat)->List Ld×Int
 | _,y,[]=>([],y)
 | fst,y,p::ps =>
   let y1:=if fst=true then y else wr (y+(B z).sty.c 46)
   let l:=eX B lay z i0 i1 high ((fl.drop p.1).take (p.2-p.1))
   let r:=aY z i0 i1 high fl false (wr (y1+l.2)) ps
   (l.1.map (λx=>{ x with a1:=wr (x.a1+y1) })++r.1,r.2)
def yC(z i0 i1:Int):List Ld×Int :=
 let b:=B z
 let br:=Li.brk i0 (b.sty.c 46) (b.sty.b 45) (b.fl.map λk=>wr (Fe.clamp (jG B i0 k) (jG B i0 k).b+wJ B i0 0 k))
 aY B lay z i0 i1 (if br.length=1 then i1 else -1) b.fl true 0 br
def fq(z i0:Int)(k:Int):Int:=if zJ (B k).sty 0 i0=false/\(B z).sty.c 44≠0 then JR (B k).sty i0 else -1
def iE(z i0 i1:Int):List Ld×Int :=
 let b:=B z
 let s:=b.sty
 let it:=λk=>EX (B k).sty 1 (wr ((lay k i0 i1 (fq B z i0 k) (-1)).s1-iB (B k).sty 1)) i1
 let sz:=if i1 ≠ -1/\b.fl.length<=64 then iY B i0 i1 (s.c 46) 1 it b.fl else b.fl.map λk=>Fe.clamp (it k) (it k).b
 let xs:=b.fl.mapIdx λi k=>lay k i0 i1 (fq B z i0 k) (wr (sz.getD i 0+iB (B k).sty 1))
 let long:=xs.map (jr B i0 1)
 let high:=Li.long (s.c 46) long
 let st:=Ju.starts (s.c 43) (if i1 = -1 then high else i1) (s.c 46) long
 (xs.mapIdx λi x=>{ x with a0:=wr (Ju.across (s.c 44) (jr B i0 0 x) i0+mg (B x.id).sty 0 0 i0),a1:=wr (st i+mg (B x.id).sty 1 0 i0) },high)
def wG(s:Re.St)(y:Nat)(r a:Int):Int:=if BU s y 0 r=true then wr (a+ins s y 0 r)else if BU s y 1 r=true then wr (a-ins s y 1 r)else a
def mv(i0 i1:Int)(x:Ld):Ld:=if (B x.id).sty.c 1=1 then { x with a0:=wG (B x.id).sty 0 i0 x.a0,a1:=wG (B x.id).sty 1 i1 x.a1 }else x
def kind(f:Nat)(z i0 i1:Int):List Ld×Int :=
 if (B z).sty.c 0=1 then yC B lay z i0 i1 else if (B z).sty.c 0=2 then iE B lay z i0 i1 else lH B lay f z i0 i1
end
def cont(B:Int->Bx):Nat->Int->Int->Int->List Ld×Int
 | 0,z,i0,i1=>([],(B z).sty.c 54)
 | f+1,z,i0,i1=>if (B z).fl=[]then ([],(B z).sty.c 54)else
  let c:=kind B (iU B (cont B f)) f z i0 i1
  (c.1.map (mv B i0 i1),c.2)
def lay(B:Int->Bx)(f:Nat):Int->Int->Int->Int->Int->Ld:=iU B (cont B f)
def cst(B:Int->Bx):Nat->Int->Nat
 | 0,_=>1
 | f+1,z=>1+3*((B z).fl.map (cst B f)).sum
end Fw
end Go.Proofs.YtmidaiklolmkcaaGreat
namespace Go.Proofs.YtmidaiklolmkcaaGreat.Fw
section
variable (B:Int->Bx) (f:Nat)
theorem Db(z r0 r1 t0 t1:Int):(lay B f z r0 r1 t0 t1).id=z:=rfl
theorem Ng(z i0 i1:Int):(lH B (lay B f) f z i0 i1).1.map (·.id)=(B z).fl:=by
 unfold lH;simp only[];exact List.ext_getElem (by simp) λi h1 h2=>by simp[jR,Db]
theorem JW(z i0 i1:Int):(iE B (lay B f) z i0 i1).1.map (·.id)=(B z).fl:=by
 unfold iE;simp only[];exact List.ext_getElem (by simp) λi h1 h2=>by simp[Db]
theorem JX(z i0 i1 high:Int)(ks:List Int):(eX B (lay B f) z i0 i1 high ks).1.map (·.id)=ks:=by
 unfold eX;simp only[];split
 . exact List.ext_getElem (by simp) λi h1 h2=>by
    simp only[List.getElem_map,List.getElem_mapIdx];split<;>simp[Db]
 . exact List.ext_getElem (by simp) λi h1 h2=>by simp[Db]
theorem Ih(z i0 i1 high:Int)(fl:List Int)(room gap:Int)(wrap:Bool)(l:List Int)(hl:l.length=fl.length):∀(n at_:Nat) (fst:Bool) (y:Int),l.length-at_<=n->at_<=l.length->(aY B (lay B f) z i0 i1 high fl fst y (Li.tail room gap wrap l at_)).1.map (·.id)=fl.drop at_:=by
 intro n
 induction n with
 | zero =>
   intro at_ fst y h1 h2;rw[Li.oN _ _ _ _ (by omega),List.drop_of_length_le (by omega)];rfl
 | succ n ih =>
   intro at_ fst y h1 h2;by_cases h:at_<l.length
   . have hg:=Li.vY room gap wrap l at_
     have hs:=Li.Ce room gap wrap l h;rw[Li.pW _ _ _ _ h];simp only[aY,List.map_append,List.map_map];rw[ih _ _ _ (by omega) hs];have e:((λx=>x.id)∘λx:Ld=>{ x with a1:=wr (x.a1+if fst=true then y else wr (y+(B z).sty.c 46)) })=(λx:Ld=>x.id):=rfl;rw[e,JX]
     conv=>rhs;rw[<-List.take_append_drop (Li.stop room gap wrap l at_-at_) (fl.drop at_)]
     rw[List.drop_drop,show at_+(Li.stop room gap wrap l at_-at_)=Li.stop room gap wrap l at_ by omega]
   . rw[Li.oN _ _ _ _ (by omega),List.drop_of_length_le (by omega)]
     rfl
theorem Uu(z i0 i1:Int):(yC B (lay B f) z i0 i1).1.map (·.id)=(B z).fl:=by
 unfold yC;simp only[];unfold Li.brk;rw[Ih B f z i0 i1 _ (B z).fl _ _ _ _ (by simp) _ 0 _ _ (Nat.le_refl _) (Nat.zero_le _)];rfl
theorem JY(z i0 i1:Int):(kind B (lay B f) f z i0 i1).1.map (·.id)=(B z).fl:=by
 unfold kind;split
 . exact Uu B f z i0 i1
 . split
   . exact JW B f z i0 i1
   . exact Ng B f z i0 i1
end
theorem aei(x:Int) : -9223372036854775808<=wr x:=by unfold wr;omega
theorem aej(x:Int):wr x<=9223372036854775807:=by unfold wr;omega
theorem ab'(s:Re.St)(y:Nat)(n base:Int):0<=lim s y n base:=Fx.Gc _ _ _ _ _ _
theorem tq(s:Re.St)(y:Nat)(n base:Int):lim s y n base<=1099511627776:=by
 unfold lim;rw[<-Fx.QT];exact Fx.jP _
theorem tu(s:Re.St)(y:Nat)(r0 r t:Int) : -1<=jk s y r0 r t/\jk s y r0 r t<=9223372036854775807:=by
 unfold jk;have h1:=aei (t-iB s y);have h2:=aej (t-iB s y);have h3:=λn base=>ab' s y n base;have h4:=λn base=>tq s y n base;split
 . omega
 . split
   . have a:=h3 (Tz s y r 0) r;have b:=h4 (Tz s y r 0) r;omega
   . split
     . have a:=h3 (max (wr (wr (r-Cc s y r0)-iB s y)) 0) r;have b:=h4 (max (wr (wr (r-Cc s y r0)-iB s y)) 0) r;omega
     . omega
end Go.Proofs.YtmidaiklolmkcaaGreat.Fw
