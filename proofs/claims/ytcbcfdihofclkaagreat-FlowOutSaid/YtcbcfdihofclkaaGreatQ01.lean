/- Proved here: what functions of the program do, in plain numbers (part 1); no conditions but those in sight. -/
set_option linter.unusedVariables false
set_option linter.unusedSimpArgs false
set_option linter.unusedSectionVars false
set_option maxRecDepth 100000
namespace Go.Proofs.YtcbcfdihofclkaaGreat
namespace Fx
def cut(n:Int):Int:=if 1099511627776<n then 1099511627776 else if n < -1099511627776 then -1099511627776 else n
def add(a b:Int):Int:=cut (cut a+cut b)
def sub(a b:Int):Int:=cut (cut a-cut b)
def mul(a b:Int):Int:=cut (cut a*cut b)
def div(a b:Int):Int:=if b<=0 then 0 else cut a/cut b
def parts(n:Int):Int:=if n<0 then 0 else if 1000000<n then 1000000 else n
def part(a n:Int):Int:=cut (cut a*parts n/10000)
def clamp(n lo hi:Int):Int:=if (if cut hi<cut n then cut hi else cut n)<cut lo then cut lo else (if cut hi<cut n then cut hi else cut n)
def sumTo(s:Int)(l:List Int):Int:=l.foldl add s
def sum(l:List Int):Int:=sumTo 0 l
theorem mJ(n:Int):cut n<=1099511627776:=by unfold cut;split<;>(try split)<;>omega
theorem mK(n:Int) : -1099511627776<=cut n:=by unfold cut;split<;>(try split)<;>omega
theorem Tk{n:Int}(a : -1099511627776<=n)(b:n<=1099511627776):cut n=n:=by unfold cut;split<;>(try split)<;>omega
theorem BL(n:Int):cut (cut n)=cut n:=Tk (mK n) (mJ n)
theorem GX(n:Int):cut (-n) = -cut n:=by unfold cut;(repeat' split)<;>omega
theorem XZ{n:Int}(h:1<=n):1<=cut n:=by unfold cut;(repeat' split)<;>omega
theorem Tn(n:Int):0<=parts n:=by unfold parts;split<;>(try split)<;>omega
theorem Tt(n:Int):parts n<=1000000:=by unfold parts;split<;>(try split)<;>omega
theorem zo{a b:Int}(hb:1<=b)(h:a.tmod b<0):a.tdiv b-1=a/b:=by
 have e:=Int.mul_tdiv_add_tmod a b;have l:=Int.lt_tmod_of_pos a (show 0<b by omega);have:a=(b+a.tmod b)+b*(a.tdiv b-1):=by rw[Int.mul_sub];omega
 have u:=(Int.ediv_emod_unique (a:=a) (r:=b+a.tmod b) (q:=a.tdiv b-1) (show 0<b by omega)).2 ⟨this.symm,by omega,by omega⟩;exact u.1.symm
theorem zq{a b:Int}(hb:1<=b)(h:0<=a.tmod b):a.tdiv b=a/b:=by
 have e:=Int.mul_tdiv_add_tmod a b;have l:=Int.tmod_lt_of_pos a (show 0<b by omega);have u:=(Int.ediv_emod_unique (a:=a) (r:=a.tmod b) (q:=a.tdiv b) (show 0<b by omega)).2 ⟨by omega,by omega,by omega⟩;exact u.1.symm
theorem X0{a b c:Int}(hb:1<=b)(h0:0<=c)(h : -c<=a) : -c<=a/b:=by
 apply Int.le_ediv_of_mul_le (by omega);have:c*1<=c*b:=Int.mul_le_mul_of_nonneg_left hb h0;rw[Int.neg_mul];omega
theorem X3{a b c:Int}(hb:1<=b)(h0:0<=c)(h:a<=c):a/b<=c:=by
 apply Int.ediv_le_of_le_mul (by omega);have:c*1<=c*b:=Int.mul_le_mul_of_nonneg_left hb h0;omega
theorem X4{a b:Int}(hb:1<=b)(h3 : -1152921504606846976<=a) : -1152921504606846976<=a.tdiv b:=by
 have:=X0 hb (by omega) h3;by_cases h:a.tmod b<0
 . have:=zo hb h;omega
 . have:=zq hb (by omega:0<=a.tmod b);omega
theorem tdiv_le{a b:Int}(hb:1<=b)(h3:a<=1152921504606846976):a.tdiv b<=1152921504606846977:=by
 have:=X3 hb (by omega) h3;by_cases h:a.tmod b<0
 . have:=zo hb h;omega
 . have:=zq hb (by omega:0<=a.tmod b);omega
theorem JA(n:Int):clamp n 0 1000000=parts n:=by
 unfold clamp parts cut
 (repeat' split)<;>omega
theorem BM(a n:Int) : -1152921504606846976<=cut a*parts n/\cut a*parts n<=1152921504606846976:=by
 have h1:=mJ a;have h2:=mK a;have h3:=Tn n;have h4:=Tt n;constructor
 . have:(-1099511627776)*parts n<=cut a*parts n:=Int.mul_le_mul_of_nonneg_right h2 h3
   omega
 . have:cut a*parts n<=1099511627776*parts n:=Int.mul_le_mul_of_nonneg_right h1 h3
   omega
theorem sum_nil:sum []=0:=rfl
def SE(n:Int):Int:=if n<0 then -n else n
theorem Tw(a:Int):0<=SE (cut a)/\SE (cut a)<=1099511627776:=by
 have h1:=mJ a;have h2:=mK a;unfold SE;split<;>omega
theorem X5(a b:Int):mul a b=bif !(decide (cut a<0)==decide (cut b<0))then -cut (SE (cut a)*SE (cut b))else cut (SE (cut a)*SE (cut b)):=by
 unfold mul SE;by_cases ha:cut a<0<;>by_cases hb:cut b<0<;>simp[ha,hb,Int.neg_mul,Int.mul_neg,Int.neg_neg,GX]
theorem halves(a b:Int):a*b=(a/4294967296)*(b/4294967296)*18446744073709551616+((a/4294967296)*(b%4294967296)+(a%4294967296)*(b/4294967296))*4294967296+(a%4294967296)*(b%4294967296):=by
 generalize hx:a/4294967296=x;generalize hy:a%4294967296=y;generalize hz:b/4294967296=z;generalize hu:b%4294967296=u;have ea:a=x*4294967296+y:=by omega
 have eb:b=z*4294967296+u:=by omega
 rw[ea,eb];simp only[Int.add_mul,Int.mul_add];have e1:x*4294967296*(z*4294967296)=x*z*18446744073709551616:=by
  rw[Int.mul_assoc,Int.mul_left_comm (4294967296) z,<-Int.mul_assoc x z];congr 1
 have e2:x*4294967296*u=x*u*4294967296:=by rw[Int.mul_assoc,Int.mul_comm 4294967296 u,<-Int.mul_assoc]
 have e3:y*(z*4294967296)=y*z*4294967296:=by rw[<-Int.mul_assoc]
 rw[e1,e2,e3];omega
theorem zu{x y c d:Int}(h1:0<=x)(h2:x<=c)(h3:0<=y)(h4:y<=d):0<=x*y/\x*y<=c*d :=
 ⟨Int.mul_nonneg h1 h3,Int.mul_le_mul h2 h4 h3 (by omega)⟩
theorem abn(x y:Nat)(hy:y<4294967296):x*4294967296 ||| y=x*4294967296+y:=by
 have:=Nat.shiftLeft_add_eq_or_of_lt (i:=32) (b:=y) (by simpa using hy) x;rw[Nat.shiftLeft_eq]at this;simpa using this.symm
theorem add_comm(a b:Int):add a b=add b a:=by unfold add;rw[Int.add_comm]
theorem mul_comm(a b:Int):mul a b=mul b a:=by unfold mul;rw[Int.mul_comm]
theorem FQ{a:Int}:part a 0=0:=by
 unfold part;rw[show parts 0=0 from rfl,Int.mul_zero];rfl
theorem mul_neg(a b:Int):mul (-a) b = -mul a b:=by unfold mul;rw[GX,Int.neg_mul,GX]
theorem mul_zero(a:Int):mul a 0=0:=by unfold mul;rw[show cut 0=0 from rfl,Int.mul_zero];rfl
theorem mul_one(a:Int):mul a 1=cut a:=by unfold mul;rw[show cut 1=1 from rfl,Int.mul_one,BL]
theorem Tz(a n:Int):cut (part a n)=part a n:=BL _
def eight(a b c:Int):List Int:=[cut a,add a b,sub a b,mul a b,div a b,part a b,clamp a b c,sum [a,b,c]]
def tot(l:List Int):Int:=l.foldr (· + ·) 0
end Fx
namespace Fx
def mx(a b:Int):Int:=if a<b then b else a
def size(a b:Int):Int:=if 0<sub b a then sub b a else 0
def has(a b n:Int):Bool:=decide (a<=n)&&decide (n<b)
def ends(a b c d:Int):Bool:=decide (c<=a)&&decide (b<=d)
def inn(a b c d:Int):Bool:=decide (b<=a)||ends a b c d
def fit(a b c d:Int):Int:=if ends a b c d then 0 else if a<c\/size c d<size a b then sub c a else sub d b
theorem O4{a b c d:Int}:inn a b c d=true↔(b<=a\/(c<=a/\b<=d)):=by unfold inn ends;simp
end Fx
namespace Fx
def mX(k base:Int):Bool:=decide (k=1)||(decide (k=2)&&decide (0<=base))
def len(k n base none:Int):Int:=if k=1 then cut n else if k=2/\0<=base then part base n else cut none
def valid(k n:Int):Bool:=if k=0 then decide (n=0)else if k=1 then decide (n=cut n)else if k=2 then decide (0<=n)&&decide (n<=1000000)else false
def limit(n lk ln hk hn base:Int):Int:=mx (clamp n (len lk ln base (-1099511627776)) (len hk hn base 1099511627776)) 0
theorem TA{k base:Int}:mX k base=true↔k=1\/(k=2/\0<=base):=by unfold mX;simp
theorem TB{k base:Int}:mX k base=false↔k≠1/\(k=2->base<0):=by unfold mX;simp
theorem abo{k n base none:Int}(h:k=1):len k n base none=cut n:=by unfold len;rw[if_pos h]
theorem X6{k n base none:Int}(h:k=2)(h2:0<=base):len k n base none=part base n:=by unfold len;rw[if_neg (by omega),if_pos ⟨h,h2⟩]
theorem X7{k n base none:Int}(h:mX k base=false):len k n base none=cut none:=by
 rw[TB]at h;unfold len;rw[if_neg h.1,if_neg (by omega)]
theorem GY(k n base none:Int):cut (len k n base none)=len k n base none:=by
 unfold len
 (repeat' split)
 . exact BL _
 . exact Tz _ _
 . exact BL _
theorem TD(k n base none:Int):len k n base none<=1099511627776:=by rw[<-GY];exact mJ _
theorem FR(n lk ln hk hn base:Int):0<=limit n lk ln hk hn base:=by unfold limit mx;split<;>omega
theorem Qs(n lk ln hk hn base:Int):cut (limit n lk ln hk hn base)=limit n lk ln hk hn base:=by
 have l1:=mJ n;have l2:=mK n;have l3:=TD hk hn base 1099511627776;have l5:=TD lk ln base (-1099511627776);refine Tk (by have:=FR n lk ln hk hn base;omega) ?_;unfold limit clamp;rw[GY,GY];unfold mx;(repeat' split)<;>omega
def lv(k n v:Int):Prop:=if k=0 then v=0 else if k=1 then v=n else 0<=v
end Fx
end Go.Proofs.YtcbcfdihofclkaaGreat
namespace Go.Proofs.YtcbcfdihofclkaaGreat.Re
def sJ(i:Nat):Bool:=i==45||i==47||i==51||i==52
structure St where
 c:Nat->Int
 b:Nat->Bool
def num(s:St)(i:Nat):Int:=if sJ i=true then (if s.b i=true then 1 else 0)else s.c i
def inn(n lo hi:Int):Bool:=decide (lo<=n)&&decide (n<=hi)
def lens:List Nat:=[3,5,7,9,11,13,41,15,23,17,25,19,27,21,29]
def sizes:List Nat:=[46,53,54,31,35,32,36,33,37,34,38]
def gM(s:St):Bool:=inn (s.c 0) 0 3&&inn (s.c 1) 0 4&&inn (s.c 2) 0 2&&inn (s.c 43) 0 5&&inn (s.c 44) 0 3&&inn (s.c 49) 0 2&&inn (s.c 50) 0 3
def JB(s:St):Bool:=lens.all λi=>Fx.valid (s.c i) (s.c (i+1))
def Cv(s:St):Bool:=sizes.all λi=>inn (s.c i) 0 1048576
def valid(s:St):Bool:=gM s&&JB s&&Cv s&&inn (s.c 39) 0 1000&&inn (s.c 40) 0 1000&&inn (s.c 48) (-1048576) 1048576
def zero:St:=⟨λ_=>0,λ_=>false⟩
def same(s t:St):Prop:=∀i,i<55->(if sJ i=true then s.b i=t.b i else s.c i=t.c i)
theorem O4{n lo hi:Int}:inn n lo hi=true↔lo<=n/\n<=hi:=by unfold inn;simp
theorem Js{s:St}{i:Nat}(h:sJ i=false):num s i=s.c i:=by unfold num;rw[if_neg (by simp[h])]
theorem same.symm{s t:St}(h:same s t):same t s:=λi hi=>by
 have:=h i hi;by_cases e:sJ i=true
 . rw[if_pos e]at this ⊢;exact this.symm
 . rw[if_neg e]at this ⊢;exact this.symm
theorem same.c{s t:St}(h:same s t)(i:Nat)(hi:i<55)(hb:sJ i=false):s.c i=t.c i:=by
 have:=h i hi
 rwa [if_neg (by simp[hb])]at this
theorem same.b{s t:St}(h:same s t)(i:Nat)(hi:i<55)(hb:sJ i=true):s.b i=t.b i:=by
 have:=h i hi
 rwa [if_pos hb]at this
theorem MJ{s t:St}(h:same s t):valid s=valid t:=by
 unfold valid gM JB Cv lens sizes;simp only[List.all_cons,List.all_nil]
 rw[h.c 0 (by decide) rfl,h.c 1 (by decide) rfl,h.c 2 (by decide) rfl,h.c 3 (by decide) rfl,h.c 4 (by decide) rfl,h.c 5 (by decide) rfl,h.c 6 (by decide) rfl,h.c 7 (by decide) rfl,h.c 8 (by decide) rfl,h.c 9 (by decide) rfl,
  h.c 10 (by decide) rfl,h.c 11 (by decide) rfl,h.c 12 (by decide) rfl,h.c 13 (by decide) rfl,h.c 14 (by decide) rfl,h.c 15 (by decide) rfl,h.c 16 (by decide) rfl,h.c 17 (by decide) rfl,h.c 18 (by decide) rfl,h.c 19 (by decide) rfl,
  h.c 20 (by decide) rfl,h.c 21 (by decide) rfl,h.c 22 (by decide) rfl,h.c 23 (by decide) rfl,h.c 24 (by decide) rfl,h.c 25 (by decide) rfl,h.c 26 (by decide) rfl,h.c 27 (by decide) rfl,h.c 28 (by decide) rfl,h.c 29 (by decide) rfl,
  h.c 30 (by decide) rfl,h.c 31 (by decide) rfl,h.c 32 (by decide) rfl,h.c 33 (by decide) rfl,h.c 34 (by decide) rfl,h.c 35 (by decide) rfl,h.c 36 (by decide) rfl,h.c 37 (by decide) rfl,h.c 38 (by decide) rfl,h.c 39 (by decide) rfl,
  h.c 40 (by decide) rfl,h.c 41 (by decide) rfl,h.c 42 (by decide) rfl,h.c 43 (by decide) rfl,h.c 44 (by decide) rfl,h.c 46 (by decide) rfl,h.c 48 (by decide) rfl,h.c 49 (by decide) rfl,h.c 50 (by decide) rfl,h.c 53 (by decide) rfl,h.c 54 (by decide) rfl]
end Go.Proofs.YtcbcfdihofclkaaGreat.Re
namespace Go.Proofs.YtcbcfdihofclkaaGreat.Fw
def wr(x:Int):Int:=(x+9223372036854775808)%18446744073709551616-9223372036854775808
def sd(y e:Nat):Nat:=if y=0 then (if e=0 then 3 else 1)else (if e=0 then 0 else 2)
def ed(s:Re.St)(i:Nat):Int:=wr (s.c (31+i)+s.c (35+i))
def nR(s:Re.St)(y:Nat):Int:=wr (ed s (sd y 0)+ed s (sd y 1))
def GZ(s:Re.St)(y:Nat)(base:Int):Bool:=Fx.mX (s.c (3+2*y)) base
def lng(s:Re.St)(y:Nat)(base none:Int):Int:=Fx.len (s.c (3+2*y)) (s.c (4+2*y)) base none
def lim(s:Re.St)(y:Nat)(n base:Int):Int:=Fx.limit n (s.c (7+2*y)) (s.c (8+2*y)) (s.c (11+2*y)) (s.c (12+2*y)) base
def mg(s:Re.St)(y e:Nat)(r:Int):Int:=Fx.len (s.c (15+2*sd y e)) (s.c (16+2*sd y e)) (if y=0 then r else -1) 0
def X8(s:Re.St)(y:Nat)(r:Int):Int:=wr (mg s y 0 r+mg s y 1 r)
def rz(s:Re.St)(y:Nat)(r0 r t:Int):Int :=
 if t ≠ -1 then max (wr (t-nR s y)) 0
 else if GZ s y r=true then lim s y (lng s y r 0) r
 else if y=0 then lim s y (max (wr (wr (r-X8 s y r0)-nR s y)) 0) r else -1
def X9(s:Re.St)(r0:Int):Int:=wr (lim s 0 (s.c 53) r0+nR s 0)
def ins(s:Re.St)(y e:Nat)(r:Int):Int:=Fx.len (s.c (23+2*sd y e)) (s.c (24+2*sd y e)) r 0
def Et(s:Re.St)(y e:Nat)(r:Int):Bool:=Fx.mX (s.c (23+2*sd y e)) r
def opn(s:Re.St)(ib:Bool)(e:Nat):Bool :=
 (ib&&s.c 0==0&&s.c 2==0&&ed s (sd 1 e)==0)&&(e==0||(s.c 5==0&&s.c 9==0))
end Go.Proofs.YtcbcfdihofclkaaGreat.Fw
namespace Go.Proofs.YtcbcfdihofclkaaGreat
namespace Fx
def top(l:List Int):Int:=l.foldl max 0
def bot(l:List Int):Int:=l.foldl min 0
def coll(l:List Int):Int:=add (top l) (bot l)
theorem TF(l:List Int)(x:Int):top (l++[x])=max (top l) x:=by simp[top]
theorem TG(l:List Int)(x:Int):bot (l++[x])=min (bot l) x:=by simp[bot]
theorem sS(l:List Int)(s x:Int):l.foldl max s<=x↔s<=x/\∀z∈l,z<=x:=by
 induction l generalizing s with
 | nil=>simp
 | cons y l ih =>
   rw[List.foldl_cons,ih];constructor
   . rintro⟨h1,h2⟩
     exact⟨by omega,λz hz=>by rcases List.mem_cons.1 hz with rfl|hz;(· omega);exact h2 z hz⟩
   . rintro⟨h1,h2⟩
     exact⟨by have:=h2 y (by simp);omega,λz hz=>h2 z (by simp[hz])⟩
def shA(n:Int)(a b:Bool):Int:=if n<=0 then 0 else if a then (if b then n/2 else n)else 0
def shB(n:Int)(a b:Bool):Int:=if n<=0 then 0 else if b then (if a then sub n (n/2)else n)else 0
def left(room size f l:Int):Int:=sub (sub room size) (add f l)
def TH(room size f l:Int)(x y:Bool):Int:=add f (shA (left room size f l) (!x) (!y))
def adt(room size f l:Int)(x y:Bool):Int:=add l (shB (left room size f l) (!x) (!y))
theorem abp(a b:Int) : -1099511627776<=sub a b:=mK _
theorem sub_le(a b:Int):sub a b<=1099511627776:=mJ _
def uN(s t b:List Int):Nat->Int
 | 0=>0
 | k+1=>add (if k=0 then 0 else add (uN s t b k) (coll [b.getD (k-1) 0,t.getD k 0])) (s.getD k 0)
def o7(s t b:List Int)(k:Nat):Int:=if k=0 then 0 else add (uN s t b k) (coll [b.getD (k-1) 0,t.getD k 0])
def uO(s t b:List Int)(n:Nat):List Int:=(List.range n).map (o7 s t b)
theorem MK(s t b:List Int)(k:Nat):uN s t b (k+1)=add (o7 s t b k) (s.getD k 0):=rfl
theorem ML(s t b:List Int):o7 s t b 0=0:=rfl
theorem Qt(s t b:List Int){k:Nat}(h:0<k):o7 s t b k=add (uN s t b k) (coll [b.getD (k-1) 0,t.getD k 0]):=by unfold o7;rw[if_neg (by omega)]
theorem qM(s t b:List Int)(n:Nat):(uO s t b n).length=n:=by simp[uO]
theorem Cw(s t b:List Int){n k:Nat}(h:k<n):(uO s t b n).getD k 0=o7 s t b k:=by simp[uO,h]
end Fx
namespace Li
def next(gap s x:Int):Int:=Fx.add (Fx.add s gap) x
def long(gap:Int):List Int->Int
 | []=>0
 | x::l=>l.foldl (next gap) (Fx.cut x)
theorem Qu(gap:Int)(l:List Int)(x:Int)(h:l≠[]):long gap (l++[x])=next gap (long gap l) x:=by
 cases l with
 | nil=>exact absurd rfl h
 | cons y l=>simp[long]
theorem FT(l:List Int){k:Nat}(h:k<l.length):l.take (k+1)=l.take k++[l.getD k 0]:=by
 rw[List.take_succ_eq_append_getElem h];simp[List.getElem?_eq_getElem h]
theorem Ya(l:List Int){k:Nat}(h0:0<k)(h:0<l.length):l.take k≠[]:=by
 intro e;have h1:(l.take k).length=0:=by rw[e];rfl
 rw[List.length_take]at h1;omega
theorem zw(gap:Int)(l:List Int){k:Nat}(h0:0<k)(h:k<l.length):long gap (l.take (k+1))=next gap (long gap (l.take k)) (l.getD k 0):=by
 rw[FT l h,Qu _ _ _ (Ya l h0 (by omega))]
theorem wM(gap:Int)(l:List Int)(h:0<l.length):long gap (l.take 1)=Fx.cut (l.getD 0 0):=by
 rw[FT l h];rfl
def goes(room gap:Int)(wrap:Bool)(l:List Int)(n:Nat):Bool:=decide (n<l.length)&&(decide (n<64)&&(!wrap||decide (long gap (l.take (n+1))<=room)))
theorem pR{room gap:Int}{wrap:Bool}{l:List Int}{n:Nat}:goes room gap wrap l n=true↔n<l.length/\n<64/\(wrap=true->long gap (l.take (n+1))<=room):=by
 unfold goes;cases wrap<;>simp
def cntF(room gap:Int)(wrap:Bool)(l:List Int):Nat->Nat->Nat
 | 0,n=>n
 | f+1,n=>if goes room gap wrap l n then cntF room gap wrap l f (n+1)else n
def cnt(room gap:Int)(wrap:Bool)(l:List Int):Nat:=cntF room gap wrap l 64 1
structure uf(room gap:Int)(wrap:Bool)(l:List Int)(n:Nat):Prop where
 one:1<=n
 all:∀k,1<=k->k<n->goes room gap wrap l k=true
 end_:goes room gap wrap l n=false
theorem O5(room gap:Int)(wrap:Bool)(l:List Int):∀f n,64<=f+n->1<=n->(∀k,1<=k->k<n->goes room gap wrap l k=true)->uf room gap wrap l (cntF room gap wrap l f n)
 | 0,n,hf,h1,ha=>⟨h1,ha,by
   show goes room gap wrap l n=false;cases h:goes room gap wrap l n with
   | false=>rfl
   | true=>have:=pR.1 h;omega⟩
 | f+1,n,hf,h1,ha=>by
   unfold cntF;split
   . rename_i h
     refine O5 room gap wrap l f (n+1) (by omega) (by omega) λk k1 k2 => ?_;rcases Nat.lt_or_ge k n with k3|k3
     . exact ha k k1 k3
     . obtain rfl:k=n:=by omega
       exact h
   . rename_i h
     exact⟨h1,ha,by simpa using h⟩
theorem MN(room gap:Int)(wrap:Bool)(l:List Int):uf room gap wrap l (cnt room gap wrap l):=O5 room gap wrap l 64 1 (by omega) (Nat.le_refl _) λk h1 h2=>by omega
theorem uf.unique{room gap:Int}{wrap:Bool}{l:List Int}{n m:Nat}(h:uf room gap wrap l n)(k:uf room gap wrap l m):n=m:=by
 rcases Nat.lt_trichotomy n m with h1|h1|h1
 . have:=k.all n h.one h1;rw[h.end_]at this;cases this
 . exact h1
 . have:=h.all m k.one h1;rw[k.end_]at this;cases this
theorem uf.eq{room gap:Int}{wrap:Bool}{l:List Int}{n:Nat}(h:uf room gap wrap l n):cnt room gap wrap l=n:=(MN room gap wrap l).unique h
theorem uf.le{room gap:Int}{wrap:Bool}{l:List Int}{n:Nat}(h:uf room gap wrap l n)(h0:0<l.length):n<=l.length/\n<=64:=by
 rcases Nat.lt_or_ge 1 n with h1|h1
 . have:=pR.1 (h.all (n-1) (by omega) (by omega));omega
 . omega
theorem abq(room gap:Int)(wrap:Bool)(l:List Int)(h0:0<l.length):cnt room gap wrap l<=l.length:=((MN room gap wrap l).le h0).1
theorem O6(room gap:Int)(wrap:Bool)(l:List Int):1<=cnt room gap wrap l:=(MN room gap wrap l).one
def G5(room gap:Int)(wrap:Bool)(l:List Int):Nat->Nat->List (Nat×Nat)
 | 0,_=>[]
 | f+1,at_=>if at_<l.length then (at_,at_+cnt room gap wrap (l.drop at_))::G5 room gap wrap l f (at_+cnt room gap wrap (l.drop at_))else []
def tail(room gap:Int)(wrap:Bool)(l:List Int)(at_:Nat):List (Nat×Nat):=G5 room gap wrap l (l.length-at_) at_
def brk(room gap:Int)(wrap:Bool)(l:List Int):List (Nat×Nat):=tail room gap wrap l 0
theorem FU(room gap:Int)(wrap:Bool)(l:List Int):∀f g at_,l.length<=f+at_->l.length<=g+at_->G5 room gap wrap l f at_=G5 room gap wrap l g at_
 | 0,0,_,_,_=>rfl
 | 0,g+1,at_,h,_=>by unfold G5;rw[if_neg (by omega)]
 | f+1,0,at_,_,h=>by unfold G5;rw[if_neg (by omega)]
 | f+1,g+1,at_,hf,hg=>by
   unfold G5;split
   . rename_i h
     have:=O6 room gap wrap (l.drop at_);rw[FU room gap wrap l f g _ (by omega) (by omega)]
   . rfl
theorem rF(room gap:Int)(wrap:Bool)(l:List Int){at_:Nat}(h:l.length<=at_):tail room gap wrap l at_=[]:=by
 unfold tail;rw[show l.length-at_=0 by omega];rfl
def stop(room gap:Int)(wrap:Bool)(l:List Int)(at_:Nat):Nat:=at_+cnt room gap wrap (l.drop at_)
theorem xZ(room gap:Int)(wrap:Bool)(l:List Int)(at_:Nat):at_<stop room gap wrap l at_:=by
 have:=O6 room gap wrap (l.drop at_);unfold stop;omega
theorem G6(room gap:Int)(wrap:Bool)(l:List Int){at_:Nat}(h:at_<l.length):stop room gap wrap l at_<=l.length:=by
 have:=abq room gap wrap (l.drop at_) (by rw[List.length_drop];omega);rw[List.length_drop]at this;unfold stop;omega
theorem rG(room gap:Int)(wrap:Bool)(l:List Int){at_:Nat}(h:at_<l.length):tail room gap wrap l at_=(at_,stop room gap wrap l at_)::tail room gap wrap l (stop room gap wrap l at_):=by
 have h1:=xZ room gap wrap l at_;unfold tail;obtain⟨f,hf⟩:∃f,l.length-at_=f+1:=⟨l.length-at_-1,by omega⟩;rw[hf]
 conv=>lhs;unfold G5
 rw[if_pos h];show(at_,stop room gap wrap l at_)::G5 room gap wrap l f (stop room gap wrap l at_)=_;rw[FU room gap wrap l f (l.length-stop room gap wrap l at_) _ (by omega) (by omega)]
theorem JC(room gap:Int)(wrap:Bool)(l:List Int)(at_:Nat):(tail room gap wrap l at_).length<=l.length-at_:=by
 obtain⟨d,hd⟩:∃d,l.length-at_<=d:=⟨_,Nat.le_refl _⟩
 induction d generalizing at_ with
 | zero=>rw[rF _ _ _ _ (by omega)];simp
 | succ d ih =>
   rcases Nat.lt_or_ge at_ l.length with h|h
   . have h1:=xZ room gap wrap l at_
     rw[rG _ _ _ _ h];have:=ih (stop room gap wrap l at_) (by omega);simp only[List.length_cons];omega
   . rw[rF _ _ _ _ h];simp
theorem Cx(room gap:Int)(wrap:Bool)(l:List Int):(brk room gap wrap l).length<=l.length:=JC room gap wrap l 0
def flat(l:List (Nat×Nat)):List Int:=l.flatMap λx=>[(x.1:Int),(x.2:Int)]
theorem Qv(l:List (Nat×Nat))(x:Nat×Nat):flat (l++[x])=flat l++[(x.1:Int),(x.2:Int)]:=by simp[flat]
theorem flat_get(l:List (Nat×Nat)){k:Nat}(h:k<l.length):(flat l)[k*2]? = some ((l[k]).1:Int)/\(flat l)[k*2+1]? = some ((l[k]).2:Int):=by
 induction l generalizing k with
 | nil=>simp at h
 | cons x l ih =>
   have e:flat (x::l)=(x.1:Int)::(x.2:Int)::flat l:=rfl;cases k with
   | zero=>rw[e];simp
   | succ k =>
     have:=ih (k:=k) (by simpa using h);rw[e,show(k+1)*2=k*2+1+1 by omega];simpa using this
end Li
end Go.Proofs.YtcbcfdihofclkaaGreat
namespace Go.Proofs.YtcbcfdihofclkaaGreat.Fe
def to(n m:Int):Int:=if m<n then m else if n<0 then 0 else n
theorem rH{n m:Int}(h:0<=m):0<=to n m:=by unfold to;(repeat' split)<;>omega
theorem ug{n m:Int}(h:0<=m):to n m<=m:=by unfold to;(repeat' split)<;>omega
theorem adu{n m:Int}(h:0<=n)(h2:n<=m):to n m=n:=by unfold to;(repeat' split)<;>omega
theorem adv{n m:Int}(h:0<=m):to (to n m) m=to n m:=adu (rH h) (ug h)
def cw(n:Int):Int:=to n 1073741824
theorem TI(n:Int):0<=cw n:=rH (by omega)
theorem TJ(n:Int):cw n<=1073741824:=ug (by omega)
structure It where
 b:Int
 lo:Int
 hi:Int
 g:Int
 s:Int
def cnt(x:It):It:=⟨to x.b 1048576,to x.lo 1048576,to x.hi 1048576,to x.g 1000,to x.s 1000⟩
theorem Yb(x:It):cnt (cnt x)=cnt x:=by unfold cnt;simp[adv]
def inn(lo hi n:Int):Int:=if (if hi<n then hi else n)<lo then lo else (if hi<n then hi else n)
def clamp(x:It)(n:Int):Int:=inn (cnt x).lo (cnt x).hi n
theorem FV(x:It)(n:Int):clamp (cnt x) n=clamp x n:=by unfold clamp;rw[Yb]
theorem G7(x:It):0<=(cnt x).b/\(cnt x).b<=1048576/\0<=(cnt x).lo/\(cnt x).lo<=1048576/\0<=(cnt x).hi/\(cnt x).hi<=1048576/\0<=(cnt x).g/\(cnt x).g<=1000/\0<=(cnt x).s/\(cnt x).s<=1000:=by
 unfold cnt;exact⟨rH (by omega),ug (by omega),rH (by omega),ug (by omega),rH (by omega),ug (by omega),rH (by omega),ug (by omega),rH (by omega),ug (by omega)⟩
theorem abr{lo hi n:Int}(h1:0<=lo)(h2:lo<=1048576)(h3:0<=hi)(h4:hi<=1048576):0<=inn lo hi n/\inn lo hi n<=1048576:=by
 unfold inn;(repeat' split)<;>omega
theorem lH(x:It)(n:Int):0<=clamp x n/\clamp x n<=1048576:=by
 obtain⟨_,_,h1,h2,h3,h4,_⟩:=G7 x;exact abr h1 h2 h3 h4
theorem Yc(lo hi n:Int):inn lo hi (inn lo hi n)=inn lo hi n:=by unfold inn;(repeat' split)<;>omega
theorem zY(x:It)(n:Int):clamp x (clamp x n)=clamp x n:=Yc _ _ _
theorem TK{n m:Int}(h:0<=m)(h2:m<=1073741824):Fx.clamp n 0 m=to n m:=by
 unfold Fx.clamp Fx.cut to;(repeat' split)<;>omega
theorem Yd{n lo hi:Int}(h1:0<=lo)(h2:lo<=1048576)(h3:0<=hi)(h4:hi<=1048576):Fx.clamp n lo hi=inn lo hi n:=by
 unfold Fx.clamp Fx.cut inn;(repeat' split)<;>omega
def up(w:List Int):Nat->Int
 | 0=>0
 | k+1=>up w k+cw (w.getD k 0)
theorem Ye(w:List Int)(k:Nat):up w k<=up w (k+1):=by have:=TI (w.getD k 0);simp only[up];omega
theorem G8(w:List Int){i j:Nat}(h:i<=j):up w i<=up w j:=by
 induction j with
 | zero=>obtain rfl:i=0:=(by omega);exact Int.le_refl _
 | succ j ih =>
   rcases Nat.lt_or_ge i (j+1)with h'|h'
   . exact Int.le_trans (ih (by omega)) (Ye w j)
   . obtain rfl:i=j+1:=by omega
     exact Int.le_refl _
theorem Cy(w:List Int)(k:Nat):0<=up w k:=G8 w (Nat.zero_le k)
theorem JD(w:List Int)(k:Nat):up w k<=1073741824*k:=by
 induction k with
 | zero=>simp[up]
 | succ k ih=>have:=TJ (w.getD k 0);simp only[up];omega
def all(w:List Int):Int:=up w w.length
def so(n:Int)(w:List Int)(k:Nat):Int:=to n 67108864*up w k/all w
def part(n:Int)(w:List Int)(k:Nat):Int:=so n w (k+1)-so n w k
def share(n:Int)(w:List Int):List Int:=(List.range w.length).map (part n w)
theorem G9(n:Int)(w:List Int):(share n w).length=w.length:=by simp[share]
theorem FW(n:Int)(w:List Int){k:Nat}(h:k<w.length):(share n w).getD k 0=part n w k:=by simp[share,h]
theorem O7(n:Int)(w:List Int):so n w 0=0:=by simp[so,up]
theorem O8{a b c d:Int}(h1:0<=a)(h2:a<=c)(h3:0<=b)(h4:b<=d):0<=a*b/\a*b<=c*d:=Fx.zu h1 h2 h3 h4
theorem He(n:Int)(w:List Int){i j:Nat}(h:i<=j):so n w i<=so n w j:=by
 unfold so;rcases Int.lt_or_le 0 (all w)with h0|h0
 . exact Int.ediv_le_ediv h0 (Int.mul_le_mul_of_nonneg_left (G8 w h) (rH (by omega)))
 . have:all w=0:=by have:=Cy w w.length;unfold all at *;omega
   rw[this];simp
theorem aaQ(n:Int)(w:List Int)(k:Nat):0<=so n w k:=by rw[<-O7 n w];exact He n w (Nat.zero_le k)
theorem aaR(n:Int)(w:List Int){k:Nat}(h:k<=w.length):so n w k<=to n 67108864:=by
 unfold so;rcases Int.lt_or_le 0 (all w)with h0|h0
 . refine Int.le_trans (Int.ediv_le_ediv h0 (Int.mul_le_mul_of_nonneg_left (G8 w h) (rH (by omega)))) ?_
   show to n 67108864*all w/all w<=_;rw[Int.mul_ediv_cancel _ (by omega)];exact Int.le_refl _
 . have:all w=0:=by have:=Cy w w.length;unfold all at *;omega
   rw[this];simp;exact rH (by omega)
theorem BM(n:Int)(w:List Int){k:Nat}(h:k<w.length):0<=part n w k/\part n w k<=67108864:=by
 have h1:=He n w (show k<=k+1 by omega);have h2:=aaR n w (k:=k+1) h;have h3:=aaQ n w k;have h4:to n 67108864<=67108864:=ug (by omega);unfold part;omega
theorem FQ{n:Int}{w:List Int}(h:all w=0)(k:Nat):part n w k=0:=by simp[part,so,h]
theorem adw(n:Int)(w:List Int){k:Nat}(h:k<=64):0<=to n 67108864*up w k/\to n 67108864*up w k<=4611686018427387904:=by
 have h1:=Cy w k;have h2:=JD w k;have:=O8 (rH (n:=n) (m:=67108864) (by omega)) (ug (by omega)) h1 (show up w k<=68719476736 by omega);omega
structure St where
 x:It
 z:Int
 m:Int
 f:Bool
def fac(gr:Bool)(x:It):Int:=if gr then x.g else x.s
def wt(gr:Bool)(x:It):Int:=if gr then x.g else x.s*x.b
def sg(gr:Bool):Int:=if gr then 1 else -1
def stay(gr:Bool)(c:It)(z:Int):Bool:=decide (fac gr c=0)||decide (sg gr*z<sg gr*c.b)
def x8(l:Nat->It):Nat->Int
 | 0=>0
 | k+1=>x8 l k+clamp (l k) (cnt (l k)).b
def x9(l:Nat->It)(n:Nat)(room:Int):Bool:=decide (x8 l n<room)
def fresh(l:Nat->It):Nat->St:=λi=>⟨cnt (l i),clamp (l i) (cnt (l i)).b,0,false⟩
def begun(gr:Bool)(l:Nat->It):Nat->St:=λi=>⟨cnt (l i),clamp (l i) (cnt (l i)).b,0,stay gr (cnt (l i)) (clamp (l i) (cnt (l i)).b)⟩
def pl(S:Nat->St):Nat->Nat
 | 0=>0
 | k+1=>pl S k+if (S k).f then 0 else 1
def ws(gr:Bool)(S:Nat->St):Nat->List Int
 | 0=>[]
 | k+1=>if (S k).f then ws gr S k else ws gr S k++[wt gr (S k).x]
def left(room:Int)(S:Nat->St):Nat->Int
 | 0=>room
 | k+1=>if (S k).f then left room S k-(S k).z else left room S k-(S k).x.b
def free(gr:Bool)(room:Int)(S:Nat->St)(n:Nat):Int:=if sg gr*left room S n<0 then 0 else sg gr*left room S n
def parts(gr:Bool)(room:Int)(S:Nat->St)(n:Nat):List Int:=share (free gr room S n) (ws gr S n)
def want(gr:Bool)(p:List Int)(S:Nat->St)(i:Nat):Int:=(S i).x.b+sg gr*p.getD (pl S i) 0
def fO(gr:Bool)(p:List Int)(S:Nat->St):Nat->St:=λi =>
 if (S i).f then S i else ⟨(S i).x,clamp (S i).x (want gr p S i),clamp (S i).x (want gr p S i)-want gr p S i,false⟩
def shared(gr:Bool)(room:Int)(n:Nat)(S:Nat->St):Nat->St:=fO gr (parts gr room S n) S
def made(S:Nat->St):Nat->Int
 | 0=>0
 | k+1=>if (S k).f then made S k else made S k+(S k).m
def O9(t m:Int):Bool:=decide (t=0)||(decide (0<t)&&decide (0<m))||(decide (t<0)&&decide (m<0))
def froze(n:Nat)(S:Nat->St):Nat->St:=λi=>if (S i).f then S i else ⟨(S i).x,(S i).z,(S i).m,O9 (made S n) (S i).m⟩
def round(gr:Bool)(room:Int)(n:Nat)(S:Nat->St):Nat->St:=froze n (shared gr room n S)
def rounds(gr:Bool)(room:Int)(n:Nat)(S:Nat->St):Nat->Nat->St
 | 0=>S
 | k+1=>round gr room n (rounds gr room n S k)
def fin(l:Nat->It)(n:Nat)(room:Int):Nat->St:=rounds (x9 l n room) room n (begun (x9 l n room) l) n
theorem Pb(S:Nat->St)(k:Nat):pl S k<=k:=by
 induction k with
 | zero=>simp[pl]
 | succ k ih=>simp only[pl];split<;>omega
theorem rJ(gr:Bool)(S:Nat->St)(k:Nat):(ws gr S k).length=pl S k:=by
 induction k with
 | zero=>rfl
 | succ k ih=>simp only[ws,pl];split<;>simp[ih]
theorem Yf(S:Nat->St){i j:Nat}(h:i<=j):pl S i<=pl S j:=by
 induction j with
 | zero=>obtain rfl:i=0:=(by omega);exact Nat.le_refl _
 | succ j ih =>
   rcases Nat.lt_or_ge i (j+1)with h'|h'
   . exact Nat.le_trans (ih (by omega)) (by simp only[pl];omega)
   . obtain rfl:i=j+1:=by omega
     exact Nat.le_refl _
theorem Pf(S:Nat->St){i n:Nat}(h:i<n)(hf:(S i).f=false):pl S i<pl S n:=by
 have h1:pl S (i+1)=pl S i+1:=by simp[pl,hf]
 have:=Yf S (show i+1<=n by omega);omega
theorem Yg{S:Nat->St}{n:Nat}(h:pl S n=0):∀i,i<n->(S i).f=true:=by
 intro i hi;cases hf:(S i).f with
 | true=>rfl
 | false=>have:=Pf S hi hf;omega
theorem abt{S:Nat->St}{n:Nat}(h:∀i,i<n->(S i).f=true):pl S n=0:=by
 induction n with
 | zero=>rfl
 | succ n ih=>simp only[pl,h n (by omega),if_true];rw[ih λi hi=>h i (by omega)]
theorem Yh{S T:Nat->St}{n:Nat}(h:∀i,i<n->(S i).f=(T i).f):pl S n=pl T n:=by
 induction n with
 | zero=>rfl
 | succ n ih=>simp only[pl,h n (by omega)];rw[ih λi hi=>h i (by omega)]
theorem Yi{S T:Nat->St}{n:Nat}(h:∀i,i<n->(S i).f=true->(T i).f=true):pl T n<=pl S n:=by
 induction n with
 | zero=>exact Nat.le_refl _
 | succ n ih =>
   have:=ih λi hi=>h i (by omega);have h2:=h n (by omega);simp only[pl];cases hs:(S n).f<;>cases ht:(T n).f<;>simp_all<;>omega
theorem Qw{S T:Nat->St}{n i:Nat}(h:∀i,i<n->(S i).f=true->(T i).f=true)(hi:i<n)(h1:(S i).f=false)(h2:(T i).f=true):pl T n<pl S n:=by
 induction n with
 | zero=>omega
 | succ n ih =>
   have hle:=Yi (n:=n) λi hi=>h i (by omega);rcases Nat.lt_or_ge i n with h'|h'
   . have:=ih (λi hi=>h i (by omega)) h'
     have h3:=h n (by omega);simp only[pl];cases hs:(S n).f<;>cases ht:(T n).f<;>simp_all<;>omega
   . obtain rfl:i=n:=by omega
     simp only[pl,h1,h2,if_true];simp;omega
theorem Qx{S:Nat->St}{n:Nat}(h:∀i,i<n->(S i).f=false->(S i).m<=0):made S n<=0:=by
 induction n with
 | zero=>exact Int.le_refl _
 | succ n ih =>
   have h1:=ih λi hi=>h i (by omega);simp only[made];split
   . exact h1
   . have:=h n (by omega) (by simp_all);omega
theorem MO{S:Nat->St}{n:Nat}(h:∀i,i<n->(S i).f=false->0<=(S i).m):0<=made S n:=by
 induction n with
 | zero=>exact Int.le_refl _
 | succ n ih =>
   have h1:=ih λi hi=>h i (by omega);simp only[made];split
   . exact h1
   . have:=h n (by omega) (by simp_all);omega
theorem Qy{S:Nat->St}{n:Nat}(h:0<pl S n):∃i,i<n/\(S i).f=false/\(froze n S i).f=true:=by
 apply Classical.byContradiction;intro hne;have hall:∀i,i<n->(S i).f=false->O9 (made S n) (S i).m=false:=by
  intro i hi hf;cases hz:O9 (made S n) (S i).m with
  | false=>rfl
  | true=>exact absurd ⟨i,hi,hf,by simp[froze,hf,hz]⟩ hne
 rcases Int.lt_trichotomy (made S n) 0 with ht|ht|ht
 . have:=MO (S:=S) (n:=n) λi hi hf=>by
    have:=hall i hi hf;simp only[O9,Bool.or_eq_false_iff,Bool.and_eq_false_iff,decide_eq_false_iff_not]at this;omega
   omega
 . have h0:∀i,i<n->(S i).f=true:=by
    intro i hi;cases hf:(S i).f with
    | true=>rfl
    | false=>have:=hall i hi hf;simp[O9,ht]at this
   have:=abt h0;omega
 . have:=Qx (S:=S) (n:=n) λi hi hf=>by
    have:=hall i hi hf;simp only[O9,Bool.or_eq_false_iff,Bool.and_eq_false_iff,decide_eq_false_iff_not]at this;omega
   omega
theorem TL(gr:Bool)(p:List Int)(S:Nat->St)(i:Nat):(fO gr p S i).f=(S i).f:=by
 unfold fO;cases h:(S i).f<;>simp[h]
theorem Cz(gr:Bool)(room:Int){n:Nat}{S:Nat->St}(h:0<pl S n):pl (round gr room n S) n<pl S n:=by
 have e:pl (shared gr room n S) n=pl S n:=Yh λi _=>TL gr _ S i;obtain⟨i,hi,h1,h2⟩:=Qy (S:=shared gr room n S) (n:=n) (by omega);have:=Qw (S:=shared gr room n S) (T:=round gr room n S) (λj _ hj=>by simp[round,froze,hj]) hi h1 h2;omega
theorem zZ{gr:Bool}{room:Int}{n:Nat}{S:Nat->St}{i:Nat}(h:(S i).f=true):round gr room n S i=S i:=by
 have e:shared gr room n S i=S i:=by simp[shared,fO,h]
 simp[round,froze,e,h]
theorem Hf{gr:Bool}{room:Int}{n:Nat}{S:Nat->St}{k:Nat}{i:Nat}(h:(rounds gr room n S k i).f=true):∀m,k<=m->rounds gr room n S m i=rounds gr room n S k i:=by
 intro m hm
 induction m with
 | zero=>obtain rfl:k=0:=(by omega);rfl
 | succ m ih =>
   rcases Nat.lt_or_ge k (m+1)with h'|h'
   . have:=ih (by omega)
     show round gr room n (rounds gr room n S m) i=_;rw[zZ (by rw[this];exact h),this]
   . obtain rfl:k=m+1:=by omega
     rfl
theorem Hg{room:Int}{S:Nat->St}(hx:∀i,0<=(S i).x.b/\(S i).x.b<=1048576)(hz:∀i,0<=(S i).z/\(S i).z<=1048576)(k:Nat):room-1048576*k<=left room S k/\left room S k<=room:=by
 induction k with
 | zero=>simp[left]
 | succ k ih =>
   obtain⟨h1,h2⟩:=ih;have:=hx k;have:=hz k;simp only[left];split<;>constructor<;>omega
end Go.Proofs.YtcbcfdihofclkaaGreat.Fe
namespace Go.Proofs.YtcbcfdihofclkaaGreat
namespace Ju
def pq(kind left n:Int):Int×Int×Int :=
 if kind=1 then (1,0,1)
 else if kind=3 then (if 0<left/\1<n then (0,1,n-1)else (0,0,1))
 else if kind=4 then (if 0<left then (1,2,2*n)else (1,0,2))
 else if kind=5 then (if 0<left then (1,1,n+1)else (1,0,2))
 else if kind=2 then (1,0,2)else (0,0,1)
def fr(left p s q k:Int):Int:=Fx.div (Fx.mul left (p+s*k)) q
def F(kind left n k:Int):Int:=fr left (pq kind left n).1 (pq kind left n).2.1 (pq kind left n).2.2 k
theorem adx(kind left n:Int):0<=(pq kind left n).1/\(pq kind left n).1<=1/\0<=(pq kind left n).2.1/\(pq kind left n).2.1<=2:=by
 unfold pq;(repeat' split)<;>simp
def at_(f:Int->Int)(l:List Int)(gap:Int):Nat->Int
 | 0=>f 0
 | k+1=>Fx.add (Fx.add (Fx.add (at_ f l gap k) (l.getD k 0)) gap) (Fx.sub (f ((k+1:Nat):Int)) (f (k:Int)))
def row(f:Nat->Int)(n:Nat):List Int:=(List.range n).map f
theorem pU(f:Nat->Int)(n:Nat):(row f n).length=n:=by simp[row]
theorem Hl(f:Nat->Int){n k:Nat}(h:k<n):(row f n).getD k 0=f k:=by simp[row,List.getD_eq_getElem?_getD,h]
def left(room gap:Int)(l:List Int):Int:=Fx.sub room (Li.long gap l)
def starts(kind room gap:Int)(l:List Int):Nat->Int:=at_ (F kind (left room gap l) l.length) l gap
def across(kind size room:Int):Int:=if kind=2 then Fx.div (Fx.sub room size) 2 else if kind=3 then Fx.sub room size else 0
end Ju
namespace Fw
structure Ld where
 id:Int
 i0:Int
 i1:Int
 s0:Int
 s1:Int
 a0:Int
 a1:Int
instance:Inhabited Ld:=⟨⟨0,0,0,0,0,0,0⟩⟩
structure Bx where
 sty:Re.St
 fl:List Int
 ap:List Int
 ib:Bool
def sizes(l:Nat->Fe.It)(n:Nat)(x:Int):List Int:=(List.range n).map λi=>(Fe.fin l n (Fe.to x 67108864) i).z
def SF(s:Re.St)(y:Nat)(base room:Int):Fe.It:=⟨Fx.len (s.c 41) (s.c 42) room base,Fx.limit 0 (s.c (7+2*y)) (s.c (8+2*y)) 0 0 room,max (Fx.len (s.c (11+2*y)) (s.c (12+2*y)) room 1048576) 0,s.c 39,s.c 40⟩
section
variable (B:Int->Bx)
def meet(e:Nat):Nat->Int->List Int
 | 0,z=>[mg (B z).sty 1 e (-1)]
 | f+1,z=>mg (B z).sty 1 e (-1)::(if opn (B z).sty (B z).ib e=true then
  (match (if e=0 then (B z).fl.head? else (B z).fl.getLast?)with
   | some k=>meet e f k
   | none=>[])else [])
def wB(cont:Int->Int->Int->List Ld×Int)(z r0 r1 t0 t1:Int):Ld :=
 let s:=(B z).sty
 let i0:=rz s 0 r0 r0 t0
 let i1:=rz s 1 r0 r1 t1
 ⟨z,i0,i1,wr (i0+nR s 0),wr ((if i1 = -1 then lim s 1 (cont z i0 i1).2 r1 else i1)+nR s 1),0,0⟩
variable (lay:Int->Int->Int->Int->Int->Ld)
def uP(i0 i1:Int)(k:Int):Ld :=
 let x:=lay k i0 i1 (-1) (-1)
 let s:=(B k).sty
 { x with a0:=Fx.TH i0 x.s0 (Fx.len (s.c 21) (s.c 22) i0 0) (Fx.len (s.c 17) (s.c 18) i0 0) (Fx.mX (s.c 21) i0) (Fx.mX (s.c 17) i0) }
def pV(f:Nat)(z i0 i1:Int):List Ld×Int :=
 let b:=B z
 let ks:=b.fl.map (uP B lay i0 i1)
 let sz:=ks.map (·.s1)
 let tp:=b.fl.map λk=>Fx.coll (meet B 0 f k)
 let bt:=b.fl.map λk=>Fx.coll (meet B 1 f k)
 let first:=if opn b.sty b.ib 0=true then 0 else tp.getD 0 0
 let last:=if opn b.sty b.ib 1=true then 0 else bt.getD (bt.length-1) 0
 (ks.mapIdx λi x=>{ x with a1:=wr (first+Fx.o7 sz tp bt i) },wr (wr (first+Fx.uN sz tp bt b.fl.length)+last))
def FX(i0:Int)(y:Nat)(k:Int):Int:=wr (X8 (B k).sty y i0+nR (B k).sty y)
def wC(i0:Int)(y:Nat)(x:Ld):Int:=wr ((if y=0 then x.s0 else x.s1)+X8 (B x.id).sty y i0)
def left(i0 r gap:Int)(y:Nat)(ks:List Int):Int:=ks.foldl (λa k=>wr (a-FX B i0 y k)) (wr (r-wr (gap*wr ((ks.length:Int)-1))))
def mM(i0 r gap:Int)(y:Nat)(it:Int->Fe.It)(ks:List Int):List Int:=sizes (λi=>it (ks.getD i 0)) ks.length (left B i0 r gap y ks)
def nS(i0:Int)(k:Int):Fe.It:=SF (B k).sty 0 (Fx.len ((B k).sty.c 3) ((B k).sty.c 4) i0 ((B k).sty.c 53)) i0
def jw(z i0 i1 high:Int)(ks:List Int):List Ld×Int :=
 let s:=(B z).sty
 let sz:=mM B i0 i0 (s.c 46) 0 (nS B i0) ks
 let xs:=ks.mapIdx λi k=>lay k i0 i1 (wr (sz.getD i 0+nR (B k).sty 0)) (-1)
 let deep:=if high = -1 then (xs.map (wC B i0 1)).foldl max 0 else high
 let ys:=if s.c 44=0 then xs.map λx=>if GZ (B x.id).sty 1 i1=true then x else lay x.id i0 i1 x.s0 (wr (lim (B x.id).sty 1 (max (wr (deep-FX B i0 1 x.id)) 0) i1+nR (B x.id).sty 1))else xs
 let st:=Ju.starts (s.c 43) i0 (s.c 46) (ys.map (wC B i0 0))
 (ys.mapIdx λi x=>{ x with a0:=wr (st i+mg (B x.id).sty 0 0 i0),a1:=wr (Ju.across (s.c 44) (wC B i0 1 x) deep+mg (B x.id).sty 1 0 i0) },deep)
def cu(z i0 i1 high:Int)(fl:List Int):Bool->Int->List (Nat×Nat)->List Ld×Int
 | _,y,[]=>([],y)
 | fst,y,p::ps =>
   let y1:=if fst=true then y else wr (y+(B z).sty.c 46)
   let l:=jw B lay z i0 i1 high ((fl.drop p.1).take (p.2-p.1))
   let r:=cu z i0 i1 high fl false (wr (y1+l.2)) ps
   (l.1.map (λx=>{ x with a1:=wr (x.a1+y1) })++r.1,r.2)
def Ho(z i0 i1:Int):List Ld×Int :=
 let b:=B z
 let br:=Li.brk i0 (b.sty.c 46) (b.sty.b 45) (b.fl.map λk=>wr (Fe.clamp (nS B i0 k) (nS B i0 k).b+FX B i0 0 k))
 cu B lay z i0 i1 (if br.length=1 then i1 else -1) b.fl true 0 br
def gY(z i0:Int)(k:Int):Int:=if GZ (B k).sty 0 i0=false/\(B z).sty.c 44≠0 then X9 (B k).sty i0 else -1
def mo(z i0 i1:Int):List Ld×Int :=
 let b:=B z
 let s:=b.sty
 let it:=λk=>SF (B k).sty 1 (wr ((lay k i0 i1 (gY B z i0 k) (-1)).s1-nR (B k).sty 1)) i1
 let sz:=if i1 ≠ -1/\b.fl.length<=64 then mM B i0 i1 (s.c 46) 1 it b.fl else b.fl.map λk=>Fe.clamp (it k) (it k).b
 let xs:=b.fl.mapIdx λi k=>lay k i0 i1 (gY B z i0 k) (wr (sz.getD i 0+nR (B k).sty 1))
 let long:=xs.map (wC B i0 1)
 let high:=Li.long (s.c 46) long
 let st:=Ju.starts (s.c 43) (if i1 = -1 then high else i1) (s.c 46) long
 (xs.mapIdx λi x=>{ x with a0:=wr (Ju.across (s.c 44) (wC B i0 0 x) i0+mg (B x.id).sty 0 0 i0),a1:=wr (st i+mg (B x.id).sty 1 0 i0) },high)
def yZ(s:Re.St)(y:Nat)(r a:Int):Int:=if Et s y 0 r=true then wr (a+ins s y 0 r)else if Et s y 1 r=true then wr (a-ins s y 1 r)else a
def mv(i0 i1:Int)(x:Ld):Ld:=if (B x.id).sty.c 1=1 then { x with a0:=yZ (B x.id).sty 0 i0 x.a0,a1:=yZ (B x.id).sty 1 i1 x.a1 }else x
def kind(f:Nat)(z i0 i1:Int):List Ld×Int :=
 if (B z).sty.c 0=1 then Ho B lay z i0 i1 else if (B z).sty.c 0=2 then mo B lay z i0 i1 else pV B lay f z i0 i1
end
def cont(B:Int->Bx):Nat->Int->Int->Int->List Ld×Int
 | 0,z,i0,i1=>([],(B z).sty.c 54)
 | f+1,z,i0,i1=>if (B z).fl=[]then ([],(B z).sty.c 54)else
  let c:=kind B (wB B (cont B f)) f z i0 i1
  (c.1.map (mv B i0 i1),c.2)
def lay(B:Int->Bx)(f:Nat):Int->Int->Int->Int->Int->Ld:=wB B (cont B f)
def cst(B:Int->Bx):Nat->Int->Nat
 | 0,_=>1
 | f+1,z=>1+3*((B z).fl.map (cst B f)).sum
end Fw
end Go.Proofs.YtcbcfdihofclkaaGreat
