/- Proved here: what functions of the program do, in plain numbers (part 13); no conditions but those in sight. -/
import Derived.Deep.RegionWith
import Derived.Deep.Cut
import Derived.ArgAppend
import Derived.Laws.EntriesVeiled
import Derived.Test.YtcbcfdihofclkaaGreatQK
import Derived.Test.YtcbcfdihofclkaaGreatQ04
import Derived.Test.YtcbcfdihofclkaaGreatQ05
import Derived.Test.YtcbcfdihofclkaaGreatQ06
import Derived.Test.YtcbcfdihofclkaaGreatQ07
set_option linter.unusedVariables false
set_option linter.unusedSimpArgs false
set_option linter.unusedSectionVars false
set_option maxRecDepth 100000
namespace Go.Proofs.YtcbcfdihofclkaaGreat.Fix
open Go.ChangeShapes Go.WideShapes Go.ChangeAt Go.RowKit
structure Here(F:FuncId)(caps:Array Value)(I:List Int->World->Prop)(bw b:Nat)(T:TypeId)(cs:Array Value)(wr:Bool)(xs:List Int)(W:World):Prop where
 i:I xs W
 a:At W b (.cells cs T)
 w:At W bw (.cells #[.func (.func F) #[] caps,.bool wr] 248)
structure dD(mine:Nat->Prop)(b bw:Nat):Prop where
 nb:¬ mine b
 nw:¬ mine bw
 ne:b≠bw
theorem fq{bw:Nat}{v:Value}{wr ok:Bool}{w:World}(aw:At w bw (.cells #[v,.bool wr] 248)) :
  Calls Tryz.prog 285 #[.pointer (some ⟨bw,0,none⟩),.bool ok] w λe w'=>e=.returned (.tuple #[])/\w'=w.setCell ⟨bw,1,none⟩ (.bool (wr || !ok)):=by
 obtain⟨lw,c0,c1⟩:=At.two aw;have z1:=aw.thaw 1;cases wr
 . go_enter Tryz.func285,Tryz.ntmps285
   go_wp2;refine bodyPost_end (results_none rfl _ _ _) rfl ⟨rfl,rfl⟩
 . go_enter Tryz.func285,Tryz.ntmps285
   go_wp2;refine bodyPost_end (results_none rfl _ _ _) rfl ⟨rfl,rfl⟩
theorem Here.held{F:FuncId}{caps:Array Value}{f:Nat->Int->Int}{mine:Nat->Prop}{I:List Int->World->Prop}(hA:jv F caps f mine I){bw b:Nat}{T:TypeId}{cs:Array Value}{wr:Bool}{xs:List Int}{W:World}
 (h:Here F caps I bw b T cs wr xs W) (hp:dD mine b bw) (v:Bool):Here F caps I bw b T cs v xs (W.setCell ⟨bw,1,none⟩ (.bool v)):=⟨hA.set _ _ _ _ _ h.i hp.nw,h.a.off hp.ne _ _,h.w.set 1 _⟩
theorem Here.keep{F:FuncId}{caps:Array Value}{f:Nat->Int->Int}{mine:Nat->Prop}{I:List Int->World->Prop}(hA:jv F caps f mine I){bw b:Nat}{T:TypeId}{cs:Array Value}{wr:Bool}{xs:List Int}{W W':World}
 (h:Here F caps I bw b T cs wr xs W) (hb:Below W.heap.size W W'):Here F caps I bw b T cs wr xs W':=⟨hA.keep _ _ _ h.i hb,h.a.keep hb,h.w.keep hb⟩
theorem FJ{F:FuncId}{caps:Array Value}{f:Nat->Int->Int}{mine:Nat->Prop}{I:List Int->World->Prop}(hA:jv F caps f mine I){b o bw:Nat}{cs:Array Value}{T:TypeId}{wr:Bool}{x y:Int}{xs:List Int}{w:World}
  (h:Here F caps I bw b T cs wr xs w) (hp:dD mine b bw) (hx:xs.length<55) (ho:cs[o]? = some (.int .i64 x)) (hy:y=f xs.length x) :
  Calls Tryz.prog 284 #[.pointer (some ⟨bw,0,none⟩),.pointer (some ⟨b,o,none⟩)] w λe w'=>e=.returned (.tuple #[])/\Here F caps I bw b T (cs.setIfInBounds o (.int .i64 y)) wr (xs++[x]) w'/\Out (λc=>mine c\/c=b) w w':=by
 subst hy;obtain⟨hI,a,aw⟩:=h;obtain⟨n1,n2,n3⟩:=hp;have cx:w.cell? ⟨b,o,none⟩=some (.int .i64 x):=(a.cell o).trans ho;have lb:=a.lt;obtain⟨lw,c0,c1⟩:=At.two aw;have hcf:=hA.enters;go_enter Tryz.func284,Tryz.ntmps284
 exact Zb
theorem FI{F:FuncId}{caps:Array Value}{f:Nat->Int->Int}{mine:Nat->Prop}{I:List Int->World->Prop}(hA:jv F caps f mine I){b o bw:Nat}{cs:Array Value}{T:TypeId}{wr:Bool}{x y:Int}{xs:List Int}{w:World}
  (h:Here F caps I bw b T cs wr xs w) (hp:dD mine b bw) (hx:xs.length<55) (ho:cs[o]? = some (.int .i64 x)) (hy:y=f xs.length x) :
  Calls Tryz.prog 286 #[.pointer (some ⟨bw,0,none⟩),.pointer (some ⟨b,o,none⟩)] w λe w'=>e=.returned (.tuple #[])/\Here F caps I bw b T (cs.setIfInBounds o (.int .i64 y)) wr (xs++[x]) w'/\Out (λc=>mine c\/c=b) w w':=by
 subst hy;obtain⟨hI,a,aw⟩:=h;obtain⟨n1,n2,n3⟩:=hp;have cx:w.cell? ⟨b,o,none⟩=some (.int .i64 x):=(a.cell o).trans ho;have lb:=a.lt;obtain⟨lw,c0,c1⟩:=At.two aw;have hcf:=hA.enters;go_enter Tryz.func286,Tryz.ntmps286
 exact Zb
theorem FH{F:FuncId}{caps:Array Value}{f:Nat->Int->Int}{mine:Nat->Prop}{I:List Int->World->Prop}(hA:jv F caps f mine I){b o bw:Nat}{cs:Array Value}{T:TypeId}{wr:Bool}{x y:Int}{xs:List Int}{w:World}
  (h:Here F caps I bw b T cs wr xs w) (hp:dD mine b bw) (hx:xs.length<55) (ho:cs[o]? = some (.int .i64 x)) (hy:y=f xs.length x) :
  Calls Tryz.prog 287 #[.pointer (some ⟨bw,0,none⟩),.pointer (some ⟨b,o,none⟩)] w λe w'=>e=.returned (.tuple #[])/\Here F caps I bw b T (cs.setIfInBounds o (.int .i64 y)) wr (xs++[x]) w'/\Out (λc=>mine c\/c=b) w w':=by
 subst hy;obtain⟨hI,a,aw⟩:=h;obtain⟨n1,n2,n3⟩:=hp;have cx:w.cell? ⟨b,o,none⟩=some (.int .i64 x):=(a.cell o).trans ho;have lb:=a.lt;obtain⟨lw,c0,c1⟩:=At.two aw;have hcf:=hA.enters;go_enter Tryz.func287,Tryz.ntmps287
 exact Zb
theorem QX{F:FuncId}{caps:Array Value}{f:Nat->Int->Int}{mine:Nat->Prop}{I:List Int->World->Prop}(hA:jv F caps f mine I){b o bw:Nat}{cs:Array Value}{T:TypeId}{wr:Bool}{x y:Int}{xs:List Int}{w:World}
  (h:Here F caps I bw b T cs wr xs w) (hp:dD mine b bw) (hx:xs.length<55) (ho:cs[o]? = some (.int .i64 x)) (hy:y=f xs.length x) :
  Calls Tryz.prog 288 #[.pointer (some ⟨bw,0,none⟩),.pointer (some ⟨b,o,none⟩)] w λe w'=>e=.returned (.tuple #[])/\Here F caps I bw b T (cs.setIfInBounds o (.int .i64 y)) wr (xs++[x]) w'/\Out (λc=>mine c\/c=b) w w':=by
 subst hy;obtain⟨hI,a,aw⟩:=h;obtain⟨n1,n2,n3⟩:=hp;have cx:w.cell? ⟨b,o,none⟩=some (.int .i64 x):=(a.cell o).trans ho;have lb:=a.lt;obtain⟨lw,c0,c1⟩:=At.two aw;have hcf:=hA.enters;go_enter Tryz.func288,Tryz.ntmps288
 exact Zb
theorem zm{F:FuncId}{caps:Array Value}{f:Nat->Int->Int}{mine:Nat->Prop}{I:List Int->World->Prop}(hA:jv F caps f mine I){b o bw:Nat}{cs:Array Value}{T:TypeId}{wr:Bool}{x y:Int}{xs:List Int}{w:World}
  (h:Here F caps I bw b T cs wr xs w) (hp:dD mine b bw) (hx:xs.length<55) (ho:cs[o]? = some (.int .i64 x)) (hy:y=f xs.length x) :
  Calls Tryz.prog 289 #[.pointer (some ⟨bw,0,none⟩),.pointer (some ⟨b,o,none⟩)] w λe w'=>e=.returned (.tuple #[])/\Here F caps I bw b T (cs.setIfInBounds o (.int .i64 y)) wr (xs++[x]) w'/\Out (λc=>mine c\/c=b) w w':=by
 subst hy;obtain⟨hI,a,aw⟩:=h;obtain⟨n1,n2,n3⟩:=hp;have cx:w.cell? ⟨b,o,none⟩=some (.int .i64 x):=(a.cell o).trans ho;have lb:=a.lt;obtain⟨lw,c0,c1⟩:=At.two aw;have hcf:=hA.enters;go_enter Tryz.func289,Tryz.ntmps289
 exact Zb
theorem FE{F:FuncId}{caps:Array Value}{f:Nat->Int->Int}{mine:Nat->Prop}{I:List Int->World->Prop}(hA:jv F caps f mine I){b o bw:Nat}{cs:Array Value}{T:TypeId}{wr:Bool}{x y:Int}{xs:List Int}{w:World}
  (h:Here F caps I bw b T cs wr xs w) (hp:dD mine b bw) (hx:xs.length<55) (ho:cs[o]? = some (.int .i64 x)) (hy:y=f xs.length x) :
  Calls Tryz.prog 291 #[.pointer (some ⟨bw,0,none⟩),.pointer (some ⟨b,o,none⟩)] w λe w'=>e=.returned (.tuple #[])/\Here F caps I bw b T (cs.setIfInBounds o (.int .i64 y)) wr (xs++[x]) w'/\Out (λc=>mine c\/c=b) w w':=by
 subst hy;obtain⟨hI,a,aw⟩:=h;obtain⟨n1,n2,n3⟩:=hp;have cx:w.cell? ⟨b,o,none⟩=some (.int .i64 x):=(a.cell o).trans ho;have lb:=a.lt;obtain⟨lw,c0,c1⟩:=At.two aw;have hcf:=hA.enters;go_enter Tryz.func291,Tryz.ntmps291
 exact Zb
theorem FD{F:FuncId}{caps:Array Value}{f:Nat->Int->Int}{mine:Nat->Prop}{I:List Int->World->Prop}(hA:jv F caps f mine I){b o bw:Nat}{cs:Array Value}{T:TypeId}{wr:Bool}{x y:Int}{xs:List Int}{w:World}
  (h:Here F caps I bw b T cs wr xs w) (hp:dD mine b bw) (hx:xs.length<55) (ho:cs[o]? = some (.int .i64 x)) (hy:y=f xs.length x) :
  Calls Tryz.prog 292 #[.pointer (some ⟨bw,0,none⟩),.pointer (some ⟨b,o,none⟩)] w λe w'=>e=.returned (.tuple #[])/\Here F caps I bw b T (cs.setIfInBounds o (.int .i64 y)) wr (xs++[x]) w'/\Out (λc=>mine c\/c=b) w w':=by
 subst hy;obtain⟨hI,a,aw⟩:=h;obtain⟨n1,n2,n3⟩:=hp;have cx:w.cell? ⟨b,o,none⟩=some (.int .i64 x):=(a.cell o).trans ho;have lb:=a.lt;obtain⟨lw,c0,c1⟩:=At.two aw;have hcf:=hA.enters;go_enter Tryz.func292,Tryz.ntmps292
 exact Zb
theorem FC{F:FuncId}{caps:Array Value}{f:Nat->Int->Int}{mine:Nat->Prop}{I:List Int->World->Prop}(hA:jv F caps f mine I){b o bw:Nat}{cs:Array Value}{T:TypeId}{wr:Bool}{x y:Int}{xs:List Int}{w:World}
  (h:Here F caps I bw b T cs wr xs w) (hp:dD mine b bw) (hx:xs.length<55) (ho:cs[o]? = some (.int .i64 x)) (hy:y=f xs.length x) :
  Calls Tryz.prog 293 #[.pointer (some ⟨bw,0,none⟩),.pointer (some ⟨b,o,none⟩)] w λe w'=>e=.returned (.tuple #[])/\Here F caps I bw b T (cs.setIfInBounds o (.int .i64 y)) wr (xs++[x]) w'/\Out (λc=>mine c\/c=b) w w':=by
 subst hy;obtain⟨hI,a,aw⟩:=h;obtain⟨n1,n2,n3⟩:=hp;have cx:w.cell? ⟨b,o,none⟩=some (.int .i64 x):=(a.cell o).trans ho;have lb:=a.lt;obtain⟨lw,c0,c1⟩:=At.two aw;have hcf:=hA.enters;go_enter Tryz.func293,Tryz.ntmps293
 exact Zb
theorem FB{F:FuncId}{caps:Array Value}{f:Nat->Int->Int}{mine:Nat->Prop}{I:List Int->World->Prop}(hA:jv F caps f mine I){b o bw:Nat}{cs:Array Value}{T:TypeId}{wr:Bool}{x y:Int}{xs:List Int}{w:World}
  (h:Here F caps I bw b T cs wr xs w) (hp:dD mine b bw) (hx:xs.length<55) (ho:cs[o]? = some (.int .i64 x)) (hy:y=f xs.length x) :
  Calls Tryz.prog 294 #[.pointer (some ⟨bw,0,none⟩),.pointer (some ⟨b,o,none⟩)] w λe w'=>e=.returned (.tuple #[])/\Here F caps I bw b T (cs.setIfInBounds o (.int .i64 y)) wr (xs++[x]) w'/\Out (λc=>mine c\/c=b) w w':=by
 subst hy;obtain⟨hI,a,aw⟩:=h;obtain⟨n1,n2,n3⟩:=hp;have cx:w.cell? ⟨b,o,none⟩=some (.int .i64 x):=(a.cell o).trans ho;have lb:=a.lt;obtain⟨lw,c0,c1⟩:=At.two aw;have hcf:=hA.enters;go_enter Tryz.func294,Tryz.ntmps294
 exact Zb
theorem Kg{F:FuncId}{caps:Array Value}{f:Nat->Int->Int}{mine:Nat->Prop}{I:List Int->World->Prop}(hA:jv F caps f mine I){b o bw:Nat}{cs:Array Value}{T:TypeId}{wr:Bool}{x y lo hi:Int}{xs:List Int}{w:World}
  (h:Here F caps I bw b T cs wr xs w) (hp:dD mine b bw) (hx:xs.length<55) (ho:cs[o]? = some (.int .i64 x)) (hy:y=f xs.length x) :
  Calls Tryz.prog 245 #[.pointer (some ⟨bw,0,none⟩),.pointer (some ⟨b,o,none⟩),.int .i64 lo,.int .i64 hi] w λe w'=>e=.returned (.tuple #[])/\Here F caps I bw b T (cs.setIfInBounds o (.int .i64 y)) (wr || !Re.inn y lo hi) (xs++[x]) w'/\Out (λc=>mine c\/c=b\/c=bw) w w':=by
 have HY:=Lib.hid hy;clear hy;have hlt:o<cs.size:=(Array.getElem?_eq_some_iff.1 ho).1;have hgo:(cs.setIfInBounds o (.int .i64 y))[o]? = some (.int .i64 y):=by simp[hlt]
 have Cu:=Lib.hid hgo;have HO:=Lib.hid ho;clear hgo ho hlt;by_cases h1:lo<=y
 . have e1:decide (lo<=y)=true:=decide_eq_true h1
   by_cases h2:y<=hi
   . have e2:decide (y<=hi)=true:=decide_eq_true h2
     have wu:=Lib.hid (show Re.inn y lo hi=true by unfold Re.inn;rw[e1,e2];rfl);go_enter Tryz.func245,Tryz.ntmps245
     go_wp2_with (first|(go_at_call 284;refine(FJ hA h hp hx HO.out HY.out).mono ?_;rintro e w1 ⟨rfl,h1',hO⟩;have A9:=(h1'.a.cell o).trans Cu.out)|(go_at_call 285;refine(fq h1'.w).mono ?_;rintro e w2 ⟨rfl,rfl⟩))
     exact Zu
   . have e2:decide (y<=hi)=false:=decide_eq_false h2
     have wu:=Lib.hid (show Re.inn y lo hi=false by unfold Re.inn;rw[e1,e2];rfl);exact Z2k
 . have e1:decide (lo<=y)=false:=decide_eq_false h1
   have wu:=Lib.hid (show Re.inn y lo hi=false by unfold Re.inn;rw[e1];rfl);exact Z2k
theorem Kh{F:FuncId}{caps:Array Value}{f:Nat->Int->Int}{mine:Nat->Prop}{I:List Int->World->Prop}(hA:jv F caps f mine I){b o bw:Nat}{cs:Array Value}{T:TypeId}{wr:Bool}{x y lo hi:Int}{xs:List Int}{w:World}
  (h:Here F caps I bw b T cs wr xs w) (hp:dD mine b bw) (hx:xs.length<55) (ho:cs[o]? = some (.int .i64 x)) (hy:y=f xs.length x) :
  Calls Tryz.prog 246 #[.pointer (some ⟨bw,0,none⟩),.pointer (some ⟨b,o,none⟩),.int .i64 lo,.int .i64 hi] w λe w'=>e=.returned (.tuple #[])/\Here F caps I bw b T (cs.setIfInBounds o (.int .i64 y)) (wr || !Re.inn y lo hi) (xs++[x]) w'/\Out (λc=>mine c\/c=b\/c=bw) w w':=by
 have HY:=Lib.hid hy;clear hy;have hlt:o<cs.size:=(Array.getElem?_eq_some_iff.1 ho).1;have hgo:(cs.setIfInBounds o (.int .i64 y))[o]? = some (.int .i64 y):=by simp[hlt]
 have Cu:=Lib.hid hgo;have HO:=Lib.hid ho;clear hgo ho hlt;by_cases h1:lo<=y
 . have e1:decide (lo<=y)=true:=decide_eq_true h1
   by_cases h2:y<=hi
   . have e2:decide (y<=hi)=true:=decide_eq_true h2
     have wu:=Lib.hid (show Re.inn y lo hi=true by unfold Re.inn;rw[e1,e2];rfl);go_enter Tryz.func246,Tryz.ntmps246
     go_wp2_with (first|(go_at_call 286;refine(FI hA h hp hx HO.out HY.out).mono ?_;rintro e w1 ⟨rfl,h1',hO⟩;have A9:=(h1'.a.cell o).trans Cu.out)|(go_at_call 285;refine(fq h1'.w).mono ?_;rintro e w2 ⟨rfl,rfl⟩))
     exact Zu
   . have e2:decide (y<=hi)=false:=decide_eq_false h2
     have wu:=Lib.hid (show Re.inn y lo hi=false by unfold Re.inn;rw[e1,e2];rfl);exact Z2j
 . have e1:decide (lo<=y)=false:=decide_eq_false h1
   have wu:=Lib.hid (show Re.inn y lo hi=false by unfold Re.inn;rw[e1];rfl);exact Z2j
theorem Ki{F:FuncId}{caps:Array Value}{f:Nat->Int->Int}{mine:Nat->Prop}{I:List Int->World->Prop}(hA:jv F caps f mine I){b o bw:Nat}{cs:Array Value}{T:TypeId}{wr:Bool}{x y lo hi:Int}{xs:List Int}{w:World}
  (h:Here F caps I bw b T cs wr xs w) (hp:dD mine b bw) (hx:xs.length<55) (ho:cs[o]? = some (.int .i64 x)) (hy:y=f xs.length x) :
  Calls Tryz.prog 247 #[.pointer (some ⟨bw,0,none⟩),.pointer (some ⟨b,o,none⟩),.int .i64 lo,.int .i64 hi] w λe w'=>e=.returned (.tuple #[])/\Here F caps I bw b T (cs.setIfInBounds o (.int .i64 y)) (wr || !Re.inn y lo hi) (xs++[x]) w'/\Out (λc=>mine c\/c=b\/c=bw) w w':=by
 have HY:=Lib.hid hy;clear hy;have hlt:o<cs.size:=(Array.getElem?_eq_some_iff.1 ho).1;have hgo:(cs.setIfInBounds o (.int .i64 y))[o]? = some (.int .i64 y):=by simp[hlt]
 have Cu:=Lib.hid hgo;have HO:=Lib.hid ho;clear hgo ho hlt;by_cases h1:lo<=y
 . have e1:decide (lo<=y)=true:=decide_eq_true h1
   by_cases h2:y<=hi
   . have e2:decide (y<=hi)=true:=decide_eq_true h2
     have wu:=Lib.hid (show Re.inn y lo hi=true by unfold Re.inn;rw[e1,e2];rfl);go_enter Tryz.func247,Tryz.ntmps247
     go_wp2_with (first|(go_at_call 287;refine(FH hA h hp hx HO.out HY.out).mono ?_;rintro e w1 ⟨rfl,h1',hO⟩;have A9:=(h1'.a.cell o).trans Cu.out)|(go_at_call 285;refine(fq h1'.w).mono ?_;rintro e w2 ⟨rfl,rfl⟩))
     exact Zu
   . have e2:decide (y<=hi)=false:=decide_eq_false h2
     have wu:=Lib.hid (show Re.inn y lo hi=false by unfold Re.inn;rw[e1,e2];rfl);exact Z2i
 . have e1:decide (lo<=y)=false:=decide_eq_false h1
   have wu:=Lib.hid (show Re.inn y lo hi=false by unfold Re.inn;rw[e1];rfl);exact Z2i
theorem vv{F:FuncId}{caps:Array Value}{f:Nat->Int->Int}{mine:Nat->Prop}{I:List Int->World->Prop}(hA:jv F caps f mine I){b o bw:Nat}{cs:Array Value}{T:TypeId}{wr:Bool}{x y lo hi:Int}{xs:List Int}{w:World}
  (h:Here F caps I bw b T cs wr xs w) (hp:dD mine b bw) (hx:xs.length<55) (ho:cs[o]? = some (.int .i64 x)) (hy:y=f xs.length x) :
  Calls Tryz.prog 251 #[.pointer (some ⟨bw,0,none⟩),.pointer (some ⟨b,o,none⟩),.int .i64 lo,.int .i64 hi] w λe w'=>e=.returned (.tuple #[])/\Here F caps I bw b T (cs.setIfInBounds o (.int .i64 y)) (wr || !Re.inn y lo hi) (xs++[x]) w'/\Out (λc=>mine c\/c=b\/c=bw) w w':=by
 have HY:=Lib.hid hy;clear hy;have hlt:o<cs.size:=(Array.getElem?_eq_some_iff.1 ho).1;have hgo:(cs.setIfInBounds o (.int .i64 y))[o]? = some (.int .i64 y):=by simp[hlt]
 have Cu:=Lib.hid hgo;have HO:=Lib.hid ho;clear hgo ho hlt;by_cases h1:lo<=y
 . have e1:decide (lo<=y)=true:=decide_eq_true h1
   by_cases h2:y<=hi
   . have e2:decide (y<=hi)=true:=decide_eq_true h2
     have wu:=Lib.hid (show Re.inn y lo hi=true by unfold Re.inn;rw[e1,e2];rfl);go_enter Tryz.func251,Tryz.ntmps251
     go_wp2_with (first|(go_at_call 289;refine(zm hA h hp hx HO.out HY.out).mono ?_;rintro e w1 ⟨rfl,h1',hO⟩;have A9:=(h1'.a.cell o).trans Cu.out)|(go_at_call 285;refine(fq h1'.w).mono ?_;rintro e w2 ⟨rfl,rfl⟩))
     exact Zu
   . have e2:decide (y<=hi)=false:=decide_eq_false h2
     have wu:=Lib.hid (show Re.inn y lo hi=false by unfold Re.inn;rw[e1,e2];rfl);exact Z2h
 . have e1:decide (lo<=y)=false:=decide_eq_false h1
   have wu:=Lib.hid (show Re.inn y lo hi=false by unfold Re.inn;rw[e1];rfl);exact Z2h
theorem Kj{F:FuncId}{caps:Array Value}{f:Nat->Int->Int}{mine:Nat->Prop}{I:List Int->World->Prop}(hA:jv F caps f mine I){b o bw:Nat}{cs:Array Value}{T:TypeId}{wr:Bool}{x y lo hi:Int}{xs:List Int}{w:World}
  (h:Here F caps I bw b T cs wr xs w) (hp:dD mine b bw) (hx:xs.length<55) (ho:cs[o]? = some (.int .i64 x)) (hy:y=f xs.length x) :
  Calls Tryz.prog 252 #[.pointer (some ⟨bw,0,none⟩),.pointer (some ⟨b,o,none⟩),.int .i64 lo,.int .i64 hi] w λe w'=>e=.returned (.tuple #[])/\Here F caps I bw b T (cs.setIfInBounds o (.int .i64 y)) (wr || !Re.inn y lo hi) (xs++[x]) w'/\Out (λc=>mine c\/c=b\/c=bw) w w':=by
 have HY:=Lib.hid hy;clear hy;have hlt:o<cs.size:=(Array.getElem?_eq_some_iff.1 ho).1;have hgo:(cs.setIfInBounds o (.int .i64 y))[o]? = some (.int .i64 y):=by simp[hlt]
 have Cu:=Lib.hid hgo;have HO:=Lib.hid ho;clear hgo ho hlt;by_cases h1:lo<=y
 . have e1:decide (lo<=y)=true:=decide_eq_true h1
   by_cases h2:y<=hi
   . have e2:decide (y<=hi)=true:=decide_eq_true h2
     have wu:=Lib.hid (show Re.inn y lo hi=true by unfold Re.inn;rw[e1,e2];rfl);go_enter Tryz.func252,Tryz.ntmps252
     go_wp2_with (first|(go_at_call 291;refine(FE hA h hp hx HO.out HY.out).mono ?_;rintro e w1 ⟨rfl,h1',hO⟩;have A9:=(h1'.a.cell o).trans Cu.out)|(go_at_call 285;refine(fq h1'.w).mono ?_;rintro e w2 ⟨rfl,rfl⟩))
     exact Zu
   . have e2:decide (y<=hi)=false:=decide_eq_false h2
     have wu:=Lib.hid (show Re.inn y lo hi=false by unfold Re.inn;rw[e1,e2];rfl);exact Z2g
 . have e1:decide (lo<=y)=false:=decide_eq_false h1
   have wu:=Lib.hid (show Re.inn y lo hi=false by unfold Re.inn;rw[e1];rfl);exact Z2g
theorem Kk{F:FuncId}{caps:Array Value}{f:Nat->Int->Int}{mine:Nat->Prop}{I:List Int->World->Prop}(hA:jv F caps f mine I){b o bw:Nat}{cs:Array Value}{T:TypeId}{wr:Bool}{x y lo hi:Int}{xs:List Int}{w:World}
  (h:Here F caps I bw b T cs wr xs w) (hp:dD mine b bw) (hx:xs.length<55) (ho:cs[o]? = some (.int .i64 x)) (hy:y=f xs.length x) :
  Calls Tryz.prog 253 #[.pointer (some ⟨bw,0,none⟩),.pointer (some ⟨b,o,none⟩),.int .i64 lo,.int .i64 hi] w λe w'=>e=.returned (.tuple #[])/\Here F caps I bw b T (cs.setIfInBounds o (.int .i64 y)) (wr || !Re.inn y lo hi) (xs++[x]) w'/\Out (λc=>mine c\/c=b\/c=bw) w w':=by
 have HY:=Lib.hid hy;clear hy;have hlt:o<cs.size:=(Array.getElem?_eq_some_iff.1 ho).1;have hgo:(cs.setIfInBounds o (.int .i64 y))[o]? = some (.int .i64 y):=by simp[hlt]
 have Cu:=Lib.hid hgo;have HO:=Lib.hid ho;clear hgo ho hlt;by_cases h1:lo<=y
 . have e1:decide (lo<=y)=true:=decide_eq_true h1
   by_cases h2:y<=hi
   . have e2:decide (y<=hi)=true:=decide_eq_true h2
     have wu:=Lib.hid (show Re.inn y lo hi=true by unfold Re.inn;rw[e1,e2];rfl);go_enter Tryz.func253,Tryz.ntmps253
     go_wp2_with (first|(go_at_call 292;refine(FD hA h hp hx HO.out HY.out).mono ?_;rintro e w1 ⟨rfl,h1',hO⟩;have A9:=(h1'.a.cell o).trans Cu.out)|(go_at_call 285;refine(fq h1'.w).mono ?_;rintro e w2 ⟨rfl,rfl⟩))
     exact Zu
   . have e2:decide (y<=hi)=false:=decide_eq_false h2
     have wu:=Lib.hid (show Re.inn y lo hi=false by unfold Re.inn;rw[e1,e2];rfl);exact Z2f
 . have e1:decide (lo<=y)=false:=decide_eq_false h1
   have wu:=Lib.hid (show Re.inn y lo hi=false by unfold Re.inn;rw[e1];rfl);exact Z2f
theorem Kl{F:FuncId}{caps:Array Value}{f:Nat->Int->Int}{mine:Nat->Prop}{I:List Int->World->Prop}(hA:jv F caps f mine I){b o bw:Nat}{cs:Array Value}{T:TypeId}{wr:Bool}{x y lo hi:Int}{xs:List Int}{w:World}
  (h:Here F caps I bw b T cs wr xs w) (hp:dD mine b bw) (hx:xs.length<55) (ho:cs[o]? = some (.int .i64 x)) (hy:y=f xs.length x) :
  Calls Tryz.prog 255 #[.pointer (some ⟨bw,0,none⟩),.pointer (some ⟨b,o,none⟩),.int .i64 lo,.int .i64 hi] w λe w'=>e=.returned (.tuple #[])/\Here F caps I bw b T (cs.setIfInBounds o (.int .i64 y)) (wr || !Re.inn y lo hi) (xs++[x]) w'/\Out (λc=>mine c\/c=b\/c=bw) w w':=by
 have HY:=Lib.hid hy;clear hy;have hlt:o<cs.size:=(Array.getElem?_eq_some_iff.1 ho).1;have hgo:(cs.setIfInBounds o (.int .i64 y))[o]? = some (.int .i64 y):=by simp[hlt]
 have Cu:=Lib.hid hgo;have HO:=Lib.hid ho;clear hgo ho hlt;by_cases h1:lo<=y
 . have e1:decide (lo<=y)=true:=decide_eq_true h1
   by_cases h2:y<=hi
   . have e2:decide (y<=hi)=true:=decide_eq_true h2
     have wu:=Lib.hid (show Re.inn y lo hi=true by unfold Re.inn;rw[e1,e2];rfl);go_enter Tryz.func255,Tryz.ntmps255
     go_wp2_with (first|(go_at_call 293;refine(FC hA h hp hx HO.out HY.out).mono ?_;rintro e w1 ⟨rfl,h1',hO⟩;have A9:=(h1'.a.cell o).trans Cu.out)|(go_at_call 285;refine(fq h1'.w).mono ?_;rintro e w2 ⟨rfl,rfl⟩))
     exact Zu
   . have e2:decide (y<=hi)=false:=decide_eq_false h2
     have wu:=Lib.hid (show Re.inn y lo hi=false by unfold Re.inn;rw[e1,e2];rfl);exact Z2e
 . have e1:decide (lo<=y)=false:=decide_eq_false h1
   have wu:=Lib.hid (show Re.inn y lo hi=false by unfold Re.inn;rw[e1];rfl);exact Z2e
theorem Km{F:FuncId}{caps:Array Value}{f:Nat->Int->Int}{mine:Nat->Prop}{I:List Int->World->Prop}(hA:jv F caps f mine I){b o bw:Nat}{cs:Array Value}{T:TypeId}{wr:Bool}{x y lo hi:Int}{xs:List Int}{w:World}
  (h:Here F caps I bw b T cs wr xs w) (hp:dD mine b bw) (hx:xs.length<55) (ho:cs[o]? = some (.int .i64 x)) (hy:y=f xs.length x) :
  Calls Tryz.prog 256 #[.pointer (some ⟨bw,0,none⟩),.pointer (some ⟨b,o,none⟩),.int .i64 lo,.int .i64 hi] w λe w'=>e=.returned (.tuple #[])/\Here F caps I bw b T (cs.setIfInBounds o (.int .i64 y)) (wr || !Re.inn y lo hi) (xs++[x]) w'/\Out (λc=>mine c\/c=b\/c=bw) w w':=by
 have HY:=Lib.hid hy;clear hy;have hlt:o<cs.size:=(Array.getElem?_eq_some_iff.1 ho).1;have hgo:(cs.setIfInBounds o (.int .i64 y))[o]? = some (.int .i64 y):=by simp[hlt]
 have Cu:=Lib.hid hgo;have HO:=Lib.hid ho;clear hgo ho hlt;by_cases h1:lo<=y
 . have e1:decide (lo<=y)=true:=decide_eq_true h1
   by_cases h2:y<=hi
   . have e2:decide (y<=hi)=true:=decide_eq_true h2
     have wu:=Lib.hid (show Re.inn y lo hi=true by unfold Re.inn;rw[e1,e2];rfl);go_enter Tryz.func256,Tryz.ntmps256
     go_wp2_with (first|(go_at_call 294;refine(FB hA h hp hx HO.out HY.out).mono ?_;rintro e w1 ⟨rfl,h1',hO⟩;have A9:=(h1'.a.cell o).trans Cu.out)|(go_at_call 285;refine(fq h1'.w).mono ?_;rintro e w2 ⟨rfl,rfl⟩))
     exact Zu
   . have e2:decide (y<=hi)=false:=decide_eq_false h2
     have wu:=Lib.hid (show Re.inn y lo hi=false by unfold Re.inn;rw[e1,e2];rfl);exact Z2d
 . have e1:decide (lo<=y)=false:=decide_eq_false h1
   have wu:=Lib.hid (show Re.inn y lo hi=false by unfold Re.inn;rw[e1];rfl);exact Z2d
theorem Kn{F:FuncId}{caps:Array Value}{f:Nat->Int->Int}{mine:Nat->Prop}{I:List Int->World->Prop}(hA:jv F caps f mine I){b o bw:Nat}{cs:Array Value}{T:TypeId}{wr:Bool}{x x2 y y2:Int}{xs:List Int}{w:World}
  (h:Here F caps I bw b T cs wr xs w) (hp:dD mine b bw) (hx:xs.length+1<55) (ho:cs[o]? = some (.int .i64 x)) (ho2:cs[o+1]? = some (.int .i64 x2)) (hy:y=f xs.length x) (hy2:y2=f (xs.length+1) x2) :
  Calls Tryz.prog 248 #[.pointer (some ⟨bw,0,none⟩),.pointer (some ⟨b,o,none⟩)] w λe w'=>e=.returned (.tuple #[])/\Here F caps I bw b T ((cs.setIfInBounds o (.int .i64 y)).setIfInBounds (o+1) (.int .i64 y2)) (wr || !Fx.valid y y2) (xs++[x]++[x2]) w'/\Out (λc=>mine c\/c=b\/c=bw) w w':=by
 have HY:=Lib.hid hy;have HY2:=Lib.hid hy2;clear hy hy2;have hlt:o<cs.size:=(Array.getElem?_eq_some_iff.1 ho).1;have hlt2:o+1<cs.size:=(Array.getElem?_eq_some_iff.1 ho2).1;have HO:=Lib.hid ho;have HO2:=Lib.hid (show(cs.setIfInBounds o (.int .i64 y))[o+1]? = some (.int .i64 x2)by rw[Array.getElem?_setIfInBounds,if_neg ak];exact ho2);have G1:=Lib.hid (show((cs.setIfInBounds o (.int .i64 y)).setIfInBounds (o+1) (.int .i64 y2))[o]? = some (.int .i64 y)by rw[Array.getElem?_setIfInBounds,if_neg ak,Array.getElem?_setIfInBounds,if_pos rfl,if_pos hlt]);have G2:=Lib.hid (show((cs.setIfInBounds o (.int .i64 y)).setIfInBounds (o+1) (.int .i64 y2))[o+1]? = some (.int .i64 y2)by rw[Array.getElem?_setIfInBounds,if_pos rfl,Array.size_setIfInBounds,if_pos hlt2]);have HX:=Lib.hid hx;have hx0:xs.length<55:=by omega
 clear ho ho2 hx;go_enter Tryz.func248,Tryz.ntmps248
 go_wp2_with (first|(go_at_call 288;refine(QX hA h hp hx0 HO.out HY.out).mono ?_;rintro e w1 ⟨rfl,h1,iA⟩)|(go_at_call 289;refine(zm hA h1 hp (by simp;exact HX.out) HO2.out (by simpa using HY2.out)).mono ?_;rintro e w2 ⟨rfl,h2,hO2⟩;have d1:=(h2.a.cell o).trans G1.out;have d2:=(h2.a.cell (o+1)).trans G2.out)|(go_at_call 290;refine(QC _ _ _).mono ?_;rintro e w3 ⟨rfl,hb3⟩;have h3:=Here.keep hA h2 hb3)|(go_at_call 285;refine(fq h3.w).mono ?_;rintro e w2 ⟨rfl,rfl⟩))
 refine bodyPost_end (results_none rfl _ _ _) rfl ⟨rfl,?_,Out.set (((iA.trans hO2).trans (Out.of_below hb3)).mono λ_ _ q=>q.elim .inl λq => .inr (.inl q)) (.inr (.inr rfl)) _ _⟩;exact Here.held hA h3 hp _
def On(F:FuncId)(caps:Array Value)(f:Nat->Int->Int)(I:List Int->World->Prop)(bw bs:Nat)(t:Re.St)(k:Nat)(wr:Bool)(W:World):Prop:=Here F caps I bw bs 51 (cells (mix f t k)) wr (ins t k) W
theorem YD{F:FuncId}{caps:Array Value}{f:Nat->Int->Int}{mine:Nat->Prop}{I:List Int->World->Prop}(hA:jv F caps f mine I){bs bw k:Nat}{t:Re.St}{wr:Bool}{lo hi:Int}{w:World}(h:On F caps f I bw bs t k wr w)(hp:dD mine bs bw)(hk:k<55)(hb:Re.sJ k=false) :
  Calls Tryz.prog 245 #[.pointer (some ⟨bw,0,none⟩),.pointer (some ⟨bs,k,none⟩),.int .i64 lo,.int .i64 hi] w λe w'=>e=.returned (.tuple #[])/\On F caps f I bw bs t (k+1) (wr || !Re.inn (f k (Re.num t k)) lo hi) w'/\Out (λc=>mine c\/c=bs\/c=bw) w w':=by
 refine(Kg hA h hp XW (x:=t.c k) Z4q rfl).mono ?_;exact Z1f
theorem YE{F:FuncId}{caps:Array Value}{f:Nat->Int->Int}{mine:Nat->Prop}{I:List Int->World->Prop}(hA:jv F caps f mine I){bs bw k:Nat}{t:Re.St}{wr:Bool}{lo hi:Int}{w:World}(h:On F caps f I bw bs t k wr w)(hp:dD mine bs bw)(hk:k<55)(hb:Re.sJ k=false) :
  Calls Tryz.prog 246 #[.pointer (some ⟨bw,0,none⟩),.pointer (some ⟨bs,k,none⟩),.int .i64 lo,.int .i64 hi] w λe w'=>e=.returned (.tuple #[])/\On F caps f I bw bs t (k+1) (wr || !Re.inn (f k (Re.num t k)) lo hi) w'/\Out (λc=>mine c\/c=bs\/c=bw) w w':=by
 refine(Kh hA h hp XW (x:=t.c k) Z4q rfl).mono ?_;exact Z1f
theorem YF{F:FuncId}{caps:Array Value}{f:Nat->Int->Int}{mine:Nat->Prop}{I:List Int->World->Prop}(hA:jv F caps f mine I){bs bw k:Nat}{t:Re.St}{wr:Bool}{lo hi:Int}{w:World}(h:On F caps f I bw bs t k wr w)(hp:dD mine bs bw)(hk:k<55)(hb:Re.sJ k=false) :
  Calls Tryz.prog 247 #[.pointer (some ⟨bw,0,none⟩),.pointer (some ⟨bs,k,none⟩),.int .i64 lo,.int .i64 hi] w λe w'=>e=.returned (.tuple #[])/\On F caps f I bw bs t (k+1) (wr || !Re.inn (f k (Re.num t k)) lo hi) w'/\Out (λc=>mine c\/c=bs\/c=bw) w w':=by
 refine(Ki hA h hp XW (x:=t.c k) Z4q rfl).mono ?_;exact Z1f
theorem xX{F:FuncId}{caps:Array Value}{f:Nat->Int->Int}{mine:Nat->Prop}{I:List Int->World->Prop}(hA:jv F caps f mine I){bs bw k:Nat}{t:Re.St}{wr:Bool}{lo hi:Int}{w:World}(h:On F caps f I bw bs t k wr w)(hp:dD mine bs bw)(hk:k<55)(hb:Re.sJ k=false) :
  Calls Tryz.prog 251 #[.pointer (some ⟨bw,0,none⟩),.pointer (some ⟨bs,k,none⟩),.int .i64 lo,.int .i64 hi] w λe w'=>e=.returned (.tuple #[])/\On F caps f I bw bs t (k+1) (wr || !Re.inn (f k (Re.num t k)) lo hi) w'/\Out (λc=>mine c\/c=bs\/c=bw) w w':=by
 refine(vv hA h hp XW (x:=t.c k) Z4q rfl).mono ?_;exact Z1f
theorem YG{F:FuncId}{caps:Array Value}{f:Nat->Int->Int}{mine:Nat->Prop}{I:List Int->World->Prop}(hA:jv F caps f mine I){bs bw k:Nat}{t:Re.St}{wr:Bool}{lo hi:Int}{w:World}(h:On F caps f I bw bs t k wr w)(hp:dD mine bs bw)(hk:k<55)(hb:Re.sJ k=false) :
  Calls Tryz.prog 252 #[.pointer (some ⟨bw,0,none⟩),.pointer (some ⟨bs,k,none⟩),.int .i64 lo,.int .i64 hi] w λe w'=>e=.returned (.tuple #[])/\On F caps f I bw bs t (k+1) (wr || !Re.inn (f k (Re.num t k)) lo hi) w'/\Out (λc=>mine c\/c=bs\/c=bw) w w':=by
 refine(Kj hA h hp XW (x:=t.c k) Z4q rfl).mono ?_;exact Z1f
theorem YH{F:FuncId}{caps:Array Value}{f:Nat->Int->Int}{mine:Nat->Prop}{I:List Int->World->Prop}(hA:jv F caps f mine I){bs bw k:Nat}{t:Re.St}{wr:Bool}{lo hi:Int}{w:World}(h:On F caps f I bw bs t k wr w)(hp:dD mine bs bw)(hk:k<55)(hb:Re.sJ k=false) :
  Calls Tryz.prog 253 #[.pointer (some ⟨bw,0,none⟩),.pointer (some ⟨bs,k,none⟩),.int .i64 lo,.int .i64 hi] w λe w'=>e=.returned (.tuple #[])/\On F caps f I bw bs t (k+1) (wr || !Re.inn (f k (Re.num t k)) lo hi) w'/\Out (λc=>mine c\/c=bs\/c=bw) w w':=by
 refine(Kk hA h hp XW (x:=t.c k) Z4q rfl).mono ?_;exact Z1f
theorem YI{F:FuncId}{caps:Array Value}{f:Nat->Int->Int}{mine:Nat->Prop}{I:List Int->World->Prop}(hA:jv F caps f mine I){bs bw k:Nat}{t:Re.St}{wr:Bool}{lo hi:Int}{w:World}(h:On F caps f I bw bs t k wr w)(hp:dD mine bs bw)(hk:k<55)(hb:Re.sJ k=false) :
  Calls Tryz.prog 255 #[.pointer (some ⟨bw,0,none⟩),.pointer (some ⟨bs,k,none⟩),.int .i64 lo,.int .i64 hi] w λe w'=>e=.returned (.tuple #[])/\On F caps f I bw bs t (k+1) (wr || !Re.inn (f k (Re.num t k)) lo hi) w'/\Out (λc=>mine c\/c=bs\/c=bw) w w':=by
 refine(Kl hA h hp XW (x:=t.c k) Z4q rfl).mono ?_;exact Z1f
theorem YJ{F:FuncId}{caps:Array Value}{f:Nat->Int->Int}{mine:Nat->Prop}{I:List Int->World->Prop}(hA:jv F caps f mine I){bs bw k:Nat}{t:Re.St}{wr:Bool}{lo hi:Int}{w:World}(h:On F caps f I bw bs t k wr w)(hp:dD mine bs bw)(hk:k<55)(hb:Re.sJ k=false) :
  Calls Tryz.prog 256 #[.pointer (some ⟨bw,0,none⟩),.pointer (some ⟨bs,k,none⟩),.int .i64 lo,.int .i64 hi] w λe w'=>e=.returned (.tuple #[])/\On F caps f I bw bs t (k+1) (wr || !Re.inn (f k (Re.num t k)) lo hi) w'/\Out (λc=>mine c\/c=bs\/c=bw) w w':=by
 refine(Km hA h hp XW (x:=t.c k) Z4q rfl).mono ?_;exact Z1f
theorem rC{F:FuncId}{caps:Array Value}{f:Nat->Int->Int}{mine:Nat->Prop}{I:List Int->World->Prop}(hA:jv F caps f mine I){bs bw k:Nat}{t:Re.St}{wr:Bool}{w:World}(h:On F caps f I bw bs t k wr w)(hp:dD mine bs bw)(hk:k+1<55)(hb:Re.sJ k=false)(hb2:Re.sJ (k+1)=false) :
  Calls Tryz.prog 248 #[.pointer (some ⟨bw,0,none⟩),.pointer (some ⟨bs,k,none⟩)] w λe w'=>e=.returned (.tuple #[])/\On F caps f I bw bs t (k+1+1) (wr || !Fx.valid (f k (Re.num t k)) (f (k+1) (Re.num t (k+1)))) w'/\Out (λc=>mine c\/c=bs\/c=bw) w w':=by
 refine(Kn hA h hp XW (x:=t.c k) (x2:=t.c (k+1)) (by rw[bE _ ak hb,MH f t (ah k)]) (by rw[bE _ hk hb2,MH f t ak]) rfl rfl).mono ?_;rintro e w' ⟨rfl,h1,hO⟩;rw[sQ,uK f t hb,uK f t hb2,<-Re.Js hb,<-Re.Js hb2,<-xY,<-xY]at h1;exact⟨rfl,h1,hO⟩
def XR(mine:Nat->Prop)(bs bw:Nat):Nat->Prop:=λc=>mine c\/c=bs\/c=bw
theorem Out.trans'{M M':Nat->Prop}{X Y Z:World}(h:Out M X Y)(k:Out M' Y Z)(hm:∀b,b<X.heap.size->M' b->M b):Out M X Z:=⟨h.1.trans k.1,λb hb hn=>(k.2 b (aR hb h.size) (λq=>hn (hm b hb q))).trans (h.2 b hb hn)⟩
theorem EN{F:FuncId}{caps:Array Value}{f:Nat->Int->Int}{mine:Nat->Prop}{I:List Int->World->Prop}(hA:jv F caps f mine I){bs bw k:Nat}{t:Re.St}{wr:Bool}{w:World}(h:On F caps f I bw bs t k wr w)(hp:dD mine bs bw)(hm:∀b,w.heap.size<=b->¬ mine b)(hk:k<55)(hb:Re.sJ k=true) :
  Calls Tryz.prog 254 #[.pointer (some ⟨bw,0,none⟩),.pointer (some ⟨bs,k,none⟩)] w λe w'=>e=.returned (.tuple #[])/\On F caps f I bw bs t (k+1) (wr || !Re.inn (f k (Re.num t k)) 0 1) w'/\Out (XR mine bs bw) w w':=by
 obtain⟨hI,a,aw⟩:=h;have ck:w.cell? ⟨bs,k,none⟩=some (.bool (t.b k)):=(a.cell k).trans (by rw[sU _ hk hb,H6 f t (ah k)]);have lb:=a.lt;have lw:=aw.lt;have hn:Re.num t k=if t.b k=true then 1 else 0:=by unfold Re.num;rw[if_pos hb]
 have HN:=Lib.hid hn;obtain⟨y,hy⟩:∃y,y=f k (Re.num t k):=⟨_,rfl⟩;have HY:=Lib.hid hy;obtain⟨q,hq⟩:∃q,q=t.b k:=⟨_,rfl⟩;rw[<-hq]at ck hn;have HQ:=Lib.hid hq;clear hy hn hq;have HK:=Lib.hid hk;have HB:=Lib.hid hb;clear hk hb;have hp2:dD mine w.heap.size bw:=⟨hm _ (ah _),hp.nw,by omega⟩;have hne:bs≠w.heap.size:=by omega
 cases q
 . have hx:Re.num t k=0:=by rw[HN.out,<-HQ.out];rfl
   have HX:=Lib.hid hx;clear hx;go_enter Tryz.func254,Tryz.ntmps254
   go_wp2_with (go_at_call 251;(with_reducible refine(vv (y:=y) hA (⟨hA.keep _ _ _ hI (Below.alloc' (Below.refl _ _) _),At.new _ _,aw.alloc _⟩:Here F caps I bw w.heap.size 3 #[.int .i64 0] wr (ins t k) _) hp2 (by rw[sQ];exact HK.out) rfl (by rw[sQ,<-HX.out];exact HY.out)).mono ?_);rintro e w2 ⟨rfl,h2,hO2⟩;have a2:=At.out (a.alloc _) (λq=>q.elim hp.nb λq=>q.elim hne hp.ne) hO2;have c2:w2.cell? ⟨w.heap.size,0,none⟩=some (.int .i64 y):=(h2.a.cell 0).trans rfl;have ck2:w2.cell? ⟨bs,k,none⟩=some (.bool false):=(a2.cell k).trans (by rw[sU _ HK.out HB.out,H6 f t (ah k),<-HQ.out]);have z2:=a2.thaw k)
   exact Z1q
 . have hx:Re.num t k=1:=by rw[HN.out,<-HQ.out];rfl
   have HX:=Lib.hid hx;clear hx;go_enter Tryz.func254,Tryz.ntmps254
   go_wp2_with (go_at_call 251;(with_reducible refine(vv (y:=y) hA (⟨hA.keep _ _ _ hI (Below.alloc' (Below.refl _ _) _),At.new _ _,aw.alloc _⟩:Here F caps I bw w.heap.size 3 #[.int .i64 1] wr (ins t k) _) hp2 (by rw[sQ];exact HK.out) rfl (by rw[sQ,<-HX.out];exact HY.out)).mono ?_);rintro e w2 ⟨rfl,h2,hO2⟩;have a2:=At.out (a.alloc _) (λq=>q.elim hp.nb λq=>q.elim hne hp.ne) hO2;have c2:w2.cell? ⟨w.heap.size,0,none⟩=some (.int .i64 y):=(h2.a.cell 0).trans rfl;have ck2:w2.cell? ⟨bs,k,none⟩=some (.bool true):=(a2.cell k).trans (by rw[sU _ HK.out HB.out,H6 f t (ah k),<-HQ.out]);have z2:=a2.thaw k)
   exact Z1q
theorem Dq{F:FuncId}{caps:Array Value}{f:Nat->Int->Int}{mine:Nat->Prop}{I:List Int->World->Prop}(hA:jv F caps f mine I){bs bw:Nat}{t:Re.St}{wr:Bool}{w:World}(h:On F caps f I bw bs t 15 wr w)(hp:dD mine bs bw) :
  Calls Tryz.prog 249 #[.pointer (some ⟨bw,0,none⟩),.pointer (some ⟨bs,15,none⟩)] w λe w'=>e=.returned (.tuple #[])/\On F caps f I bw bs t (15+8) ((((wr || !Fx.valid (f 15 (Re.num t 15)) (f (15+1) (Re.num t (15+1)))) || !Fx.valid (f (15+2) (Re.num t (15+2))) (f (15+3) (Re.num t (15+3)))) || !Fx.valid (f (15+4) (Re.num t (15+4))) (f (15+5) (Re.num t (15+5)))) || !Fx.valid (f (15+6) (Re.num t (15+6))) (f (15+7) (Re.num t (15+7)))) w'/\Out (XR mine bs bw) w w':=by
 exact Z16
theorem Dr{F:FuncId}{caps:Array Value}{f:Nat->Int->Int}{mine:Nat->Prop}{I:List Int->World->Prop}(hA:jv F caps f mine I){bs bw:Nat}{t:Re.St}{wr:Bool}{w:World}(h:On F caps f I bw bs t 23 wr w)(hp:dD mine bs bw) :
  Calls Tryz.prog 249 #[.pointer (some ⟨bw,0,none⟩),.pointer (some ⟨bs,23,none⟩)] w λe w'=>e=.returned (.tuple #[])/\On F caps f I bw bs t (23+8) ((((wr || !Fx.valid (f 23 (Re.num t 23)) (f (23+1) (Re.num t (23+1)))) || !Fx.valid (f (23+2) (Re.num t (23+2))) (f (23+3) (Re.num t (23+3)))) || !Fx.valid (f (23+4) (Re.num t (23+4))) (f (23+5) (Re.num t (23+5)))) || !Fx.valid (f (23+6) (Re.num t (23+6))) (f (23+7) (Re.num t (23+7)))) w'/\Out (XR mine bs bw) w w':=by
 exact Z16
theorem Bn{F:FuncId}{caps:Array Value}{f:Nat->Int->Int}{mine:Nat->Prop}{I:List Int->World->Prop}(hA:jv F caps f mine I){bs bw:Nat}{t:Re.St}{wr:Bool}{w:World}(h:On F caps f I bw bs t 31 wr w)(hp:dD mine bs bw) :
  Calls Tryz.prog 250 #[.pointer (some ⟨bw,0,none⟩),.pointer (some ⟨bs,31,none⟩)] w λe w'=>e=.returned (.tuple #[])/\On F caps f I bw bs t (31+4) ((((wr || !Re.inn (f 31 (Re.num t 31)) 0 1048576) || !Re.inn (f (31+1) (Re.num t (31+1))) 0 1048576) || !Re.inn (f (31+2) (Re.num t (31+2))) 0 1048576) || !Re.inn (f (31+3) (Re.num t (31+3))) 0 1048576) w'/\Out (XR mine bs bw) w w':=by
 exact Z19
theorem Bo{F:FuncId}{caps:Array Value}{f:Nat->Int->Int}{mine:Nat->Prop}{I:List Int->World->Prop}(hA:jv F caps f mine I){bs bw:Nat}{t:Re.St}{wr:Bool}{w:World}(h:On F caps f I bw bs t 35 wr w)(hp:dD mine bs bw) :
  Calls Tryz.prog 250 #[.pointer (some ⟨bw,0,none⟩),.pointer (some ⟨bs,35,none⟩)] w λe w'=>e=.returned (.tuple #[])/\On F caps f I bw bs t (35+4) ((((wr || !Re.inn (f 35 (Re.num t 35)) 0 1048576) || !Re.inn (f (35+1) (Re.num t (35+1))) 0 1048576) || !Re.inn (f (35+2) (Re.num t (35+2))) 0 1048576) || !Re.inn (f (35+3) (Re.num t (35+3))) 0 1048576) w'/\Out (XR mine bs bw) w w':=by
 exact Z19
def Nu(n:Nat->Int):Bool:=((((((((((((((((((((((((((((((((((((((((false || !Re.inn (n 0) 0 3) || !Re.inn (n 1) 0 4) || !Re.inn (n 2) 0 2) || !Fx.valid (n 3) (n 4)) || !Fx.valid (n 5) (n 6)) || !Fx.valid (n 7) (n 8)) || !Fx.valid (n 9) (n 10)) || !Fx.valid (n 11) (n 12)) || !Fx.valid (n 13) (n 14)) || !Fx.valid (n 15) (n 16)) || !Fx.valid (n 17) (n 18)) || !Fx.valid (n 19) (n 20)) || !Fx.valid (n 21) (n 22)) || !Fx.valid (n 23) (n 24)) || !Fx.valid (n 25) (n 26)) || !Fx.valid (n 27) (n 28)) || !Fx.valid (n 29) (n 30)) || !Re.inn (n 31) 0 1048576) || !Re.inn (n 32) 0 1048576) || !Re.inn (n 33) 0 1048576) || !Re.inn (n 34) 0 1048576) || !Re.inn (n 35) 0 1048576) || !Re.inn (n 36) 0 1048576) || !Re.inn (n 37) 0 1048576) || !Re.inn (n 38) 0 1048576) || !Re.inn (n 39) 0 1000) || !Re.inn (n 40) 0 1000) || !Fx.valid (n 41) (n 42)) || !Re.inn (n 43) 0 5) || !Re.inn (n 44) 0 3) || !Re.inn (n 45) 0 1) || !Re.inn (n 46) 0 1048576) || !Re.inn (n 47) 0 1) || !Re.inn (n 48) (-1048576) 1048576) || !Re.inn (n 49) 0 2) || !Re.inn (n 50) 0 3) || !Re.inn (n 51) 0 1) || !Re.inn (n 52) 0 1) || !Re.inn (n 53) 0 1048576) || !Re.inn (n 54) 0 1048576)
theorem Ig(n:Nat->Int)(b:Nat->Bool):(!Nu n)=(Re.valid ⟨n,b⟩&&(Re.inn (n 45) 0 1&&Re.inn (n 47) 0 1&&Re.inn (n 51) 0 1&&Re.inn (n 52) 0 1)):=by
 unfold Nu Re.valid Re.gM Re.JB Re.Cv Re.lens Re.sizes;simp only[Bool.not_or,Bool.not_not,Bool.not_false,Bool.true_and,List.all_cons,List.all_nil,Bool.and_true,Nat.reduceAdd]
 ac_rfl
set_option maxHeartbeats 4000000 in
theorem EO{F:FuncId}{caps:Array Value}{f:Nat->Int->Int}{mine:Nat->Prop}{I:List Int->World->Prop}(hA:jv F caps f mine I){bs bw:Nat}{t:Re.St}{w:World}(hS:On F caps f I bw bs t 0 false w)(hp:dD mine bs bw)(hm:∀b,w.heap.size<=b->¬ mine b) :
  Calls Tryz.prog 186 #[.pointer (some ⟨bw,0,none⟩),.pointer (some ⟨bs,0,none⟩)] w λe w'=>e=.returned (.tuple #[])/\On F caps f I bw bs t 55 (Nu λi=>f i (Re.num t i)) w'/\Out (XR mine bs bw) w w':=by
 have hO:Out (XR mine bs bw) w w:=Out.refl _ _;go_enter Tryz.func186,Tryz.ntmps186
 go_wp2_with (first|(go_at_call 245;(with_reducible refine(YD hA hS hp aG rfl).mono ?_);rintro e w1 ⟨rfl,h1,iA⟩;replace hO:=hO.trans iA;replace hS:=h1;clear h1 iA;simp only[Nat.reduceAdd]at hS)|(go_at_call 246;(with_reducible refine(YE hA hS hp aG rfl).mono ?_);rintro e w1 ⟨rfl,h1,iA⟩;replace hO:=hO.trans iA;replace hS:=h1;clear h1 iA;simp only[Nat.reduceAdd]at hS)|(go_at_call 247;(with_reducible refine(YF hA hS hp aG rfl).mono ?_);rintro e w1 ⟨rfl,h1,iA⟩;replace hO:=hO.trans iA;replace hS:=h1;clear h1 iA;simp only[Nat.reduceAdd]at hS)|(go_at_call 248;(with_reducible refine(rC hA hS hp aG rfl rfl).mono ?_);rintro e w1 ⟨rfl,h1,iA⟩;replace hO:=hO.trans iA;replace hS:=h1;clear h1 iA;simp only[Nat.reduceAdd]at hS)|(go_at_call 249;(with_reducible refine(Dq hA hS hp).mono ?_);rintro e w1 ⟨rfl,h1,iA⟩;replace hO:=hO.trans iA;replace hS:=h1;clear h1 iA;simp only[Nat.reduceAdd]at hS)|(go_at_call 249;(with_reducible refine(Dr hA hS hp).mono ?_);rintro e w1 ⟨rfl,h1,iA⟩;replace hO:=hO.trans iA;replace hS:=h1;clear h1 iA;simp only[Nat.reduceAdd]at hS)|(go_at_call 250;(with_reducible refine(Bn hA hS hp).mono ?_);rintro e w1 ⟨rfl,h1,iA⟩;replace hO:=hO.trans iA;replace hS:=h1;clear h1 iA;simp only[Nat.reduceAdd]at hS)|(go_at_call 250;(with_reducible refine(Bo hA hS hp).mono ?_);rintro e w1 ⟨rfl,h1,iA⟩;replace hO:=hO.trans iA;replace hS:=h1;clear h1 iA;simp only[Nat.reduceAdd]at hS)|(go_at_call 251;(with_reducible refine(xX hA hS hp aG rfl).mono ?_);rintro e w1 ⟨rfl,h1,iA⟩;replace hO:=hO.trans iA;replace hS:=h1;clear h1 iA;simp only[Nat.reduceAdd]at hS)|(go_at_call 252;(with_reducible refine(YG hA hS hp aG rfl).mono ?_);rintro e w1 ⟨rfl,h1,iA⟩;replace hO:=hO.trans iA;replace hS:=h1;clear h1 iA;simp only[Nat.reduceAdd]at hS)|(go_at_call 253;(with_reducible refine(YH hA hS hp aG rfl).mono ?_);rintro e w1 ⟨rfl,h1,iA⟩;replace hO:=hO.trans iA;replace hS:=h1;clear h1 iA;simp only[Nat.reduceAdd]at hS)|(go_at_call 254;(with_reducible refine(EN hA hS hp (λb hb=>hm b (aC hO.size hb)) aG rfl).mono ?_);rintro e w1 ⟨rfl,h1,iA⟩;replace hO:=hO.trans iA;replace hS:=h1;clear h1 iA;simp only[Nat.reduceAdd]at hS)|(go_at_call 255;(with_reducible refine(YI hA hS hp aG rfl).mono ?_);rintro e w1 ⟨rfl,h1,iA⟩;replace hO:=hO.trans iA;replace hS:=h1;clear h1 iA;simp only[Nat.reduceAdd]at hS)|(go_at_call 256;(with_reducible refine(YJ hA hS hp aG rfl).mono ?_);rintro e w1 ⟨rfl,h1,iA⟩;replace hO:=hO.trans iA;replace hS:=h1;clear h1 iA;simp only[Nat.reduceAdd]at hS))
 go_end0
 exact⟨rfl,hS,hO⟩
theorem Ko{F:FuncId}{caps:Array Value}{f:Nat->Int->Int}{mine:Nat->Prop}{I:List Int->World->Prop}(hA:jv F caps f mine I){bs:Nat}{t:Re.St}{w:World}(hI:I [] w)(a:At w bs (.cells (cells t) 51))(hb:¬ mine bs)(hm:∀b,w.heap.size<=b->¬ mine b) :
  Calls Tryz.prog 127 #[.pointer (some ⟨bs,0,none⟩),.func (.func F) #[] caps] w λe w'=>e=.returned (.bool (!Nu λi=>f i (Re.num t i)))/\I (ins t 55) w'/\At w' bs (.cells (cells (mix f t 55)) 51)/\Out (λc=>mine c\/c=bs) w w':=by
 have lb:=a.lt;have hp:dD mine bs w.heap.size:=⟨hb,hm _ (ah _),by omega⟩;have hS0:On F caps f I w.heap.size bs t 0 false (w.alloc (.cells #[.func (.func F) #[] caps,.bool false] 248)):=⟨hA.keep _ _ _ hI (Below.alloc' (Below.refl _ _) _),by rw[Ud];exact a.alloc _,At.new _ _⟩;generalize hr:(Nu λi=>f i (Re.num t i))=r;go_enter Tryz.func127,Tryz.ntmps127
 go_wp2_with (go_at_call 186;(with_reducible refine(EO hA hS0 hp (λb hb=>hm b (by simp at hb;omega))).mono ?_);rintro e w2 ⟨rfl,hS,hO⟩;rw[hr]at hS;have c1:=hS.w.cell 1;simp at c1)
 go_ret
 exact⟨rfl,hS.i,hS.a,Out.trans' (Out.of_below (Below.alloc' (Below.refl _ _) _)) hO λb hb q=>q.elim .inl λq=>q.elim .inr λq=>absurd q (dh hb)⟩
theorem Nv:jv 128 #[] (λ_ x=>x) (λ_=>False) (λ_ _=>True) where
 keep:=λ_ _ _ _ _=>trivial
 set:=λ_ _ _ _ _ _ _=>trivial
 enters:=λ_ _=>rfl
 call:=λxs x W _ _=>by
  show Calls Tryz.prog 128 #[.int .i64 x] W _;go_enter Tryz.func128,Tryz.ntmps128
  go_wp2
  go_ret
  exact⟨rfl,trivial,Out.refl _ _⟩
end Go.Proofs.YtcbcfdihofclkaaGreat.Fix
