/-
  Texts that the proof leans on.
-/
import Derived.Test.YtpabnhlfbjkmaaaGreatDoorR1
import Derived.Test.YtpabnhlfbjkmaaaGreatDoorR11
import Derived.Test.YtpabnhlfbjkmaaaGreatDoorR16
import Derived.Test.YtpabnhlfbjkmaaaGreatDoorR13
import Derived.Test.YtpabnhlfbjkmaaaGreatDoorR10
import Derived.Test.YtpabnhlfbjkmaaaGreatDoorR8
import Derived.Deep.QuietTactic
import Derived.BigQuiet
set_option maxHeartbeats 8000000
set_option linter.unusedVariables false
set_option linter.unusedSimpArgs false
set_option linter.unusedSectionVars false
set_option maxRecDepth 20000
namespace Go.Proofs.YtpabnhlfbjkmaaaGreatDoor
open Go.RowKit
def zK1 (n:Int):Int:=if okN n then n else 0
def zTf:Int->Int
 | 1=>2
 | 2=>2
 | 3=>2
 | 4=>2
 | 5=>2
 | 6=>2
 | 7=>10
 | 8=>10
 | 9=>10
 | 10=>10
 | 11=>10
 | 12=>10
 | _=>0
def zLb:Int->Int
 | 1=>16
 | 2=>16
 | 3=>32
 | 4=>64
 | 5=>128
 | 6=>256
 | 7=>32
 | 8=>64
 | 9=>128
 | 10=>32
 | 11=>64
 | 12=>128
 | _=>0
def zFf:Int->Int
 | 1=>11
 | 2=>8
 | 3=>24
 | 4=>53
 | 5=>113
 | 6=>241
 | 7=>7
 | 8=>16
 | 9=>34
 | 10=>7
 | 11=>16
 | 12=>34
 | _=>0
def zWi:Int->Int
 | 1=>5
 | 2=>8
 | 3=>8
 | 4=>11
 | 5=>15
 | 6=>15
 | 7=>96
 | 8=>384
 | 9=>6144
 | 10=>96
 | 11=>384
 | 12=>6144
 | _=>0
def zNd:Int->Int
 | 1=>-24
 | 2=>-133
 | 3=>-149
 | 4=>-1074
 | 5=>-16494
 | 6=>-16622
 | 7=>-101
 | 8=>-398
 | 9=>-6176
 | 10=>-101
 | 11=>-398
 | 12=>-6176
 | _=>0
def zOg:Int->Int
 | 1=>5
 | 2=>120
 | 3=>104
 | 4=>971
 | 5=>16271
 | 6=>16143
 | 7=>90
 | 8=>369
 | 9=>6111
 | 10=>90
 | 11=>369
 | 12=>6111
 | _=>0
def zMo:Int->Int
 | 1=>9
 | 2=>6
 | 3=>22
 | 4=>51
 | 5=>111
 | 6=>239
 | 7=>6
 | 8=>15
 | 9=>33
 | 10=>6
 | 11=>15
 | 12=>33
 | _=>0
def zEc (n:Int):Bool:=decide (10<=n/\n<=12)
def zJd:Int->ByteArray
 | 1=>⟨#[72,97,108,102]⟩
 | 2=>⟨#[66,114,97,105,110]⟩
 | 3=>⟨#[83,105,110,103,108,101]⟩
 | 4=>⟨#[68,111,117,98,108,101]⟩
 | 5=>⟨#[81,117,97,100]⟩
 | 6=>⟨#[79,99,116,111]⟩
 | 7=>⟨#[80,108,97,105,110,51,50]⟩
 | 8=>⟨#[80,108,97,105,110,54,52]⟩
 | 9=>⟨#[80,108,97,105,110,49,50,56]⟩
 | 10=>⟨#[68,101,110,115,101,51,50]⟩
 | 11=>⟨#[68,101,110,115,101,54,52]⟩
 | 12=>⟨#[68,101,110,115,101,49,50,56]⟩
 | _=>⟨#[]⟩
theorem zEk {n:Int}(h:¬ okN n):zK1 n=0/\zJd n=⟨#[]⟩/\zTf n=0/\zLb n=0/\zFf n=0/\zWi n=0/\zNd n=0/\zOg n=0/\zMo n=0/\zEc n=false:=by
 refine ⟨if_neg h,?_,?_,?_,?_,?_,?_,?_,?_,?_⟩
 ·unfold zJd okN at *;split<;>first|rfl|omega
 ·unfold zTf okN at *;split<;>first|rfl|omega
 ·unfold zLb okN at *;split<;>first|rfl|omega
 ·unfold zFf okN at *;split<;>first|rfl|omega
 ·unfold zWi okN at *;split<;>first|rfl|omega
 ·unfold zNd okN at *;split<;>first|rfl|omega
 ·unfold zOg okN at *;split<;>first|rfl|omega
 ·unfold zMo okN at *;split<;>first|rfl|omega
 ·unfold zEc okN at *;simp only [decide_eq_false_iff_not];omega
theorem zBs (n:Int):zIc n=#[.int .i64 (zK1 n),.string (zJd n),.int .i64 (zTf n),.int .i64 (zLb n),.int .i64 (zFf n),.int .i64 (zWi n),.int .i64 (zNd n),.int .i64 (zOg n),.int .i64 (zMo n),.bool (zEc n)]:=by
 by_cases h:okN n
 ·rcases zMf h with rfl|rfl|rfl|rfl|rfl|rfl|rfl|rfl|rfl|rfl|rfl|rfl<;>rfl
 ·obtain ⟨h0,h1,h2,h3,h4,h5,h6,h7,h8,h9⟩:=zEk h
  rw [zLi h,h0,h1,h2,h3,h4,h5,h6,h7,h8,h9]
theorem zPh (n:Int):(0<=zTf n/\zTf n<=10)/\(0<=zLb n/\zLb n<=256)/\(0<=zFf n/\zFf n<=241)/\(-17000<=zNd n/\zNd n<=0)/\(0<=zOg n/\zOg n<=17000):=by
 by_cases h:okN n
 ·rcases zMf h with rfl|rfl|rfl|rfl|rfl|rfl|rfl|rfl|rfl|rfl|rfl|rfl<;>decide
 ·obtain ⟨h0,h1,h2,h3,h4,h5,h6,h7,h8,h9⟩:=zEk h
  rw [h2,h3,h4,h6,h7];decide
theorem zNf (n:Int)(w:World)(hT:Tab w) :
  CB 70 #[.int .i64 n] w (.tuple #[.agg #[.int .i64 (zK1 n),.string (zJd n),.int .i64 (zTf n),.int .i64 (zLb n),.int .i64 (zFf n),.int .i64 (zWi n),.int .i64 (zNd n),.int .i64 (zOg n),.int .i64 (zMo n),.bool (zEc n)],.int .i64 (zQf n)]) :=
 zBs n▸yLc n w hT
theorem zB3 (n:Int)(w:World) :
  CB 19 #[.int .i64 n] w (.tuple #[.agg #[.int .i64 (zK1 n),.string (zJd n),.int .i64 (zTf n),.int .i64 (zLb n),.int .i64 (zFf n),.int .i64 (zWi n),.int .i64 (zNd n),.int .i64 (zOg n),.int .i64 (zMo n),.bool (zEc n)],.int .i64 (zQf n)]) :=
 zBs n▸yCa n w
def holdsP (f g:Int):Prop:=okN f/\okN g/\zTf f=zTf g/\zFf f<=zFf g/\zNd g<=zNd f/\zOg f+zFf f<=zOg g+zFf g
instance (f g:Int):Decidable (holdsP f g):=inferInstanceAs (Decidable (_/\_))
def zMq (n:Int)(x:Nat->Int):Prop:=okN n/\lenL (zHg x 4) 4<=zLb n
instance (n:Int) (x:Nat->Int):Decidable (zMq n x):=inferInstanceAs (Decidable (_/\_))
theorem zS0 {w0 w:World}{ax:Array Value}{t:TypeId}{x:Nat->Int}(hx:zFa x)(hax:∀ i,i<4->ax[i]?=some (.int .u64 (x i)))(hb:Below (w0.alloc (.cells ax t)).heap.size (w0.alloc (.cells ax t)) w) :
  Num w (some ⟨w0.heap.size,0,none⟩) 4 4 (zHg x 4) :=
 ((HasN.of_alloc w0 ax t 4 x hax).next hb).num hx (Nat.le_refl _) (Nat.le_refl _) (by unfold maxLen;omega)
theorem zLk {B:Nat}{a w:World}{m:Nat}(h:Below B a w):Below B a (w.drewN m):=⟨h.os,h.tape,h.output,h.size,h.block⟩
theorem zZx {w:World}{a:Option Addr}{n c:Nat}{x:Nat->Int}(h:Num w a n c x)(m:Nat):Num (w.drewN m) a n c x:=h
theorem zR4 (n:Int)(x:Nat->Int)(hx:zFa x)(ax:Array Value)(hax:∀ i,i<4->ax[i]?=some (.int .u64 (x i)))(hs:ax.size=4)(w:World)(hT:Tab w) :
  CB 99 #[.int .i64 n,.agg ax] w (.bool (decide (zMq n x))):=by
 have c1:=fun w hT=>zNf n w hT
 have f1:=zPh n
 by_cases hn:okN n
 ·have hE:zQf n=0:=if_pos hn
  rw [hE] at c1
  have hd:decide (zMq n x)=decide (lenL (zHg x 4) 4<=zLb n):=by unfold zMq;simp [hn]
  go_enter Tryz.func99,Tryz.ntmps99
  go_wp2_with (go_at_call 70;refine (c1 _ (hT.alloc _)).mono ?_;rintro e w1 ⟨rfl,hb⟩)
  have hN:=((zS0 hx hax hb).next (zZe w1 (.cells #[.int .i64 (zK1 n),.string (zJd n),.int .i64 (zTf n),.int .i64 (zLb n),.int .i64 (zFf n),.int .i64 (zWi n),.int .i64 (zNd n),.int .i64 (zOg n),.int .i64 (zMo n),.bool (zEc n)] 65)))
  have cl:=fun m=>(zSr _ _ _ _ _ (by decide) (zZx hN m)).mono (fun e w' h=>(⟨h.1,h.2.symm⟩:e=.returned (.int .i64 (lenL (zHg x 4) 4))/\w'=_))
  clear hN
  go_quiet ((go_at_call 138;exact Calls.quiet_of_same (cl _)))
  all_goals
   go_wp2
   go_ret
   refine ⟨?_,zLk (((zZe w _).trans (hb.mono (zZe w _).size)).alloc (Nat.le_trans (zZe w _).size hb.size) _)⟩
   rw [hd]
   rfl
 ·have hE:zQf n=1:=if_neg hn
  rw [hE] at c1
  have hd:decide (zMq n x)=false:=decide_eq_false fun h=>hn h.1
  rw [hd]
  go_enter Tryz.func99,Tryz.ntmps99
  go_wp2_with (go_at_call 70;refine (c1 _ (hT.alloc _)).mono ?_;rintro e w1 ⟨rfl,hb⟩)
  go_quiet (fail)
  all_goals
   go_wp2
   go_ret
   exact ⟨rfl,zLk (((zZe w _).trans (hb.mono (zZe w _).size)).alloc (Nat.le_trans (zZe w _).size hb.size) _)⟩
end Go.Proofs.YtpabnhlfbjkmaaaGreatDoor
