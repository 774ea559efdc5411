/-
  Texts that the proof leans on.
-/
import Derived.Test.YtahfkpjhlbiamaaGreatDoorR5
import Derived.Test.YtahfkpjhlbiamaaGreatDoorR1
import Derived.RegionTactic
import Derived.ChangeAlike
import Derived.BigRegion
import Derived.Laws.Strings2
import Derived.Lib.AppendStr
import Derived.Lib.Builder
import Derived.Deep.AppendLies
import Derived.Lib.ItoaLen
set_option maxHeartbeats 8000000
set_option linter.unusedVariables false
set_option linter.unusedSimpArgs false
set_option linter.unusedSectionVars false
set_option maxRecDepth 20000
namespace Go.Proofs.YtahfkpjhlbiamaaGreatDoor
open Go.RowKit
def paD (l:List UInt8):List UInt8:=if Lib.hasPrefix l [40] then dgs (Lib.trimPrefix l [40]) else []
def paB (l:List UInt8):Bool:=l.isEmpty||(Lib.hasPrefix l [40]&&(!(dgs (Lib.trimPrefix l [40])).isEmpty&&(rst (Lib.trimPrefix l [40])==[41])))
theorem zLp (l:List UInt8)(w:World)(hs:l.length<10001) :
  CB 227 #[.string (B l)] w (.tuple #[.string (B (paD l)),.bool (paB l)]):=by
 have htl:=zRa
 cases l with
 | nil =>
  go_enter Tryz.func227,Tryz.ntmps227
  go_wp2
  go_ret2
  exact ⟨rfl,Below.refl _ _⟩
 | cons c r =>
  have c28:∀ w,Calls Tryz.prog 223 #[.string (B (c::r)),.string ⟨#[40]⟩] w fun e w'=>e=.returned (.tuple #[.string (B (Lib.trimPrefix (c::r) [40])),.bool (Lib.hasPrefix (c::r) [40])])/\w'=w:=fun w=>zHh (c::r) [40] w
  have hTl:=zDe (c::r) [40]
  have c27:=fun w=>zBh (Lib.trimPrefix (c::r) [40]) w (by omega)
  unfold paD paB
  generalize Lib.trimPrefix (c::r) [40]=T at *
  generalize Lib.hasPrefix (c::r) [40]=z at *
  simp only [List.isEmpty_cons,Bool.false_or]
  cases z
  ·simp only [Bool.false_eq_true,if_false,Bool.false_and]
   go_enter Tryz.func227,Tryz.ntmps227
   go_wp2_with (go_at_call 223;refine (c28 _).mono ?_;rintro x w2 ⟨rfl,rfl⟩)
   go_ret2
   exact ⟨rfl,Below.refl _ _⟩
  ·simp only [if_true,Bool.true_and]
   generalize dgs T=D at *
   generalize rst T=R at *
   cases D with
   | nil =>
    simp only [List.isEmpty_nil,Bool.not_true,Bool.false_and]
    go_enter Tryz.func227,Tryz.ntmps227
    go_wp2_with (first|(go_at_call 223;refine (c28 _).mono ?_;rintro x w2 ⟨rfl,rfl⟩)|(go_at_call 222;refine (c27 _).mono ?_;rintro x w3 ⟨rfl,hb3⟩))
    go_ret2
    exact ⟨rfl,hb3⟩
   | cons d ds =>
    simp only [List.isEmpty_cons,Bool.not_false,Bool.true_and]
    go_enter Tryz.func227,Tryz.ntmps227
    go_wp2_with (first|(go_at_call 223;refine (c28 _).mono ?_;rintro x w2 ⟨rfl,rfl⟩)|(go_at_call 222;refine (c27 _).mono ?_;rintro x w3 ⟨rfl,hb3⟩))
    go_ret2
    exact ⟨rfl,hb3⟩
def zVw (x:List UInt8):Bool:=x==[105,110,102]||x==[105,110,102,105,110,105,116,121]
def nanR (x:List UInt8):List UInt8:=Lib.trimPrefix (Lib.trimPrefix x [115]) [110,97,110]
def zR7 (x:List UInt8):Bool:=Lib.hasPrefix (Lib.trimPrefix x [115]) [110,97,110]&&paB (nanR x)
def woB (s:List UInt8):Bool:=zVw (sml s)||zR7 (sml s)
def woV (s:List UInt8):Value:=if zVw (sml s) then PV 2 false false [] 0 else if zR7 (sml s) then PV 3 false (Lib.hasPrefix (sml s) [115]) (bar (paD (nanR (sml s)))) 0 else PV 0 false false [] 0
theorem zYn (s:List UInt8)(w:World)(hs:s.length<10001) :
  CB 206 #[.string (B s)] w (.tuple #[woV s,.bool (woB s)]):=by
 have htl:=zRa
 have c31:=fun w=>zKt s w hs
 unfold woV woB PV
 have hxl:=zYo s
 generalize sml s=x at *
 have HI:Hid (zVw x=(x==[105,110,102]||x==[105,110,102,105,110,105,116,121])):=rfl
 by_cases h1:x=[105,110,102]
 ·have hi:zVw x=true:=by rw [h1];rfl
  rw [hi]
  subst h1
  simp only [if_true,Bool.true_or]
  go_enter Tryz.func206,Tryz.ntmps206
  go_wp2_with (first|(go_at_call 226;refine wk w (c31 _) ?_;intro w1 hb1 _ _ _ _ hA1 _;clear hb1))
  exact bodyPost_ret (v:=.tuple #[.agg #[.int .i64 2,.bool false,.bool false,.string ⟨#[]⟩,.int .i64 0],.bool true]) (by simp only [results,Tryz.results206];go_simp) rfl ⟨rfl,bgo⟩
 ·by_cases h2:x=[105,110,102,105,110,105,116,121]
  ·have hi:zVw x=true:=by rw [h2];rfl
   rw [hi]
   subst h2
   simp only [if_true,Bool.true_or]
   go_enter Tryz.func206,Tryz.ntmps206
   go_wp2_with (first|(go_at_call 226;refine wk w (c31 _) ?_;intro w1 hb1 _ _ _ _ hA1 _;clear hb1))
   exact bodyPost_ret (v:=.tuple #[.agg #[.int .i64 2,.bool false,.bool false,.string ⟨#[]⟩,.int .i64 0],.bool true]) (by simp only [results,Tryz.results206];go_simp) rfl ⟨rfl,bgo⟩
  ·have hi:zVw x=false:=by unfold zVw;rw [beq_eq_false_iff_ne.2 h1,beq_eq_false_iff_ne.2 h2];rfl
   rw [hi]
   have b1:(x==[105,110,102])=false:=beq_eq_false_iff_ne.2 h1
   have b2:(x==[105,110,102,105,110,105,116,121])=false:=beq_eq_false_iff_ne.2 h2
   simp only [Bool.false_eq_true,if_false,Bool.false_or]
   have c28:∀ w,Calls Tryz.prog 223 #[.string (B x),.string ⟨#[115]⟩] w fun e w'=>e=.returned (.tuple #[.string (B (Lib.trimPrefix x [115])),.bool (Lib.hasPrefix x [115])])/\w'=w:=fun w=>zHh x [115] w
   have hl1:=zDe x [115]
   have c28n:∀ w,Calls Tryz.prog 223 #[.string (B (Lib.trimPrefix x [115])),.string ⟨#[110,97,110]⟩] w fun e w'=>e=.returned (.tuple #[.string (B (nanR x)),.bool (Lib.hasPrefix (Lib.trimPrefix x [115]) [110,97,110])])/\w'=w:=fun w=>zHh (Lib.trimPrefix x [115]) [110,97,110] w
   have hl2:=zDe (Lib.trimPrefix x [115]) [110,97,110]
   change (nanR x).length<=_ at hl2
   unfold zR7
   generalize Lib.hasPrefix (Lib.trimPrefix x [115]) [110,97,110]=z at *
   generalize Lib.hasPrefix x [115]=g at *
   generalize Lib.trimPrefix x [115]=T at *
   have c32:=fun w=>zLp (nanR x) w (by omega)
   generalize nanR x=N at *
   have hpl:(paD N).length<=N.length:=by
    unfold paD;split
    ·exact Nat.le_trans (zWk _) (zDe _ _)
    ·simp
   have c30:=fun w=>zQh (paD N) w (by omega)
   generalize paD N=P at *
   generalize paB N=y at *
   cases z
   ·simp only [Bool.false_and,Bool.false_eq_true,if_false]
    go_enter Tryz.func206,Tryz.ntmps206
    go_wp2_with (first|(go_at_call 226;refine wk w (c31 _) ?_;intro w1 hb1 _ _ _ _ hA1 _;clear hb1)|(go_at_call 223;refine (c28 _).mono ?_;rintro x w2 ⟨rfl,rfl⟩;clear c28))
    go_wp2_with (first|(go_at_call 223;refine (c28n _).mono ?_;rintro x w2 ⟨rfl,rfl⟩;clear c28n))
    exact bodyPost_ret (v:=.tuple #[.agg #[.int .i64 0,.bool false,.bool false,.string ⟨#[]⟩,.int .i64 0],.bool false]) (by simp only [results,Tryz.results206];go_simp) rfl ⟨rfl,bgo⟩
   ·cases y
    ·simp only [Bool.true_and,Bool.false_eq_true,if_false]
     go_enter Tryz.func206,Tryz.ntmps206
     go_wp2_with (first|(go_at_call 226;refine wk w (c31 _) ?_;intro w1 hb1 _ _ _ _ hA1 _;clear hb1)|(go_at_call 223;refine (c28 _).mono ?_;rintro x w2 ⟨rfl,rfl⟩;clear c28))
     go_wp2_with (first|(go_at_call 223;refine (c28n _).mono ?_;rintro x w2 ⟨rfl,rfl⟩;clear c28n)|(go_at_call 227;refine wk w (c32 _) ?_;intro w3 hb3 _ _ _ _ hA3 _;clear hb3))
     exact bodyPost_ret (v:=.tuple #[.agg #[.int .i64 0,.bool false,.bool false,.string ⟨#[]⟩,.int .i64 0],.bool false]) (by simp only [results,Tryz.results206];go_simp) rfl ⟨rfl,bgo⟩
    ·simp only [Bool.true_and,if_true]
     go_enter Tryz.func206,Tryz.ntmps206
     go_wp2_with (first|(go_at_call 226;refine wk w (c31 _) ?_;intro w1 hb1 _ _ _ _ hA1 _;clear hb1)|(go_at_call 223;refine (c28 _).mono ?_;rintro x w2 ⟨rfl,rfl⟩;clear c28))
     go_wp2_with (first|(go_at_call 223;refine (c28n _).mono ?_;rintro x w2 ⟨rfl,rfl⟩;clear c28n)|(go_at_call 227;refine wk w (c32 _) ?_;intro w3 hb3 _ _ _ _ hA3 _;clear hb3)|(go_at_call 225;refine wk w (c30 _) ?_;intro w4 hb4 _ _ _ _ hA4 _;clear hb4))
     exact bodyPost_ret (v:=.tuple #[.agg #[.int .i64 3,.bool false,.bool g,.string (B (bar P)),.int .i64 0],.bool true]) (by simp only [results,Tryz.results206];go_simp) rfl ⟨rfl,bgo⟩
structure Prt where
 cls:Int
 sg:Bool
 sn:Bool
 dig:List UInt8
 ex:Int
def Prt.v (p:Prt):Value:=PV p.cls p.sg p.sn p.dig p.ex
def Prt.zero:Prt:=⟨0,false,false,[],0⟩
def zE5 (z:Bool)(r:List UInt8):Option Prt :=
 if zSk r then some ⟨1,z,false,finD r,finE r⟩
 else if zVw (sml r) then some ⟨2,z,false,[],0⟩
 else if zR7 (sml r) then some ⟨3,z,Lib.hasPrefix (sml r) [115],bar (paD (nanR (sml r))),0⟩
 else none
def zVr (l:List UInt8):Option Prt:=if 4000<l.length then none else zE5 (gsgB l) (sgR l)
def cutE (l:List UInt8):Int:=if 4000<l.length then 4 else if (zVr l).isSome then 0 else 2
def cutV (l:List UInt8):Prt:=(zVr l).getD Prt.zero
theorem zJ3 (l:List UInt8)(w:World)(hs:l.length<10001)(hl:4000<l.length) :
  CB 169 #[.string (B l)] w (.tuple #[PV 0 false false [] 0,.int .i64 4]):=by
 have hsz:=zGa l
 have hi:(4000:Int)<l.length:=by omega
 unfold PV
 go_enter Tryz.func169,Tryz.ntmps169
 go_wp2
 exact bodyPost_ret (v:=.tuple #[.agg #[.int .i64 0,.bool false,.bool false,.string ⟨#[]⟩,.int .i64 0],.int .i64 4]) (by simp only [results,Tryz.results169];go_simp) rfl ⟨rfl,bgo⟩
theorem zS9 (l:List UInt8)(w:World)(hl:l.length<=4000)(hf:zSk (sgR l)=true) :
  CB 169 #[.string (B l)] w (.tuple #[PV 1 (gsgB l) false (finD (sgR l)) (finE (sgR l)),.int .i64 0]):=by
 have hsz:=zGa l
 have hi:(l.length:Int)<=4000:=by omega
 have hsl:=zNq l
 have c16:=fun w=>zZg l w (by omega)
 have c17:=fun w=>zGx (sgR l) w (by omega)
 rw [hf] at c17
 simp only [if_true] at c17
 unfold PV at c17 ⊢
 generalize finD (sgR l)=D at *
 generalize finE (sgR l)=E at *
 generalize gsgB l=z at *
 generalize sgR l=R at *
 have hsm:∀ (W:World) (b i:Nat) (v:Value),(W.setCell ⟨b,i,none⟩ v).cell? ⟨b,i,none⟩=(W.cell? ⟨b,i,none⟩).map fun _=>v:=fun W b i v=>zAd W b i v
 go_enter Tryz.func169,Tryz.ntmps169
 go_wp2_with (first|(go_at_call 204;refine wk w (c16 _) ?_;intro w1 hb1 _ _ _ _ hA1 _;clear hb1)|(go_at_call 205;refine wk w (c17 _) ?_;intro w2 hb2 _ _ _ _ hA2 _;clear hb2))
 exact bodyPost_ret (v:=.tuple #[.agg #[.int .i64 1,.bool z,.bool false,.string (B D),.int .i64 E],.int .i64 0]) (by simp only [results,Tryz.results169];go_simp) rfl ⟨rfl,bgo⟩
theorem zD5 (l:List UInt8)(w:World)(hl:l.length<=4000)(hf:zSk (sgR l)=false)(C:Int)(G:Bool)(D:List UInt8)(hv:woV (sgR l)=PV C false G D 0)(hb:woB (sgR l)=true) :
  CB 169 #[.string (B l)] w (.tuple #[PV C (gsgB l) G D 0,.int .i64 0]):=by
 have hsz:=zGa l
 have hi:(l.length:Int)<=4000:=by omega
 have hsl:=zNq l
 have c16:=fun w=>zZg l w (by omega)
 have c17:=fun w=>zGx (sgR l) w (by omega)
 have c18:=fun w=>zYn (sgR l) w (by omega)
 rw [hf] at c17
 rw [hv,hb] at c18
 simp only [Bool.false_eq_true,if_false] at c17
 unfold PV at c17 c18 ⊢
 clear hv hb hf
 generalize gsgB l=z at *
 generalize sgR l=R at *
 have hsm:=zAd
 go_enter Tryz.func169,Tryz.ntmps169
 go_wp2_with (first|(go_at_call 204;refine wk w (c16 _) ?_;intro w1 hb1 _ _ _ _ hA1 _;clear hb1)|(go_at_call 205;refine wk w (c17 _) ?_;intro w2 hb2 _ _ _ _ hA2 _;clear hb2)|(go_at_call 206;refine wk w (c18 _) ?_;intro w3 hb3 _ _ _ _ hA3 _;obtain ⟨_,_⟩:=zf hb3 w2.heap.size;clear hb3))
 exact bodyPost_ret (v:=.tuple #[.agg #[.int .i64 C,.bool z,.bool G,.string (B D),.int .i64 0],.int .i64 0]) (by simp only [results,Tryz.results169];go_simp) rfl ⟨rfl,bgo⟩
theorem cut_no (l:List UInt8)(w:World)(hl:l.length<=4000)(hf:zSk (sgR l)=false)(hv:woV (sgR l)=PV 0 false false [] 0)(hb:woB (sgR l)=false) :
  CB 169 #[.string (B l)] w (.tuple #[PV 0 false false [] 0,.int .i64 2]):=by
 have hsz:=zGa l
 have hi:(l.length:Int)<=4000:=by omega
 have hsl:=zNq l
 have c16:=fun w=>zZg l w (by omega)
 have c17:=fun w=>zGx (sgR l) w (by omega)
 have c18:=fun w=>zYn (sgR l) w (by omega)
 rw [hf] at c17
 rw [hv,hb] at c18
 simp only [Bool.false_eq_true,if_false] at c17
 unfold PV at c17 c18 ⊢
 clear hv hb hf
 generalize gsgB l=z at *
 generalize sgR l=R at *
 have hsm:=zAd
 go_enter Tryz.func169,Tryz.ntmps169
 go_wp2_with (first|(go_at_call 204;refine wk w (c16 _) ?_;intro w1 hb1 _ _ _ _ hA1 _;clear hb1)|(go_at_call 205;refine wk w (c17 _) ?_;intro w2 hb2 _ _ _ _ hA2 _;clear hb2)|(go_at_call 206;refine wk w (c18 _) ?_;intro w3 hb3 _ _ _ _ hA3 _;obtain ⟨_,_⟩:=zf hb3 w2.heap.size;clear hb3))
 exact bodyPost_ret (v:=.tuple #[.agg #[.int .i64 0,.bool false,.bool false,.string ⟨#[]⟩,.int .i64 0],.int .i64 2]) (by simp only [results,Tryz.results169];go_simp) rfl ⟨rfl,bgo⟩
theorem zT9 (l:List UInt8)(w:World)(hs:l.length<10001) :
  CB 169 #[.string (B l)] w (.tuple #[(cutV l).v,.int .i64 (cutE l)]):=by
 unfold cutV cutE zVr
 by_cases hl:4000<l.length
 ·rw [if_pos hl,if_pos hl]
  exact zJ3 l w hs hl
 ·rw [if_neg hl,if_neg hl]
  unfold zE5
  by_cases hf:zSk (sgR l)=true
  ·rw [if_pos hf]
   exact zS9 l w (by omega) hf
  ·rw [if_neg hf]
   have hf':zSk (sgR l)=false:=by simpa using hf
   by_cases h1:zVw (sml (sgR l))=true
   ·rw [if_pos h1]
    exact zD5 l w (by omega) hf' 2 false [] (by unfold woV;rw [if_pos h1]) (by unfold woB;rw [h1];rfl)
   ·rw [if_neg h1]
    by_cases h2:zR7 (sml (sgR l))=true
    ·rw [if_pos h2]
     exact zD5 l w (by omega) hf' 3 _ _ (by unfold woV;rw [if_neg h1,if_pos h2];rfl) (by unfold woB;rw [h2,Bool.or_true])
    ·rw [if_neg h2]
     exact cut_no l w (by omega) hf' (by unfold woV;rw [if_neg h1,if_neg h2]) (by unfold woB;rw [show zVw (sml (sgR l))=false by simpa using h1,show zR7 (sml (sgR l))=false by simpa using h2];rfl)
structure Ap (Bs H:Nat) (cs:Array Value) (v:Value) (l:List UInt8) (w0 w:World):Prop where
 own:w.ownsRow Bs 5 1 v l.length (Lib.byteCells l)
 box:w.heap[H]?=some (.cells cs 133)
 bel:Below Bs w0 w
 bs:Bs<=w.heap.size
theorem Ap.lt {Bs H:Nat}{cs:Array Value}{v:Value}{l:List UInt8}{w0 w:World}(h:Ap Bs H cs v l w0 w):H<w.heap.size:=by
 rcases Nat.lt_or_ge H w.heap.size with h'|h'
 ·exact h'
 ·have:=h.box;rw [Array.getElem?_eq_none h'] at this;cases this
theorem Ap.cell {Bs H:Nat}{cs:Array Value}{v:Value}{l:List UInt8}{w0 w:World}(h:Ap Bs H cs v l w0 w)(i:Nat):w.cell? ⟨H,i,none⟩=cs[i]?:=by
 unfold World.cell?
 have hh:=h.box
 simp [hh]
theorem Ap.alloc {Bs H:Nat}{cs:Array Value}{v:Value}{l:List UInt8}{w0 w:World}(h:Ap Bs H cs v l w0 w)(o:Obj):Ap Bs H cs v l w0 (w.alloc o) :=
 ⟨h.own.alloc o,by
  have:=h.lt
  rw [show (w.alloc o).heap[H]?=(w.heap.push o)[H]? from rfl,Array.getElem?_push_lt this,← Array.getElem?_eq_getElem this]
  exact h.box,h.bel.alloc h.bs _,by simp;have:=h.bs;omega⟩
theorem Ap.far {Bs H:Nat}{cs:Array Value}{v:Value}{l:List UInt8}{w0 w:World}(h:Ap Bs H cs v l w0 w):v.ownBlock≠some H:=Lib.ownBlock_ne h.own h.box (by decide)
theorem Ap.app {Bs H:Nat}{cs:Array Value}{v v':Value}{l m:List UInt8}{w0 w w1:World}{n:Nat}{xs:List Value}(h:Ap Bs H cs v l w0 w)(hg:w.grownBy w1 v.ownBlock)(ho:w1.ownsRow Bs 5 1 v' n xs)(hn:n=(l++m).length)(hx:xs=Lib.byteCells (l++m)):Ap Bs H cs v' (l++m) w0 w1:=by
 subst hn hx
 refine ⟨ho,?_,h.bel.grown hg h.bs fun k hk=>(h.own.lt k hk).1,Nat.le_trans h.bs hg.size⟩
 rw [hg.block H h.lt (fun e=>h.far e.symm)]
 exact h.box
theorem zOe (l:List UInt8)(b:UInt8):Lib.byteCells l++[.int .u8 b.toNat]=Lib.byteCells (l++[b]):=by simp [Lib.byteCells]
theorem zEf (l m:List UInt8):Lib.byteCells l++Lib.strCells (B m)=Lib.byteCells (l++m):=by
 simp [Lib.byteCells,Lib.strCells,B]
theorem zTh (W:World)(b:Int)(H':Nat)(h:W.heap.size=H'):∀ j u,[Value.int .u8 b][j]?=some u->(W.alloc (.cells #[.int .u8 b] 5)).cell? ((⟨H',0,none⟩:Addr).add j)=some u:=by
 subst h
 exact World.news_of_block (w:=W.alloc (.cells #[.int .u8 b] 5)) (cs:=#[.int .u8 b]) (t:=5) (fr:=(0,0)) (by
  show (W.heap.push _)[W.heap.size]?=_
  simp)
theorem zDt (b:Int):∀ u ∈ [Value.int .u8 b],u.oneCell'=true:=by simp [Value.oneCell']
theorem Tryz.info5:(Tryz.prog.info? 5).map (fun i=>(i.zero,i.size,i.bytes))=some (some (.int .u8 0),1,1):=by kernel_rfl
def exT (e:Int):List UInt8:=if e=0 then [] else 101::Lib.itoa e
def dgT (d:List UInt8):List UInt8:=if d=[] then [48] else d
abbrev PC (c:Int)(s g:Bool)(d:List UInt8)(e:Int):Array Value:=#[.int .i64 c,.bool s,.bool g,.string (B d),.int .i64 e]
theorem Ap.start {Bs:Nat}{cs:Array Value}{v:Value}{l:List UInt8}{w:World}(hown:w.ownsRow Bs 5 1 v l.length (Lib.byteCells l))(hb:Bs<=w.heap.size):Ap Bs w.heap.size cs v l w (w.alloc (.cells cs 133)) :=
 ⟨hown.alloc _,by show (w.heap.push _)[w.heap.size]?=_;simp,(Below.refl _ _).alloc hb _,by simp;omega⟩
theorem zWy (Bs:Nat)(c:Int)(s g:Bool)(v:Value)(l:List UInt8)(w:World)(hl:l.length<100000)(hown:w.ownsRow Bs 5 1 v l.length (Lib.byteCells l))(hb:Bs<=w.heap.size) :
  Calls Tryz.prog 203 #[v,PV c s g [] 0] w fun x w'=>∃ v',x=.returned v'/\w'.ownsRow Bs 5 1 v' (l++[48]).length (Lib.byteCells (l++[48]))/\Below Bs w w':=by
 have htl:=zRa
 obtain ⟨i0,hi,hz0,hz1,hz2⟩:=info_parts Tryz.info5
 unfold PV
 have A0:Ap Bs w.heap.size (PC c s g [] 0) v l w (w.alloc (.cells (PC c s g [] 0) 133)):=Ap.start hown hb
 clear hown
 go_enter Tryz.func203,Tryz.ntmps203
 go_wp2_with (first|(at_builtin;refine wpList_append_lies _ rfl (.tmp 8) (.tmp 9) 136 rfl Bs 5 i0 (.int .u8 0) 1 1 Tryz.underlying136 hi hz0 hz1 hz2 rfl (by decide) v (l).length (Lib.byteCells (l)) rfl (A0.alloc (.cells #[.int .u8 48] 5)).own ⟨w.heap.size+1,0,none⟩ 1 1 [.int .u8 48] rfl rfl (zTh _ _ _ (by simp)) (zDt _) (by decide) (by unfold maxLen;omega) (by omega) (A0.alloc (.cells #[.int .u8 48] 5)).bs _ rfl ?_;intro g1 cap1 w1 hown hgrow hat hlt;have A1:=(A0.alloc (.cells #[.int .u8 48] 5)).app (m:=[48]) hgrow hown (by simp only [List.length_append,List.length_cons,List.length_nil];try omega) (zOe _ 48);clear hown hgrow hat hlt;generalize (Value.slice (some ⟨g1,0,none⟩) ((l).length+1) cap1)=v1 at *;have k1_0:w1.cell? ⟨w.heap.size,0,none⟩=some (.int .i64 c):=A1.cell 0;have k1_1:w1.cell? ⟨w.heap.size,1,none⟩=some (.bool s):=A1.cell 1;have k1_2:w1.cell? ⟨w.heap.size,2,none⟩=some (.bool g):=A1.cell 2;have k1_3:w1.cell? ⟨w.heap.size,3,none⟩=some (.string (B [])):=A1.cell 3;have k1_4:w1.cell? ⟨w.heap.size,4,none⟩=some (.int .i64 0):=A1.cell 4)|(at_builtin;refine Lib.wpList_append_own_string _ rfl (.tmp 11) (.tmp 13) 136 9 rfl Bs 5 i0 Tryz.underlying136 Tryz.underlying9 hi hz0 hz1 hz2 v1 (l++[48]).length (Lib.byteCells (l++[48])) rfl A1.own (B []) rfl (by rw [zGa];unfold maxLen;simp only [List.length_append,List.length_cons,List.length_nil];omega) (by rw [zGa];simp only [List.length_append,List.length_cons,List.length_nil];omega) A1.bs ?_;intro v2 w2 hown hgrow hq;have A2:=A1.app (m:=[]) hgrow hown (by simp only [zGa,List.length_append,List.length_cons,List.length_nil];try omega) (zEf _ _);clear hown hgrow hq;have k2_0:w2.cell? ⟨w.heap.size,0,none⟩=some (.int .i64 c):=A2.cell 0;have k2_1:w2.cell? ⟨w.heap.size,1,none⟩=some (.bool s):=A2.cell 1;have k2_2:w2.cell? ⟨w.heap.size,2,none⟩=some (.bool g):=A2.cell 2;have k2_3:w2.cell? ⟨w.heap.size,3,none⟩=some (.string (B [])):=A2.cell 3;have k2_4:w2.cell? ⟨w.heap.size,4,none⟩=some (.int .i64 0):=A2.cell 4))
 rw [List.append_nil] at A2
 go_ret
 exact ⟨v2,rfl,A2.own,A2.bel⟩
theorem zVy (Bs:Nat)(c:Int)(s g:Bool)(e:Int)(v:Value)(l:List UInt8)(w:World)(hl:l.length<100000)(hown:w.ownsRow Bs 5 1 v l.length (Lib.byteCells l))(hb:Bs<=w.heap.size)(he:(e != 0)=true)(he1:-9223372036854775808<=e/\e<=9223372036854775807)(htab:Lib.TabBelow Tryz.prog Bs w "internal/strconv.uint64pow10" .u64 Lib.pow10Tab) :
  Calls Tryz.prog 203 #[v,PV c s g [] e] w fun x w'=>∃ v',x=.returned v'/\w'.ownsRow Bs 5 1 v' (l++([48]++101::Lib.itoa e)).length (Lib.byteCells (l++([48]++101::Lib.itoa e)))/\Below Bs w w':=by
 have htl:=zRa
 obtain ⟨i0,hi,hz0,hz1,hz2⟩:=info_parts Tryz.info5
 unfold PV
 have A0:Ap Bs w.heap.size (PC c s g [] e) v l w (w.alloc (.cells (PC c s g [] e) 133)):=Ap.start hown hb
 clear hown
 go_enter Tryz.func203,Tryz.ntmps203
 go_wp2_with (first|(at_builtin;refine wpList_append_lies _ rfl (.tmp 8) (.tmp 9) 136 rfl Bs 5 i0 (.int .u8 0) 1 1 Tryz.underlying136 hi hz0 hz1 hz2 rfl (by decide) v (l).length (Lib.byteCells (l)) rfl (A0.alloc (.cells #[.int .u8 48] 5)).own ⟨w.heap.size+1,0,none⟩ 1 1 [.int .u8 48] rfl rfl (zTh _ _ _ (by simp)) (zDt _) (by decide) (by unfold maxLen;omega) (by omega) (A0.alloc (.cells #[.int .u8 48] 5)).bs _ rfl ?_;intro g1 cap1 w1 hown hgrow hat hlt;have A1:=(A0.alloc (.cells #[.int .u8 48] 5)).app (m:=[48]) hgrow hown (by simp only [List.length_append,List.length_cons,List.length_nil];try omega) (zOe _ 48);clear hown hgrow hat hlt;generalize (Value.slice (some ⟨g1,0,none⟩) ((l).length+1) cap1)=v1 at *;have k1_0:w1.cell? ⟨w.heap.size,0,none⟩=some (.int .i64 c):=A1.cell 0;have k1_1:w1.cell? ⟨w.heap.size,1,none⟩=some (.bool s):=A1.cell 1;have k1_2:w1.cell? ⟨w.heap.size,2,none⟩=some (.bool g):=A1.cell 2;have k1_3:w1.cell? ⟨w.heap.size,3,none⟩=some (.string (B [])):=A1.cell 3;have k1_4:w1.cell? ⟨w.heap.size,4,none⟩=some (.int .i64 e):=A1.cell 4)|(at_builtin;refine Lib.wpList_append_own_string _ rfl (.tmp 11) (.tmp 13) 136 9 rfl Bs 5 i0 Tryz.underlying136 Tryz.underlying9 hi hz0 hz1 hz2 v1 (l++[48]).length (Lib.byteCells (l++[48])) rfl A1.own (B []) rfl (by rw [zGa];unfold maxLen;simp only [List.length_append,List.length_cons,List.length_nil];omega) (by rw [zGa];simp only [List.length_append,List.length_cons,List.length_nil];omega) A1.bs ?_;intro v2 w2 hown hgrow hq;have A2:=A1.app (m:=[]) hgrow hown (by simp only [zGa,List.length_append,List.length_cons,List.length_nil];try omega) (zEf _ _);clear hown hgrow hq;have k2_0:w2.cell? ⟨w.heap.size,0,none⟩=some (.int .i64 c):=A2.cell 0;have k2_1:w2.cell? ⟨w.heap.size,1,none⟩=some (.bool s):=A2.cell 1;have k2_2:w2.cell? ⟨w.heap.size,2,none⟩=some (.bool g):=A2.cell 2;have k2_3:w2.cell? ⟨w.heap.size,3,none⟩=some (.string (B [])):=A2.cell 3;have k2_4:w2.cell? ⟨w.heap.size,4,none⟩=some (.int .i64 e):=A2.cell 4)|(at_builtin;refine wpList_append_lies _ rfl (.tmp 18) (.tmp 19) 136 rfl Bs 5 i0 (.int .u8 0) 1 1 Tryz.underlying136 hi hz0 hz1 hz2 rfl (by decide) v2 (l++[48]++[]).length (Lib.byteCells (l++[48]++[])) rfl (A2.alloc (.cells #[.int .u8 101] 5)).own ⟨w2.heap.size,0,none⟩ 1 1 [.int .u8 101] rfl rfl (zTh _ _ _ rfl) (zDt _) (by decide) (by unfold maxLen;simp only [List.length_append,List.length_cons,List.length_nil];omega) (by simp only [List.length_append,List.length_cons,List.length_nil];omega) (A2.alloc (.cells #[.int .u8 101] 5)).bs _ rfl ?_;intro g3 cap3 w3 hown hgrow hat hlt;have A3:=(A2.alloc (.cells #[.int .u8 101] 5)).app (m:=[101]) hgrow hown (by simp only [List.length_append,List.length_cons,List.length_nil];try omega) (zOe _ 101);clear hown hgrow hat hlt;generalize (Value.slice (some ⟨g3,0,none⟩) ((l++[48]++[]).length+1) cap3)=v3 at *;have k3_0:w3.cell? ⟨w.heap.size,0,none⟩=some (.int .i64 c):=A3.cell 0;have k3_1:w3.cell? ⟨w.heap.size,1,none⟩=some (.bool s):=A3.cell 1;have k3_2:w3.cell? ⟨w.heap.size,2,none⟩=some (.bool g):=A3.cell 2;have k3_3:w3.cell? ⟨w.heap.size,3,none⟩=some (.string (B [])):=A3.cell 3;have k3_4:w3.cell? ⟨w.heap.size,4,none⟩=some (.int .i64 e):=A3.cell 4)|(go_at_call 221;refine (Tryz.strconv_AppendInt_10 Bs (l++[48]++[]++[101]).length e he1.1 he1.2 v3 (Lib.byteCells (l++[48]++[]++[101])) w3 A3.own A3.bs (by simp only [List.length_append,List.length_cons,List.length_nil];omega) (htab.on A3.bel)).mono ?_;rintro x w4 ⟨v4,rfl,hown4,hb4,_⟩))
 go_ret
 refine ⟨v4,rfl,?_,A3.bel.trans hb4⟩
 have e1:Lib.byteCells (l++[48]++[]++[101])++Lib.byteCells (Lib.itoa e)=Lib.byteCells (l++([48]++101::Lib.itoa e)):=by simp [Lib.byteCells]
 have e2:(l++[48]++[]++[101]).length+(Lib.itoa e).length=(l++([48]++101::Lib.itoa e)).length:=by simp [List.length_append];try omega
 rw [e1,e2] at hown4
 exact hown4
theorem zYy (Bs:Nat)(c:Int)(s g:Bool)(d:UInt8)(ds:List UInt8)(v:Value)(l:List UInt8)(w:World)(hl:l.length<100000)(hown:w.ownsRow Bs 5 1 v l.length (Lib.byteCells l))(hb:Bs<=w.heap.size)(hd:ds.length+1<100000) :
  Calls Tryz.prog 203 #[v,PV c s g (d::ds) 0] w fun x w'=>∃ v',x=.returned v'/\w'.ownsRow Bs 5 1 v' (l++(d::ds)).length (Lib.byteCells (l++(d::ds)))/\Below Bs w w':=by
 have htl:=zRa
 obtain ⟨i0,hi,hz0,hz1,hz2⟩:=info_parts Tryz.info5
 unfold PV
 have A0:Ap Bs w.heap.size (PC c s g (d::ds) 0) v l w (w.alloc (.cells (PC c s g (d::ds) 0) 133)):=Ap.start hown hb
 clear hown
 have k0_3:(w.alloc (.cells (PC c s g (d::ds) 0) 133)).cell? ⟨w.heap.size,3,none⟩=some (.string (B (d::ds))):=A0.cell 3
 go_enter Tryz.func203,Tryz.ntmps203
 go_wp2_with (first|(at_builtin;refine Lib.wpList_append_own_string _ rfl (.tmp 11) (.tmp 13) 136 9 rfl Bs 5 i0 Tryz.underlying136 Tryz.underlying9 hi hz0 hz1 hz2 v (l).length (Lib.byteCells (l)) rfl A0.own (B (d::ds)) rfl (by rw [zGa];unfold maxLen;simp only [List.length_append,List.length_cons,List.length_nil];omega) (by rw [zGa];simp only [List.length_append,List.length_cons,List.length_nil];omega) A0.bs ?_;intro v2 w2 hown hgrow hq;have A2:=A0.app (m:=(d::ds)) hgrow hown (by simp only [zGa,List.length_append,List.length_cons,List.length_nil];try omega) (zEf _ _);clear hown hgrow hq;have k2_0:w2.cell? ⟨w.heap.size,0,none⟩=some (.int .i64 c):=A2.cell 0;have k2_1:w2.cell? ⟨w.heap.size,1,none⟩=some (.bool s):=A2.cell 1;have k2_2:w2.cell? ⟨w.heap.size,2,none⟩=some (.bool g):=A2.cell 2;have k2_3:w2.cell? ⟨w.heap.size,3,none⟩=some (.string (B (d::ds))):=A2.cell 3;have k2_4:w2.cell? ⟨w.heap.size,4,none⟩=some (.int .i64 0):=A2.cell 4))
 go_ret
 exact ⟨v2,rfl,A2.own,A2.bel⟩
theorem zXy (Bs:Nat)(c:Int)(s g:Bool)(d:UInt8)(ds:List UInt8)(e:Int)(v:Value)(l:List UInt8)(w:World)(hl:l.length<100000)(hown:w.ownsRow Bs 5 1 v l.length (Lib.byteCells l))(hb:Bs<=w.heap.size)(hd:ds.length+1<100000)(he:(e != 0)=true)(he1:-9223372036854775808<=e/\e<=9223372036854775807)(htab:Lib.TabBelow Tryz.prog Bs w "internal/strconv.uint64pow10" .u64 Lib.pow10Tab) :
  Calls Tryz.prog 203 #[v,PV c s g (d::ds) e] w fun x w'=>∃ v',x=.returned v'/\w'.ownsRow Bs 5 1 v' (l++(d::ds++101::Lib.itoa e)).length (Lib.byteCells (l++(d::ds++101::Lib.itoa e)))/\Below Bs w w':=by
 have htl:=zRa
 obtain ⟨i0,hi,hz0,hz1,hz2⟩:=info_parts Tryz.info5
 unfold PV
 have A0:Ap Bs w.heap.size (PC c s g (d::ds) e) v l w (w.alloc (.cells (PC c s g (d::ds) e) 133)):=Ap.start hown hb
 clear hown
 have k0_3:(w.alloc (.cells (PC c s g (d::ds) e) 133)).cell? ⟨w.heap.size,3,none⟩=some (.string (B (d::ds))):=A0.cell 3
 go_enter Tryz.func203,Tryz.ntmps203
 go_wp2_with (first|(at_builtin;refine Lib.wpList_append_own_string _ rfl (.tmp 11) (.tmp 13) 136 9 rfl Bs 5 i0 Tryz.underlying136 Tryz.underlying9 hi hz0 hz1 hz2 v (l).length (Lib.byteCells (l)) rfl A0.own (B (d::ds)) rfl (by rw [zGa];unfold maxLen;simp only [List.length_append,List.length_cons,List.length_nil];omega) (by rw [zGa];simp only [List.length_append,List.length_cons,List.length_nil];omega) A0.bs ?_;intro v2 w2 hown hgrow hq;have A2:=A0.app (m:=(d::ds)) hgrow hown (by simp only [zGa,List.length_append,List.length_cons,List.length_nil];try omega) (zEf _ _);clear hown hgrow hq;have k2_0:w2.cell? ⟨w.heap.size,0,none⟩=some (.int .i64 c):=A2.cell 0;have k2_1:w2.cell? ⟨w.heap.size,1,none⟩=some (.bool s):=A2.cell 1;have k2_2:w2.cell? ⟨w.heap.size,2,none⟩=some (.bool g):=A2.cell 2;have k2_3:w2.cell? ⟨w.heap.size,3,none⟩=some (.string (B (d::ds))):=A2.cell 3;have k2_4:w2.cell? ⟨w.heap.size,4,none⟩=some (.int .i64 e):=A2.cell 4)|(at_builtin;refine wpList_append_lies _ rfl (.tmp 18) (.tmp 19) 136 rfl Bs 5 i0 (.int .u8 0) 1 1 Tryz.underlying136 hi hz0 hz1 hz2 rfl (by decide) v2 (l++(d::ds)).length (Lib.byteCells (l++(d::ds))) rfl (A2.alloc (.cells #[.int .u8 101] 5)).own ⟨w2.heap.size,0,none⟩ 1 1 [.int .u8 101] rfl rfl (zTh _ _ _ rfl) (zDt _) (by decide) (by unfold maxLen;simp only [List.length_append,List.length_cons,List.length_nil];omega) (by simp only [List.length_append,List.length_cons,List.length_nil];omega) (A2.alloc (.cells #[.int .u8 101] 5)).bs _ rfl ?_;intro g3 cap3 w3 hown hgrow hat hlt;have A3:=(A2.alloc (.cells #[.int .u8 101] 5)).app (m:=[101]) hgrow hown (by simp only [List.length_append,List.length_cons,List.length_nil];try omega) (zOe _ 101);clear hown hgrow hat hlt;generalize (Value.slice (some ⟨g3,0,none⟩) ((l++(d::ds)).length+1) cap3)=v3 at *;have k3_0:w3.cell? ⟨w.heap.size,0,none⟩=some (.int .i64 c):=A3.cell 0;have k3_1:w3.cell? ⟨w.heap.size,1,none⟩=some (.bool s):=A3.cell 1;have k3_2:w3.cell? ⟨w.heap.size,2,none⟩=some (.bool g):=A3.cell 2;have k3_3:w3.cell? ⟨w.heap.size,3,none⟩=some (.string (B (d::ds))):=A3.cell 3;have k3_4:w3.cell? ⟨w.heap.size,4,none⟩=some (.int .i64 e):=A3.cell 4)|(go_at_call 221;refine (Tryz.strconv_AppendInt_10 Bs (l++(d::ds)++[101]).length e he1.1 he1.2 v3 (Lib.byteCells (l++(d::ds)++[101])) w3 A3.own A3.bs (by simp only [List.length_append,List.length_cons,List.length_nil];omega) (htab.on A3.bel)).mono ?_;rintro x w4 ⟨v4,rfl,hown4,hb4,_⟩))
 go_ret
 refine ⟨v4,rfl,?_,A3.bel.trans hb4⟩
 have e1:Lib.byteCells (l++(d::ds)++[101])++Lib.byteCells (Lib.itoa e)=Lib.byteCells (l++(d::ds++101::Lib.itoa e)):=by simp [Lib.byteCells]
 have e2:(l++(d::ds)++[101]).length+(Lib.itoa e).length=(l++(d::ds++101::Lib.itoa e)).length:=by simp [List.length_append];try omega
 rw [e1,e2] at hown4
 exact hown4
theorem zTy (Bs:Nat)(c:Int)(s:Bool)(e:Int)(v:Value)(l:List UInt8)(w:World)(hl:l.length<100000)(hown:w.ownsRow Bs 5 1 v l.length (Lib.byteCells l))(hb:Bs<=w.heap.size) :
  Calls Tryz.prog 202 #[v,PV c s false [] e] w fun x w'=>∃ v',x=.returned v'/\w'.ownsRow Bs 5 1 v' (l++([110,97,110])).length (Lib.byteCells (l++([110,97,110])))/\Below Bs w w':=by
 have htl:=zRa
 obtain ⟨i0,hi,hz0,hz1,hz2⟩:=info_parts Tryz.info5
 unfold PV
 have A0:Ap Bs w.heap.size (PC c s false [] e) v l w (w.alloc (.cells (PC c s false [] e) 133)):=Ap.start hown hb
 clear hown
 have k0_2:(w.alloc (.cells (PC c s false [] e) 133)).cell? ⟨w.heap.size,2,none⟩=some (.bool false):=A0.cell 2
 go_enter Tryz.func202,Tryz.ntmps202
 go_wp2_with (first|(at_builtin;refine Lib.wpList_append_own_string _ rfl (.tmp 10) (.const (.string ⟨#[110,97,110]⟩)) 136 9 rfl Bs 5 i0 Tryz.underlying136 Tryz.underlying9 hi hz0 hz1 hz2 v (l).length (Lib.byteCells (l)) rfl A0.own (B [110,97,110]) rfl (by rw [zGa];unfold maxLen;simp only [List.length_append,List.length_cons,List.length_nil];omega) (by rw [zGa];simp only [List.length_append,List.length_cons,List.length_nil];omega) A0.bs ?_;intro v2 w2 hown hgrow hq;have A2:=A0.app (m:=[110,97,110]) hgrow hown (by simp only [zGa,List.length_append,List.length_cons,List.length_nil];try omega) (zEf _ _);clear hown hgrow hq;have k2_0:w2.cell? ⟨w.heap.size,0,none⟩=some (.int .i64 c):=A2.cell 0;have k2_1:w2.cell? ⟨w.heap.size,1,none⟩=some (.bool s):=A2.cell 1;have k2_2:w2.cell? ⟨w.heap.size,2,none⟩=some (.bool false):=A2.cell 2;have k2_3:w2.cell? ⟨w.heap.size,3,none⟩=some (.string (B [])):=A2.cell 3;have k2_4:w2.cell? ⟨w.heap.size,4,none⟩=some (.int .i64 e):=A2.cell 4))
 go_ret
 exact ⟨v2,rfl,A2.own,A2.bel⟩
theorem zUy (Bs:Nat)(c:Int)(s:Bool)(d:UInt8)(ds:List UInt8)(e:Int)(v:Value)(l:List UInt8)(w:World)(hl:l.length<100000)(hown:w.ownsRow Bs 5 1 v l.length (Lib.byteCells l))(hb:Bs<=w.heap.size)(hd:ds.length+1<100000) :
  Calls Tryz.prog 202 #[v,PV c s false (d::ds) e] w fun x w'=>∃ v',x=.returned v'/\w'.ownsRow Bs 5 1 v' (l++([110,97,110]++40::(d::ds++[41]))).length (Lib.byteCells (l++([110,97,110]++40::(d::ds++[41]))))/\Below Bs w w':=by
 have htl:=zRa
 obtain ⟨i0,hi,hz0,hz1,hz2⟩:=info_parts Tryz.info5
 unfold PV
 have A0:Ap Bs w.heap.size (PC c s false (d::ds) e) v l w (w.alloc (.cells (PC c s false (d::ds) e) 133)):=Ap.start hown hb
 clear hown
 have k0_2:(w.alloc (.cells (PC c s false (d::ds) e) 133)).cell? ⟨w.heap.size,2,none⟩=some (.bool false):=A0.cell 2
 go_enter Tryz.func202,Tryz.ntmps202
 go_wp2_with (first|(at_builtin;refine Lib.wpList_append_own_string _ rfl (.tmp 10) (.const (.string ⟨#[110,97,110]⟩)) 136 9 rfl Bs 5 i0 Tryz.underlying136 Tryz.underlying9 hi hz0 hz1 hz2 v (l).length (Lib.byteCells (l)) rfl A0.own (B [110,97,110]) rfl (by rw [zGa];unfold maxLen;simp only [List.length_append,List.length_cons,List.length_nil];omega) (by rw [zGa];simp only [List.length_append,List.length_cons,List.length_nil];omega) A0.bs ?_;intro v2 w2 hown hgrow hq;have A2:=A0.app (m:=[110,97,110]) hgrow hown (by simp only [zGa,List.length_append,List.length_cons,List.length_nil];try omega) (zEf _ _);clear hown hgrow hq;have k2_0:w2.cell? ⟨w.heap.size,0,none⟩=some (.int .i64 c):=A2.cell 0;have k2_1:w2.cell? ⟨w.heap.size,1,none⟩=some (.bool s):=A2.cell 1;have k2_2:w2.cell? ⟨w.heap.size,2,none⟩=some (.bool false):=A2.cell 2;have k2_3:w2.cell? ⟨w.heap.size,3,none⟩=some (.string (B (d::ds))):=A2.cell 3;have k2_4:w2.cell? ⟨w.heap.size,4,none⟩=some (.int .i64 e):=A2.cell 4)|(at_builtin;refine wpList_append_lies _ rfl (.tmp 15) (.tmp 16) 136 rfl Bs 5 i0 (.int .u8 0) 1 1 Tryz.underlying136 hi hz0 hz1 hz2 rfl (by decide) v2 (l++[110,97,110]).length (Lib.byteCells (l++[110,97,110])) rfl (A2.alloc (.cells #[.int .u8 40] 5)).own ⟨w2.heap.size,0,none⟩ 1 1 [.int .u8 40] rfl rfl (zTh _ _ _ rfl) (zDt _) (by decide) (by unfold maxLen;simp only [List.length_append,List.length_cons,List.length_nil];omega) (by simp only [List.length_append,List.length_cons,List.length_nil];omega) (A2.alloc (.cells #[.int .u8 40] 5)).bs _ rfl ?_;intro g3 cap3 w3 hown hgrow hat hlt;have A3:=(A2.alloc (.cells #[.int .u8 40] 5)).app (m:=[40]) hgrow hown (by simp only [List.length_append,List.length_cons,List.length_nil];try omega) (zOe _ 40);clear hown hgrow hat hlt;generalize (Value.slice (some ⟨g3,0,none⟩) ((l++[110,97,110]).length+1) cap3)=v3 at *;have k3_0:w3.cell? ⟨w.heap.size,0,none⟩=some (.int .i64 c):=A3.cell 0;have k3_1:w3.cell? ⟨w.heap.size,1,none⟩=some (.bool s):=A3.cell 1;have k3_2:w3.cell? ⟨w.heap.size,2,none⟩=some (.bool false):=A3.cell 2;have k3_3:w3.cell? ⟨w.heap.size,3,none⟩=some (.string (B (d::ds))):=A3.cell 3;have k3_4:w3.cell? ⟨w.heap.size,4,none⟩=some (.int .i64 e):=A3.cell 4)|(at_builtin;refine Lib.wpList_append_own_string _ rfl (.tmp 18) (.tmp 20) 136 9 rfl Bs 5 i0 Tryz.underlying136 Tryz.underlying9 hi hz0 hz1 hz2 v3 (l++[110,97,110]++[40]).length (Lib.byteCells (l++[110,97,110]++[40])) rfl A3.own (B (d::ds)) rfl (by rw [zGa];unfold maxLen;simp only [List.length_append,List.length_cons,List.length_nil];omega) (by rw [zGa];simp only [List.length_append,List.length_cons,List.length_nil];omega) A3.bs ?_;intro v4 w4 hown hgrow hq;have A4:=A3.app (m:=(d::ds)) hgrow hown (by simp only [zGa,List.length_append,List.length_cons,List.length_nil];try omega) (zEf _ _);clear hown hgrow hq;have k4_0:w4.cell? ⟨w.heap.size,0,none⟩=some (.int .i64 c):=A4.cell 0;have k4_1:w4.cell? ⟨w.heap.size,1,none⟩=some (.bool s):=A4.cell 1;have k4_2:w4.cell? ⟨w.heap.size,2,none⟩=some (.bool false):=A4.cell 2;have k4_3:w4.cell? ⟨w.heap.size,3,none⟩=some (.string (B (d::ds))):=A4.cell 3;have k4_4:w4.cell? ⟨w.heap.size,4,none⟩=some (.int .i64 e):=A4.cell 4)|(at_builtin;refine wpList_append_lies _ rfl (.tmp 22) (.tmp 23) 136 rfl Bs 5 i0 (.int .u8 0) 1 1 Tryz.underlying136 hi hz0 hz1 hz2 rfl (by decide) v4 (l++[110,97,110]++[40]++(d::ds)).length (Lib.byteCells (l++[110,97,110]++[40]++(d::ds))) rfl (A4.alloc (.cells #[.int .u8 41] 5)).own ⟨w4.heap.size,0,none⟩ 1 1 [.int .u8 41] rfl rfl (zTh _ _ _ rfl) (zDt _) (by decide) (by unfold maxLen;simp only [List.length_append,List.length_cons,List.length_nil];omega) (by simp only [List.length_append,List.length_cons,List.length_nil];omega) (A4.alloc (.cells #[.int .u8 41] 5)).bs _ rfl ?_;intro g5 cap5 w5 hown hgrow hat hlt;have A5:=(A4.alloc (.cells #[.int .u8 41] 5)).app (m:=[41]) hgrow hown (by simp only [List.length_append,List.length_cons,List.length_nil];try omega) (zOe _ 41);clear hown hgrow hat hlt;generalize (Value.slice (some ⟨g5,0,none⟩) ((l++[110,97,110]++[40]++(d::ds)).length+1) cap5)=v5 at *;have k5_0:w5.cell? ⟨w.heap.size,0,none⟩=some (.int .i64 c):=A5.cell 0;have k5_1:w5.cell? ⟨w.heap.size,1,none⟩=some (.bool s):=A5.cell 1;have k5_2:w5.cell? ⟨w.heap.size,2,none⟩=some (.bool false):=A5.cell 2;have k5_3:w5.cell? ⟨w.heap.size,3,none⟩=some (.string (B (d::ds))):=A5.cell 3;have k5_4:w5.cell? ⟨w.heap.size,4,none⟩=some (.int .i64 e):=A5.cell 4))
 go_ret
 have e1:l++[110,97,110]++[40]++(d::ds)++[41]=l++([110,97,110]++40::(d::ds++[41])):=by simp
 rw [e1] at A5
 exact ⟨_,rfl,A5.own,A5.bel⟩
theorem zRy (Bs:Nat)(c:Int)(s:Bool)(e:Int)(v:Value)(l:List UInt8)(w:World)(hl:l.length<100000)(hown:w.ownsRow Bs 5 1 v l.length (Lib.byteCells l))(hb:Bs<=w.heap.size) :
  Calls Tryz.prog 202 #[v,PV c s true [] e] w fun x w'=>∃ v',x=.returned v'/\w'.ownsRow Bs 5 1 v' (l++(115::[110,97,110])).length (Lib.byteCells (l++(115::[110,97,110])))/\Below Bs w w':=by
 have htl:=zRa
 obtain ⟨i0,hi,hz0,hz1,hz2⟩:=info_parts Tryz.info5
 unfold PV
 have A0:Ap Bs w.heap.size (PC c s true [] e) v l w (w.alloc (.cells (PC c s true [] e) 133)):=Ap.start hown hb
 clear hown
 have k0_2:(w.alloc (.cells (PC c s true [] e) 133)).cell? ⟨w.heap.size,2,none⟩=some (.bool true):=A0.cell 2
 go_enter Tryz.func202,Tryz.ntmps202
 go_wp2_with (first|(at_builtin;refine wpList_append_lies _ rfl (.tmp 7) (.tmp 8) 136 rfl Bs 5 i0 (.int .u8 0) 1 1 Tryz.underlying136 hi hz0 hz1 hz2 rfl (by decide) v (l).length (Lib.byteCells (l)) rfl (A0.alloc (.cells #[.int .u8 115] 5)).own ⟨w.heap.size+1,0,none⟩ 1 1 [.int .u8 115] rfl rfl (zTh _ _ _ (by simp)) (zDt _) (by decide) (by unfold maxLen;omega) (by omega) (A0.alloc (.cells #[.int .u8 115] 5)).bs _ rfl ?_;intro g1 cap1 w1 hown hgrow hat hlt;have A1:=(A0.alloc (.cells #[.int .u8 115] 5)).app (m:=[115]) hgrow hown (by simp only [List.length_append,List.length_cons,List.length_nil];try omega) (zOe _ 115);clear hown hgrow hat hlt;generalize (Value.slice (some ⟨g1,0,none⟩) ((l).length+1) cap1)=v1 at *;have k1_0:w1.cell? ⟨w.heap.size,0,none⟩=some (.int .i64 c):=A1.cell 0;have k1_1:w1.cell? ⟨w.heap.size,1,none⟩=some (.bool s):=A1.cell 1;have k1_2:w1.cell? ⟨w.heap.size,2,none⟩=some (.bool true):=A1.cell 2;have k1_3:w1.cell? ⟨w.heap.size,3,none⟩=some (.string (B [])):=A1.cell 3;have k1_4:w1.cell? ⟨w.heap.size,4,none⟩=some (.int .i64 e):=A1.cell 4)|(at_builtin;refine Lib.wpList_append_own_string _ rfl (.tmp 10) (.const (.string ⟨#[110,97,110]⟩)) 136 9 rfl Bs 5 i0 Tryz.underlying136 Tryz.underlying9 hi hz0 hz1 hz2 v1 (l++[115]).length (Lib.byteCells (l++[115])) rfl A1.own (B [110,97,110]) rfl (by rw [zGa];unfold maxLen;simp only [List.length_append,List.length_cons,List.length_nil];omega) (by rw [zGa];simp only [List.length_append,List.length_cons,List.length_nil];omega) A1.bs ?_;intro v2 w2 hown hgrow hq;have A2:=A1.app (m:=[110,97,110]) hgrow hown (by simp only [zGa,List.length_append,List.length_cons,List.length_nil];try omega) (zEf _ _);clear hown hgrow hq;have k2_0:w2.cell? ⟨w.heap.size,0,none⟩=some (.int .i64 c):=A2.cell 0;have k2_1:w2.cell? ⟨w.heap.size,1,none⟩=some (.bool s):=A2.cell 1;have k2_2:w2.cell? ⟨w.heap.size,2,none⟩=some (.bool true):=A2.cell 2;have k2_3:w2.cell? ⟨w.heap.size,3,none⟩=some (.string (B [])):=A2.cell 3;have k2_4:w2.cell? ⟨w.heap.size,4,none⟩=some (.int .i64 e):=A2.cell 4))
 go_ret
 have e1:l++[115]++[110,97,110]=l++(115::[110,97,110]):=by simp
 rw [e1] at A2
 exact ⟨v2,rfl,A2.own,A2.bel⟩
theorem zSy (Bs:Nat)(c:Int)(s:Bool)(d:UInt8)(ds:List UInt8)(e:Int)(v:Value)(l:List UInt8)(w:World)(hl:l.length<100000)(hown:w.ownsRow Bs 5 1 v l.length (Lib.byteCells l))(hb:Bs<=w.heap.size)(hd:ds.length+1<100000) :
  Calls Tryz.prog 202 #[v,PV c s true (d::ds) e] w fun x w'=>∃ v',x=.returned v'/\w'.ownsRow Bs 5 1 v' (l++(115::[110,97,110]++40::(d::ds++[41]))).length (Lib.byteCells (l++(115::[110,97,110]++40::(d::ds++[41]))))/\Below Bs w w':=by
 have htl:=zRa
 obtain ⟨i0,hi,hz0,hz1,hz2⟩:=info_parts Tryz.info5
 unfold PV
 have A0:Ap Bs w.heap.size (PC c s true (d::ds) e) v l w (w.alloc (.cells (PC c s true (d::ds) e) 133)):=Ap.start hown hb
 clear hown
 have k0_2:(w.alloc (.cells (PC c s true (d::ds) e) 133)).cell? ⟨w.heap.size,2,none⟩=some (.bool true):=A0.cell 2
 go_enter Tryz.func202,Tryz.ntmps202
 go_wp2_with (first|(at_builtin;refine wpList_append_lies _ rfl (.tmp 7) (.tmp 8) 136 rfl Bs 5 i0 (.int .u8 0) 1 1 Tryz.underlying136 hi hz0 hz1 hz2 rfl (by decide) v (l).length (Lib.byteCells (l)) rfl (A0.alloc (.cells #[.int .u8 115] 5)).own ⟨w.heap.size+1,0,none⟩ 1 1 [.int .u8 115] rfl rfl (zTh _ _ _ (by simp)) (zDt _) (by decide) (by unfold maxLen;omega) (by omega) (A0.alloc (.cells #[.int .u8 115] 5)).bs _ rfl ?_;intro g1 cap1 w1 hown hgrow hat hlt;have A1:=(A0.alloc (.cells #[.int .u8 115] 5)).app (m:=[115]) hgrow hown (by simp only [List.length_append,List.length_cons,List.length_nil];try omega) (zOe _ 115);clear hown hgrow hat hlt;generalize (Value.slice (some ⟨g1,0,none⟩) ((l).length+1) cap1)=v1 at *;have k1_0:w1.cell? ⟨w.heap.size,0,none⟩=some (.int .i64 c):=A1.cell 0;have k1_1:w1.cell? ⟨w.heap.size,1,none⟩=some (.bool s):=A1.cell 1;have k1_2:w1.cell? ⟨w.heap.size,2,none⟩=some (.bool true):=A1.cell 2;have k1_3:w1.cell? ⟨w.heap.size,3,none⟩=some (.string (B (d::ds))):=A1.cell 3;have k1_4:w1.cell? ⟨w.heap.size,4,none⟩=some (.int .i64 e):=A1.cell 4)|(at_builtin;refine Lib.wpList_append_own_string _ rfl (.tmp 10) (.const (.string ⟨#[110,97,110]⟩)) 136 9 rfl Bs 5 i0 Tryz.underlying136 Tryz.underlying9 hi hz0 hz1 hz2 v1 (l++[115]).length (Lib.byteCells (l++[115])) rfl A1.own (B [110,97,110]) rfl (by rw [zGa];unfold maxLen;simp only [List.length_append,List.length_cons,List.length_nil];omega) (by rw [zGa];simp only [List.length_append,List.length_cons,List.length_nil];omega) A1.bs ?_;intro v2 w2 hown hgrow hq;have A2:=A1.app (m:=[110,97,110]) hgrow hown (by simp only [zGa,List.length_append,List.length_cons,List.length_nil];try omega) (zEf _ _);clear hown hgrow hq;have k2_0:w2.cell? ⟨w.heap.size,0,none⟩=some (.int .i64 c):=A2.cell 0;have k2_1:w2.cell? ⟨w.heap.size,1,none⟩=some (.bool s):=A2.cell 1;have k2_2:w2.cell? ⟨w.heap.size,2,none⟩=some (.bool true):=A2.cell 2;have k2_3:w2.cell? ⟨w.heap.size,3,none⟩=some (.string (B (d::ds))):=A2.cell 3;have k2_4:w2.cell? ⟨w.heap.size,4,none⟩=some (.int .i64 e):=A2.cell 4)|(at_builtin;refine wpList_append_lies _ rfl (.tmp 15) (.tmp 16) 136 rfl Bs 5 i0 (.int .u8 0) 1 1 Tryz.underlying136 hi hz0 hz1 hz2 rfl (by decide) v2 (l++[115]++[110,97,110]).length (Lib.byteCells (l++[115]++[110,97,110])) rfl (A2.alloc (.cells #[.int .u8 40] 5)).own ⟨w2.heap.size,0,none⟩ 1 1 [.int .u8 40] rfl rfl (zTh _ _ _ rfl) (zDt _) (by decide) (by unfold maxLen;simp only [List.length_append,List.length_cons,List.length_nil];omega) (by simp only [List.length_append,List.length_cons,List.length_nil];omega) (A2.alloc (.cells #[.int .u8 40] 5)).bs _ rfl ?_;intro g3 cap3 w3 hown hgrow hat hlt;have A3:=(A2.alloc (.cells #[.int .u8 40] 5)).app (m:=[40]) hgrow hown (by simp only [List.length_append,List.length_cons,List.length_nil];try omega) (zOe _ 40);clear hown hgrow hat hlt;generalize (Value.slice (some ⟨g3,0,none⟩) ((l++[115]++[110,97,110]).length+1) cap3)=v3 at *;have k3_0:w3.cell? ⟨w.heap.size,0,none⟩=some (.int .i64 c):=A3.cell 0;have k3_1:w3.cell? ⟨w.heap.size,1,none⟩=some (.bool s):=A3.cell 1;have k3_2:w3.cell? ⟨w.heap.size,2,none⟩=some (.bool true):=A3.cell 2;have k3_3:w3.cell? ⟨w.heap.size,3,none⟩=some (.string (B (d::ds))):=A3.cell 3;have k3_4:w3.cell? ⟨w.heap.size,4,none⟩=some (.int .i64 e):=A3.cell 4)|(at_builtin;refine Lib.wpList_append_own_string _ rfl (.tmp 18) (.tmp 20) 136 9 rfl Bs 5 i0 Tryz.underlying136 Tryz.underlying9 hi hz0 hz1 hz2 v3 (l++[115]++[110,97,110]++[40]).length (Lib.byteCells (l++[115]++[110,97,110]++[40])) rfl A3.own (B (d::ds)) rfl (by rw [zGa];unfold maxLen;simp only [List.length_append,List.length_cons,List.length_nil];omega) (by rw [zGa];simp only [List.length_append,List.length_cons,List.length_nil];omega) A3.bs ?_;intro v4 w4 hown hgrow hq;have A4:=A3.app (m:=(d::ds)) hgrow hown (by simp only [zGa,List.length_append,List.length_cons,List.length_nil];try omega) (zEf _ _);clear hown hgrow hq;have k4_0:w4.cell? ⟨w.heap.size,0,none⟩=some (.int .i64 c):=A4.cell 0;have k4_1:w4.cell? ⟨w.heap.size,1,none⟩=some (.bool s):=A4.cell 1;have k4_2:w4.cell? ⟨w.heap.size,2,none⟩=some (.bool true):=A4.cell 2;have k4_3:w4.cell? ⟨w.heap.size,3,none⟩=some (.string (B (d::ds))):=A4.cell 3;have k4_4:w4.cell? ⟨w.heap.size,4,none⟩=some (.int .i64 e):=A4.cell 4)|(at_builtin;refine wpList_append_lies _ rfl (.tmp 22) (.tmp 23) 136 rfl Bs 5 i0 (.int .u8 0) 1 1 Tryz.underlying136 hi hz0 hz1 hz2 rfl (by decide) v4 (l++[115]++[110,97,110]++[40]++(d::ds)).length (Lib.byteCells (l++[115]++[110,97,110]++[40]++(d::ds))) rfl (A4.alloc (.cells #[.int .u8 41] 5)).own ⟨w4.heap.size,0,none⟩ 1 1 [.int .u8 41] rfl rfl (zTh _ _ _ rfl) (zDt _) (by decide) (by unfold maxLen;simp only [List.length_append,List.length_cons,List.length_nil];omega) (by simp only [List.length_append,List.length_cons,List.length_nil];omega) (A4.alloc (.cells #[.int .u8 41] 5)).bs _ rfl ?_;intro g5 cap5 w5 hown hgrow hat hlt;have A5:=(A4.alloc (.cells #[.int .u8 41] 5)).app (m:=[41]) hgrow hown (by simp only [List.length_append,List.length_cons,List.length_nil];try omega) (zOe _ 41);clear hown hgrow hat hlt;generalize (Value.slice (some ⟨g5,0,none⟩) ((l++[115]++[110,97,110]++[40]++(d::ds)).length+1) cap5)=v5 at *;have k5_0:w5.cell? ⟨w.heap.size,0,none⟩=some (.int .i64 c):=A5.cell 0;have k5_1:w5.cell? ⟨w.heap.size,1,none⟩=some (.bool s):=A5.cell 1;have k5_2:w5.cell? ⟨w.heap.size,2,none⟩=some (.bool true):=A5.cell 2;have k5_3:w5.cell? ⟨w.heap.size,3,none⟩=some (.string (B (d::ds))):=A5.cell 3;have k5_4:w5.cell? ⟨w.heap.size,4,none⟩=some (.int .i64 e):=A5.cell 4))
 go_ret
 have e1:l++[115]++[110,97,110]++[40]++(d::ds)++[41]=l++(115::[110,97,110]++40::(d::ds++[41])):=by simp
 rw [e1] at A5
 exact ⟨_,rfl,A5.own,A5.bel⟩
def zOm (g:Bool)(d:List UInt8):List UInt8:=(if g then [115] else [])++([110,97,110]++(if d=[] then [] else 40::(d++[41])))
def zPt (d:List UInt8)(e:Int):List UInt8:=dgT d++exT e
def zX9 (c:Int)(g:Bool)(d:List UInt8)(e:Int):List UInt8:=if c=2 then [105,110,102] else if c=3 then zOm g d else zPt d e
def zOh (c:Int)(s g:Bool)(d:List UInt8)(e:Int):List UInt8:=(if s then [45] else [])++zX9 c g d e
theorem zDr (g:Bool)(d:List UInt8):0<(zOm g d).length:=by unfold zOm;simp only [List.length_append,List.length_cons];omega
theorem zOr (d:List UInt8)(e:Int):0<(zPt d e).length:=by
 unfold zPt dgT
 rw [List.length_append]
 split
 ·simp;omega
 ·rename_i h
  have:0<d.length:=List.length_pos_iff.2 h
  omega
theorem zZk (Bs:Nat)(c:Int)(s g:Bool)(d:List UInt8)(e:Int)(v:Value)(l:List UInt8)(w:World)(hl:l.length<100000)(hd:d.length<100000)(hown:w.ownsRow Bs 5 1 v l.length (Lib.byteCells l))(hb:Bs<=w.heap.size) :
  Calls Tryz.prog 202 #[v,PV c s g d e] w fun x w'=>∃ v',x=.returned v'/\w'.ownsRow Bs 5 1 v' (l++zOm g d).length (Lib.byteCells (l++zOm g d))/\Below Bs w w':=by
 cases g
 ·cases d with
  | nil=>exact zTy Bs c s e v l w hl hown hb
  | cons x xs=>exact zUy Bs c s x xs e v l w hl hown hb hd
 ·cases d with
  | nil=>exact zRy Bs c s e v l w hl hown hb
  | cons x xs=>exact zSy Bs c s x xs e v l w hl hown hb hd
theorem zAl (Bs:Nat)(c:Int)(s g:Bool)(d:List UInt8)(e:Int)(v:Value)(l:List UInt8)(w:World)(hl:l.length<100000)(hd:d.length<100000)(he:-9223372036854775808<=e/\e<=9223372036854775807)(hown:w.ownsRow Bs 5 1 v l.length (Lib.byteCells l))(hb:Bs<=w.heap.size)(htab:Lib.TabBelow Tryz.prog Bs w "internal/strconv.uint64pow10" .u64 Lib.pow10Tab) :
  Calls Tryz.prog 203 #[v,PV c s g d e] w fun x w'=>∃ v',x=.returned v'/\w'.ownsRow Bs 5 1 v' (l++zPt d e).length (Lib.byteCells (l++zPt d e))/\Below Bs w w':=by
 by_cases h0:e=0
 ·subst h0
  cases d with
  | nil=>exact zWy Bs c s g v l w hl hown hb
  | cons x xs =>
   have:zPt (x::xs) 0=x::xs:=by unfold zPt dgT exT;simp
   rw [this]
   exact zYy Bs c s g x xs v l w hl hown hb hd
 ·have h1:(e != 0)=true:=by simpa using h0
  have e1:exT e=101::Lib.itoa e:=if_neg h0
  cases d with
  | nil =>
   have:=zVy Bs c s g e v l w hl hown hb h1 he htab
   unfold zPt;rw [e1];exact this
  | cons x xs =>
   have:=zXy Bs c s g x xs e v l w hl hown hb hd h1 he htab
   unfold zPt;rw [e1];exact this
theorem zSh {Bs:Nat}{v:Value}{l:List UInt8}{W:World}(h:W.ownsRow Bs 5 1 v l.length (Lib.byteCells l))(hp:0<l.length):(convert 136 9 v).run Tryz.prog W=.ok (.string (B l)) W:=by
 obtain ⟨g,cap,rfl,_,_⟩:=h.form hp
 refine run_convert_bytes_back W 136 9 5 ⟨g,0,none⟩ cap l Tryz.underlying136 Tryz.underlying5 Tryz.underlying9 fun j hj=>?_
 rw [show (⟨g,0,none⟩:Addr).add j=⟨g,j,none⟩ by unfold Addr.add;split<;>simp_all]
 rw [h.cellAt j (by omega)]
 simp [Lib.byteCells,hj]
theorem zW5 (g:Bool)(d:List UInt8)(e:Int)(w:World)(hd:d.length<100000) :
  CB 168 #[PV 2 true g d e] w (.string (B ([45]++[105,110,102]))):=by
 have htl:=zRa
 obtain ⟨i0,hi,hz0,hz1,hz2⟩:=info_parts Tryz.info5
 have A0:Ap w.heap.size w.heap.size (PC 2 true g d e) (.slice none 0 0) [] w (w.alloc (.cells (PC 2 true g d e) 133)):=Ap.start (World.ownsRow_nil _ _ _ _) (Nat.le_refl _)
 unfold PV
 go_enter Tryz.func168,Tryz.ntmps168
 go_wp2_with (first|(at_builtin;refine wpList_append_lies _ rfl (.tmp 6) (.tmp 7) 136 rfl w.heap.size 5 i0 (.int .u8 0) 1 1 Tryz.underlying136 hi hz0 hz1 hz2 rfl (by decide) (.slice none 0 0) (([]:List UInt8)).length (Lib.byteCells (([]:List UInt8))) rfl (A0.alloc (.cells #[.int .u8 45] 5)).own ⟨w.heap.size+1,0,none⟩ 1 1 [.int .u8 45] rfl rfl (zTh _ _ _ (by simp)) (zDt _) (by decide) (by unfold maxLen;decide) (by decide) (A0.alloc (.cells #[.int .u8 45] 5)).bs _ rfl ?_;intro g1 cap1 w1 hown hgrow hat hlt;have A1:=(A0.alloc (.cells #[.int .u8 45] 5)).app (m:=[45]) hgrow hown (by simp only [ll];try omega) (zOe _ 45);clear hown hgrow hat hlt;generalize (Value.slice (some ⟨g1,0,none⟩) ((([]:List UInt8)).length+1) cap1)=v1 at *;have k1_0:w1.cell? ⟨w.heap.size,0,none⟩=some (.int .i64 2):=A1.cell 0;have k1_1:w1.cell? ⟨w.heap.size,1,none⟩=some (.bool true):=A1.cell 1;have k1_2:w1.cell? ⟨w.heap.size,2,none⟩=some (.bool g):=A1.cell 2;have k1_3:w1.cell? ⟨w.heap.size,3,none⟩=some (.string (B d)):=A1.cell 3;have k1_4:w1.cell? ⟨w.heap.size,4,none⟩=some (.int .i64 e):=A1.cell 4)|(at_builtin;refine Lib.wpList_append_own_string _ rfl (.tmp 16) (.const (.string ⟨#[105,110,102]⟩)) 136 9 rfl w.heap.size 5 i0 Tryz.underlying136 Tryz.underlying9 hi hz0 hz1 hz2 v1 (([]++[45])).length (Lib.byteCells (([]++[45]))) rfl A1.own (B [105,110,102]) rfl (by rw [zGa];unfold maxLen;simp only [ll];omega) (by rw [zGa];simp only [ll];omega) A1.bs ?_;intro v2 w2 hown hgrow hq;have A2:=A1.app (m:=[105,110,102]) hgrow hown (by simp only [zGa,List.length_append,List.length_cons,List.length_nil];try omega) (zEf _ _);clear hown hgrow hq;have hcv:=zSh A2.own (by simp)))
 go_ret
 exact ⟨rfl,A2.bel⟩
theorem zV5 (g:Bool)(d:List UInt8)(e:Int)(w:World)(hd:d.length<100000) :
  CB 168 #[PV 3 true g d e] w (.string (B ([45]++zOm g d))):=by
 have htl:=zRa
 obtain ⟨i0,hi,hz0,hz1,hz2⟩:=info_parts Tryz.info5
 have A0:Ap w.heap.size w.heap.size (PC 3 true g d e) (.slice none 0 0) [] w (w.alloc (.cells (PC 3 true g d e) 133)):=Ap.start (World.ownsRow_nil _ _ _ _) (Nat.le_refl _)
 unfold PV
 go_enter Tryz.func168,Tryz.ntmps168
 go_wp2_with (first|(at_builtin;refine wpList_append_lies _ rfl (.tmp 6) (.tmp 7) 136 rfl w.heap.size 5 i0 (.int .u8 0) 1 1 Tryz.underlying136 hi hz0 hz1 hz2 rfl (by decide) (.slice none 0 0) (([]:List UInt8)).length (Lib.byteCells (([]:List UInt8))) rfl (A0.alloc (.cells #[.int .u8 45] 5)).own ⟨w.heap.size+1,0,none⟩ 1 1 [.int .u8 45] rfl rfl (zTh _ _ _ (by simp)) (zDt _) (by decide) (by unfold maxLen;decide) (by decide) (A0.alloc (.cells #[.int .u8 45] 5)).bs _ rfl ?_;intro g1 cap1 w1 hown hgrow hat hlt;have A1:=(A0.alloc (.cells #[.int .u8 45] 5)).app (m:=[45]) hgrow hown (by simp only [ll];try omega) (zOe _ 45);clear hown hgrow hat hlt;generalize (Value.slice (some ⟨g1,0,none⟩) ((([]:List UInt8)).length+1) cap1)=v1 at *;have k1_0:w1.cell? ⟨w.heap.size,0,none⟩=some (.int .i64 3):=A1.cell 0;have k1_1:w1.cell? ⟨w.heap.size,1,none⟩=some (.bool true):=A1.cell 1;have k1_2:w1.cell? ⟨w.heap.size,2,none⟩=some (.bool g):=A1.cell 2;have k1_3:w1.cell? ⟨w.heap.size,3,none⟩=some (.string (B d)):=A1.cell 3;have k1_4:w1.cell? ⟨w.heap.size,4,none⟩=some (.int .i64 e):=A1.cell 4)|(go_at_call 202;refine (zZk w.heap.size 3 true g d e v1 ([]++[45]) _ (by simp) hd A1.own A1.bs).mono ?_;rintro x w8 ⟨v8,rfl,hown8,hb8⟩;have hcv:=zSh hown8 (by rw [List.length_append];have:=zDr g d;omega)))
 go_ret
 exact ⟨rfl,A1.bel.trans hb8⟩
theorem zU5 (g:Bool)(d:List UInt8)(e:Int)(c:Int)(w:World)(hd:d.length<100000)(h2:(c==2)=false)(h3:(c==3)=false)(he:-9223372036854775808<=e/\e<=9223372036854775807)(htab:Lib.TabIs Tryz.prog w "internal/strconv.uint64pow10" .u64 Lib.pow10Tab) :
  CB 168 #[PV c true g d e] w (.string (B ([45]++zPt d e))):=by
 have htl:=zRa
 obtain ⟨i0,hi,hz0,hz1,hz2⟩:=info_parts Tryz.info5
 have A0:Ap w.heap.size w.heap.size (PC c true g d e) (.slice none 0 0) [] w (w.alloc (.cells (PC c true g d e) 133)):=Ap.start (World.ownsRow_nil _ _ _ _) (Nat.le_refl _)
 have hTB:=Lib.tabBelow_of_tabIs htab
 unfold PV
 go_enter Tryz.func168,Tryz.ntmps168
 go_wp2_with (first|(at_builtin;refine wpList_append_lies _ rfl (.tmp 6) (.tmp 7) 136 rfl w.heap.size 5 i0 (.int .u8 0) 1 1 Tryz.underlying136 hi hz0 hz1 hz2 rfl (by decide) (.slice none 0 0) (([]:List UInt8)).length (Lib.byteCells (([]:List UInt8))) rfl (A0.alloc (.cells #[.int .u8 45] 5)).own ⟨w.heap.size+1,0,none⟩ 1 1 [.int .u8 45] rfl rfl (zTh _ _ _ (by simp)) (zDt _) (by decide) (by unfold maxLen;decide) (by decide) (A0.alloc (.cells #[.int .u8 45] 5)).bs _ rfl ?_;intro g1 cap1 w1 hown hgrow hat hlt;have A1:=(A0.alloc (.cells #[.int .u8 45] 5)).app (m:=[45]) hgrow hown (by simp only [ll];try omega) (zOe _ 45);clear hown hgrow hat hlt;generalize (Value.slice (some ⟨g1,0,none⟩) ((([]:List UInt8)).length+1) cap1)=v1 at *;have k1_0:w1.cell? ⟨w.heap.size,0,none⟩=some (.int .i64 c):=A1.cell 0;have k1_1:w1.cell? ⟨w.heap.size,1,none⟩=some (.bool true):=A1.cell 1;have k1_2:w1.cell? ⟨w.heap.size,2,none⟩=some (.bool g):=A1.cell 2;have k1_3:w1.cell? ⟨w.heap.size,3,none⟩=some (.string (B d)):=A1.cell 3;have k1_4:w1.cell? ⟨w.heap.size,4,none⟩=some (.int .i64 e):=A1.cell 4)|(go_at_call 203;refine (zAl w.heap.size c true g d e v1 ([]++[45]) _ (by simp) hd he A1.own A1.bs (hTB.on A1.bel)).mono ?_;rintro x w8 ⟨v8,rfl,hown8,hb8⟩;have hcv:=zSh hown8 (by rw [List.length_append];have:=zOr d e;omega)))
 go_ret
 exact ⟨rfl,A1.bel.trans hb8⟩
theorem zZ5 (g:Bool)(d:List UInt8)(e:Int)(w:World)(hd:d.length<100000) :
  CB 168 #[PV 2 false g d e] w (.string (B ([105,110,102]))):=by
 have htl:=zRa
 obtain ⟨i0,hi,hz0,hz1,hz2⟩:=info_parts Tryz.info5
 have A0:Ap w.heap.size w.heap.size (PC 2 false g d e) (.slice none 0 0) [] w (w.alloc (.cells (PC 2 false g d e) 133)):=Ap.start (World.ownsRow_nil _ _ _ _) (Nat.le_refl _)
 unfold PV
 go_enter Tryz.func168,Tryz.ntmps168
 go_wp2_with (first|(at_builtin;refine Lib.wpList_append_own_string _ rfl (.tmp 16) (.const (.string ⟨#[105,110,102]⟩)) 136 9 rfl w.heap.size 5 i0 Tryz.underlying136 Tryz.underlying9 hi hz0 hz1 hz2 (.slice none 0 0) (([]:List UInt8)).length (Lib.byteCells (([]:List UInt8))) rfl A0.own (B [105,110,102]) rfl (by rw [zGa];unfold maxLen;simp only [ll];omega) (by rw [zGa];simp only [ll];omega) A0.bs ?_;intro v2 w2 hown hgrow hq;have A2:=A0.app (m:=[105,110,102]) hgrow hown (by simp only [zGa,List.length_append,List.length_cons,List.length_nil];try omega) (zEf _ _);clear hown hgrow hq;have hcv:=zSh A2.own (by simp)))
 go_ret
 exact ⟨rfl,A2.bel⟩
theorem zY5 (g:Bool)(d:List UInt8)(e:Int)(w:World)(hd:d.length<100000) :
  CB 168 #[PV 3 false g d e] w (.string (B (zOm g d))):=by
 have htl:=zRa
 obtain ⟨i0,hi,hz0,hz1,hz2⟩:=info_parts Tryz.info5
 have A0:Ap w.heap.size w.heap.size (PC 3 false g d e) (.slice none 0 0) [] w (w.alloc (.cells (PC 3 false g d e) 133)):=Ap.start (World.ownsRow_nil _ _ _ _) (Nat.le_refl _)
 unfold PV
 go_enter Tryz.func168,Tryz.ntmps168
 go_wp2_with (first|(go_at_call 202;refine (zZk w.heap.size 3 false g d e (.slice none 0 0) [] _ (by simp) hd A0.own A0.bs).mono ?_;rintro x w8 ⟨v8,rfl,hown8,hb8⟩;have hcv:=zSh hown8 (by rw [List.length_append];have:=zDr g d;omega)))
 go_ret
 exact ⟨rfl,A0.bel.trans hb8⟩
theorem zX5 (g:Bool)(d:List UInt8)(e:Int)(c:Int)(w:World)(hd:d.length<100000)(h2:(c==2)=false)(h3:(c==3)=false)(he:-9223372036854775808<=e/\e<=9223372036854775807)(htab:Lib.TabIs Tryz.prog w "internal/strconv.uint64pow10" .u64 Lib.pow10Tab) :
  CB 168 #[PV c false g d e] w (.string (B (zPt d e))):=by
 have htl:=zRa
 obtain ⟨i0,hi,hz0,hz1,hz2⟩:=info_parts Tryz.info5
 have A0:Ap w.heap.size w.heap.size (PC c false g d e) (.slice none 0 0) [] w (w.alloc (.cells (PC c false g d e) 133)):=Ap.start (World.ownsRow_nil _ _ _ _) (Nat.le_refl _)
 have hTB:=Lib.tabBelow_of_tabIs htab
 unfold PV
 go_enter Tryz.func168,Tryz.ntmps168
 go_wp2_with (first|(go_at_call 203;refine (zAl w.heap.size c false g d e (.slice none 0 0) [] _ (by simp) hd he A0.own A0.bs (hTB.on A0.bel)).mono ?_;rintro x w8 ⟨v8,rfl,hown8,hb8⟩;have hcv:=zSh hown8 (by rw [List.length_append];have:=zOr d e;omega)))
 go_ret
 exact ⟨rfl,A0.bel.trans hb8⟩
theorem zF0 (c:Int)(s g:Bool)(d:List UInt8)(e:Int)(w:World)(hd:d.length<100000)(he:-9223372036854775808<=e/\e<=9223372036854775807)(htab:Lib.TabIs Tryz.prog w "internal/strconv.uint64pow10" .u64 Lib.pow10Tab) :
  CB 168 #[PV c s g d e] w (.string (B (zOh c s g d e))):=by
 unfold zOh zX9
 by_cases h2:c=2
 ·rw [if_pos h2];subst h2
  cases s
  ·exact zZ5 g d e w hd
  ·exact zW5 g d e w hd
 ·rw [if_neg h2]
  by_cases h3:c=3
  ·rw [if_pos h3];subst h3
   cases s
   ·exact zY5 g d e w hd
   ·exact zV5 g d e w hd
  ·rw [if_neg h3]
   cases s
   ·exact zX5 g d e c w hd (beq_eq_false_iff_ne.2 h2) (beq_eq_false_iff_ne.2 h3) he htab
   ·exact zU5 g d e c w hd (beq_eq_false_iff_ne.2 h2) (beq_eq_false_iff_ne.2 h3) he htab
theorem zH0 {c:Int}{s g:Bool}{d:List UInt8}{e:Int}(hd:d.length<=4000)(he:-9223372036854775808<=e/\e<=9223372036854775807):(zOh c s g d e).length<=4100:=by
 have hi:=Lib.itoa_length_le e he.1 he.2
 have h1:(zX9 c g d e).length<=4050:=by
  unfold zX9
  split
  ·simp
  ·split
   ·unfold zOm
    simp only [List.length_append,List.length_cons]
    split<;>split<;>simp<;>omega
   ·unfold zPt dgT exT
    simp only [List.length_append]
    split<;>split<;>simp<;>omega
 unfold zOh
 rw [List.length_append]
 split<;>simp<;>omega
theorem zG8 (c:Int)(s g:Bool)(d:List UInt8)(e:Int)(w:World)(hd:d.length<=4000)(T:List UInt8)
  (c24:∀ W,Below w.heap.size w W->CB 168 #[PV c s g d e] W (.string (B T)))
  (c9:∀ W,CB 169 #[.string (B T)] W (.tuple #[PV c s g d e,.int .i64 0])) :
  CB 101 #[PV c s g d e] w (.tuple #[.string (B T),.int .i64 0]):=by
 have htl:=zRa
 have hsz:=zGa d
 have hdi:(d.length:Int)<=4000:=by omega
 unfold PV at c24 c9 ⊢
 have hsm:=zAd
 go_enter Tryz.func101,Tryz.ntmps101
 go_wp2_with (first|(go_at_call 168;refine wk w (c24 _ bgo) ?_;intro w1 hb1 _ _ _ _ hA1 _;clear hb1)|(go_at_call 169;refine wk w (c9 _) ?_;intro w2 hb2 _ _ _ _ hA2 _;clear hb2))
 go_ret2
 exact ⟨rfl,bgo⟩
def jnP (p:Prt):Prop:=p.dig.length<=4000/\zVr (zOh p.cls p.sg p.sn p.dig p.ex)=some p
theorem zJy {l:List UInt8}{p:Prt}(h:zVr l=some p):cutE l=0/\cutV l=p:=by
 unfold cutE cutV
 have hl:¬ 4000<l.length:=by
  intro h2;unfold zVr at h;rw [if_pos h2] at h;cases h
 rw [if_neg hl,h];exact ⟨rfl,rfl⟩
def Tb10 (w:World):Prop:=Lib.TabIs Tryz.prog w "internal/strconv.uint64pow10" .u64 Lib.pow10Tab
theorem Tb10.next {w w':World}(h:Tb10 w)(hb:Below w.heap.size w w'):Tb10 w':=Lib.tabBelow_of_tabIs h w' hb
theorem join_y (p:Prt)(w:World)(hT:Tb10 w)(he:-9223372036854775808<=p.ex/\p.ex<=9223372036854775807)(h:jnP p) :
  CB 101 #[p.v] w (.tuple #[.string (B (zOh p.cls p.sg p.sn p.dig p.ex)),.int .i64 0]):=by
 obtain ⟨e1,e2⟩:=zJy h.2
 have c9:=fun W=>zT9 (zOh p.cls p.sg p.sn p.dig p.ex) W (by have:=zH0 (c:=p.cls) (s:=p.sg) (g:=p.sn) h.1 he;omega)
 rw [e1,e2] at c9
 exact zG8 _ _ _ _ _ w h.1 _ (fun W hW=>zF0 _ _ _ _ _ W (by have:=h.1;omega) he (hT.next hW)) c9
end Go.Proofs.YtahfkpjhlbiamaaGreatDoor
