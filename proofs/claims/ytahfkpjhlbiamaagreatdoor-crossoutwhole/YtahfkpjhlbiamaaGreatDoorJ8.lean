/-
  Texts that the proof leans on.
-/
import Derived.Test.YtahfkpjhlbiamaaGreatDoorJ5
import Derived.Test.YtahfkpjhlbiamaaGreatDoorJ1
import Derived.RegionTactic
import Derived.ChangeAlike
import Derived.BigRegion
import Derived.Laws.Strings2
import Derived.Lib.AppendStr
import Derived.Lib.Builder
import Derived.Deep.AppendLies
import Derived.Lib.ItoaLen
set_option maxHeartbeats 8000000
set_option linter.unusedVariables false
set_option linter.unusedSimpArgs false
set_option linter.unusedSectionVars false
set_option maxRecDepth 20000
namespace Go.Proofs.YtahfkpjhlbiamaaGreatDoor
open Go.RowKit
structure Prt where
 cls:Int
 sg:Bool
 sn:Bool
 dig:List UInt8
 ex:Int
def Prt.v (p:Prt):Value:=PV p.cls p.sg p.sn p.dig p.ex
def Prt.zero:Prt:=⟨0,false,false,[],0⟩
def zB7 (z:Bool)(r:List UInt8):Option Prt :=
 if zKl r then some ⟨1,z,false,finD r,finE r⟩
 else if zHy (sml r) then some ⟨2,z,false,[],0⟩
 else if zV9 (sml r) then some ⟨3,z,Lib.hasPrefix (sml r) [115],bar (paD (nanR (sml r))),0⟩
 else none
def zYs (l:List UInt8):Option Prt:=if 4000<l.length then none else zB7 (gsgB l) (sgR l)
def cutE (l:List UInt8):Int:=if 4000<l.length then 4 else if (zYs l).isSome then 0 else 2
def cutV (l:List UInt8):Prt:=(zYs l).getD Prt.zero
theorem zG5 (l:List UInt8)(w:World)(hs:l.length<10001)(hl:4000<l.length) :
  CB 169 #[.string (B l)] w (.tuple #[PV 0 false false [] 0,.int .i64 4]):=by
 have hsz:=zFa l
 have hi:(4000:Int)<l.length:=by omega
 unfold PV
 go_enter Tryz.func169,Tryz.ntmps169
 go_wp2
 exact bodyPost_ret (v:=.tuple #[.agg #[.int .i64 0,.bool false,.bool false,.string ⟨#[]⟩,.int .i64 0],.int .i64 4]) (by simp only [results,Tryz.results169];go_simp) rfl ⟨rfl,bgo⟩
theorem yZb (l:List UInt8)(w:World)(hl:l.length<=4000)(hf:zKl (sgR l)=true) :
  CB 169 #[.string (B l)] w (.tuple #[PV 1 (gsgB l) false (finD (sgR l)) (finE (sgR l)),.int .i64 0]):=by
 have hsz:=zFa l
 have hi:(l.length:Int)<=4000:=by omega
 have hsl:=zJr l
 have c16:=fun w=>zYg l w (by omega)
 have c17:=fun w=>zSy (sgR l) w (by omega)
 rw [hf] at c17
 simp only [if_true] at c17
 unfold PV at c17 ⊢
 generalize finD (sgR l)=D at *
 generalize finE (sgR l)=E at *
 generalize gsgB l=z at *
 generalize sgR l=R at *
 have hsm:∀ (W:World) (b i:Nat) (v:Value),(W.setCell ⟨b,i,none⟩ v).cell? ⟨b,i,none⟩=(W.cell? ⟨b,i,none⟩).map fun _=>v:=fun W b i v=>zGd W b i v
 go_enter Tryz.func169,Tryz.ntmps169
 go_wp2_with (first|(go_at_call 204;refine wk w (c16 _) ?_;intro w1 hb1 _ _ _ _ hA1 _;clear hb1)|(go_at_call 205;refine wk w (c17 _) ?_;intro w2 hb2 _ _ _ _ hA2 _;clear hb2))
 exact bodyPost_ret (v:=.tuple #[.agg #[.int .i64 1,.bool z,.bool false,.string (B D),.int .i64 E],.int .i64 0]) (by simp only [results,Tryz.results169];go_simp) rfl ⟨rfl,bgo⟩
theorem zA7 (l:List UInt8)(w:World)(hl:l.length<=4000)(hf:zKl (sgR l)=false)(C:Int)(G:Bool)(D:List UInt8)(hv:woV (sgR l)=PV C false G D 0)(hb:woB (sgR l)=true) :
  CB 169 #[.string (B l)] w (.tuple #[PV C (gsgB l) G D 0,.int .i64 0]):=by
 have hsz:=zFa l
 have hi:(l.length:Int)<=4000:=by omega
 have hsl:=zJr l
 have c16:=fun w=>zYg l w (by omega)
 have c17:=fun w=>zSy (sgR l) w (by omega)
 have c18:=fun w=>zNo (sgR l) w (by omega)
 rw [hf] at c17
 rw [hv,hb] at c18
 simp only [Bool.false_eq_true,if_false] at c17
 unfold PV at c17 c18 ⊢
 clear hv hb hf
 generalize gsgB l=z at *
 generalize sgR l=R at *
 have hsm:=zGd
 go_enter Tryz.func169,Tryz.ntmps169
 go_wp2_with (first|(go_at_call 204;refine wk w (c16 _) ?_;intro w1 hb1 _ _ _ _ hA1 _;clear hb1)|(go_at_call 205;refine wk w (c17 _) ?_;intro w2 hb2 _ _ _ _ hA2 _;clear hb2)|(go_at_call 206;refine wk w (c18 _) ?_;intro w3 hb3 _ _ _ _ hA3 _;obtain ⟨_,_⟩:=zf hb3 w2.heap.size;clear hb3))
 exact bodyPost_ret (v:=.tuple #[.agg #[.int .i64 C,.bool z,.bool G,.string (B D),.int .i64 0],.int .i64 0]) (by simp only [results,Tryz.results169];go_simp) rfl ⟨rfl,bgo⟩
theorem cut_no (l:List UInt8)(w:World)(hl:l.length<=4000)(hf:zKl (sgR l)=false)(hv:woV (sgR l)=PV 0 false false [] 0)(hb:woB (sgR l)=false) :
  CB 169 #[.string (B l)] w (.tuple #[PV 0 false false [] 0,.int .i64 2]):=by
 have hsz:=zFa l
 have hi:(l.length:Int)<=4000:=by omega
 have hsl:=zJr l
 have c16:=fun w=>zYg l w (by omega)
 have c17:=fun w=>zSy (sgR l) w (by omega)
 have c18:=fun w=>zNo (sgR l) w (by omega)
 rw [hf] at c17
 rw [hv,hb] at c18
 simp only [Bool.false_eq_true,if_false] at c17
 unfold PV at c17 c18 ⊢
 clear hv hb hf
 generalize gsgB l=z at *
 generalize sgR l=R at *
 have hsm:=zGd
 go_enter Tryz.func169,Tryz.ntmps169
 go_wp2_with (first|(go_at_call 204;refine wk w (c16 _) ?_;intro w1 hb1 _ _ _ _ hA1 _;clear hb1)|(go_at_call 205;refine wk w (c17 _) ?_;intro w2 hb2 _ _ _ _ hA2 _;clear hb2)|(go_at_call 206;refine wk w (c18 _) ?_;intro w3 hb3 _ _ _ _ hA3 _;obtain ⟨_,_⟩:=zf hb3 w2.heap.size;clear hb3))
 exact bodyPost_ret (v:=.tuple #[.agg #[.int .i64 0,.bool false,.bool false,.string ⟨#[]⟩,.int .i64 0],.int .i64 2]) (by simp only [results,Tryz.results169];go_simp) rfl ⟨rfl,bgo⟩
theorem yAc (l:List UInt8)(w:World)(hs:l.length<10001) :
  CB 169 #[.string (B l)] w (.tuple #[(cutV l).v,.int .i64 (cutE l)]):=by
 unfold cutV cutE zYs
 by_cases hl:4000<l.length
 ·rw [if_pos hl,if_pos hl]
  exact zG5 l w hs hl
 ·rw [if_neg hl,if_neg hl]
  unfold zB7
  by_cases hf:zKl (sgR l)=true
  ·rw [if_pos hf]
   exact yZb l w (by omega) hf
  ·rw [if_neg hf]
   have hf':zKl (sgR l)=false:=by simpa using hf
   by_cases h1:zHy (sml (sgR l))=true
   ·rw [if_pos h1]
    exact zA7 l w (by omega) hf' 2 false [] (by unfold woV;rw [if_pos h1]) (by unfold woB;rw [h1];rfl)
   ·rw [if_neg h1]
    by_cases h2:zV9 (sml (sgR l))=true
    ·rw [if_pos h2]
     exact zA7 l w (by omega) hf' 3 _ _ (by unfold woV;rw [if_neg h1,if_pos h2];rfl) (by unfold woB;rw [h2,Bool.or_true])
    ·rw [if_neg h2]
     exact cut_no l w (by omega) hf' (by unfold woV;rw [if_neg h1,if_neg h2]) (by unfold woB;rw [show zHy (sml (sgR l))=false by simpa using h1,show zV9 (sml (sgR l))=false by simpa using h2];rfl)
structure Ap (Bs H:Nat) (cs:Array Value) (v:Value) (l:List UInt8) (w0 w:World):Prop where
 own:w.ownsRow Bs 5 1 v l.length (Lib.byteCells l)
 box:w.heap[H]?=some (.cells cs 133)
 bel:Below Bs w0 w
 bs:Bs<=w.heap.size
theorem Ap.lt {Bs H:Nat}{cs:Array Value}{v:Value}{l:List UInt8}{w0 w:World}(h:Ap Bs H cs v l w0 w):H<w.heap.size:=by
 rcases Nat.lt_or_ge H w.heap.size with h'|h'
 ·exact h'
 ·have:=h.box;rw [Array.getElem?_eq_none h'] at this;cases this
theorem Ap.cell {Bs H:Nat}{cs:Array Value}{v:Value}{l:List UInt8}{w0 w:World}(h:Ap Bs H cs v l w0 w)(i:Nat):w.cell? ⟨H,i,none⟩=cs[i]?:=by
 unfold World.cell?
 have hh:=h.box
 simp [hh]
theorem Ap.alloc {Bs H:Nat}{cs:Array Value}{v:Value}{l:List UInt8}{w0 w:World}(h:Ap Bs H cs v l w0 w)(o:Obj):Ap Bs H cs v l w0 (w.alloc o) :=
 ⟨h.own.alloc o,by
  have:=h.lt
  rw [show (w.alloc o).heap[H]?=(w.heap.push o)[H]? from rfl,Array.getElem?_push_lt this,← Array.getElem?_eq_getElem this]
  exact h.box,h.bel.alloc h.bs _,by simp;have:=h.bs;omega⟩
theorem Ap.far {Bs H:Nat}{cs:Array Value}{v:Value}{l:List UInt8}{w0 w:World}(h:Ap Bs H cs v l w0 w):v.ownBlock≠some H:=Lib.ownBlock_ne h.own h.box (by decide)
theorem Ap.app {Bs H:Nat}{cs:Array Value}{v v':Value}{l m:List UInt8}{w0 w w1:World}{n:Nat}{xs:List Value}(h:Ap Bs H cs v l w0 w)(hg:w.grownBy w1 v.ownBlock)(ho:w1.ownsRow Bs 5 1 v' n xs)(hn:n=(l++m).length)(hx:xs=Lib.byteCells (l++m)):Ap Bs H cs v' (l++m) w0 w1:=by
 subst hn hx
 refine ⟨ho,?_,h.bel.grown hg h.bs fun k hk=>(h.own.lt k hk).1,Nat.le_trans h.bs hg.size⟩
 rw [hg.block H h.lt (fun e=>h.far e.symm)]
 exact h.box
theorem zJe (l:List UInt8)(b:UInt8):Lib.byteCells l++[.int .u8 b.toNat]=Lib.byteCells (l++[b]):=by simp [Lib.byteCells]
theorem zWe (l m:List UInt8):Lib.byteCells l++Lib.strCells (B m)=Lib.byteCells (l++m):=by
 simp [Lib.byteCells,Lib.strCells,B]
theorem zVh (W:World)(b:Int)(H':Nat)(h:W.heap.size=H'):∀ j u,[Value.int .u8 b][j]?=some u->(W.alloc (.cells #[.int .u8 b] 5)).cell? ((⟨H',0,none⟩:Addr).add j)=some u:=by
 subst h
 exact World.news_of_block (w:=W.alloc (.cells #[.int .u8 b] 5)) (cs:=#[.int .u8 b]) (t:=5) (fr:=(0,0)) (by
  show (W.heap.push _)[W.heap.size]?=_
  simp)
theorem zHu (b:Int):∀ u ∈ [Value.int .u8 b],u.oneCell'=true:=by simp [Value.oneCell']
theorem Tryz.info5:(Tryz.prog.info? 5).map (fun i=>(i.zero,i.size,i.bytes))=some (some (.int .u8 0),1,1):=by kernel_rfl
def exT (e:Int):List UInt8:=if e=0 then [] else 101::Lib.itoa e
def dgT (d:List UInt8):List UInt8:=if d=[] then [48] else d
abbrev PC (c:Int)(s g:Bool)(d:List UInt8)(e:Int):Array Value:=#[.int .i64 c,.bool s,.bool g,.string (B d),.int .i64 e]
theorem Ap.start {Bs:Nat}{cs:Array Value}{v:Value}{l:List UInt8}{w:World}(hown:w.ownsRow Bs 5 1 v l.length (Lib.byteCells l))(hb:Bs<=w.heap.size):Ap Bs w.heap.size cs v l w (w.alloc (.cells cs 133)) :=
 ⟨hown.alloc _,by show (w.heap.push _)[w.heap.size]?=_;simp,(Below.refl _ _).alloc hb _,by simp;omega⟩
theorem zQ0 (Bs:Nat)(c:Int)(s g:Bool)(v:Value)(l:List UInt8)(w:World)(hl:l.length<100000)(hown:w.ownsRow Bs 5 1 v l.length (Lib.byteCells l))(hb:Bs<=w.heap.size) :
  Calls Tryz.prog 203 #[v,PV c s g [] 0] w fun x w'=>∃ v',x=.returned v'/\w'.ownsRow Bs 5 1 v' (l++[48]).length (Lib.byteCells (l++[48]))/\Below Bs w w':=by
 have htl:=zSa
 obtain ⟨i0,hi,hz0,hz1,hz2⟩:=info_parts Tryz.info5
 unfold PV
 have A0:Ap Bs w.heap.size (PC c s g [] 0) v l w (w.alloc (.cells (PC c s g [] 0) 133)):=Ap.start hown hb
 clear hown
 go_enter Tryz.func203,Tryz.ntmps203
 go_wp2_with (first|(at_builtin;refine wpList_append_lies _ rfl (.tmp 8) (.tmp 9) 136 rfl Bs 5 i0 (.int .u8 0) 1 1 Tryz.underlying136 hi hz0 hz1 hz2 rfl (by decide) v (l).length (Lib.byteCells (l)) rfl (A0.alloc (.cells #[.int .u8 48] 5)).own ⟨w.heap.size+1,0,none⟩ 1 1 [.int .u8 48] rfl rfl (zVh _ _ _ (by simp)) (zHu _) (by decide) (by unfold maxLen;omega) (by omega) (A0.alloc (.cells #[.int .u8 48] 5)).bs _ rfl ?_;intro g1 cap1 w1 hown hgrow hat hlt;have A1:=(A0.alloc (.cells #[.int .u8 48] 5)).app (m:=[48]) hgrow hown (by simp only [List.length_append,List.length_cons,List.length_nil];try omega) (zJe _ 48);clear hown hgrow hat hlt;generalize (Value.slice (some ⟨g1,0,none⟩) ((l).length+1) cap1)=v1 at *;have k1_0:w1.cell? ⟨w.heap.size,0,none⟩=some (.int .i64 c):=A1.cell 0;have k1_1:w1.cell? ⟨w.heap.size,1,none⟩=some (.bool s):=A1.cell 1;have k1_2:w1.cell? ⟨w.heap.size,2,none⟩=some (.bool g):=A1.cell 2;have k1_3:w1.cell? ⟨w.heap.size,3,none⟩=some (.string (B [])):=A1.cell 3;have k1_4:w1.cell? ⟨w.heap.size,4,none⟩=some (.int .i64 0):=A1.cell 4)|(at_builtin;refine Lib.wpList_append_own_string _ rfl (.tmp 11) (.tmp 13) 136 9 rfl Bs 5 i0 Tryz.underlying136 Tryz.underlying9 hi hz0 hz1 hz2 v1 (l++[48]).length (Lib.byteCells (l++[48])) rfl A1.own (B []) rfl (by rw [zFa];unfold maxLen;simp only [List.length_append,List.length_cons,List.length_nil];omega) (by rw [zFa];simp only [List.length_append,List.length_cons,List.length_nil];omega) A1.bs ?_;intro v2 w2 hown hgrow hq;have A2:=A1.app (m:=[]) hgrow hown (by simp only [zFa,List.length_append,List.length_cons,List.length_nil];try omega) (zWe _ _);clear hown hgrow hq;have k2_0:w2.cell? ⟨w.heap.size,0,none⟩=some (.int .i64 c):=A2.cell 0;have k2_1:w2.cell? ⟨w.heap.size,1,none⟩=some (.bool s):=A2.cell 1;have k2_2:w2.cell? ⟨w.heap.size,2,none⟩=some (.bool g):=A2.cell 2;have k2_3:w2.cell? ⟨w.heap.size,3,none⟩=some (.string (B [])):=A2.cell 3;have k2_4:w2.cell? ⟨w.heap.size,4,none⟩=some (.int .i64 0):=A2.cell 4))
 rw [List.append_nil] at A2
 go_ret
 exact ⟨v2,rfl,A2.own,A2.bel⟩
theorem zP0 (Bs:Nat)(c:Int)(s g:Bool)(e:Int)(v:Value)(l:List UInt8)(w:World)(hl:l.length<100000)(hown:w.ownsRow Bs 5 1 v l.length (Lib.byteCells l))(hb:Bs<=w.heap.size)(he:(e != 0)=true)(he1:-9223372036854775808<=e/\e<=9223372036854775807)(htab:Lib.TabBelow Tryz.prog Bs w "internal/strconv.uint64pow10" .u64 Lib.pow10Tab) :
  Calls Tryz.prog 203 #[v,PV c s g [] e] w fun x w'=>∃ v',x=.returned v'/\w'.ownsRow Bs 5 1 v' (l++([48]++101::Lib.itoa e)).length (Lib.byteCells (l++([48]++101::Lib.itoa e)))/\Below Bs w w':=by
 have htl:=zSa
 obtain ⟨i0,hi,hz0,hz1,hz2⟩:=info_parts Tryz.info5
 unfold PV
 have A0:Ap Bs w.heap.size (PC c s g [] e) v l w (w.alloc (.cells (PC c s g [] e) 133)):=Ap.start hown hb
 clear hown
 go_enter Tryz.func203,Tryz.ntmps203
 go_wp2_with (first|(at_builtin;refine wpList_append_lies _ rfl (.tmp 8) (.tmp 9) 136 rfl Bs 5 i0 (.int .u8 0) 1 1 Tryz.underlying136 hi hz0 hz1 hz2 rfl (by decide) v (l).length (Lib.byteCells (l)) rfl (A0.alloc (.cells #[.int .u8 48] 5)).own ⟨w.heap.size+1,0,none⟩ 1 1 [.int .u8 48] rfl rfl (zVh _ _ _ (by simp)) (zHu _) (by decide) (by unfold maxLen;omega) (by omega) (A0.alloc (.cells #[.int .u8 48] 5)).bs _ rfl ?_;intro g1 cap1 w1 hown hgrow hat hlt;have A1:=(A0.alloc (.cells #[.int .u8 48] 5)).app (m:=[48]) hgrow hown (by simp only [List.length_append,List.length_cons,List.length_nil];try omega) (zJe _ 48);clear hown hgrow hat hlt;generalize (Value.slice (some ⟨g1,0,none⟩) ((l).length+1) cap1)=v1 at *;have k1_0:w1.cell? ⟨w.heap.size,0,none⟩=some (.int .i64 c):=A1.cell 0;have k1_1:w1.cell? ⟨w.heap.size,1,none⟩=some (.bool s):=A1.cell 1;have k1_2:w1.cell? ⟨w.heap.size,2,none⟩=some (.bool g):=A1.cell 2;have k1_3:w1.cell? ⟨w.heap.size,3,none⟩=some (.string (B [])):=A1.cell 3;have k1_4:w1.cell? ⟨w.heap.size,4,none⟩=some (.int .i64 e):=A1.cell 4)|(at_builtin;refine Lib.wpList_append_own_string _ rfl (.tmp 11) (.tmp 13) 136 9 rfl Bs 5 i0 Tryz.underlying136 Tryz.underlying9 hi hz0 hz1 hz2 v1 (l++[48]).length (Lib.byteCells (l++[48])) rfl A1.own (B []) rfl (by rw [zFa];unfold maxLen;simp only [List.length_append,List.length_cons,List.length_nil];omega) (by rw [zFa];simp only [List.length_append,List.length_cons,List.length_nil];omega) A1.bs ?_;intro v2 w2 hown hgrow hq;have A2:=A1.app (m:=[]) hgrow hown (by simp only [zFa,List.length_append,List.length_cons,List.length_nil];try omega) (zWe _ _);clear hown hgrow hq;have k2_0:w2.cell? ⟨w.heap.size,0,none⟩=some (.int .i64 c):=A2.cell 0;have k2_1:w2.cell? ⟨w.heap.size,1,none⟩=some (.bool s):=A2.cell 1;have k2_2:w2.cell? ⟨w.heap.size,2,none⟩=some (.bool g):=A2.cell 2;have k2_3:w2.cell? ⟨w.heap.size,3,none⟩=some (.string (B [])):=A2.cell 3;have k2_4:w2.cell? ⟨w.heap.size,4,none⟩=some (.int .i64 e):=A2.cell 4)|(at_builtin;refine wpList_append_lies _ rfl (.tmp 18) (.tmp 19) 136 rfl Bs 5 i0 (.int .u8 0) 1 1 Tryz.underlying136 hi hz0 hz1 hz2 rfl (by decide) v2 (l++[48]++[]).length (Lib.byteCells (l++[48]++[])) rfl (A2.alloc (.cells #[.int .u8 101] 5)).own ⟨w2.heap.size,0,none⟩ 1 1 [.int .u8 101] rfl rfl (zVh _ _ _ rfl) (zHu _) (by decide) (by unfold maxLen;simp only [List.length_append,List.length_cons,List.length_nil];omega) (by simp only [List.length_append,List.length_cons,List.length_nil];omega) (A2.alloc (.cells #[.int .u8 101] 5)).bs _ rfl ?_;intro g3 cap3 w3 hown hgrow hat hlt;have A3:=(A2.alloc (.cells #[.int .u8 101] 5)).app (m:=[101]) hgrow hown (by simp only [List.length_append,List.length_cons,List.length_nil];try omega) (zJe _ 101);clear hown hgrow hat hlt;generalize (Value.slice (some ⟨g3,0,none⟩) ((l++[48]++[]).length+1) cap3)=v3 at *;have k3_0:w3.cell? ⟨w.heap.size,0,none⟩=some (.int .i64 c):=A3.cell 0;have k3_1:w3.cell? ⟨w.heap.size,1,none⟩=some (.bool s):=A3.cell 1;have k3_2:w3.cell? ⟨w.heap.size,2,none⟩=some (.bool g):=A3.cell 2;have k3_3:w3.cell? ⟨w.heap.size,3,none⟩=some (.string (B [])):=A3.cell 3;have k3_4:w3.cell? ⟨w.heap.size,4,none⟩=some (.int .i64 e):=A3.cell 4)|(go_at_call 221;refine (Tryz.strconv_AppendInt_10 Bs (l++[48]++[]++[101]).length e he1.1 he1.2 v3 (Lib.byteCells (l++[48]++[]++[101])) w3 A3.own A3.bs (by simp only [List.length_append,List.length_cons,List.length_nil];omega) (htab.on A3.bel)).mono ?_;rintro x w4 ⟨v4,rfl,hown4,hb4,_⟩))
 go_ret
 refine ⟨v4,rfl,?_,A3.bel.trans hb4⟩
 have e1:Lib.byteCells (l++[48]++[]++[101])++Lib.byteCells (Lib.itoa e)=Lib.byteCells (l++([48]++101::Lib.itoa e)):=by simp [Lib.byteCells]
 have e2:(l++[48]++[]++[101]).length+(Lib.itoa e).length=(l++([48]++101::Lib.itoa e)).length:=by simp [List.length_append];try omega
 rw [e1,e2] at hown4
 exact hown4
theorem zS0 (Bs:Nat)(c:Int)(s g:Bool)(d:UInt8)(ds:List UInt8)(v:Value)(l:List UInt8)(w:World)(hl:l.length<100000)(hown:w.ownsRow Bs 5 1 v l.length (Lib.byteCells l))(hb:Bs<=w.heap.size)(hd:ds.length+1<100000) :
  Calls Tryz.prog 203 #[v,PV c s g (d::ds) 0] w fun x w'=>∃ v',x=.returned v'/\w'.ownsRow Bs 5 1 v' (l++(d::ds)).length (Lib.byteCells (l++(d::ds)))/\Below Bs w w':=by
 have htl:=zSa
 obtain ⟨i0,hi,hz0,hz1,hz2⟩:=info_parts Tryz.info5
 unfold PV
 have A0:Ap Bs w.heap.size (PC c s g (d::ds) 0) v l w (w.alloc (.cells (PC c s g (d::ds) 0) 133)):=Ap.start hown hb
 clear hown
 have k0_3:(w.alloc (.cells (PC c s g (d::ds) 0) 133)).cell? ⟨w.heap.size,3,none⟩=some (.string (B (d::ds))):=A0.cell 3
 go_enter Tryz.func203,Tryz.ntmps203
 go_wp2_with (first|(at_builtin;refine Lib.wpList_append_own_string _ rfl (.tmp 11) (.tmp 13) 136 9 rfl Bs 5 i0 Tryz.underlying136 Tryz.underlying9 hi hz0 hz1 hz2 v (l).length (Lib.byteCells (l)) rfl A0.own (B (d::ds)) rfl (by rw [zFa];unfold maxLen;simp only [List.length_append,List.length_cons,List.length_nil];omega) (by rw [zFa];simp only [List.length_append,List.length_cons,List.length_nil];omega) A0.bs ?_;intro v2 w2 hown hgrow hq;have A2:=A0.app (m:=(d::ds)) hgrow hown (by simp only [zFa,List.length_append,List.length_cons,List.length_nil];try omega) (zWe _ _);clear hown hgrow hq;have k2_0:w2.cell? ⟨w.heap.size,0,none⟩=some (.int .i64 c):=A2.cell 0;have k2_1:w2.cell? ⟨w.heap.size,1,none⟩=some (.bool s):=A2.cell 1;have k2_2:w2.cell? ⟨w.heap.size,2,none⟩=some (.bool g):=A2.cell 2;have k2_3:w2.cell? ⟨w.heap.size,3,none⟩=some (.string (B (d::ds))):=A2.cell 3;have k2_4:w2.cell? ⟨w.heap.size,4,none⟩=some (.int .i64 0):=A2.cell 4))
 go_ret
 exact ⟨v2,rfl,A2.own,A2.bel⟩
theorem zR0 (Bs:Nat)(c:Int)(s g:Bool)(d:UInt8)(ds:List UInt8)(e:Int)(v:Value)(l:List UInt8)(w:World)(hl:l.length<100000)(hown:w.ownsRow Bs 5 1 v l.length (Lib.byteCells l))(hb:Bs<=w.heap.size)(hd:ds.length+1<100000)(he:(e != 0)=true)(he1:-9223372036854775808<=e/\e<=9223372036854775807)(htab:Lib.TabBelow Tryz.prog Bs w "internal/strconv.uint64pow10" .u64 Lib.pow10Tab) :
  Calls Tryz.prog 203 #[v,PV c s g (d::ds) e] w fun x w'=>∃ v',x=.returned v'/\w'.ownsRow Bs 5 1 v' (l++(d::ds++101::Lib.itoa e)).length (Lib.byteCells (l++(d::ds++101::Lib.itoa e)))/\Below Bs w w':=by
 have htl:=zSa
 obtain ⟨i0,hi,hz0,hz1,hz2⟩:=info_parts Tryz.info5
 unfold PV
 have A0:Ap Bs w.heap.size (PC c s g (d::ds) e) v l w (w.alloc (.cells (PC c s g (d::ds) e) 133)):=Ap.start hown hb
 clear hown
 have k0_3:(w.alloc (.cells (PC c s g (d::ds) e) 133)).cell? ⟨w.heap.size,3,none⟩=some (.string (B (d::ds))):=A0.cell 3
 go_enter Tryz.func203,Tryz.ntmps203
 go_wp2_with (first|(at_builtin;refine Lib.wpList_append_own_string _ rfl (.tmp 11) (.tmp 13) 136 9 rfl Bs 5 i0 Tryz.underlying136 Tryz.underlying9 hi hz0 hz1 hz2 v (l).length (Lib.byteCells (l)) rfl A0.own (B (d::ds)) rfl (by rw [zFa];unfold maxLen;simp only [List.length_append,List.length_cons,List.length_nil];omega) (by rw [zFa];simp only [List.length_append,List.length_cons,List.length_nil];omega) A0.bs ?_;intro v2 w2 hown hgrow hq;have A2:=A0.app (m:=(d::ds)) hgrow hown (by simp only [zFa,List.length_append,List.length_cons,List.length_nil];try omega) (zWe _ _);clear hown hgrow hq;have k2_0:w2.cell? ⟨w.heap.size,0,none⟩=some (.int .i64 c):=A2.cell 0;have k2_1:w2.cell? ⟨w.heap.size,1,none⟩=some (.bool s):=A2.cell 1;have k2_2:w2.cell? ⟨w.heap.size,2,none⟩=some (.bool g):=A2.cell 2;have k2_3:w2.cell? ⟨w.heap.size,3,none⟩=some (.string (B (d::ds))):=A2.cell 3;have k2_4:w2.cell? ⟨w.heap.size,4,none⟩=some (.int .i64 e):=A2.cell 4)|(at_builtin;refine wpList_append_lies _ rfl (.tmp 18) (.tmp 19) 136 rfl Bs 5 i0 (.int .u8 0) 1 1 Tryz.underlying136 hi hz0 hz1 hz2 rfl (by decide) v2 (l++(d::ds)).length (Lib.byteCells (l++(d::ds))) rfl (A2.alloc (.cells #[.int .u8 101] 5)).own ⟨w2.heap.size,0,none⟩ 1 1 [.int .u8 101] rfl rfl (zVh _ _ _ rfl) (zHu _) (by decide) (by unfold maxLen;simp only [List.length_append,List.length_cons,List.length_nil];omega) (by simp only [List.length_append,List.length_cons,List.length_nil];omega) (A2.alloc (.cells #[.int .u8 101] 5)).bs _ rfl ?_;intro g3 cap3 w3 hown hgrow hat hlt;have A3:=(A2.alloc (.cells #[.int .u8 101] 5)).app (m:=[101]) hgrow hown (by simp only [List.length_append,List.length_cons,List.length_nil];try omega) (zJe _ 101);clear hown hgrow hat hlt;generalize (Value.slice (some ⟨g3,0,none⟩) ((l++(d::ds)).length+1) cap3)=v3 at *;have k3_0:w3.cell? ⟨w.heap.size,0,none⟩=some (.int .i64 c):=A3.cell 0;have k3_1:w3.cell? ⟨w.heap.size,1,none⟩=some (.bool s):=A3.cell 1;have k3_2:w3.cell? ⟨w.heap.size,2,none⟩=some (.bool g):=A3.cell 2;have k3_3:w3.cell? ⟨w.heap.size,3,none⟩=some (.string (B (d::ds))):=A3.cell 3;have k3_4:w3.cell? ⟨w.heap.size,4,none⟩=some (.int .i64 e):=A3.cell 4)|(go_at_call 221;refine (Tryz.strconv_AppendInt_10 Bs (l++(d::ds)++[101]).length e he1.1 he1.2 v3 (Lib.byteCells (l++(d::ds)++[101])) w3 A3.own A3.bs (by simp only [List.length_append,List.length_cons,List.length_nil];omega) (htab.on A3.bel)).mono ?_;rintro x w4 ⟨v4,rfl,hown4,hb4,_⟩))
 go_ret
 refine ⟨v4,rfl,?_,A3.bel.trans hb4⟩
 have e1:Lib.byteCells (l++(d::ds)++[101])++Lib.byteCells (Lib.itoa e)=Lib.byteCells (l++(d::ds++101::Lib.itoa e)):=by simp [Lib.byteCells]
 have e2:(l++(d::ds)++[101]).length+(Lib.itoa e).length=(l++(d::ds++101::Lib.itoa e)).length:=by simp [List.length_append];try omega
 rw [e1,e2] at hown4
 exact hown4
theorem zN0 (Bs:Nat)(c:Int)(s:Bool)(e:Int)(v:Value)(l:List UInt8)(w:World)(hl:l.length<100000)(hown:w.ownsRow Bs 5 1 v l.length (Lib.byteCells l))(hb:Bs<=w.heap.size) :
  Calls Tryz.prog 202 #[v,PV c s false [] e] w fun x w'=>∃ v',x=.returned v'/\w'.ownsRow Bs 5 1 v' (l++([110,97,110])).length (Lib.byteCells (l++([110,97,110])))/\Below Bs w w':=by
 have htl:=zSa
 obtain ⟨i0,hi,hz0,hz1,hz2⟩:=info_parts Tryz.info5
 unfold PV
 have A0:Ap Bs w.heap.size (PC c s false [] e) v l w (w.alloc (.cells (PC c s false [] e) 133)):=Ap.start hown hb
 clear hown
 have k0_2:(w.alloc (.cells (PC c s false [] e) 133)).cell? ⟨w.heap.size,2,none⟩=some (.bool false):=A0.cell 2
 go_enter Tryz.func202,Tryz.ntmps202
 go_wp2_with (first|(at_builtin;refine Lib.wpList_append_own_string _ rfl (.tmp 10) (.const (.string ⟨#[110,97,110]⟩)) 136 9 rfl Bs 5 i0 Tryz.underlying136 Tryz.underlying9 hi hz0 hz1 hz2 v (l).length (Lib.byteCells (l)) rfl A0.own (B [110,97,110]) rfl (by rw [zFa];unfold maxLen;simp only [List.length_append,List.length_cons,List.length_nil];omega) (by rw [zFa];simp only [List.length_append,List.length_cons,List.length_nil];omega) A0.bs ?_;intro v2 w2 hown hgrow hq;have A2:=A0.app (m:=[110,97,110]) hgrow hown (by simp only [zFa,List.length_append,List.length_cons,List.length_nil];try omega) (zWe _ _);clear hown hgrow hq;have k2_0:w2.cell? ⟨w.heap.size,0,none⟩=some (.int .i64 c):=A2.cell 0;have k2_1:w2.cell? ⟨w.heap.size,1,none⟩=some (.bool s):=A2.cell 1;have k2_2:w2.cell? ⟨w.heap.size,2,none⟩=some (.bool false):=A2.cell 2;have k2_3:w2.cell? ⟨w.heap.size,3,none⟩=some (.string (B [])):=A2.cell 3;have k2_4:w2.cell? ⟨w.heap.size,4,none⟩=some (.int .i64 e):=A2.cell 4))
 go_ret
 exact ⟨v2,rfl,A2.own,A2.bel⟩
theorem zO0 (Bs:Nat)(c:Int)(s:Bool)(d:UInt8)(ds:List UInt8)(e:Int)(v:Value)(l:List UInt8)(w:World)(hl:l.length<100000)(hown:w.ownsRow Bs 5 1 v l.length (Lib.byteCells l))(hb:Bs<=w.heap.size)(hd:ds.length+1<100000) :
  Calls Tryz.prog 202 #[v,PV c s false (d::ds) e] w fun x w'=>∃ v',x=.returned v'/\w'.ownsRow Bs 5 1 v' (l++([110,97,110]++40::(d::ds++[41]))).length (Lib.byteCells (l++([110,97,110]++40::(d::ds++[41]))))/\Below Bs w w':=by
 have htl:=zSa
 obtain ⟨i0,hi,hz0,hz1,hz2⟩:=info_parts Tryz.info5
 unfold PV
 have A0:Ap Bs w.heap.size (PC c s false (d::ds) e) v l w (w.alloc (.cells (PC c s false (d::ds) e) 133)):=Ap.start hown hb
 clear hown
 have k0_2:(w.alloc (.cells (PC c s false (d::ds) e) 133)).cell? ⟨w.heap.size,2,none⟩=some (.bool false):=A0.cell 2
 go_enter Tryz.func202,Tryz.ntmps202
 go_wp2_with (first|(at_builtin;refine Lib.wpList_append_own_string _ rfl (.tmp 10) (.const (.string ⟨#[110,97,110]⟩)) 136 9 rfl Bs 5 i0 Tryz.underlying136 Tryz.underlying9 hi hz0 hz1 hz2 v (l).length (Lib.byteCells (l)) rfl A0.own (B [110,97,110]) rfl (by rw [zFa];unfold maxLen;simp only [List.length_append,List.length_cons,List.length_nil];omega) (by rw [zFa];simp only [List.length_append,List.length_cons,List.length_nil];omega) A0.bs ?_;intro v2 w2 hown hgrow hq;have A2:=A0.app (m:=[110,97,110]) hgrow hown (by simp only [zFa,List.length_append,List.length_cons,List.length_nil];try omega) (zWe _ _);clear hown hgrow hq;have k2_0:w2.cell? ⟨w.heap.size,0,none⟩=some (.int .i64 c):=A2.cell 0;have k2_1:w2.cell? ⟨w.heap.size,1,none⟩=some (.bool s):=A2.cell 1;have k2_2:w2.cell? ⟨w.heap.size,2,none⟩=some (.bool false):=A2.cell 2;have k2_3:w2.cell? ⟨w.heap.size,3,none⟩=some (.string (B (d::ds))):=A2.cell 3;have k2_4:w2.cell? ⟨w.heap.size,4,none⟩=some (.int .i64 e):=A2.cell 4)|(at_builtin;refine wpList_append_lies _ rfl (.tmp 15) (.tmp 16) 136 rfl Bs 5 i0 (.int .u8 0) 1 1 Tryz.underlying136 hi hz0 hz1 hz2 rfl (by decide) v2 (l++[110,97,110]).length (Lib.byteCells (l++[110,97,110])) rfl (A2.alloc (.cells #[.int .u8 40] 5)).own ⟨w2.heap.size,0,none⟩ 1 1 [.int .u8 40] rfl rfl (zVh _ _ _ rfl) (zHu _) (by decide) (by unfold maxLen;simp only [List.length_append,List.length_cons,List.length_nil];omega) (by simp only [List.length_append,List.length_cons,List.length_nil];omega) (A2.alloc (.cells #[.int .u8 40] 5)).bs _ rfl ?_;intro g3 cap3 w3 hown hgrow hat hlt;have A3:=(A2.alloc (.cells #[.int .u8 40] 5)).app (m:=[40]) hgrow hown (by simp only [List.length_append,List.length_cons,List.length_nil];try omega) (zJe _ 40);clear hown hgrow hat hlt;generalize (Value.slice (some ⟨g3,0,none⟩) ((l++[110,97,110]).length+1) cap3)=v3 at *;have k3_0:w3.cell? ⟨w.heap.size,0,none⟩=some (.int .i64 c):=A3.cell 0;have k3_1:w3.cell? ⟨w.heap.size,1,none⟩=some (.bool s):=A3.cell 1;have k3_2:w3.cell? ⟨w.heap.size,2,none⟩=some (.bool false):=A3.cell 2;have k3_3:w3.cell? ⟨w.heap.size,3,none⟩=some (.string (B (d::ds))):=A3.cell 3;have k3_4:w3.cell? ⟨w.heap.size,4,none⟩=some (.int .i64 e):=A3.cell 4)|(at_builtin;refine Lib.wpList_append_own_string _ rfl (.tmp 18) (.tmp 20) 136 9 rfl Bs 5 i0 Tryz.underlying136 Tryz.underlying9 hi hz0 hz1 hz2 v3 (l++[110,97,110]++[40]).length (Lib.byteCells (l++[110,97,110]++[40])) rfl A3.own (B (d::ds)) rfl (by rw [zFa];unfold maxLen;simp only [List.length_append,List.length_cons,List.length_nil];omega) (by rw [zFa];simp only [List.length_append,List.length_cons,List.length_nil];omega) A3.bs ?_;intro v4 w4 hown hgrow hq;have A4:=A3.app (m:=(d::ds)) hgrow hown (by simp only [zFa,List.length_append,List.length_cons,List.length_nil];try omega) (zWe _ _);clear hown hgrow hq;have k4_0:w4.cell? ⟨w.heap.size,0,none⟩=some (.int .i64 c):=A4.cell 0;have k4_1:w4.cell? ⟨w.heap.size,1,none⟩=some (.bool s):=A4.cell 1;have k4_2:w4.cell? ⟨w.heap.size,2,none⟩=some (.bool false):=A4.cell 2;have k4_3:w4.cell? ⟨w.heap.size,3,none⟩=some (.string (B (d::ds))):=A4.cell 3;have k4_4:w4.cell? ⟨w.heap.size,4,none⟩=some (.int .i64 e):=A4.cell 4)|(at_builtin;refine wpList_append_lies _ rfl (.tmp 22) (.tmp 23) 136 rfl Bs 5 i0 (.int .u8 0) 1 1 Tryz.underlying136 hi hz0 hz1 hz2 rfl (by decide) v4 (l++[110,97,110]++[40]++(d::ds)).length (Lib.byteCells (l++[110,97,110]++[40]++(d::ds))) rfl (A4.alloc (.cells #[.int .u8 41] 5)).own ⟨w4.heap.size,0,none⟩ 1 1 [.int .u8 41] rfl rfl (zVh _ _ _ rfl) (zHu _) (by decide) (by unfold maxLen;simp only [List.length_append,List.length_cons,List.length_nil];omega) (by simp only [List.length_append,List.length_cons,List.length_nil];omega) (A4.alloc (.cells #[.int .u8 41] 5)).bs _ rfl ?_;intro g5 cap5 w5 hown hgrow hat hlt;have A5:=(A4.alloc (.cells #[.int .u8 41] 5)).app (m:=[41]) hgrow hown (by simp only [List.length_append,List.length_cons,List.length_nil];try omega) (zJe _ 41);clear hown hgrow hat hlt;generalize (Value.slice (some ⟨g5,0,none⟩) ((l++[110,97,110]++[40]++(d::ds)).length+1) cap5)=v5 at *;have k5_0:w5.cell? ⟨w.heap.size,0,none⟩=some (.int .i64 c):=A5.cell 0;have k5_1:w5.cell? ⟨w.heap.size,1,none⟩=some (.bool s):=A5.cell 1;have k5_2:w5.cell? ⟨w.heap.size,2,none⟩=some (.bool false):=A5.cell 2;have k5_3:w5.cell? ⟨w.heap.size,3,none⟩=some (.string (B (d::ds))):=A5.cell 3;have k5_4:w5.cell? ⟨w.heap.size,4,none⟩=some (.int .i64 e):=A5.cell 4))
 go_ret
 have e1:l++[110,97,110]++[40]++(d::ds)++[41]=l++([110,97,110]++40::(d::ds++[41])):=by simp
 rw [e1] at A5
 exact ⟨_,rfl,A5.own,A5.bel⟩
theorem zL0 (Bs:Nat)(c:Int)(s:Bool)(e:Int)(v:Value)(l:List UInt8)(w:World)(hl:l.length<100000)(hown:w.ownsRow Bs 5 1 v l.length (Lib.byteCells l))(hb:Bs<=w.heap.size) :
  Calls Tryz.prog 202 #[v,PV c s true [] e] w fun x w'=>∃ v',x=.returned v'/\w'.ownsRow Bs 5 1 v' (l++(115::[110,97,110])).length (Lib.byteCells (l++(115::[110,97,110])))/\Below Bs w w':=by
 have htl:=zSa
 obtain ⟨i0,hi,hz0,hz1,hz2⟩:=info_parts Tryz.info5
 unfold PV
 have A0:Ap Bs w.heap.size (PC c s true [] e) v l w (w.alloc (.cells (PC c s true [] e) 133)):=Ap.start hown hb
 clear hown
 have k0_2:(w.alloc (.cells (PC c s true [] e) 133)).cell? ⟨w.heap.size,2,none⟩=some (.bool true):=A0.cell 2
 go_enter Tryz.func202,Tryz.ntmps202
 go_wp2_with (first|(at_builtin;refine wpList_append_lies _ rfl (.tmp 7) (.tmp 8) 136 rfl Bs 5 i0 (.int .u8 0) 1 1 Tryz.underlying136 hi hz0 hz1 hz2 rfl (by decide) v (l).length (Lib.byteCells (l)) rfl (A0.alloc (.cells #[.int .u8 115] 5)).own ⟨w.heap.size+1,0,none⟩ 1 1 [.int .u8 115] rfl rfl (zVh _ _ _ (by simp)) (zHu _) (by decide) (by unfold maxLen;omega) (by omega) (A0.alloc (.cells #[.int .u8 115] 5)).bs _ rfl ?_;intro g1 cap1 w1 hown hgrow hat hlt;have A1:=(A0.alloc (.cells #[.int .u8 115] 5)).app (m:=[115]) hgrow hown (by simp only [List.length_append,List.length_cons,List.length_nil];try omega) (zJe _ 115);clear hown hgrow hat hlt;generalize (Value.slice (some ⟨g1,0,none⟩) ((l).length+1) cap1)=v1 at *;have k1_0:w1.cell? ⟨w.heap.size,0,none⟩=some (.int .i64 c):=A1.cell 0;have k1_1:w1.cell? ⟨w.heap.size,1,none⟩=some (.bool s):=A1.cell 1;have k1_2:w1.cell? ⟨w.heap.size,2,none⟩=some (.bool true):=A1.cell 2;have k1_3:w1.cell? ⟨w.heap.size,3,none⟩=some (.string (B [])):=A1.cell 3;have k1_4:w1.cell? ⟨w.heap.size,4,none⟩=some (.int .i64 e):=A1.cell 4)|(at_builtin;refine Lib.wpList_append_own_string _ rfl (.tmp 10) (.const (.string ⟨#[110,97,110]⟩)) 136 9 rfl Bs 5 i0 Tryz.underlying136 Tryz.underlying9 hi hz0 hz1 hz2 v1 (l++[115]).length (Lib.byteCells (l++[115])) rfl A1.own (B [110,97,110]) rfl (by rw [zFa];unfold maxLen;simp only [List.length_append,List.length_cons,List.length_nil];omega) (by rw [zFa];simp only [List.length_append,List.length_cons,List.length_nil];omega) A1.bs ?_;intro v2 w2 hown hgrow hq;have A2:=A1.app (m:=[110,97,110]) hgrow hown (by simp only [zFa,List.length_append,List.length_cons,List.length_nil];try omega) (zWe _ _);clear hown hgrow hq;have k2_0:w2.cell? ⟨w.heap.size,0,none⟩=some (.int .i64 c):=A2.cell 0;have k2_1:w2.cell? ⟨w.heap.size,1,none⟩=some (.bool s):=A2.cell 1;have k2_2:w2.cell? ⟨w.heap.size,2,none⟩=some (.bool true):=A2.cell 2;have k2_3:w2.cell? ⟨w.heap.size,3,none⟩=some (.string (B [])):=A2.cell 3;have k2_4:w2.cell? ⟨w.heap.size,4,none⟩=some (.int .i64 e):=A2.cell 4))
 go_ret
 have e1:l++[115]++[110,97,110]=l++(115::[110,97,110]):=by simp
 rw [e1] at A2
 exact ⟨v2,rfl,A2.own,A2.bel⟩
theorem zM0 (Bs:Nat)(c:Int)(s:Bool)(d:UInt8)(ds:List UInt8)(e:Int)(v:Value)(l:List UInt8)(w:World)(hl:l.length<100000)(hown:w.ownsRow Bs 5 1 v l.length (Lib.byteCells l))(hb:Bs<=w.heap.size)(hd:ds.length+1<100000) :
  Calls Tryz.prog 202 #[v,PV c s true (d::ds) e] w fun x w'=>∃ v',x=.returned v'/\w'.ownsRow Bs 5 1 v' (l++(115::[110,97,110]++40::(d::ds++[41]))).length (Lib.byteCells (l++(115::[110,97,110]++40::(d::ds++[41]))))/\Below Bs w w':=by
 have htl:=zSa
 obtain ⟨i0,hi,hz0,hz1,hz2⟩:=info_parts Tryz.info5
 unfold PV
 have A0:Ap Bs w.heap.size (PC c s true (d::ds) e) v l w (w.alloc (.cells (PC c s true (d::ds) e) 133)):=Ap.start hown hb
 clear hown
 have k0_2:(w.alloc (.cells (PC c s true (d::ds) e) 133)).cell? ⟨w.heap.size,2,none⟩=some (.bool true):=A0.cell 2
 go_enter Tryz.func202,Tryz.ntmps202
 go_wp2_with (first|(at_builtin;refine wpList_append_lies _ rfl (.tmp 7) (.tmp 8) 136 rfl Bs 5 i0 (.int .u8 0) 1 1 Tryz.underlying136 hi hz0 hz1 hz2 rfl (by decide) v (l).length (Lib.byteCells (l)) rfl (A0.alloc (.cells #[.int .u8 115] 5)).own ⟨w.heap.size+1,0,none⟩ 1 1 [.int .u8 115] rfl rfl (zVh _ _ _ (by simp)) (zHu _) (by decide) (by unfold maxLen;omega) (by omega) (A0.alloc (.cells #[.int .u8 115] 5)).bs _ rfl ?_;intro g1 cap1 w1 hown hgrow hat hlt;have A1:=(A0.alloc (.cells #[.int .u8 115] 5)).app (m:=[115]) hgrow hown (by simp only [List.length_append,List.length_cons,List.length_nil];try omega) (zJe _ 115);clear hown hgrow hat hlt;generalize (Value.slice (some ⟨g1,0,none⟩) ((l).length+1) cap1)=v1 at *;have k1_0:w1.cell? ⟨w.heap.size,0,none⟩=some (.int .i64 c):=A1.cell 0;have k1_1:w1.cell? ⟨w.heap.size,1,none⟩=some (.bool s):=A1.cell 1;have k1_2:w1.cell? ⟨w.heap.size,2,none⟩=some (.bool true):=A1.cell 2;have k1_3:w1.cell? ⟨w.heap.size,3,none⟩=some (.string (B (d::ds))):=A1.cell 3;have k1_4:w1.cell? ⟨w.heap.size,4,none⟩=some (.int .i64 e):=A1.cell 4)|(at_builtin;refine Lib.wpList_append_own_string _ rfl (.tmp 10) (.const (.string ⟨#[110,97,110]⟩)) 136 9 rfl Bs 5 i0 Tryz.underlying136 Tryz.underlying9 hi hz0 hz1 hz2 v1 (l++[115]).length (Lib.byteCells (l++[115])) rfl A1.own (B [110,97,110]) rfl (by rw [zFa];unfold maxLen;simp only [List.length_append,List.length_cons,List.length_nil];omega) (by rw [zFa];simp only [List.length_append,List.length_cons,List.length_nil];omega) A1.bs ?_;intro v2 w2 hown hgrow hq;have A2:=A1.app (m:=[110,97,110]) hgrow hown (by simp only [zFa,List.length_append,List.length_cons,List.length_nil];try omega) (zWe _ _);clear hown hgrow hq;have k2_0:w2.cell? ⟨w.heap.size,0,none⟩=some (.int .i64 c):=A2.cell 0;have k2_1:w2.cell? ⟨w.heap.size,1,none⟩=some (.bool s):=A2.cell 1;have k2_2:w2.cell? ⟨w.heap.size,2,none⟩=some (.bool true):=A2.cell 2;have k2_3:w2.cell? ⟨w.heap.size,3,none⟩=some (.string (B (d::ds))):=A2.cell 3;have k2_4:w2.cell? ⟨w.heap.size,4,none⟩=some (.int .i64 e):=A2.cell 4)|(at_builtin;refine wpList_append_lies _ rfl (.tmp 15) (.tmp 16) 136 rfl Bs 5 i0 (.int .u8 0) 1 1 Tryz.underlying136 hi hz0 hz1 hz2 rfl (by decide) v2 (l++[115]++[110,97,110]).length (Lib.byteCells (l++[115]++[110,97,110])) rfl (A2.alloc (.cells #[.int .u8 40] 5)).own ⟨w2.heap.size,0,none⟩ 1 1 [.int .u8 40] rfl rfl (zVh _ _ _ rfl) (zHu _) (by decide) (by unfold maxLen;simp only [List.length_append,List.length_cons,List.length_nil];omega) (by simp only [List.length_append,List.length_cons,List.length_nil];omega) (A2.alloc (.cells #[.int .u8 40] 5)).bs _ rfl ?_;intro g3 cap3 w3 hown hgrow hat hlt;have A3:=(A2.alloc (.cells #[.int .u8 40] 5)).app (m:=[40]) hgrow hown (by simp only [List.length_append,List.length_cons,List.length_nil];try omega) (zJe _ 40);clear hown hgrow hat hlt;generalize (Value.slice (some ⟨g3,0,none⟩) ((l++[115]++[110,97,110]).length+1) cap3)=v3 at *;have k3_0:w3.cell? ⟨w.heap.size,0,none⟩=some (.int .i64 c):=A3.cell 0;have k3_1:w3.cell? ⟨w.heap.size,1,none⟩=some (.bool s):=A3.cell 1;have k3_2:w3.cell? ⟨w.heap.size,2,none⟩=some (.bool true):=A3.cell 2;have k3_3:w3.cell? ⟨w.heap.size,3,none⟩=some (.string (B (d::ds))):=A3.cell 3;have k3_4:w3.cell? ⟨w.heap.size,4,none⟩=some (.int .i64 e):=A3.cell 4)|(at_builtin;refine Lib.wpList_append_own_string _ rfl (.tmp 18) (.tmp 20) 136 9 rfl Bs 5 i0 Tryz.underlying136 Tryz.underlying9 hi hz0 hz1 hz2 v3 (l++[115]++[110,97,110]++[40]).length (Lib.byteCells (l++[115]++[110,97,110]++[40])) rfl A3.own (B (d::ds)) rfl (by rw [zFa];unfold maxLen;simp only [List.length_append,List.length_cons,List.length_nil];omega) (by rw [zFa];simp only [List.length_append,List.length_cons,List.length_nil];omega) A3.bs ?_;intro v4 w4 hown hgrow hq;have A4:=A3.app (m:=(d::ds)) hgrow hown (by simp only [zFa,List.length_append,List.length_cons,List.length_nil];try omega) (zWe _ _);clear hown hgrow hq;have k4_0:w4.cell? ⟨w.heap.size,0,none⟩=some (.int .i64 c):=A4.cell 0;have k4_1:w4.cell? ⟨w.heap.size,1,none⟩=some (.bool s):=A4.cell 1;have k4_2:w4.cell? ⟨w.heap.size,2,none⟩=some (.bool true):=A4.cell 2;have k4_3:w4.cell? ⟨w.heap.size,3,none⟩=some (.string (B (d::ds))):=A4.cell 3;have k4_4:w4.cell? ⟨w.heap.size,4,none⟩=some (.int .i64 e):=A4.cell 4)|(at_builtin;refine wpList_append_lies _ rfl (.tmp 22) (.tmp 23) 136 rfl Bs 5 i0 (.int .u8 0) 1 1 Tryz.underlying136 hi hz0 hz1 hz2 rfl (by decide) v4 (l++[115]++[110,97,110]++[40]++(d::ds)).length (Lib.byteCells (l++[115]++[110,97,110]++[40]++(d::ds))) rfl (A4.alloc (.cells #[.int .u8 41] 5)).own ⟨w4.heap.size,0,none⟩ 1 1 [.int .u8 41] rfl rfl (zVh _ _ _ rfl) (zHu _) (by decide) (by unfold maxLen;simp only [List.length_append,List.length_cons,List.length_nil];omega) (by simp only [List.length_append,List.length_cons,List.length_nil];omega) (A4.alloc (.cells #[.int .u8 41] 5)).bs _ rfl ?_;intro g5 cap5 w5 hown hgrow hat hlt;have A5:=(A4.alloc (.cells #[.int .u8 41] 5)).app (m:=[41]) hgrow hown (by simp only [List.length_append,List.length_cons,List.length_nil];try omega) (zJe _ 41);clear hown hgrow hat hlt;generalize (Value.slice (some ⟨g5,0,none⟩) ((l++[115]++[110,97,110]++[40]++(d::ds)).length+1) cap5)=v5 at *;have k5_0:w5.cell? ⟨w.heap.size,0,none⟩=some (.int .i64 c):=A5.cell 0;have k5_1:w5.cell? ⟨w.heap.size,1,none⟩=some (.bool s):=A5.cell 1;have k5_2:w5.cell? ⟨w.heap.size,2,none⟩=some (.bool true):=A5.cell 2;have k5_3:w5.cell? ⟨w.heap.size,3,none⟩=some (.string (B (d::ds))):=A5.cell 3;have k5_4:w5.cell? ⟨w.heap.size,4,none⟩=some (.int .i64 e):=A5.cell 4))
 go_ret
 have e1:l++[115]++[110,97,110]++[40]++(d::ds)++[41]=l++(115::[110,97,110]++40::(d::ds++[41])):=by simp
 rw [e1] at A5
 exact ⟨_,rfl,A5.own,A5.bel⟩
def zDn (g:Bool)(d:List UInt8):List UInt8:=(if g then [115] else [])++([110,97,110]++(if d=[] then [] else 40::(d++[41])))
def zUu (d:List UInt8)(e:Int):List UInt8:=dgT d++exT e
def yEc (c:Int)(g:Bool)(d:List UInt8)(e:Int):List UInt8:=if c=2 then [105,110,102] else if c=3 then zDn g d else zUu d e
def zOh (c:Int)(s g:Bool)(d:List UInt8)(e:Int):List UInt8:=(if s then [45] else [])++yEc c g d e
theorem zYr (g:Bool)(d:List UInt8):0<(zDn g d).length:=by unfold zDn;simp only [List.length_append,List.length_cons];omega
theorem zNs (d:List UInt8)(e:Int):0<(zUu d e).length:=by
 unfold zUu dgT
 rw [List.length_append]
 split
 ·simp;omega
 ·rename_i h
  have:0<d.length:=List.length_pos_iff.2 h
  omega
theorem zUl (Bs:Nat)(c:Int)(s g:Bool)(d:List UInt8)(e:Int)(v:Value)(l:List UInt8)(w:World)(hl:l.length<100000)(hd:d.length<100000)(hown:w.ownsRow Bs 5 1 v l.length (Lib.byteCells l))(hb:Bs<=w.heap.size) :
  Calls Tryz.prog 202 #[v,PV c s g d e] w fun x w'=>∃ v',x=.returned v'/\w'.ownsRow Bs 5 1 v' (l++zDn g d).length (Lib.byteCells (l++zDn g d))/\Below Bs w w':=by
 cases g
 ·cases d with
  | nil=>exact zN0 Bs c s e v l w hl hown hb
  | cons x xs=>exact zO0 Bs c s x xs e v l w hl hown hb hd
 ·cases d with
  | nil=>exact zL0 Bs c s e v l w hl hown hb
  | cons x xs=>exact zM0 Bs c s x xs e v l w hl hown hb hd
theorem zVl (Bs:Nat)(c:Int)(s g:Bool)(d:List UInt8)(e:Int)(v:Value)(l:List UInt8)(w:World)(hl:l.length<100000)(hd:d.length<100000)(he:-9223372036854775808<=e/\e<=9223372036854775807)(hown:w.ownsRow Bs 5 1 v l.length (Lib.byteCells l))(hb:Bs<=w.heap.size)(htab:Lib.TabBelow Tryz.prog Bs w "internal/strconv.uint64pow10" .u64 Lib.pow10Tab) :
  Calls Tryz.prog 203 #[v,PV c s g d e] w fun x w'=>∃ v',x=.returned v'/\w'.ownsRow Bs 5 1 v' (l++zUu d e).length (Lib.byteCells (l++zUu d e))/\Below Bs w w':=by
 by_cases h0:e=0
 ·subst h0
  cases d with
  | nil=>exact zQ0 Bs c s g v l w hl hown hb
  | cons x xs =>
   have:zUu (x::xs) 0=x::xs:=by unfold zUu dgT exT;simp
   rw [this]
   exact zS0 Bs c s g x xs v l w hl hown hb hd
 ·have h1:(e != 0)=true:=by simpa using h0
  have e1:exT e=101::Lib.itoa e:=if_neg h0
  cases d with
  | nil =>
   have:=zP0 Bs c s g e v l w hl hown hb h1 he htab
   unfold zUu;rw [e1];exact this
  | cons x xs =>
   have:=zR0 Bs c s g x xs e v l w hl hown hb hd h1 he htab
   unfold zUu;rw [e1];exact this
theorem zUh {Bs:Nat}{v:Value}{l:List UInt8}{W:World}(h:W.ownsRow Bs 5 1 v l.length (Lib.byteCells l))(hp:0<l.length):(convert 136 9 v).run Tryz.prog W=.ok (.string (B l)) W:=by
 obtain ⟨g,cap,rfl,_,_⟩:=h.form hp
 refine run_convert_bytes_back W 136 9 5 ⟨g,0,none⟩ cap l Tryz.underlying136 Tryz.underlying5 Tryz.underlying9 fun j hj=>?_
 rw [show (⟨g,0,none⟩:Addr).add j=⟨g,j,none⟩ by unfold Addr.add;split<;>simp_all]
 rw [h.cellAt j (by omega)]
 simp [Lib.byteCells,hj]
theorem zG8 (g:Bool)(d:List UInt8)(e:Int)(w:World)(hd:d.length<100000) :
  CB 168 #[PV 2 true g d e] w (.string (B ([45]++[105,110,102]))):=by
 have htl:=zSa
 obtain ⟨i0,hi,hz0,hz1,hz2⟩:=info_parts Tryz.info5
 have A0:Ap w.heap.size w.heap.size (PC 2 true g d e) (.slice none 0 0) [] w (w.alloc (.cells (PC 2 true g d e) 133)):=Ap.start (World.ownsRow_nil _ _ _ _) (Nat.le_refl _)
 unfold PV
 go_enter Tryz.func168,Tryz.ntmps168
 go_wp2_with (first|(at_builtin;refine wpList_append_lies _ rfl (.tmp 6) (.tmp 7) 136 rfl w.heap.size 5 i0 (.int .u8 0) 1 1 Tryz.underlying136 hi hz0 hz1 hz2 rfl (by decide) (.slice none 0 0) (([]:List UInt8)).length (Lib.byteCells (([]:List UInt8))) rfl (A0.alloc (.cells #[.int .u8 45] 5)).own ⟨w.heap.size+1,0,none⟩ 1 1 [.int .u8 45] rfl rfl (zVh _ _ _ (by simp)) (zHu _) (by decide) (by unfold maxLen;decide) (by decide) (A0.alloc (.cells #[.int .u8 45] 5)).bs _ rfl ?_;intro g1 cap1 w1 hown hgrow hat hlt;have A1:=(A0.alloc (.cells #[.int .u8 45] 5)).app (m:=[45]) hgrow hown (by simp only [ll];try omega) (zJe _ 45);clear hown hgrow hat hlt;generalize (Value.slice (some ⟨g1,0,none⟩) ((([]:List UInt8)).length+1) cap1)=v1 at *;have k1_0:w1.cell? ⟨w.heap.size,0,none⟩=some (.int .i64 2):=A1.cell 0;have k1_1:w1.cell? ⟨w.heap.size,1,none⟩=some (.bool true):=A1.cell 1;have k1_2:w1.cell? ⟨w.heap.size,2,none⟩=some (.bool g):=A1.cell 2;have k1_3:w1.cell? ⟨w.heap.size,3,none⟩=some (.string (B d)):=A1.cell 3;have k1_4:w1.cell? ⟨w.heap.size,4,none⟩=some (.int .i64 e):=A1.cell 4)|(at_builtin;refine Lib.wpList_append_own_string _ rfl (.tmp 16) (.const (.string ⟨#[105,110,102]⟩)) 136 9 rfl w.heap.size 5 i0 Tryz.underlying136 Tryz.underlying9 hi hz0 hz1 hz2 v1 (([]++[45])).length (Lib.byteCells (([]++[45]))) rfl A1.own (B [105,110,102]) rfl (by rw [zFa];unfold maxLen;simp only [ll];omega) (by rw [zFa];simp only [ll];omega) A1.bs ?_;intro v2 w2 hown hgrow hq;have A2:=A1.app (m:=[105,110,102]) hgrow hown (by simp only [zFa,List.length_append,List.length_cons,List.length_nil];try omega) (zWe _ _);clear hown hgrow hq;have hcv:=zUh A2.own (by simp)))
 go_ret
 exact ⟨rfl,A2.bel⟩
theorem zF8 (g:Bool)(d:List UInt8)(e:Int)(w:World)(hd:d.length<100000) :
  CB 168 #[PV 3 true g d e] w (.string (B ([45]++zDn g d))):=by
 have htl:=zSa
 obtain ⟨i0,hi,hz0,hz1,hz2⟩:=info_parts Tryz.info5
 have A0:Ap w.heap.size w.heap.size (PC 3 true g d e) (.slice none 0 0) [] w (w.alloc (.cells (PC 3 true g d e) 133)):=Ap.start (World.ownsRow_nil _ _ _ _) (Nat.le_refl _)
 unfold PV
 go_enter Tryz.func168,Tryz.ntmps168
 go_wp2_with (first|(at_builtin;refine wpList_append_lies _ rfl (.tmp 6) (.tmp 7) 136 rfl w.heap.size 5 i0 (.int .u8 0) 1 1 Tryz.underlying136 hi hz0 hz1 hz2 rfl (by decide) (.slice none 0 0) (([]:List UInt8)).length (Lib.byteCells (([]:List UInt8))) rfl (A0.alloc (.cells #[.int .u8 45] 5)).own ⟨w.heap.size+1,0,none⟩ 1 1 [.int .u8 45] rfl rfl (zVh _ _ _ (by simp)) (zHu _) (by decide) (by unfold maxLen;decide) (by decide) (A0.alloc (.cells #[.int .u8 45] 5)).bs _ rfl ?_;intro g1 cap1 w1 hown hgrow hat hlt;have A1:=(A0.alloc (.cells #[.int .u8 45] 5)).app (m:=[45]) hgrow hown (by simp only [ll];try omega) (zJe _ 45);clear hown hgrow hat hlt;generalize (Value.slice (some ⟨g1,0,none⟩) ((([]:List UInt8)).length+1) cap1)=v1 at *;have k1_0:w1.cell? ⟨w.heap.size,0,none⟩=some (.int .i64 3):=A1.cell 0;have k1_1:w1.cell? ⟨w.heap.size,1,none⟩=some (.bool true):=A1.cell 1;have k1_2:w1.cell? ⟨w.heap.size,2,none⟩=some (.bool g):=A1.cell 2;have k1_3:w1.cell? ⟨w.heap.size,3,none⟩=some (.string (B d)):=A1.cell 3;have k1_4:w1.cell? ⟨w.heap.size,4,none⟩=some (.int .i64 e):=A1.cell 4)|(go_at_call 202;refine (zUl w.heap.size 3 true g d e v1 ([]++[45]) _ (by simp) hd A1.own A1.bs).mono ?_;rintro x w8 ⟨v8,rfl,hown8,hb8⟩;have hcv:=zUh hown8 (by rw [List.length_append];have:=zYr g d;omega)))
 go_ret
 exact ⟨rfl,A1.bel.trans hb8⟩
theorem zE8 (g:Bool)(d:List UInt8)(e:Int)(c:Int)(w:World)(hd:d.length<100000)(h2:(c==2)=false)(h3:(c==3)=false)(he:-9223372036854775808<=e/\e<=9223372036854775807)(htab:Lib.TabIs Tryz.prog w "internal/strconv.uint64pow10" .u64 Lib.pow10Tab) :
  CB 168 #[PV c true g d e] w (.string (B ([45]++zUu d e))):=by
 have htl:=zSa
 obtain ⟨i0,hi,hz0,hz1,hz2⟩:=info_parts Tryz.info5
 have A0:Ap w.heap.size w.heap.size (PC c true g d e) (.slice none 0 0) [] w (w.alloc (.cells (PC c true g d e) 133)):=Ap.start (World.ownsRow_nil _ _ _ _) (Nat.le_refl _)
 have hTB:=Lib.tabBelow_of_tabIs htab
 unfold PV
 go_enter Tryz.func168,Tryz.ntmps168
 go_wp2_with (first|(at_builtin;refine wpList_append_lies _ rfl (.tmp 6) (.tmp 7) 136 rfl w.heap.size 5 i0 (.int .u8 0) 1 1 Tryz.underlying136 hi hz0 hz1 hz2 rfl (by decide) (.slice none 0 0) (([]:List UInt8)).length (Lib.byteCells (([]:List UInt8))) rfl (A0.alloc (.cells #[.int .u8 45] 5)).own ⟨w.heap.size+1,0,none⟩ 1 1 [.int .u8 45] rfl rfl (zVh _ _ _ (by simp)) (zHu _) (by decide) (by unfold maxLen;decide) (by decide) (A0.alloc (.cells #[.int .u8 45] 5)).bs _ rfl ?_;intro g1 cap1 w1 hown hgrow hat hlt;have A1:=(A0.alloc (.cells #[.int .u8 45] 5)).app (m:=[45]) hgrow hown (by simp only [ll];try omega) (zJe _ 45);clear hown hgrow hat hlt;generalize (Value.slice (some ⟨g1,0,none⟩) ((([]:List UInt8)).length+1) cap1)=v1 at *;have k1_0:w1.cell? ⟨w.heap.size,0,none⟩=some (.int .i64 c):=A1.cell 0;have k1_1:w1.cell? ⟨w.heap.size,1,none⟩=some (.bool true):=A1.cell 1;have k1_2:w1.cell? ⟨w.heap.size,2,none⟩=some (.bool g):=A1.cell 2;have k1_3:w1.cell? ⟨w.heap.size,3,none⟩=some (.string (B d)):=A1.cell 3;have k1_4:w1.cell? ⟨w.heap.size,4,none⟩=some (.int .i64 e):=A1.cell 4)|(go_at_call 203;refine (zVl w.heap.size c true g d e v1 ([]++[45]) _ (by simp) hd he A1.own A1.bs (hTB.on A1.bel)).mono ?_;rintro x w8 ⟨v8,rfl,hown8,hb8⟩;have hcv:=zUh hown8 (by rw [List.length_append];have:=zNs d e;omega)))
 go_ret
 exact ⟨rfl,A1.bel.trans hb8⟩
theorem zJ8 (g:Bool)(d:List UInt8)(e:Int)(w:World)(hd:d.length<100000) :
  CB 168 #[PV 2 false g d e] w (.string (B ([105,110,102]))):=by
 have htl:=zSa
 obtain ⟨i0,hi,hz0,hz1,hz2⟩:=info_parts Tryz.info5
 have A0:Ap w.heap.size w.heap.size (PC 2 false g d e) (.slice none 0 0) [] w (w.alloc (.cells (PC 2 false g d e) 133)):=Ap.start (World.ownsRow_nil _ _ _ _) (Nat.le_refl _)
 unfold PV
 go_enter Tryz.func168,Tryz.ntmps168
 go_wp2_with (first|(at_builtin;refine Lib.wpList_append_own_string _ rfl (.tmp 16) (.const (.string ⟨#[105,110,102]⟩)) 136 9 rfl w.heap.size 5 i0 Tryz.underlying136 Tryz.underlying9 hi hz0 hz1 hz2 (.slice none 0 0) (([]:List UInt8)).length (Lib.byteCells (([]:List UInt8))) rfl A0.own (B [105,110,102]) rfl (by rw [zFa];unfold maxLen;simp only [ll];omega) (by rw [zFa];simp only [ll];omega) A0.bs ?_;intro v2 w2 hown hgrow hq;have A2:=A0.app (m:=[105,110,102]) hgrow hown (by simp only [zFa,List.length_append,List.length_cons,List.length_nil];try omega) (zWe _ _);clear hown hgrow hq;have hcv:=zUh A2.own (by simp)))
 go_ret
 exact ⟨rfl,A2.bel⟩
theorem zI8 (g:Bool)(d:List UInt8)(e:Int)(w:World)(hd:d.length<100000) :
  CB 168 #[PV 3 false g d e] w (.string (B (zDn g d))):=by
 have htl:=zSa
 obtain ⟨i0,hi,hz0,hz1,hz2⟩:=info_parts Tryz.info5
 have A0:Ap w.heap.size w.heap.size (PC 3 false g d e) (.slice none 0 0) [] w (w.alloc (.cells (PC 3 false g d e) 133)):=Ap.start (World.ownsRow_nil _ _ _ _) (Nat.le_refl _)
 unfold PV
 go_enter Tryz.func168,Tryz.ntmps168
 go_wp2_with (first|(go_at_call 202;refine (zUl w.heap.size 3 false g d e (.slice none 0 0) [] _ (by simp) hd A0.own A0.bs).mono ?_;rintro x w8 ⟨v8,rfl,hown8,hb8⟩;have hcv:=zUh hown8 (by rw [List.length_append];have:=zYr g d;omega)))
 go_ret
 exact ⟨rfl,A0.bel.trans hb8⟩
theorem zH8 (g:Bool)(d:List UInt8)(e:Int)(c:Int)(w:World)(hd:d.length<100000)(h2:(c==2)=false)(h3:(c==3)=false)(he:-9223372036854775808<=e/\e<=9223372036854775807)(htab:Lib.TabIs Tryz.prog w "internal/strconv.uint64pow10" .u64 Lib.pow10Tab) :
  CB 168 #[PV c false g d e] w (.string (B (zUu d e))):=by
 have htl:=zSa
 obtain ⟨i0,hi,hz0,hz1,hz2⟩:=info_parts Tryz.info5
 have A0:Ap w.heap.size w.heap.size (PC c false g d e) (.slice none 0 0) [] w (w.alloc (.cells (PC c false g d e) 133)):=Ap.start (World.ownsRow_nil _ _ _ _) (Nat.le_refl _)
 have hTB:=Lib.tabBelow_of_tabIs htab
 unfold PV
 go_enter Tryz.func168,Tryz.ntmps168
 go_wp2_with (first|(go_at_call 203;refine (zVl w.heap.size c false g d e (.slice none 0 0) [] _ (by simp) hd he A0.own A0.bs (hTB.on A0.bel)).mono ?_;rintro x w8 ⟨v8,rfl,hown8,hb8⟩;have hcv:=zUh hown8 (by rw [List.length_append];have:=zNs d e;omega)))
 go_ret
 exact ⟨rfl,A0.bel.trans hb8⟩
theorem zZ1 (c:Int)(s g:Bool)(d:List UInt8)(e:Int)(w:World)(hd:d.length<100000)(he:-9223372036854775808<=e/\e<=9223372036854775807)(htab:Lib.TabIs Tryz.prog w "internal/strconv.uint64pow10" .u64 Lib.pow10Tab) :
  CB 168 #[PV c s g d e] w (.string (B (zOh c s g d e))):=by
 unfold zOh yEc
 by_cases h2:c=2
 ·rw [if_pos h2];subst h2
  cases s
  ·exact zJ8 g d e w hd
  ·exact zG8 g d e w hd
 ·rw [if_neg h2]
  by_cases h3:c=3
  ·rw [if_pos h3];subst h3
   cases s
   ·exact zI8 g d e w hd
   ·exact zF8 g d e w hd
  ·rw [if_neg h3]
   cases s
   ·exact zH8 g d e c w hd (beq_eq_false_iff_ne.2 h2) (beq_eq_false_iff_ne.2 h3) he htab
   ·exact zE8 g d e c w hd (beq_eq_false_iff_ne.2 h2) (beq_eq_false_iff_ne.2 h3) he htab
theorem zB2 {c:Int}{s g:Bool}{d:List UInt8}{e:Int}(hd:d.length<=4000)(he:-9223372036854775808<=e/\e<=9223372036854775807):(zOh c s g d e).length<=4100:=by
 have hi:=Lib.itoa_length_le e he.1 he.2
 have h1:(yEc c g d e).length<=4050:=by
  unfold yEc
  split
  ·simp
  ·split
   ·unfold zDn
    simp only [List.length_append,List.length_cons]
    split<;>split<;>simp<;>omega
   ·unfold zUu dgT exT
    simp only [List.length_append]
    split<;>split<;>simp<;>omega
 unfold zOh
 rw [List.length_append]
 split<;>simp<;>omega
theorem yLa (c:Int)(s g:Bool)(d:List UInt8)(e:Int)(w:World)(hd:d.length<=4000)(T:List UInt8)
  (c24:∀ W,Below w.heap.size w W->CB 168 #[PV c s g d e] W (.string (B T)))
  (c9:∀ W,CB 169 #[.string (B T)] W (.tuple #[PV c s g d e,.int .i64 0])) :
  CB 101 #[PV c s g d e] w (.tuple #[.string (B T),.int .i64 0]):=by
 have htl:=zSa
 have hsz:=zFa d
 have hdi:(d.length:Int)<=4000:=by omega
 unfold PV at c24 c9 ⊢
 have hsm:=zGd
 go_enter Tryz.func101,Tryz.ntmps101
 go_wp2_with (first|(go_at_call 168;refine wk w (c24 _ bgo) ?_;intro w1 hb1 _ _ _ _ hA1 _;clear hb1)|(go_at_call 169;refine wk w (c9 _) ?_;intro w2 hb2 _ _ _ _ hA2 _;clear hb2))
 go_ret2
 exact ⟨rfl,bgo⟩
def jnP (p:Prt):Prop:=p.dig.length<=4000/\zYs (zOh p.cls p.sg p.sn p.dig p.ex)=some p
theorem zA0 {l:List UInt8}{p:Prt}(h:zYs l=some p):cutE l=0/\cutV l=p:=by
 unfold cutE cutV
 have hl:¬ 4000<l.length:=by
  intro h2;unfold zYs at h;rw [if_pos h2] at h;cases h
 rw [if_neg hl,h];exact ⟨rfl,rfl⟩
def Tb10 (w:World):Prop:=Lib.TabIs Tryz.prog w "internal/strconv.uint64pow10" .u64 Lib.pow10Tab
theorem Tb10.next {w w':World}(h:Tb10 w)(hb:Below w.heap.size w w'):Tb10 w':=Lib.tabBelow_of_tabIs h w' hb
theorem join_y (p:Prt)(w:World)(hT:Tb10 w)(he:-9223372036854775808<=p.ex/\p.ex<=9223372036854775807)(h:jnP p) :
  CB 101 #[p.v] w (.tuple #[.string (B (zOh p.cls p.sg p.sn p.dig p.ex)),.int .i64 0]):=by
 obtain ⟨e1,e2⟩:=zA0 h.2
 have c9:=fun W=>yAc (zOh p.cls p.sg p.sn p.dig p.ex) W (by have:=zB2 (c:=p.cls) (s:=p.sg) (g:=p.sn) h.1 he;omega)
 rw [e1,e2] at c9
 exact yLa _ _ _ _ _ w h.1 _ (fun W hW=>zZ1 _ _ _ _ _ W (by have:=h.1;omega) he (hT.next hW)) c9
theorem zUs (k:Nat)(h:k<10):dg (UInt8.ofNat (48+k))=true/\((UInt8.ofNat (48+k)).toNat:Int)=48+k:=by
 have:(UInt8.ofNat (48+k)).toNat=48+k:=by
  rw [UInt8.toNat_ofNat'];omega
 refine ⟨?_,by omega⟩
 unfold dg;rw [this];simp;omega
theorem zW6 (u:Nat):(Lib.decDigits u).all dg=true:=by
 induction u using Nat.strongRecOn with
 | ind u ih =>
  rw [Lib.decDigits]
  split
  ·rename_i h
   simp only [List.all_cons,List.all_nil,Bool.and_true]
   exact (zUs u h).1
  ·rename_i h
   rw [List.all_append,ih (u/10) (by omega)]
   simp only [List.all_cons,List.all_nil,Bool.and_true,Bool.true_and]
   exact (zUs (u%10) (by omega)).1
theorem zV6 (u:Nat):nv (Lib.decDigits u)=u:=by
 induction u using Nat.strongRecOn with
 | ind u ih =>
  rw [Lib.decDigits]
  split
  ·rename_i h
   rw [zKq,(zUs u h).2];omega
  ·rename_i h
   rw [zA6,ih (u/10) (by omega),zKq,(zUs (u%10) (by omega)).2]
   simp
   omega
theorem dec_ne (u:Nat):Lib.decDigits u≠[]:=by
 rw [Lib.decDigits]
 split
 ·simp
 ·simp
theorem zUz (u:Nat):isd (Lib.decDigits u)=true:=by
 unfold isd
 rw [zW6]
 simp [dec_ne u]
theorem zLw {c:UInt8}{r:List UInt8}(h:(c.toNat:Int)≠45/\(c.toNat:Int)≠43):gsgB (c::r)=false/\sgR (c::r)=c::r:=by
 refine ⟨by simp only [gsgB];exact decide_eq_false h.1,?_⟩
 simp only [sgR]
 rw [if_neg (by omega)]
theorem zWs {c:UInt8}(h:dg c=true):48<=(c.toNat:Int)/\(c.toNat:Int)<=57:=by
 unfold dg at h
 have:=of_decide_eq_true h
 omega
theorem sg_all {l:List UInt8}(h:l.all dg=true):gsgB l=false/\sgR l=l:=by
 cases l with
 | nil=>exact ⟨rfl,rfl⟩
 | cons c r =>
  rw [List.all_cons,Bool.and_eq_true] at h
  have:=zWs h.1
  exact zLw ⟨by omega,by omega⟩
theorem zVy (e:Int)(h:-1000000000<=e/\e<=1000000000):exB (exT e)=true/\exI (exT e)=e/\Lib.hasPrefix (exT e) [46]=false/\dgs (exT e)=[]/\rst (exT e)=exT e:=by
 unfold exT
 split
 ·rename_i h0;subst h0;exact ⟨rfl,rfl,rfl,rfl,rfl⟩
 ·rename_i h0
  have hi:isd (sgR (Lib.itoa e))=true/\exS (Lib.itoa e)=e:=by
   unfold Lib.itoa
   split
   ·rename_i h1
    have e1:gsgB (45::Lib.decDigits e.natAbs)=true:=rfl
    have e2:sgR (45::Lib.decDigits e.natAbs)=Lib.decDigits e.natAbs:=rfl
    unfold exS
    rw [e1,e2,if_pos rfl]
    refine ⟨zUz _,?_⟩
    unfold vc;rw [zV6];omega
   ·rename_i h1
    obtain ⟨e1,e2⟩:=sg_all (zW6 e.toNat)
    unfold exS
    rw [e1,e2]
    refine ⟨zUz _,?_⟩
    rw [if_neg (by decide)]
    unfold vc;rw [zV6];omega
  have hx:exB (101::Lib.itoa e)=true:=by
   simp only [exB]
   rw [hi.1];rfl
  refine ⟨hx,?_,rfl,rfl,rfl⟩
  simp only [exI]
  rw [if_pos hx]
  exact hi.2
theorem zRf {l m:List UInt8}(h:l.all dg=true)(hm:dgs m=[]):dgs (l++m)=l/\rst (l++m)=m:=by
 have h1:dgs (l++m)=l:=by
  induction l with
  | nil=>exact hm
  | cons c r ih =>
   rw [List.all_cons,Bool.and_eq_true] at h
   unfold dgs at ih ⊢
   rw [List.cons_append,List.takeWhile_cons,if_pos h.1,ih h.2]
 refine ⟨h1,?_⟩
 have e:=zLg (l++m)
 rw [h1] at e
 exact List.append_cancel_left e
theorem yRa (T:List UInt8)(e:Int)(hT:T.all dg=true)(hn:T≠[])(h:-1000000000<=e/\e<=1000000000):zKl (T++exT e)=true/\finD (T++exT e)=bar T/\finE (T++exT e)=e:=by
 obtain ⟨h1,h2,h3,h4,h5⟩:=zVy e h
 obtain ⟨d1,d2⟩:=zRf hT h4
 have f1:zOo (T++exT e)=[]:=by unfold zOo;rw [d2,h3];rfl
 have f2:zNc (T++exT e)=exT e:=by unfold zNc;rw [d2,h3];rfl
 refine ⟨?_,?_,?_⟩
 ·unfold zKl;rw [f1,f2,h1,d1]
  cases T with
  | nil=>exact absurd rfl hn
  | cons c r=>rfl
 ·unfold finD;rw [f1,d1,List.append_nil]
 ·unfold finE;rw [f1,f2,h2];unfold zZf;simp;omega
def gdD (d:List UInt8):Prop:=d=[]∨(isd d=true/\by_ d 0≠48)
theorem zAk {d:List UInt8}(h:gdD d):d.all dg=true:=by
 rcases h with rfl|⟨h,_⟩
 ·rfl
 ·exact zGq h
theorem zOy {d:List UInt8}(h:gdD d):bar d=d:=by
 cases d with
 | nil=>rfl
 | cons c r =>
  rcases h with h|⟨_,h⟩
  ·cases h
  ·rw [zNg] at h
   rw [zBn,if_neg h]
theorem yNa {d:List UInt8}(h:gdD d):(dgT d).all dg=true/\dgT d≠[]/\bar (dgT d)=d:=by
 unfold dgT
 split
 ·rename_i h0;subst h0;exact ⟨rfl,by simp,rfl⟩
 ·rename_i h0;exact ⟨zAk h,h0,zOy h⟩
def gdP (p:Prt):Prop:=gdD p.dig/\((p.cls=1/\p.sn=false/\(-1000000000<=p.ex/\p.ex<=1000000000)/\(zOh p.cls p.sg p.sn p.dig p.ex).length<=4000)∨(p.cls=2/\p.sn=false/\p.dig=[]/\p.ex=0)∨(p.cls=3/\p.ex=0/\(zOh p.cls p.sg p.sn p.dig p.ex).length<=4000))
theorem zQj (s:Bool)(c:UInt8)(r:List UInt8)(h:(c.toNat:Int)≠45/\(c.toNat:Int)≠43):gsgB ((if s then [45] else [])++(c::r))=s/\sgR ((if s then [45] else [])++(c::r))=c::r:=by
 cases s
 ·exact zLw h
 ·exact ⟨rfl,rfl⟩
theorem sml_dg {d:List UInt8}(h:d.all dg=true):sml d=d:=by
 induction d with
 | nil=>rfl
 | cons c r ih =>
  rw [List.all_cons,Bool.and_eq_true] at h
  have:=zWs h.1
  show sm c::sml r=c::r
  rw [ih h.2]
  unfold sm
  rw [if_neg (by omega)]
theorem nan_pa {d:List UInt8}(h:gdD d):sml (if d=[] then [] else 40::(d++[41]))=(if d=[] then [] else 40::(d++[41]))/\paB (if d=[] then [] else 40::(d++[41]))=true/\paD (if d=[] then [] else 40::(d++[41]))=d:=by
 by_cases h0:d=[]
 ·rw [if_pos h0];subst h0;exact ⟨rfl,rfl,rfl⟩
 ·rw [if_neg h0]
  have e1:Lib.trimPrefix (40::(d++[41])) [40]=d++[41]:=rfl
  have e2:Lib.hasPrefix (40::(d++[41])) [40]=true:=rfl
  obtain ⟨d1,d2⟩:=zRf (m:=[41]) (zAk h) rfl
  refine ⟨?_,?_,?_⟩
  ·have:=sml_dg (zAk h)
   unfold sml at this ⊢
   rw [List.map_cons,List.map_append,this];rfl
  ·unfold paB;rw [e1,e2,d1,d2]
   cases d with
   | nil=>exact absurd rfl h0
   | cons c r=>rfl
  ·unfold paD;rw [e1,e2,d1];rfl
theorem zU9 (g:Bool){d:List UInt8}(h:gdD d):zKl (zDn g d)=false/\zHy (sml (zDn g d))=false/\zV9 (sml (zDn g d))=true/\Lib.hasPrefix (sml (zDn g d)) [115]=g/\paD (nanR (sml (zDn g d)))=d:=by
 obtain ⟨p1,p2,p3⟩:=nan_pa h
 unfold zDn
 generalize (if d=[] then [] else 40::(d++[41]):List UInt8)=X at p1 p2 p3 ⊢
 cases g
 ·have e:sml ((if false=true then [115] else [])++([110,97,110]++X))=[110,97,110]++X:=by
   show 110::97::110::sml X=_
   rw [p1];rfl
  rw [e]
  refine ⟨rfl,rfl,?_,rfl,?_⟩
  ·show (true&&paB X)=true
   rw [p2];rfl
  ·exact p3
 ·have e:sml ((if true=true then [115] else [])++([110,97,110]++X))=115::([110,97,110]++X):=by
   show 115::110::97::110::sml X=_
   rw [p1];rfl
  rw [e]
  refine ⟨rfl,rfl,?_,rfl,?_⟩
  ·show (true&&paB X)=true
   rw [p2];rfl
  ·exact p3
theorem zS3 {p:Prt}(h:gdP p):jnP p:=by
 obtain ⟨c,s,g,d,e⟩:=p
 obtain ⟨hd,h⟩:=h
 dsimp only at hd h
 rcases h with ⟨rfl,rfl,he,hl⟩|⟨rfl,rfl,rfl,rfl⟩|⟨rfl,rfl,hl⟩
 ·obtain ⟨t1,t2,t3⟩:=yNa hd
  have hb:yEc 1 false d e=dgT d++exT e:=rfl
  have hdl:d.length<=(dgT d).length:=by
   unfold dgT;split
   ·rename_i h0;subst h0;simp
   ·exact Nat.le_refl _
  have ht:zOh 1 s false d e=(if s then [45] else [])++(dgT d++exT e):=rfl
  refine ⟨?_,?_⟩
  ·rw [ht] at hl
   simp only [List.length_append] at hl
   show d.length<=4000
   omega
  ·unfold zYs
   rw [if_neg (show ¬ 4000<(zOh 1 s false d e).length by omega)]
   show zB7 (gsgB (zOh 1 s false d e)) (sgR (zOh 1 s false d e))=_
   obtain ⟨f1,f2,f3⟩:=yRa (dgT d) e t1 t2 he
   have hs:gsgB (zOh 1 s false d e)=s/\sgR (zOh 1 s false d e)=dgT d++exT e:=by
    rw [ht]
    revert t1 t2
    generalize dgT d=T
    intro t1 t2
    cases T with
    | nil=>exact absurd rfl t2
    | cons c r =>
     rw [List.all_cons,Bool.and_eq_true] at t1
     have:=zWs t1.1
     exact zQj s c _ ⟨by omega,by omega⟩
   rw [hs.1,hs.2]
   unfold zB7
   rw [if_pos f1,f2,f3,t3]
 ·refine ⟨by simp,?_⟩
  cases s<;>rfl
 ·have hn:=zU9 g hd
  have ht:zOh 3 s g d 0=(if s then [45] else [])++zDn g d:=rfl
  refine ⟨?_,?_⟩
  ·rw [ht] at hl
   unfold zDn at hl
   simp only [List.length_append] at hl
   show d.length<=4000
   by_cases h0:d=[]
   ·subst h0;simp
   ·rw [if_neg h0] at hl
    simp only [List.length_cons,List.length_append] at hl
    omega
  ·unfold zYs
   rw [if_neg (show ¬ 4000<(zOh 3 s g d 0).length by omega)]
   show zB7 (gsgB (zOh 3 s g d 0)) (sgR (zOh 3 s g d 0))=_
   have hs:gsgB (zOh 3 s g d 0)=s/\sgR (zOh 3 s g d 0)=zDn g d:=by
    rw [ht]
    cases g
    ·exact zQj s 110 _ ⟨by decide,by decide⟩
    ·exact zQj s 115 _ ⟨by decide,by decide⟩
   obtain ⟨n1,n2,n3,n4,n5⟩:=hn
   rw [hs.1,hs.2]
   unfold zB7
   rw [if_neg (by rw [n1];decide),if_neg (by rw [n2];decide),if_pos n3,n4,n5,zOy hd]
theorem zGs (e:Int)(w:World)(he:-9223372036854775808<=e/\e<=9223372036854775807)(hT:Tb10 w) :
  CB 100 #[.int .i64 e] w (.string (B (Lib.itoa e))):=by
 refine (Tryz.strconv_Itoa e he.1 he.2 w hT).mono ?_
 rintro x w' ⟨rfl,k,os,rfl⟩
 exact ⟨rfl,⟨rfl,rfl,rfl,by show w.heap.size<=(w.heap++os).size;simp,fun b hb=>by show (w.heap++os)[b]?=w.heap[b]?;rw [Array.getElem?_append_left hb]⟩⟩
end Go.Proofs.YtahfkpjhlbiamaaGreatDoor
