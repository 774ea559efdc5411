/-
  Texts that the proof leans on, joined: Gt, Gu, Gv.
-/
import Derived.Test.YtpabnhlfbjkmaaaGreatDoorL3
import Derived.Lib.AppendStr
import Derived.Lib.Builder
import Derived.Deep.AppendLies
import Derived.Test.YtpabnhlfbjkmaaaGreatDoorL1
import Derived.Lib.ItoaLen
set_option maxHeartbeats 8000000
set_option linter.unusedVariables false
set_option linter.unusedSimpArgs false
set_option linter.unusedSectionVars false
set_option maxRecDepth 20000
namespace Go.Proofs.YtpabnhlfbjkmaaaGreatDoor
open Go.RowKit
structure Ap (Bs H:Nat) (cs:Array Value) (v:Value) (l:List UInt8) (w0 w:World):Prop where
 own:w.ownsRow Bs 5 1 v l.length (Lib.byteCells l)
 box:w.heap[H]?=some (.cells cs 35)
 bel:Below Bs w0 w
 bs:Bs<=w.heap.size
theorem Ap.lt {Bs H:Nat} {cs:Array Value} {v:Value} {l:List UInt8} {w0 w:World} (h:Ap Bs H cs v l w0 w):H<w.heap.size:=by
 rcases Nat.lt_or_ge H w.heap.size with h' | h'
 ·exact h'
 ·have:=h.box;rw [Array.getElem?_eq_none h'] at this;cases this
theorem Ap.cell {Bs H:Nat} {cs:Array Value} {v:Value} {l:List UInt8} {w0 w:World} (h:Ap Bs H cs v l w0 w) (i:Nat):w.cell? ⟨H,i,none⟩=cs[i]?:=by
 unfold World.cell?
 have hh:=h.box
 simp [hh]
theorem Ap.alloc {Bs H:Nat} {cs:Array Value} {v:Value} {l:List UInt8} {w0 w:World} (h:Ap Bs H cs v l w0 w) (o:Obj):Ap Bs H cs v l w0 (w.alloc o) :=
 ⟨h.own.alloc o,by
  have:=h.lt
  rw [show (w.alloc o).heap[H]?=(w.heap.push o)[H]? from rfl,Array.getElem?_push_lt this,← Array.getElem?_eq_getElem this]
  exact h.box,h.bel.alloc h.bs _,by simp;have:=h.bs;omega⟩
theorem Ap.far {Bs H:Nat} {cs:Array Value} {v:Value} {l:List UInt8} {w0 w:World} (h:Ap Bs H cs v l w0 w):v.ownBlock≠some H:=Lib.ownBlock_ne h.own h.box (by decide)
theorem Ap.app {Bs H:Nat} {cs:Array Value} {v v':Value} {l m:List UInt8} {w0 w w1:World} {n:Nat} {xs:List Value} (h:Ap Bs H cs v l w0 w) (hg:w.grownBy w1 v.ownBlock) (ho:w1.ownsRow Bs 5 1 v' n xs) (hn:n=(l++m).length) (hx:xs=Lib.byteCells (l++m)):Ap Bs H cs v' (l++m) w0 w1:=by
 subst hn hx
 refine ⟨ho,?_,h.bel.grown hg h.bs fun k hk=>(h.own.lt k hk).1,Nat.le_trans h.bs hg.size⟩
 rw [hg.block H h.lt (fun e=>h.far e.symm)]
 exact h.box
theorem bc_one (l:List UInt8) (b:UInt8):Lib.byteCells l++[.int .u8 b.toNat]=Lib.byteCells (l++[b]):=by simp [Lib.byteCells]
theorem bc_str (l m:List UInt8):Lib.byteCells l++Lib.strCells (B m)=Lib.byteCells (l++m):=by
 simp [Lib.byteCells,Lib.strCells,B]
theorem news1 (W:World) (b:Int) (H':Nat) (h:W.heap.size=H'):∀ j u,[Value.int .u8 b][j]?=some u->(W.alloc (.cells #[.int .u8 b] 5)).cell? ((⟨H',0,none⟩:Addr).add j)=some u:=by
 subst h
 exact World.news_of_block (w:=W.alloc (.cells #[.int .u8 b] 5)) (cs:=#[.int .u8 b]) (t:=5) (fr:=(0,0)) (by
  show (W.heap.push _)[W.heap.size]?=_
  simp)
theorem one1 (b:Int):∀ u ∈ [Value.int .u8 b],u.oneCell'=true:=by simp [Value.oneCell']
theorem Tryz.info5:(Tryz.prog.info? 5).map (fun i=>(i.zero,i.size,i.bytes))=some (some (.int .u8 0),1,1):=by kernel_rfl
def exT (e:Int):List UInt8:=if e=0 then [] else 101 :: Lib.itoa e
def dgT (d:List UInt8):List UInt8:=if d=[] then [48] else d
abbrev PC (c:Int) (s g:Bool) (d:List UInt8) (e:Int):Array Value:=#[.int .i64 c,.bool s,.bool g,.string (B d),.int .i64 e]
theorem Ap.start {Bs:Nat} {cs:Array Value} {v:Value} {l:List UInt8} {w:World} (hown:w.ownsRow Bs 5 1 v l.length (Lib.byteCells l)) (hb:Bs<=w.heap.size):Ap Bs w.heap.size cs v l w (w.alloc (.cells cs 35)) :=
 ⟨hown.alloc _,by show (w.heap.push _)[w.heap.size]?=_;simp,(Below.refl _ _).alloc hb _,by simp;omega⟩
theorem appFin_n0 (Bs:Nat) (c:Int) (s g:Bool) (v:Value) (l:List UInt8) (w:World) (hl:l.length<100000) (hown:w.ownsRow Bs 5 1 v l.length (Lib.byteCells l)) (hb:Bs<=w.heap.size) :
  Calls Tryz.prog 125 #[v,PV c s g [] 0] w fun x w'=>∃ v',x=.returned v'/\w'.ownsRow Bs 5 1 v' (l++[48]).length (Lib.byteCells (l++[48]))/\Below Bs w w':=by
 have htl:=B_toList
 obtain ⟨i0,hi,hz0,hz1,hz2⟩:=info_parts Tryz.info5
 unfold PV
 have A0:Ap Bs w.heap.size (PC c s g [] 0) v l w (w.alloc (.cells (PC c s g [] 0) 35)):=Ap.start hown hb
 clear hown
 go_enter Tryz.func125,Tryz.ntmps125
 go_wp2_with (first | (at_builtin;refine wpList_append_lies _ rfl (.tmp 8) (.tmp 9) 79 rfl Bs 5 i0 (.int .u8 0) 1 1 Tryz.underlying79 hi hz0 hz1 hz2 rfl (by decide) v (l).length (Lib.byteCells (l)) rfl (A0.alloc (.cells #[.int .u8 48] 5)).own ⟨w.heap.size+1,0,none⟩ 1 1 [.int .u8 48] rfl rfl (news1 _ _ _ (by simp)) (one1 _) (by decide) (by unfold maxLen;omega) (by omega) (A0.alloc (.cells #[.int .u8 48] 5)).bs _ rfl ?_;intro g1 cap1 w1 hown hgrow hat hlt;have A1:=(A0.alloc (.cells #[.int .u8 48] 5)).app (m:=[48]) hgrow hown (by simp only [List.length_append,List.length_cons,List.length_nil];try omega) (bc_one _ 48);clear hown hgrow hat hlt;generalize (Value.slice (some ⟨g1,0,none⟩) ((l).length+1) cap1)=v1 at *;have k1_0:w1.cell? ⟨w.heap.size,0,none⟩=some (.int .i64 c):=A1.cell 0;have k1_1:w1.cell? ⟨w.heap.size,1,none⟩=some (.bool s):=A1.cell 1;have k1_2:w1.cell? ⟨w.heap.size,2,none⟩=some (.bool g):=A1.cell 2;have k1_3:w1.cell? ⟨w.heap.size,3,none⟩=some (.string (B [])):=A1.cell 3;have k1_4:w1.cell? ⟨w.heap.size,4,none⟩=some (.int .i64 0):=A1.cell 4) | (at_builtin;refine Lib.wpList_append_own_string _ rfl (.tmp 11) (.tmp 13) 79 9 rfl Bs 5 i0 Tryz.underlying79 Tryz.underlying9 hi hz0 hz1 hz2 v1 (l++[48]).length (Lib.byteCells (l++[48])) rfl A1.own (B []) rfl (by rw [B_size];unfold maxLen;simp only [List.length_append,List.length_cons,List.length_nil];omega) (by rw [B_size];simp only [List.length_append,List.length_cons,List.length_nil];omega) A1.bs ?_;intro v2 w2 hown hgrow hq;have A2:=A1.app (m:=[]) hgrow hown (by simp only [B_size,List.length_append,List.length_cons,List.length_nil];try omega) (bc_str _ _);clear hown hgrow hq;have k2_0:w2.cell? ⟨w.heap.size,0,none⟩=some (.int .i64 c):=A2.cell 0;have k2_1:w2.cell? ⟨w.heap.size,1,none⟩=some (.bool s):=A2.cell 1;have k2_2:w2.cell? ⟨w.heap.size,2,none⟩=some (.bool g):=A2.cell 2;have k2_3:w2.cell? ⟨w.heap.size,3,none⟩=some (.string (B [])):=A2.cell 3;have k2_4:w2.cell? ⟨w.heap.size,4,none⟩=some (.int .i64 0):=A2.cell 4))
 rw [List.append_nil] at A2
 go_ret
 exact ⟨v2,rfl,A2.own,A2.bel⟩
theorem appFin_ne (Bs:Nat) (c:Int) (s g:Bool) (e:Int) (v:Value) (l:List UInt8) (w:World) (hl:l.length<100000) (hown:w.ownsRow Bs 5 1 v l.length (Lib.byteCells l)) (hb:Bs<=w.heap.size) (he:(e != 0)=true) (he1:-9223372036854775808<=e/\e<=9223372036854775807) (htab:Lib.TabBelow Tryz.prog Bs w "internal/strconv.uint64pow10" .u64 Lib.pow10Tab) :
  Calls Tryz.prog 125 #[v,PV c s g [] e] w fun x w'=>∃ v',x=.returned v'/\w'.ownsRow Bs 5 1 v' (l++([48]++101 :: Lib.itoa e)).length (Lib.byteCells (l++([48]++101 :: Lib.itoa e)))/\Below Bs w w':=by
 have htl:=B_toList
 obtain ⟨i0,hi,hz0,hz1,hz2⟩:=info_parts Tryz.info5
 unfold PV
 have A0:Ap Bs w.heap.size (PC c s g [] e) v l w (w.alloc (.cells (PC c s g [] e) 35)):=Ap.start hown hb
 clear hown
 go_enter Tryz.func125,Tryz.ntmps125
 go_wp2_with (first | (at_builtin;refine wpList_append_lies _ rfl (.tmp 8) (.tmp 9) 79 rfl Bs 5 i0 (.int .u8 0) 1 1 Tryz.underlying79 hi hz0 hz1 hz2 rfl (by decide) v (l).length (Lib.byteCells (l)) rfl (A0.alloc (.cells #[.int .u8 48] 5)).own ⟨w.heap.size+1,0,none⟩ 1 1 [.int .u8 48] rfl rfl (news1 _ _ _ (by simp)) (one1 _) (by decide) (by unfold maxLen;omega) (by omega) (A0.alloc (.cells #[.int .u8 48] 5)).bs _ rfl ?_;intro g1 cap1 w1 hown hgrow hat hlt;have A1:=(A0.alloc (.cells #[.int .u8 48] 5)).app (m:=[48]) hgrow hown (by simp only [List.length_append,List.length_cons,List.length_nil];try omega) (bc_one _ 48);clear hown hgrow hat hlt;generalize (Value.slice (some ⟨g1,0,none⟩) ((l).length+1) cap1)=v1 at *;have k1_0:w1.cell? ⟨w.heap.size,0,none⟩=some (.int .i64 c):=A1.cell 0;have k1_1:w1.cell? ⟨w.heap.size,1,none⟩=some (.bool s):=A1.cell 1;have k1_2:w1.cell? ⟨w.heap.size,2,none⟩=some (.bool g):=A1.cell 2;have k1_3:w1.cell? ⟨w.heap.size,3,none⟩=some (.string (B [])):=A1.cell 3;have k1_4:w1.cell? ⟨w.heap.size,4,none⟩=some (.int .i64 e):=A1.cell 4) | (at_builtin;refine Lib.wpList_append_own_string _ rfl (.tmp 11) (.tmp 13) 79 9 rfl Bs 5 i0 Tryz.underlying79 Tryz.underlying9 hi hz0 hz1 hz2 v1 (l++[48]).length (Lib.byteCells (l++[48])) rfl A1.own (B []) rfl (by rw [B_size];unfold maxLen;simp only [List.length_append,List.length_cons,List.length_nil];omega) (by rw [B_size];simp only [List.length_append,List.length_cons,List.length_nil];omega) A1.bs ?_;intro v2 w2 hown hgrow hq;have A2:=A1.app (m:=[]) hgrow hown (by simp only [B_size,List.length_append,List.length_cons,List.length_nil];try omega) (bc_str _ _);clear hown hgrow hq;have k2_0:w2.cell? ⟨w.heap.size,0,none⟩=some (.int .i64 c):=A2.cell 0;have k2_1:w2.cell? ⟨w.heap.size,1,none⟩=some (.bool s):=A2.cell 1;have k2_2:w2.cell? ⟨w.heap.size,2,none⟩=some (.bool g):=A2.cell 2;have k2_3:w2.cell? ⟨w.heap.size,3,none⟩=some (.string (B [])):=A2.cell 3;have k2_4:w2.cell? ⟨w.heap.size,4,none⟩=some (.int .i64 e):=A2.cell 4) | (at_builtin;refine wpList_append_lies _ rfl (.tmp 18) (.tmp 19) 79 rfl Bs 5 i0 (.int .u8 0) 1 1 Tryz.underlying79 hi hz0 hz1 hz2 rfl (by decide) v2 (l++[48]++[]).length (Lib.byteCells (l++[48]++[])) rfl (A2.alloc (.cells #[.int .u8 101] 5)).own ⟨w2.heap.size,0,none⟩ 1 1 [.int .u8 101] rfl rfl (news1 _ _ _ rfl) (one1 _) (by decide) (by unfold maxLen;simp only [List.length_append,List.length_cons,List.length_nil];omega) (by simp only [List.length_append,List.length_cons,List.length_nil];omega) (A2.alloc (.cells #[.int .u8 101] 5)).bs _ rfl ?_;intro g3 cap3 w3 hown hgrow hat hlt;have A3:=(A2.alloc (.cells #[.int .u8 101] 5)).app (m:=[101]) hgrow hown (by simp only [List.length_append,List.length_cons,List.length_nil];try omega) (bc_one _ 101);clear hown hgrow hat hlt;generalize (Value.slice (some ⟨g3,0,none⟩) ((l++[48]++[]).length+1) cap3)=v3 at *;have k3_0:w3.cell? ⟨w.heap.size,0,none⟩=some (.int .i64 c):=A3.cell 0;have k3_1:w3.cell? ⟨w.heap.size,1,none⟩=some (.bool s):=A3.cell 1;have k3_2:w3.cell? ⟨w.heap.size,2,none⟩=some (.bool g):=A3.cell 2;have k3_3:w3.cell? ⟨w.heap.size,3,none⟩=some (.string (B [])):=A3.cell 3;have k3_4:w3.cell? ⟨w.heap.size,4,none⟩=some (.int .i64 e):=A3.cell 4) | (go_at_call 157;refine (Tryz.strconv_AppendInt_10 Bs (l++[48]++[]++[101]).length e he1.1 he1.2 v3 (Lib.byteCells (l++[48]++[]++[101])) w3 A3.own A3.bs (by simp only [List.length_append,List.length_cons,List.length_nil];omega) (htab.on A3.bel)).mono ?_;rintro x w4 ⟨v4,rfl,hown4,hb4,_⟩))
 go_ret
 refine ⟨v4,rfl,?_,A3.bel.trans hb4⟩
 have e1:Lib.byteCells (l++[48]++[]++[101])++Lib.byteCells (Lib.itoa e)=Lib.byteCells (l++([48]++101 :: Lib.itoa e)):=by simp [Lib.byteCells]
 have e2:(l++[48]++[]++[101]).length+(Lib.itoa e).length=(l++([48]++101 :: Lib.itoa e)).length:=by simp [List.length_append];try omega
 rw [e1,e2] at hown4
 exact hown4
theorem appFin_c0 (Bs:Nat) (c:Int) (s g:Bool) (d:UInt8) (ds:List UInt8) (v:Value) (l:List UInt8) (w:World) (hl:l.length<100000) (hown:w.ownsRow Bs 5 1 v l.length (Lib.byteCells l)) (hb:Bs<=w.heap.size) (hd:ds.length+1<100000) :
  Calls Tryz.prog 125 #[v,PV c s g (d :: ds) 0] w fun x w'=>∃ v',x=.returned v'/\w'.ownsRow Bs 5 1 v' (l++(d :: ds)).length (Lib.byteCells (l++(d :: ds)))/\Below Bs w w':=by
 have htl:=B_toList
 obtain ⟨i0,hi,hz0,hz1,hz2⟩:=info_parts Tryz.info5
 unfold PV
 have A0:Ap Bs w.heap.size (PC c s g (d :: ds) 0) v l w (w.alloc (.cells (PC c s g (d :: ds) 0) 35)):=Ap.start hown hb
 clear hown
 have k0_3:(w.alloc (.cells (PC c s g (d :: ds) 0) 35)).cell? ⟨w.heap.size,3,none⟩=some (.string (B (d :: ds))):=A0.cell 3
 go_enter Tryz.func125,Tryz.ntmps125
 go_wp2_with (first | (at_builtin;refine Lib.wpList_append_own_string _ rfl (.tmp 11) (.tmp 13) 79 9 rfl Bs 5 i0 Tryz.underlying79 Tryz.underlying9 hi hz0 hz1 hz2 v (l).length (Lib.byteCells (l)) rfl A0.own (B (d :: ds)) rfl (by rw [B_size];unfold maxLen;simp only [List.length_append,List.length_cons,List.length_nil];omega) (by rw [B_size];simp only [List.length_append,List.length_cons,List.length_nil];omega) A0.bs ?_;intro v2 w2 hown hgrow hq;have A2:=A0.app (m:=(d :: ds)) hgrow hown (by simp only [B_size,List.length_append,List.length_cons,List.length_nil];try omega) (bc_str _ _);clear hown hgrow hq;have k2_0:w2.cell? ⟨w.heap.size,0,none⟩=some (.int .i64 c):=A2.cell 0;have k2_1:w2.cell? ⟨w.heap.size,1,none⟩=some (.bool s):=A2.cell 1;have k2_2:w2.cell? ⟨w.heap.size,2,none⟩=some (.bool g):=A2.cell 2;have k2_3:w2.cell? ⟨w.heap.size,3,none⟩=some (.string (B (d :: ds))):=A2.cell 3;have k2_4:w2.cell? ⟨w.heap.size,4,none⟩=some (.int .i64 0):=A2.cell 4))
 go_ret
 exact ⟨v2,rfl,A2.own,A2.bel⟩
theorem appFin_ce (Bs:Nat) (c:Int) (s g:Bool) (d:UInt8) (ds:List UInt8) (e:Int) (v:Value) (l:List UInt8) (w:World) (hl:l.length<100000) (hown:w.ownsRow Bs 5 1 v l.length (Lib.byteCells l)) (hb:Bs<=w.heap.size) (hd:ds.length+1<100000) (he:(e != 0)=true) (he1:-9223372036854775808<=e/\e<=9223372036854775807) (htab:Lib.TabBelow Tryz.prog Bs w "internal/strconv.uint64pow10" .u64 Lib.pow10Tab) :
  Calls Tryz.prog 125 #[v,PV c s g (d :: ds) e] w fun x w'=>∃ v',x=.returned v'/\w'.ownsRow Bs 5 1 v' (l++(d :: ds++101 :: Lib.itoa e)).length (Lib.byteCells (l++(d :: ds++101 :: Lib.itoa e)))/\Below Bs w w':=by
 have htl:=B_toList
 obtain ⟨i0,hi,hz0,hz1,hz2⟩:=info_parts Tryz.info5
 unfold PV
 have A0:Ap Bs w.heap.size (PC c s g (d :: ds) e) v l w (w.alloc (.cells (PC c s g (d :: ds) e) 35)):=Ap.start hown hb
 clear hown
 have k0_3:(w.alloc (.cells (PC c s g (d :: ds) e) 35)).cell? ⟨w.heap.size,3,none⟩=some (.string (B (d :: ds))):=A0.cell 3
 go_enter Tryz.func125,Tryz.ntmps125
 go_wp2_with (first | (at_builtin;refine Lib.wpList_append_own_string _ rfl (.tmp 11) (.tmp 13) 79 9 rfl Bs 5 i0 Tryz.underlying79 Tryz.underlying9 hi hz0 hz1 hz2 v (l).length (Lib.byteCells (l)) rfl A0.own (B (d :: ds)) rfl (by rw [B_size];unfold maxLen;simp only [List.length_append,List.length_cons,List.length_nil];omega) (by rw [B_size];simp only [List.length_append,List.length_cons,List.length_nil];omega) A0.bs ?_;intro v2 w2 hown hgrow hq;have A2:=A0.app (m:=(d :: ds)) hgrow hown (by simp only [B_size,List.length_append,List.length_cons,List.length_nil];try omega) (bc_str _ _);clear hown hgrow hq;have k2_0:w2.cell? ⟨w.heap.size,0,none⟩=some (.int .i64 c):=A2.cell 0;have k2_1:w2.cell? ⟨w.heap.size,1,none⟩=some (.bool s):=A2.cell 1;have k2_2:w2.cell? ⟨w.heap.size,2,none⟩=some (.bool g):=A2.cell 2;have k2_3:w2.cell? ⟨w.heap.size,3,none⟩=some (.string (B (d :: ds))):=A2.cell 3;have k2_4:w2.cell? ⟨w.heap.size,4,none⟩=some (.int .i64 e):=A2.cell 4) | (at_builtin;refine wpList_append_lies _ rfl (.tmp 18) (.tmp 19) 79 rfl Bs 5 i0 (.int .u8 0) 1 1 Tryz.underlying79 hi hz0 hz1 hz2 rfl (by decide) v2 (l++(d :: ds)).length (Lib.byteCells (l++(d :: ds))) rfl (A2.alloc (.cells #[.int .u8 101] 5)).own ⟨w2.heap.size,0,none⟩ 1 1 [.int .u8 101] rfl rfl (news1 _ _ _ rfl) (one1 _) (by decide) (by unfold maxLen;simp only [List.length_append,List.length_cons,List.length_nil];omega) (by simp only [List.length_append,List.length_cons,List.length_nil];omega) (A2.alloc (.cells #[.int .u8 101] 5)).bs _ rfl ?_;intro g3 cap3 w3 hown hgrow hat hlt;have A3:=(A2.alloc (.cells #[.int .u8 101] 5)).app (m:=[101]) hgrow hown (by simp only [List.length_append,List.length_cons,List.length_nil];try omega) (bc_one _ 101);clear hown hgrow hat hlt;generalize (Value.slice (some ⟨g3,0,none⟩) ((l++(d :: ds)).length+1) cap3)=v3 at *;have k3_0:w3.cell? ⟨w.heap.size,0,none⟩=some (.int .i64 c):=A3.cell 0;have k3_1:w3.cell? ⟨w.heap.size,1,none⟩=some (.bool s):=A3.cell 1;have k3_2:w3.cell? ⟨w.heap.size,2,none⟩=some (.bool g):=A3.cell 2;have k3_3:w3.cell? ⟨w.heap.size,3,none⟩=some (.string (B (d :: ds))):=A3.cell 3;have k3_4:w3.cell? ⟨w.heap.size,4,none⟩=some (.int .i64 e):=A3.cell 4) | (go_at_call 157;refine (Tryz.strconv_AppendInt_10 Bs (l++(d :: ds)++[101]).length e he1.1 he1.2 v3 (Lib.byteCells (l++(d :: ds)++[101])) w3 A3.own A3.bs (by simp only [List.length_append,List.length_cons,List.length_nil];omega) (htab.on A3.bel)).mono ?_;rintro x w4 ⟨v4,rfl,hown4,hb4,_⟩))
 go_ret
 refine ⟨v4,rfl,?_,A3.bel.trans hb4⟩
 have e1:Lib.byteCells (l++(d :: ds)++[101])++Lib.byteCells (Lib.itoa e)=Lib.byteCells (l++(d :: ds++101 :: Lib.itoa e)):=by simp [Lib.byteCells]
 have e2:(l++(d :: ds)++[101]).length+(Lib.itoa e).length=(l++(d :: ds++101 :: Lib.itoa e)).length:=by simp [List.length_append];try omega
 rw [e1,e2] at hown4
 exact hown4
theorem appNaN_fn (Bs:Nat) (c:Int) (s:Bool) (e:Int) (v:Value) (l:List UInt8) (w:World) (hl:l.length<100000) (hown:w.ownsRow Bs 5 1 v l.length (Lib.byteCells l)) (hb:Bs<=w.heap.size) :
  Calls Tryz.prog 124 #[v,PV c s false [] e] w fun x w'=>∃ v',x=.returned v'/\w'.ownsRow Bs 5 1 v' (l++([110,97,110])).length (Lib.byteCells (l++([110,97,110])))/\Below Bs w w':=by
 have htl:=B_toList
 obtain ⟨i0,hi,hz0,hz1,hz2⟩:=info_parts Tryz.info5
 unfold PV
 have A0:Ap Bs w.heap.size (PC c s false [] e) v l w (w.alloc (.cells (PC c s false [] e) 35)):=Ap.start hown hb
 clear hown
 have k0_2:(w.alloc (.cells (PC c s false [] e) 35)).cell? ⟨w.heap.size,2,none⟩=some (.bool false):=A0.cell 2
 go_enter Tryz.func124,Tryz.ntmps124
 go_wp2_with (first | (at_builtin;refine Lib.wpList_append_own_string _ rfl (.tmp 10) (.const (.string ⟨#[110,97,110]⟩)) 79 9 rfl Bs 5 i0 Tryz.underlying79 Tryz.underlying9 hi hz0 hz1 hz2 v (l).length (Lib.byteCells (l)) rfl A0.own (B [110,97,110]) rfl (by rw [B_size];unfold maxLen;simp only [List.length_append,List.length_cons,List.length_nil];omega) (by rw [B_size];simp only [List.length_append,List.length_cons,List.length_nil];omega) A0.bs ?_;intro v2 w2 hown hgrow hq;have A2:=A0.app (m:=[110,97,110]) hgrow hown (by simp only [B_size,List.length_append,List.length_cons,List.length_nil];try omega) (bc_str _ _);clear hown hgrow hq;have k2_0:w2.cell? ⟨w.heap.size,0,none⟩=some (.int .i64 c):=A2.cell 0;have k2_1:w2.cell? ⟨w.heap.size,1,none⟩=some (.bool s):=A2.cell 1;have k2_2:w2.cell? ⟨w.heap.size,2,none⟩=some (.bool false):=A2.cell 2;have k2_3:w2.cell? ⟨w.heap.size,3,none⟩=some (.string (B [])):=A2.cell 3;have k2_4:w2.cell? ⟨w.heap.size,4,none⟩=some (.int .i64 e):=A2.cell 4))
 go_ret
 exact ⟨v2,rfl,A2.own,A2.bel⟩
theorem appNaN_fc (Bs:Nat) (c:Int) (s:Bool) (d:UInt8) (ds:List UInt8) (e:Int) (v:Value) (l:List UInt8) (w:World) (hl:l.length<100000) (hown:w.ownsRow Bs 5 1 v l.length (Lib.byteCells l)) (hb:Bs<=w.heap.size) (hd:ds.length+1<100000) :
  Calls Tryz.prog 124 #[v,PV c s false (d :: ds) e] w fun x w'=>∃ v',x=.returned v'/\w'.ownsRow Bs 5 1 v' (l++([110,97,110]++40 :: (d :: ds++[41]))).length (Lib.byteCells (l++([110,97,110]++40 :: (d :: ds++[41]))))/\Below Bs w w':=by
 have htl:=B_toList
 obtain ⟨i0,hi,hz0,hz1,hz2⟩:=info_parts Tryz.info5
 unfold PV
 have A0:Ap Bs w.heap.size (PC c s false (d :: ds) e) v l w (w.alloc (.cells (PC c s false (d :: ds) e) 35)):=Ap.start hown hb
 clear hown
 have k0_2:(w.alloc (.cells (PC c s false (d :: ds) e) 35)).cell? ⟨w.heap.size,2,none⟩=some (.bool false):=A0.cell 2
 go_enter Tryz.func124,Tryz.ntmps124
 go_wp2_with (first | (at_builtin;refine Lib.wpList_append_own_string _ rfl (.tmp 10) (.const (.string ⟨#[110,97,110]⟩)) 79 9 rfl Bs 5 i0 Tryz.underlying79 Tryz.underlying9 hi hz0 hz1 hz2 v (l).length (Lib.byteCells (l)) rfl A0.own (B [110,97,110]) rfl (by rw [B_size];unfold maxLen;simp only [List.length_append,List.length_cons,List.length_nil];omega) (by rw [B_size];simp only [List.length_append,List.length_cons,List.length_nil];omega) A0.bs ?_;intro v2 w2 hown hgrow hq;have A2:=A0.app (m:=[110,97,110]) hgrow hown (by simp only [B_size,List.length_append,List.length_cons,List.length_nil];try omega) (bc_str _ _);clear hown hgrow hq;have k2_0:w2.cell? ⟨w.heap.size,0,none⟩=some (.int .i64 c):=A2.cell 0;have k2_1:w2.cell? ⟨w.heap.size,1,none⟩=some (.bool s):=A2.cell 1;have k2_2:w2.cell? ⟨w.heap.size,2,none⟩=some (.bool false):=A2.cell 2;have k2_3:w2.cell? ⟨w.heap.size,3,none⟩=some (.string (B (d :: ds))):=A2.cell 3;have k2_4:w2.cell? ⟨w.heap.size,4,none⟩=some (.int .i64 e):=A2.cell 4) | (at_builtin;refine wpList_append_lies _ rfl (.tmp 15) (.tmp 16) 79 rfl Bs 5 i0 (.int .u8 0) 1 1 Tryz.underlying79 hi hz0 hz1 hz2 rfl (by decide) v2 (l++[110,97,110]).length (Lib.byteCells (l++[110,97,110])) rfl (A2.alloc (.cells #[.int .u8 40] 5)).own ⟨w2.heap.size,0,none⟩ 1 1 [.int .u8 40] rfl rfl (news1 _ _ _ rfl) (one1 _) (by decide) (by unfold maxLen;simp only [List.length_append,List.length_cons,List.length_nil];omega) (by simp only [List.length_append,List.length_cons,List.length_nil];omega) (A2.alloc (.cells #[.int .u8 40] 5)).bs _ rfl ?_;intro g3 cap3 w3 hown hgrow hat hlt;have A3:=(A2.alloc (.cells #[.int .u8 40] 5)).app (m:=[40]) hgrow hown (by simp only [List.length_append,List.length_cons,List.length_nil];try omega) (bc_one _ 40);clear hown hgrow hat hlt;generalize (Value.slice (some ⟨g3,0,none⟩) ((l++[110,97,110]).length+1) cap3)=v3 at *;have k3_0:w3.cell? ⟨w.heap.size,0,none⟩=some (.int .i64 c):=A3.cell 0;have k3_1:w3.cell? ⟨w.heap.size,1,none⟩=some (.bool s):=A3.cell 1;have k3_2:w3.cell? ⟨w.heap.size,2,none⟩=some (.bool false):=A3.cell 2;have k3_3:w3.cell? ⟨w.heap.size,3,none⟩=some (.string (B (d :: ds))):=A3.cell 3;have k3_4:w3.cell? ⟨w.heap.size,4,none⟩=some (.int .i64 e):=A3.cell 4) | (at_builtin;refine Lib.wpList_append_own_string _ rfl (.tmp 18) (.tmp 20) 79 9 rfl Bs 5 i0 Tryz.underlying79 Tryz.underlying9 hi hz0 hz1 hz2 v3 (l++[110,97,110]++[40]).length (Lib.byteCells (l++[110,97,110]++[40])) rfl A3.own (B (d :: ds)) rfl (by rw [B_size];unfold maxLen;simp only [List.length_append,List.length_cons,List.length_nil];omega) (by rw [B_size];simp only [List.length_append,List.length_cons,List.length_nil];omega) A3.bs ?_;intro v4 w4 hown hgrow hq;have A4:=A3.app (m:=(d :: ds)) hgrow hown (by simp only [B_size,List.length_append,List.length_cons,List.length_nil];try omega) (bc_str _ _);clear hown hgrow hq;have k4_0:w4.cell? ⟨w.heap.size,0,none⟩=some (.int .i64 c):=A4.cell 0;have k4_1:w4.cell? ⟨w.heap.size,1,none⟩=some (.bool s):=A4.cell 1;have k4_2:w4.cell? ⟨w.heap.size,2,none⟩=some (.bool false):=A4.cell 2;have k4_3:w4.cell? ⟨w.heap.size,3,none⟩=some (.string (B (d :: ds))):=A4.cell 3;have k4_4:w4.cell? ⟨w.heap.size,4,none⟩=some (.int .i64 e):=A4.cell 4) | (at_builtin;refine wpList_append_lies _ rfl (.tmp 22) (.tmp 23) 79 rfl Bs 5 i0 (.int .u8 0) 1 1 Tryz.underlying79 hi hz0 hz1 hz2 rfl (by decide) v4 (l++[110,97,110]++[40]++(d :: ds)).length (Lib.byteCells (l++[110,97,110]++[40]++(d :: ds))) rfl (A4.alloc (.cells #[.int .u8 41] 5)).own ⟨w4.heap.size,0,none⟩ 1 1 [.int .u8 41] rfl rfl (news1 _ _ _ rfl) (one1 _) (by decide) (by unfold maxLen;simp only [List.length_append,List.length_cons,List.length_nil];omega) (by simp only [List.length_append,List.length_cons,List.length_nil];omega) (A4.alloc (.cells #[.int .u8 41] 5)).bs _ rfl ?_;intro g5 cap5 w5 hown hgrow hat hlt;have A5:=(A4.alloc (.cells #[.int .u8 41] 5)).app (m:=[41]) hgrow hown (by simp only [List.length_append,List.length_cons,List.length_nil];try omega) (bc_one _ 41);clear hown hgrow hat hlt;generalize (Value.slice (some ⟨g5,0,none⟩) ((l++[110,97,110]++[40]++(d :: ds)).length+1) cap5)=v5 at *;have k5_0:w5.cell? ⟨w.heap.size,0,none⟩=some (.int .i64 c):=A5.cell 0;have k5_1:w5.cell? ⟨w.heap.size,1,none⟩=some (.bool s):=A5.cell 1;have k5_2:w5.cell? ⟨w.heap.size,2,none⟩=some (.bool false):=A5.cell 2;have k5_3:w5.cell? ⟨w.heap.size,3,none⟩=some (.string (B (d :: ds))):=A5.cell 3;have k5_4:w5.cell? ⟨w.heap.size,4,none⟩=some (.int .i64 e):=A5.cell 4))
 go_ret
 have e1:l++[110,97,110]++[40]++(d :: ds)++[41]=l++([110,97,110]++40 :: (d :: ds++[41])):=by simp
 rw [e1] at A5
 exact ⟨_,rfl,A5.own,A5.bel⟩
theorem appNaN_tn (Bs:Nat) (c:Int) (s:Bool) (e:Int) (v:Value) (l:List UInt8) (w:World) (hl:l.length<100000) (hown:w.ownsRow Bs 5 1 v l.length (Lib.byteCells l)) (hb:Bs<=w.heap.size) :
  Calls Tryz.prog 124 #[v,PV c s true [] e] w fun x w'=>∃ v',x=.returned v'/\w'.ownsRow Bs 5 1 v' (l++(115 :: [110,97,110])).length (Lib.byteCells (l++(115 :: [110,97,110])))/\Below Bs w w':=by
 have htl:=B_toList
 obtain ⟨i0,hi,hz0,hz1,hz2⟩:=info_parts Tryz.info5
 unfold PV
 have A0:Ap Bs w.heap.size (PC c s true [] e) v l w (w.alloc (.cells (PC c s true [] e) 35)):=Ap.start hown hb
 clear hown
 have k0_2:(w.alloc (.cells (PC c s true [] e) 35)).cell? ⟨w.heap.size,2,none⟩=some (.bool true):=A0.cell 2
 go_enter Tryz.func124,Tryz.ntmps124
 go_wp2_with (first | (at_builtin;refine wpList_append_lies _ rfl (.tmp 7) (.tmp 8) 79 rfl Bs 5 i0 (.int .u8 0) 1 1 Tryz.underlying79 hi hz0 hz1 hz2 rfl (by decide) v (l).length (Lib.byteCells (l)) rfl (A0.alloc (.cells #[.int .u8 115] 5)).own ⟨w.heap.size+1,0,none⟩ 1 1 [.int .u8 115] rfl rfl (news1 _ _ _ (by simp)) (one1 _) (by decide) (by unfold maxLen;omega) (by omega) (A0.alloc (.cells #[.int .u8 115] 5)).bs _ rfl ?_;intro g1 cap1 w1 hown hgrow hat hlt;have A1:=(A0.alloc (.cells #[.int .u8 115] 5)).app (m:=[115]) hgrow hown (by simp only [List.length_append,List.length_cons,List.length_nil];try omega) (bc_one _ 115);clear hown hgrow hat hlt;generalize (Value.slice (some ⟨g1,0,none⟩) ((l).length+1) cap1)=v1 at *;have k1_0:w1.cell? ⟨w.heap.size,0,none⟩=some (.int .i64 c):=A1.cell 0;have k1_1:w1.cell? ⟨w.heap.size,1,none⟩=some (.bool s):=A1.cell 1;have k1_2:w1.cell? ⟨w.heap.size,2,none⟩=some (.bool true):=A1.cell 2;have k1_3:w1.cell? ⟨w.heap.size,3,none⟩=some (.string (B [])):=A1.cell 3;have k1_4:w1.cell? ⟨w.heap.size,4,none⟩=some (.int .i64 e):=A1.cell 4) | (at_builtin;refine Lib.wpList_append_own_string _ rfl (.tmp 10) (.const (.string ⟨#[110,97,110]⟩)) 79 9 rfl Bs 5 i0 Tryz.underlying79 Tryz.underlying9 hi hz0 hz1 hz2 v1 (l++[115]).length (Lib.byteCells (l++[115])) rfl A1.own (B [110,97,110]) rfl (by rw [B_size];unfold maxLen;simp only [List.length_append,List.length_cons,List.length_nil];omega) (by rw [B_size];simp only [List.length_append,List.length_cons,List.length_nil];omega) A1.bs ?_;intro v2 w2 hown hgrow hq;have A2:=A1.app (m:=[110,97,110]) hgrow hown (by simp only [B_size,List.length_append,List.length_cons,List.length_nil];try omega) (bc_str _ _);clear hown hgrow hq;have k2_0:w2.cell? ⟨w.heap.size,0,none⟩=some (.int .i64 c):=A2.cell 0;have k2_1:w2.cell? ⟨w.heap.size,1,none⟩=some (.bool s):=A2.cell 1;have k2_2:w2.cell? ⟨w.heap.size,2,none⟩=some (.bool true):=A2.cell 2;have k2_3:w2.cell? ⟨w.heap.size,3,none⟩=some (.string (B [])):=A2.cell 3;have k2_4:w2.cell? ⟨w.heap.size,4,none⟩=some (.int .i64 e):=A2.cell 4))
 go_ret
 have e1:l++[115]++[110,97,110]=l++(115 :: [110,97,110]):=by simp
 rw [e1] at A2
 exact ⟨v2,rfl,A2.own,A2.bel⟩
theorem appNaN_tc (Bs:Nat) (c:Int) (s:Bool) (d:UInt8) (ds:List UInt8) (e:Int) (v:Value) (l:List UInt8) (w:World) (hl:l.length<100000) (hown:w.ownsRow Bs 5 1 v l.length (Lib.byteCells l)) (hb:Bs<=w.heap.size) (hd:ds.length+1<100000) :
  Calls Tryz.prog 124 #[v,PV c s true (d :: ds) e] w fun x w'=>∃ v',x=.returned v'/\w'.ownsRow Bs 5 1 v' (l++(115 :: [110,97,110]++40 :: (d :: ds++[41]))).length (Lib.byteCells (l++(115 :: [110,97,110]++40 :: (d :: ds++[41]))))/\Below Bs w w':=by
 have htl:=B_toList
 obtain ⟨i0,hi,hz0,hz1,hz2⟩:=info_parts Tryz.info5
 unfold PV
 have A0:Ap Bs w.heap.size (PC c s true (d :: ds) e) v l w (w.alloc (.cells (PC c s true (d :: ds) e) 35)):=Ap.start hown hb
 clear hown
 have k0_2:(w.alloc (.cells (PC c s true (d :: ds) e) 35)).cell? ⟨w.heap.size,2,none⟩=some (.bool true):=A0.cell 2
 go_enter Tryz.func124,Tryz.ntmps124
 go_wp2_with (first | (at_builtin;refine wpList_append_lies _ rfl (.tmp 7) (.tmp 8) 79 rfl Bs 5 i0 (.int .u8 0) 1 1 Tryz.underlying79 hi hz0 hz1 hz2 rfl (by decide) v (l).length (Lib.byteCells (l)) rfl (A0.alloc (.cells #[.int .u8 115] 5)).own ⟨w.heap.size+1,0,none⟩ 1 1 [.int .u8 115] rfl rfl (news1 _ _ _ (by simp)) (one1 _) (by decide) (by unfold maxLen;omega) (by omega) (A0.alloc (.cells #[.int .u8 115] 5)).bs _ rfl ?_;intro g1 cap1 w1 hown hgrow hat hlt;have A1:=(A0.alloc (.cells #[.int .u8 115] 5)).app (m:=[115]) hgrow hown (by simp only [List.length_append,List.length_cons,List.length_nil];try omega) (bc_one _ 115);clear hown hgrow hat hlt;generalize (Value.slice (some ⟨g1,0,none⟩) ((l).length+1) cap1)=v1 at *;have k1_0:w1.cell? ⟨w.heap.size,0,none⟩=some (.int .i64 c):=A1.cell 0;have k1_1:w1.cell? ⟨w.heap.size,1,none⟩=some (.bool s):=A1.cell 1;have k1_2:w1.cell? ⟨w.heap.size,2,none⟩=some (.bool true):=A1.cell 2;have k1_3:w1.cell? ⟨w.heap.size,3,none⟩=some (.string (B (d :: ds))):=A1.cell 3;have k1_4:w1.cell? ⟨w.heap.size,4,none⟩=some (.int .i64 e):=A1.cell 4) | (at_builtin;refine Lib.wpList_append_own_string _ rfl (.tmp 10) (.const (.string ⟨#[110,97,110]⟩)) 79 9 rfl Bs 5 i0 Tryz.underlying79 Tryz.underlying9 hi hz0 hz1 hz2 v1 (l++[115]).length (Lib.byteCells (l++[115])) rfl A1.own (B [110,97,110]) rfl (by rw [B_size];unfold maxLen;simp only [List.length_append,List.length_cons,List.length_nil];omega) (by rw [B_size];simp only [List.length_append,List.length_cons,List.length_nil];omega) A1.bs ?_;intro v2 w2 hown hgrow hq;have A2:=A1.app (m:=[110,97,110]) hgrow hown (by simp only [B_size,List.length_append,List.length_cons,List.length_nil];try omega) (bc_str _ _);clear hown hgrow hq;have k2_0:w2.cell? ⟨w.heap.size,0,none⟩=some (.int .i64 c):=A2.cell 0;have k2_1:w2.cell? ⟨w.heap.size,1,none⟩=some (.bool s):=A2.cell 1;have k2_2:w2.cell? ⟨w.heap.size,2,none⟩=some (.bool true):=A2.cell 2;have k2_3:w2.cell? ⟨w.heap.size,3,none⟩=some (.string (B (d :: ds))):=A2.cell 3;have k2_4:w2.cell? ⟨w.heap.size,4,none⟩=some (.int .i64 e):=A2.cell 4) | (at_builtin;refine wpList_append_lies _ rfl (.tmp 15) (.tmp 16) 79 rfl Bs 5 i0 (.int .u8 0) 1 1 Tryz.underlying79 hi hz0 hz1 hz2 rfl (by decide) v2 (l++[115]++[110,97,110]).length (Lib.byteCells (l++[115]++[110,97,110])) rfl (A2.alloc (.cells #[.int .u8 40] 5)).own ⟨w2.heap.size,0,none⟩ 1 1 [.int .u8 40] rfl rfl (news1 _ _ _ rfl) (one1 _) (by decide) (by unfold maxLen;simp only [List.length_append,List.length_cons,List.length_nil];omega) (by simp only [List.length_append,List.length_cons,List.length_nil];omega) (A2.alloc (.cells #[.int .u8 40] 5)).bs _ rfl ?_;intro g3 cap3 w3 hown hgrow hat hlt;have A3:=(A2.alloc (.cells #[.int .u8 40] 5)).app (m:=[40]) hgrow hown (by simp only [List.length_append,List.length_cons,List.length_nil];try omega) (bc_one _ 40);clear hown hgrow hat hlt;generalize (Value.slice (some ⟨g3,0,none⟩) ((l++[115]++[110,97,110]).length+1) cap3)=v3 at *;have k3_0:w3.cell? ⟨w.heap.size,0,none⟩=some (.int .i64 c):=A3.cell 0;have k3_1:w3.cell? ⟨w.heap.size,1,none⟩=some (.bool s):=A3.cell 1;have k3_2:w3.cell? ⟨w.heap.size,2,none⟩=some (.bool true):=A3.cell 2;have k3_3:w3.cell? ⟨w.heap.size,3,none⟩=some (.string (B (d :: ds))):=A3.cell 3;have k3_4:w3.cell? ⟨w.heap.size,4,none⟩=some (.int .i64 e):=A3.cell 4) | (at_builtin;refine Lib.wpList_append_own_string _ rfl (.tmp 18) (.tmp 20) 79 9 rfl Bs 5 i0 Tryz.underlying79 Tryz.underlying9 hi hz0 hz1 hz2 v3 (l++[115]++[110,97,110]++[40]).length (Lib.byteCells (l++[115]++[110,97,110]++[40])) rfl A3.own (B (d :: ds)) rfl (by rw [B_size];unfold maxLen;simp only [List.length_append,List.length_cons,List.length_nil];omega) (by rw [B_size];simp only [List.length_append,List.length_cons,List.length_nil];omega) A3.bs ?_;intro v4 w4 hown hgrow hq;have A4:=A3.app (m:=(d :: ds)) hgrow hown (by simp only [B_size,List.length_append,List.length_cons,List.length_nil];try omega) (bc_str _ _);clear hown hgrow hq;have k4_0:w4.cell? ⟨w.heap.size,0,none⟩=some (.int .i64 c):=A4.cell 0;have k4_1:w4.cell? ⟨w.heap.size,1,none⟩=some (.bool s):=A4.cell 1;have k4_2:w4.cell? ⟨w.heap.size,2,none⟩=some (.bool true):=A4.cell 2;have k4_3:w4.cell? ⟨w.heap.size,3,none⟩=some (.string (B (d :: ds))):=A4.cell 3;have k4_4:w4.cell? ⟨w.heap.size,4,none⟩=some (.int .i64 e):=A4.cell 4) | (at_builtin;refine wpList_append_lies _ rfl (.tmp 22) (.tmp 23) 79 rfl Bs 5 i0 (.int .u8 0) 1 1 Tryz.underlying79 hi hz0 hz1 hz2 rfl (by decide) v4 (l++[115]++[110,97,110]++[40]++(d :: ds)).length (Lib.byteCells (l++[115]++[110,97,110]++[40]++(d :: ds))) rfl (A4.alloc (.cells #[.int .u8 41] 5)).own ⟨w4.heap.size,0,none⟩ 1 1 [.int .u8 41] rfl rfl (news1 _ _ _ rfl) (one1 _) (by decide) (by unfold maxLen;simp only [List.length_append,List.length_cons,List.length_nil];omega) (by simp only [List.length_append,List.length_cons,List.length_nil];omega) (A4.alloc (.cells #[.int .u8 41] 5)).bs _ rfl ?_;intro g5 cap5 w5 hown hgrow hat hlt;have A5:=(A4.alloc (.cells #[.int .u8 41] 5)).app (m:=[41]) hgrow hown (by simp only [List.length_append,List.length_cons,List.length_nil];try omega) (bc_one _ 41);clear hown hgrow hat hlt;generalize (Value.slice (some ⟨g5,0,none⟩) ((l++[115]++[110,97,110]++[40]++(d :: ds)).length+1) cap5)=v5 at *;have k5_0:w5.cell? ⟨w.heap.size,0,none⟩=some (.int .i64 c):=A5.cell 0;have k5_1:w5.cell? ⟨w.heap.size,1,none⟩=some (.bool s):=A5.cell 1;have k5_2:w5.cell? ⟨w.heap.size,2,none⟩=some (.bool true):=A5.cell 2;have k5_3:w5.cell? ⟨w.heap.size,3,none⟩=some (.string (B (d :: ds))):=A5.cell 3;have k5_4:w5.cell? ⟨w.heap.size,4,none⟩=some (.int .i64 e):=A5.cell 4))
 go_ret
 have e1:l++[115]++[110,97,110]++[40]++(d :: ds)++[41]=l++(115 :: [110,97,110]++40 :: (d :: ds++[41])):=by simp
 rw [e1] at A5
 exact ⟨_,rfl,A5.own,A5.bel⟩
def nanT (g:Bool) (d:List UInt8):List UInt8:=(if g then [115] else [])++([110,97,110]++(if d=[] then [] else 40 :: (d++[41])))
def finT (d:List UInt8) (e:Int):List UInt8:=dgT d++exT e
def bodT (c:Int) (g:Bool) (d:List UInt8) (e:Int):List UInt8:=if c=2 then [105,110,102] else if c=3 then nanT g d else finT d e
def texT (c:Int) (s g:Bool) (d:List UInt8) (e:Int):List UInt8:=(if s then [45] else [])++bodT c g d e
theorem nanT_pos (g:Bool) (d:List UInt8):0<(nanT g d).length:=by unfold nanT;simp only [List.length_append,List.length_cons];omega
theorem finT_pos (d:List UInt8) (e:Int):0<(finT d e).length:=by
 unfold finT dgT
 rw [List.length_append]
 split
 ·simp;omega
 ·rename_i h
  have:0<d.length:=List.length_pos_iff.2 h
  omega
theorem appNaN_any (Bs:Nat) (c:Int) (s g:Bool) (d:List UInt8) (e:Int) (v:Value) (l:List UInt8) (w:World) (hl:l.length<100000) (hd:d.length<100000) (hown:w.ownsRow Bs 5 1 v l.length (Lib.byteCells l)) (hb:Bs<=w.heap.size) :
  Calls Tryz.prog 124 #[v,PV c s g d e] w fun x w'=>∃ v',x=.returned v'/\w'.ownsRow Bs 5 1 v' (l++nanT g d).length (Lib.byteCells (l++nanT g d))/\Below Bs w w':=by
 cases g
 ·cases d with
  | nil=>exact appNaN_fn Bs c s e v l w hl hown hb
  | cons x xs=>exact appNaN_fc Bs c s x xs e v l w hl hown hb hd
 ·cases d with
  | nil=>exact appNaN_tn Bs c s e v l w hl hown hb
  | cons x xs=>exact appNaN_tc Bs c s x xs e v l w hl hown hb hd
theorem appFin_any (Bs:Nat) (c:Int) (s g:Bool) (d:List UInt8) (e:Int) (v:Value) (l:List UInt8) (w:World) (hl:l.length<100000) (hd:d.length<100000) (he:-9223372036854775808<=e/\e<=9223372036854775807) (hown:w.ownsRow Bs 5 1 v l.length (Lib.byteCells l)) (hb:Bs<=w.heap.size) (htab:Lib.TabBelow Tryz.prog Bs w "internal/strconv.uint64pow10" .u64 Lib.pow10Tab) :
  Calls Tryz.prog 125 #[v,PV c s g d e] w fun x w'=>∃ v',x=.returned v'/\w'.ownsRow Bs 5 1 v' (l++finT d e).length (Lib.byteCells (l++finT d e))/\Below Bs w w':=by
 by_cases h0:e=0
 ·subst h0
  cases d with
  | nil=>exact appFin_n0 Bs c s g v l w hl hown hb
  | cons x xs =>
   have:finT (x :: xs) 0=x :: xs:=by unfold finT dgT exT;simp
   rw [this]
   exact appFin_c0 Bs c s g x xs v l w hl hown hb hd
 ·have h1:(e != 0)=true:=by simpa using h0
  have e1:exT e=101 :: Lib.itoa e:=if_neg h0
  cases d with
  | nil =>
   have:=appFin_ne Bs c s g e v l w hl hown hb h1 he htab
   unfold finT;rw [e1];exact this
  | cons x xs =>
   have:=appFin_ce Bs c s g x xs e v l w hl hown hb hd h1 he htab
   unfold finT;rw [e1];exact this
theorem own_str {Bs:Nat} {v:Value} {l:List UInt8} {W:World} (h:W.ownsRow Bs 5 1 v l.length (Lib.byteCells l)) (hp:0<l.length):(convert 79 9 v).run Tryz.prog W=.ok (.string (B l)) W:=by
 obtain ⟨g,cap,rfl,_,_⟩:=h.form hp
 refine run_convert_bytes_back W 79 9 5 ⟨g,0,none⟩ cap l Tryz.underlying79 Tryz.underlying5 Tryz.underlying9 fun j hj=>?_
 rw [show (⟨g,0,none⟩:Addr).add j=⟨g,j,none⟩ by unfold Addr.add;split <;> simp_all]
 rw [h.cellAt j (by omega)]
 simp [Lib.byteCells,hj]
theorem text_t2 (g:Bool) (d:List UInt8) (e:Int) (w:World) (hd:d.length<100000) :
  CB 80 #[PV 2 true g d e] w (.string (B ([45]++[105,110,102]))):=by
 have htl:=B_toList
 obtain ⟨i0,hi,hz0,hz1,hz2⟩:=info_parts Tryz.info5
 have A0:Ap w.heap.size w.heap.size (PC 2 true g d e) (.slice none 0 0) [] w (w.alloc (.cells (PC 2 true g d e) 35)):=Ap.start (World.ownsRow_nil _ _ _ _) (Nat.le_refl _)
 unfold PV
 go_enter Tryz.func80,Tryz.ntmps80
 go_wp2_with (first | (at_builtin;refine wpList_append_lies _ rfl (.tmp 6) (.tmp 7) 79 rfl w.heap.size 5 i0 (.int .u8 0) 1 1 Tryz.underlying79 hi hz0 hz1 hz2 rfl (by decide) (.slice none 0 0) (([]:List UInt8)).length (Lib.byteCells (([]:List UInt8))) rfl (A0.alloc (.cells #[.int .u8 45] 5)).own ⟨w.heap.size+1,0,none⟩ 1 1 [.int .u8 45] rfl rfl (news1 _ _ _ (by simp)) (one1 _) (by decide) (by unfold maxLen;decide) (by decide) (A0.alloc (.cells #[.int .u8 45] 5)).bs _ rfl ?_;intro g1 cap1 w1 hown hgrow hat hlt;have A1:=(A0.alloc (.cells #[.int .u8 45] 5)).app (m:=[45]) hgrow hown (by simp only [List.length_append,List.length_cons,List.length_nil];try omega) (bc_one _ 45);clear hown hgrow hat hlt;generalize (Value.slice (some ⟨g1,0,none⟩) ((([]:List UInt8)).length+1) cap1)=v1 at *;have k1_0:w1.cell? ⟨w.heap.size,0,none⟩=some (.int .i64 2):=A1.cell 0;have k1_1:w1.cell? ⟨w.heap.size,1,none⟩=some (.bool true):=A1.cell 1;have k1_2:w1.cell? ⟨w.heap.size,2,none⟩=some (.bool g):=A1.cell 2;have k1_3:w1.cell? ⟨w.heap.size,3,none⟩=some (.string (B d)):=A1.cell 3;have k1_4:w1.cell? ⟨w.heap.size,4,none⟩=some (.int .i64 e):=A1.cell 4) | (at_builtin;refine Lib.wpList_append_own_string _ rfl (.tmp 16) (.const (.string ⟨#[105,110,102]⟩)) 79 9 rfl w.heap.size 5 i0 Tryz.underlying79 Tryz.underlying9 hi hz0 hz1 hz2 v1 (([]++[45])).length (Lib.byteCells (([]++[45]))) rfl A1.own (B [105,110,102]) rfl (by rw [B_size];unfold maxLen;simp only [List.length_append,List.length_cons,List.length_nil];omega) (by rw [B_size];simp only [List.length_append,List.length_cons,List.length_nil];omega) A1.bs ?_;intro v2 w2 hown hgrow hq;have A2:=A1.app (m:=[105,110,102]) hgrow hown (by simp only [B_size,List.length_append,List.length_cons,List.length_nil];try omega) (bc_str _ _);clear hown hgrow hq;have hcv:=own_str A2.own (by simp)))
 go_ret
 exact ⟨rfl,A2.bel⟩
theorem text_t3 (g:Bool) (d:List UInt8) (e:Int) (w:World) (hd:d.length<100000) :
  CB 80 #[PV 3 true g d e] w (.string (B ([45]++nanT g d))):=by
 have htl:=B_toList
 obtain ⟨i0,hi,hz0,hz1,hz2⟩:=info_parts Tryz.info5
 have A0:Ap w.heap.size w.heap.size (PC 3 true g d e) (.slice none 0 0) [] w (w.alloc (.cells (PC 3 true g d e) 35)):=Ap.start (World.ownsRow_nil _ _ _ _) (Nat.le_refl _)
 unfold PV
 go_enter Tryz.func80,Tryz.ntmps80
 go_wp2_with (first | (at_builtin;refine wpList_append_lies _ rfl (.tmp 6) (.tmp 7) 79 rfl w.heap.size 5 i0 (.int .u8 0) 1 1 Tryz.underlying79 hi hz0 hz1 hz2 rfl (by decide) (.slice none 0 0) (([]:List UInt8)).length (Lib.byteCells (([]:List UInt8))) rfl (A0.alloc (.cells #[.int .u8 45] 5)).own ⟨w.heap.size+1,0,none⟩ 1 1 [.int .u8 45] rfl rfl (news1 _ _ _ (by simp)) (one1 _) (by decide) (by unfold maxLen;decide) (by decide) (A0.alloc (.cells #[.int .u8 45] 5)).bs _ rfl ?_;intro g1 cap1 w1 hown hgrow hat hlt;have A1:=(A0.alloc (.cells #[.int .u8 45] 5)).app (m:=[45]) hgrow hown (by simp only [List.length_append,List.length_cons,List.length_nil];try omega) (bc_one _ 45);clear hown hgrow hat hlt;generalize (Value.slice (some ⟨g1,0,none⟩) ((([]:List UInt8)).length+1) cap1)=v1 at *;have k1_0:w1.cell? ⟨w.heap.size,0,none⟩=some (.int .i64 3):=A1.cell 0;have k1_1:w1.cell? ⟨w.heap.size,1,none⟩=some (.bool true):=A1.cell 1;have k1_2:w1.cell? ⟨w.heap.size,2,none⟩=some (.bool g):=A1.cell 2;have k1_3:w1.cell? ⟨w.heap.size,3,none⟩=some (.string (B d)):=A1.cell 3;have k1_4:w1.cell? ⟨w.heap.size,4,none⟩=some (.int .i64 e):=A1.cell 4) | (go_at_call 124;refine (appNaN_any w.heap.size 3 true g d e v1 ([]++[45]) _ (by simp) hd A1.own A1.bs).mono ?_;rintro x w8 ⟨v8,rfl,hown8,hb8⟩;have hcv:=own_str hown8 (by rw [List.length_append];have:=nanT_pos g d;omega)))
 go_ret
 exact ⟨rfl,A1.bel.trans hb8⟩
theorem text_to (g:Bool) (d:List UInt8) (e:Int) (c:Int) (w:World) (hd:d.length<100000) (h2:(c == 2)=false) (h3:(c == 3)=false) (he:-9223372036854775808<=e/\e<=9223372036854775807) (htab:Lib.TabIs Tryz.prog w "internal/strconv.uint64pow10" .u64 Lib.pow10Tab) :
  CB 80 #[PV c true g d e] w (.string (B ([45]++finT d e))):=by
 have htl:=B_toList
 obtain ⟨i0,hi,hz0,hz1,hz2⟩:=info_parts Tryz.info5
 have A0:Ap w.heap.size w.heap.size (PC c true g d e) (.slice none 0 0) [] w (w.alloc (.cells (PC c true g d e) 35)):=Ap.start (World.ownsRow_nil _ _ _ _) (Nat.le_refl _)
 have hTB:=Lib.tabBelow_of_tabIs htab
 unfold PV
 go_enter Tryz.func80,Tryz.ntmps80
 go_wp2_with (first | (at_builtin;refine wpList_append_lies _ rfl (.tmp 6) (.tmp 7) 79 rfl w.heap.size 5 i0 (.int .u8 0) 1 1 Tryz.underlying79 hi hz0 hz1 hz2 rfl (by decide) (.slice none 0 0) (([]:List UInt8)).length (Lib.byteCells (([]:List UInt8))) rfl (A0.alloc (.cells #[.int .u8 45] 5)).own ⟨w.heap.size+1,0,none⟩ 1 1 [.int .u8 45] rfl rfl (news1 _ _ _ (by simp)) (one1 _) (by decide) (by unfold maxLen;decide) (by decide) (A0.alloc (.cells #[.int .u8 45] 5)).bs _ rfl ?_;intro g1 cap1 w1 hown hgrow hat hlt;have A1:=(A0.alloc (.cells #[.int .u8 45] 5)).app (m:=[45]) hgrow hown (by simp only [List.length_append,List.length_cons,List.length_nil];try omega) (bc_one _ 45);clear hown hgrow hat hlt;generalize (Value.slice (some ⟨g1,0,none⟩) ((([]:List UInt8)).length+1) cap1)=v1 at *;have k1_0:w1.cell? ⟨w.heap.size,0,none⟩=some (.int .i64 c):=A1.cell 0;have k1_1:w1.cell? ⟨w.heap.size,1,none⟩=some (.bool true):=A1.cell 1;have k1_2:w1.cell? ⟨w.heap.size,2,none⟩=some (.bool g):=A1.cell 2;have k1_3:w1.cell? ⟨w.heap.size,3,none⟩=some (.string (B d)):=A1.cell 3;have k1_4:w1.cell? ⟨w.heap.size,4,none⟩=some (.int .i64 e):=A1.cell 4) | (go_at_call 125;refine (appFin_any w.heap.size c true g d e v1 ([]++[45]) _ (by simp) hd he A1.own A1.bs (hTB.on A1.bel)).mono ?_;rintro x w8 ⟨v8,rfl,hown8,hb8⟩;have hcv:=own_str hown8 (by rw [List.length_append];have:=finT_pos d e;omega)))
 go_ret
 exact ⟨rfl,A1.bel.trans hb8⟩
theorem text_f2 (g:Bool) (d:List UInt8) (e:Int) (w:World) (hd:d.length<100000) :
  CB 80 #[PV 2 false g d e] w (.string (B ([105,110,102]))):=by
 have htl:=B_toList
 obtain ⟨i0,hi,hz0,hz1,hz2⟩:=info_parts Tryz.info5
 have A0:Ap w.heap.size w.heap.size (PC 2 false g d e) (.slice none 0 0) [] w (w.alloc (.cells (PC 2 false g d e) 35)):=Ap.start (World.ownsRow_nil _ _ _ _) (Nat.le_refl _)
 unfold PV
 go_enter Tryz.func80,Tryz.ntmps80
 go_wp2_with (first | (at_builtin;refine Lib.wpList_append_own_string _ rfl (.tmp 16) (.const (.string ⟨#[105,110,102]⟩)) 79 9 rfl w.heap.size 5 i0 Tryz.underlying79 Tryz.underlying9 hi hz0 hz1 hz2 (.slice none 0 0) (([]:List UInt8)).length (Lib.byteCells (([]:List UInt8))) rfl A0.own (B [105,110,102]) rfl (by rw [B_size];unfold maxLen;simp only [List.length_append,List.length_cons,List.length_nil];omega) (by rw [B_size];simp only [List.length_append,List.length_cons,List.length_nil];omega) A0.bs ?_;intro v2 w2 hown hgrow hq;have A2:=A0.app (m:=[105,110,102]) hgrow hown (by simp only [B_size,List.length_append,List.length_cons,List.length_nil];try omega) (bc_str _ _);clear hown hgrow hq;have hcv:=own_str A2.own (by simp)))
 go_ret
 exact ⟨rfl,A2.bel⟩
theorem text_f3 (g:Bool) (d:List UInt8) (e:Int) (w:World) (hd:d.length<100000) :
  CB 80 #[PV 3 false g d e] w (.string (B (nanT g d))):=by
 have htl:=B_toList
 obtain ⟨i0,hi,hz0,hz1,hz2⟩:=info_parts Tryz.info5
 have A0:Ap w.heap.size w.heap.size (PC 3 false g d e) (.slice none 0 0) [] w (w.alloc (.cells (PC 3 false g d e) 35)):=Ap.start (World.ownsRow_nil _ _ _ _) (Nat.le_refl _)
 unfold PV
 go_enter Tryz.func80,Tryz.ntmps80
 go_wp2_with (first | (go_at_call 124;refine (appNaN_any w.heap.size 3 false g d e (.slice none 0 0) [] _ (by simp) hd A0.own A0.bs).mono ?_;rintro x w8 ⟨v8,rfl,hown8,hb8⟩;have hcv:=own_str hown8 (by rw [List.length_append];have:=nanT_pos g d;omega)))
 go_ret
 exact ⟨rfl,A0.bel.trans hb8⟩
theorem text_fo (g:Bool) (d:List UInt8) (e:Int) (c:Int) (w:World) (hd:d.length<100000) (h2:(c == 2)=false) (h3:(c == 3)=false) (he:-9223372036854775808<=e/\e<=9223372036854775807) (htab:Lib.TabIs Tryz.prog w "internal/strconv.uint64pow10" .u64 Lib.pow10Tab) :
  CB 80 #[PV c false g d e] w (.string (B (finT d e))):=by
 have htl:=B_toList
 obtain ⟨i0,hi,hz0,hz1,hz2⟩:=info_parts Tryz.info5
 have A0:Ap w.heap.size w.heap.size (PC c false g d e) (.slice none 0 0) [] w (w.alloc (.cells (PC c false g d e) 35)):=Ap.start (World.ownsRow_nil _ _ _ _) (Nat.le_refl _)
 have hTB:=Lib.tabBelow_of_tabIs htab
 unfold PV
 go_enter Tryz.func80,Tryz.ntmps80
 go_wp2_with (first | (go_at_call 125;refine (appFin_any w.heap.size c false g d e (.slice none 0 0) [] _ (by simp) hd he A0.own A0.bs (hTB.on A0.bel)).mono ?_;rintro x w8 ⟨v8,rfl,hown8,hb8⟩;have hcv:=own_str hown8 (by rw [List.length_append];have:=finT_pos d e;omega)))
 go_ret
 exact ⟨rfl,A0.bel.trans hb8⟩
theorem text_any (c:Int) (s g:Bool) (d:List UInt8) (e:Int) (w:World) (hd:d.length<100000) (he:-9223372036854775808<=e/\e<=9223372036854775807) (htab:Lib.TabIs Tryz.prog w "internal/strconv.uint64pow10" .u64 Lib.pow10Tab) :
  CB 80 #[PV c s g d e] w (.string (B (texT c s g d e))):=by
 unfold texT bodT
 by_cases h2:c=2
 ·rw [if_pos h2];subst h2
  cases s
  ·exact text_f2 g d e w hd
  ·exact text_t2 g d e w hd
 ·rw [if_neg h2]
  by_cases h3:c=3
  ·rw [if_pos h3];subst h3
   cases s
   ·exact text_f3 g d e w hd
   ·exact text_t3 g d e w hd
  ·rw [if_neg h3]
   cases s
   ·exact text_fo g d e c w hd (beq_eq_false_iff_ne.2 h2) (beq_eq_false_iff_ne.2 h3) he htab
   ·exact text_to g d e c w hd (beq_eq_false_iff_ne.2 h2) (beq_eq_false_iff_ne.2 h3) he htab
theorem texT_len {c:Int} {s g:Bool} {d:List UInt8} {e:Int} (hd:d.length<=4000) (he:-9223372036854775808<=e/\e<=9223372036854775807):(texT c s g d e).length<=4100:=by
 have hi:=Lib.itoa_length_le e he.1 he.2
 have h1:(bodT c g d e).length<=4050:=by
  unfold bodT
  split
  ·simp
  ·split
   ·unfold nanT
    simp only [List.length_append,List.length_cons]
    split <;> split <;> simp <;> omega
   ·unfold finT dgT exT
    simp only [List.length_append]
    split <;> split <;> simp <;> omega
 unfold texT
 rw [List.length_append]
 split <;> simp <;> omega
theorem join_ok (c:Int) (s g:Bool) (d:List UInt8) (e:Int) (w:World) (hd:d.length<=4000) (T:List UInt8)
  (c24:∀ W,Below w.heap.size w W->CB 80 #[PV c s g d e] W (.string (B T)))
  (c9:∀ W,CB 35 #[.string (B T)] W (.tuple #[PV c s g d e,.int .i64 0])) :
  CB 37 #[PV c s g d e] w (.tuple #[.string (B T),.int .i64 0]):=by
 have htl:=B_toList
 have hsz:=B_size d
 have hdi:(d.length:Int)<=4000:=by omega
 unfold PV at c24 c9 ⊢
 have hsm:=gcell_set_map
 go_enter Tryz.func37,Tryz.ntmps37
 go_wp2_with (first | (go_at_call 80;refine (c24 _ bgo).mono ?_;rintro x w1 ⟨rfl,hb1⟩;obtain ⟨_,_,_,_,hA1,_⟩:=wz w hb1;clear hb1) | (go_at_call 35;refine (c9 _).mono ?_;rintro x w2 ⟨rfl,hb2⟩;obtain ⟨_,_,_,_,hA2,_⟩:=wz w hb2;clear hb2))
 go_ret2
 exact ⟨rfl,bgo⟩
theorem join_e (c:Int) (s g:Bool) (d:List UInt8) (e:Int) (w:World) (hd:d.length<=4000) (V1:Int) (V2 V3:Bool) (V4:List UInt8) (V5:Int) (E:Int) (hE:(E != 0)=true) (T:List UInt8)
  (c24:∀ W,Below w.heap.size w W->CB 80 #[PV c s g d e] W (.string (B T)))
  (c9:∀ W,CB 35 #[.string (B T)] W (.tuple #[PV V1 V2 V3 V4 V5,.int .i64 E])) :
  CB 37 #[PV c s g d e] w (.tuple #[.string (B []),.int .i64 1]):=by
 have htl:=B_toList
 have hsz:=B_size d
 have hdi:(d.length:Int)<=4000:=by omega
 unfold PV at c24 c9 ⊢
 have hsm:=gcell_set_map
 go_enter Tryz.func37,Tryz.ntmps37
 go_wp2_with (first | (go_at_call 80;refine (c24 _ bgo).mono ?_;rintro x w1 ⟨rfl,hb1⟩;obtain ⟨_,_,_,_,hA1,_⟩:=wz w hb1;clear hb1) | (go_at_call 35;refine (c9 _).mono ?_;rintro x w2 ⟨rfl,hb2⟩;obtain ⟨_,_,_,_,hA2,_⟩:=wz w hb2;clear hb2))
 go_ret2
 exact ⟨rfl,bgo⟩
theorem join_ne (c:Int) (s g:Bool) (d:List UInt8) (e:Int) (w:World) (hd:d.length<=4000) (V1:Int) (V2 V3:Bool) (V4:List UInt8) (V5:Int) (hne:¬ (V1=c/\V2=s/\V3=g/\V4=d/\V5=e)) (T:List UInt8)
  (c24:∀ W,Below w.heap.size w W->CB 80 #[PV c s g d e] W (.string (B T)))
  (c9:∀ W,CB 35 #[.string (B T)] W (.tuple #[PV V1 V2 V3 V4 V5,.int .i64 0])) :
  CB 37 #[PV c s g d e] w (.tuple #[.string (B []),.int .i64 1]):=by
 have htl:=B_toList
 have hsz:=B_size d
 have hdi:(d.length:Int)<=4000:=by omega
 unfold PV at c24 c9 ⊢
 have hsm:=gcell_set_map
 go_enter Tryz.func37,Tryz.ntmps37
 go_wp2_with (first | (go_at_call 80;refine (c24 _ bgo).mono ?_;rintro x w1 ⟨rfl,hb1⟩;obtain ⟨_,_,_,_,hA1,_⟩:=wz w hb1;clear hb1) | (go_at_call 35;refine (c9 _).mono ?_;rintro x w2 ⟨rfl,hb2⟩;obtain ⟨_,_,_,_,hA2,_⟩:=wz w hb2;clear hb2))
 all_goals
  first
  | exact absurd ⟨by assumption,by assumption,by assumption,by assumption,by assumption⟩ hne
  | (go_ret2;exact ⟨rfl,bgo⟩)
theorem join_long (c:Int) (s g:Bool) (d:List UInt8) (e:Int) (w:World) (hd:4000<d.length) :
  CB 37 #[PV c s g d e] w (.tuple #[.string (B []),.int .i64 1]):=by
 have hsz:=B_size d
 have hdi:(4000:Int)<d.length:=by omega
 unfold PV
 go_enter Tryz.func37,Tryz.ntmps37
 go_wp2
 go_ret2
 exact ⟨rfl,bgo⟩
def jnP (p:Prt):Prop:=p.dig.length<=4000/\cutP (texT p.cls p.sg p.sn p.dig p.ex)=some p
theorem cutE_some {l:List UInt8} {p:Prt} (h:cutP l=some p):cutE l=0/\cutV l=p:=by
 unfold cutE cutV
 have hl:¬ 4000<l.length:=by
  intro h2;unfold cutP at h;rw [if_pos h2] at h;cases h
 rw [if_neg hl,h];exact ⟨rfl,rfl⟩
theorem cutE_zero {l:List UInt8} (h:cutE l=0):cutP l=some (cutV l):=by
 unfold cutE at h
 split at h
 ·cases h
 ·split at h
  ·rename_i h2
   obtain ⟨p,hp⟩:=Option.isSome_iff_exists.1 h2
   unfold cutV;rw [hp];rfl
  ·cases h
def Tb10 (w:World):Prop:=Lib.TabIs Tryz.prog w "internal/strconv.uint64pow10" .u64 Lib.pow10Tab
theorem Tb10.next {w w':World} (h:Tb10 w) (hb:Below w.heap.size w w'):Tb10 w':=Lib.tabBelow_of_tabIs h w' hb
theorem join_y (p:Prt) (w:World) (hT:Tb10 w) (he:-9223372036854775808<=p.ex/\p.ex<=9223372036854775807) (h:jnP p) :
  CB 37 #[p.v] w (.tuple #[.string (B (texT p.cls p.sg p.sn p.dig p.ex)),.int .i64 0]):=by
 obtain ⟨e1,e2⟩:=cutE_some h.2
 have c9:=fun W=>cut_any (texT p.cls p.sg p.sn p.dig p.ex) W (by have:=texT_len (c:=p.cls) (s:=p.sg) (g:=p.sn) h.1 he;omega)
 rw [e1,e2] at c9
 exact join_ok _ _ _ _ _ w h.1 _ (fun W hW=>text_any _ _ _ _ _ W (by have:=h.1;omega) he (hT.next hW)) c9
theorem join_n (p:Prt) (w:World) (hT:Tb10 w) (he:-9223372036854775808<=p.ex/\p.ex<=9223372036854775807) (h:¬ jnP p) :
  CB 37 #[p.v] w (.tuple #[.string (B []),.int .i64 1]):=by
 by_cases hd:p.dig.length<=4000
 ·have c9:=fun W=>cut_any (texT p.cls p.sg p.sn p.dig p.ex) W (by have:=texT_len (c:=p.cls) (s:=p.sg) (g:=p.sn) hd he;omega)
  have c24:=fun W (hW:Below w.heap.size w W)=>text_any p.cls p.sg p.sn p.dig p.ex W (by omega) he (hT.next hW)
  by_cases hE:cutE (texT p.cls p.sg p.sn p.dig p.ex)=0
  ·have hs:=cutE_zero hE
   rw [hE] at c9
   refine join_ne _ _ _ _ _ w hd _ _ _ _ _ (fun hh=>h ⟨hd,?_⟩) _ c24 c9
   rw [hs]
   obtain ⟨h1,h2,h3,h4,h5⟩:=hh
   congr 1
   obtain ⟨q1,q2,q3,q4,q5⟩:=p
   generalize cutV _=V at *
   obtain ⟨v1,v2,v3,v4,v5⟩:=V
   dsimp only at h1 h2 h3 h4 h5
   subst h1 h2 h3 h4 h5
   rfl
  ·exact join_e _ _ _ _ _ w hd _ _ _ _ _ _ (by simpa using hE) _ c24 c9
 ·exact join_long _ _ _ _ _ w (by omega)
end Go.Proofs.YtpabnhlfbjkmaaaGreatDoor
