/-
  Texts that the proof leans on.
-/
import Derived.Test.YtahfkpjhlbiamaaGreatDoorL1
import Derived.Test.YtahfkpjhlbiamaaGreatDoorL11
import Derived.Lib.ItoaLen
set_option maxHeartbeats 8000000
set_option linter.unusedVariables false
set_option linter.unusedSimpArgs false
set_option linter.unusedSectionVars false
set_option maxRecDepth 20000
namespace Go.Proofs.YtahfkpjhlbiamaaGreatDoor
open Go.RowKit
def nanT (g:Bool)(d:List UInt8):List UInt8:=(if g then [115] else [])++([110,97,110]++(if d=[] then [] else 40::(d++[41])))
def finT (d:List UInt8)(e:Int):List UInt8:=dgT d++exT e
def bodT (c:Int)(g:Bool)(d:List UInt8)(e:Int):List UInt8:=if c=2 then [105,110,102] else if c=3 then nanT g d else finT d e
def texT (c:Int)(s g:Bool)(d:List UInt8)(e:Int):List UInt8:=(if s then [45] else [])++bodT c g d e
theorem nanT_pos (g:Bool)(d:List UInt8):0<(nanT g d).length:=by unfold nanT;simp only [List.length_append,List.length_cons];omega
theorem finT_pos (d:List UInt8)(e:Int):0<(finT d e).length:=by
 unfold finT dgT
 rw [List.length_append]
 split
 ·simp;omega
 ·rename_i h
  have:0<d.length:=List.length_pos_iff.2 h
  omega
theorem appNaN_any (Bs:Nat)(c:Int)(s g:Bool)(d:List UInt8)(e:Int)(v:Value)(l:List UInt8)(w:World)(hl:l.length<100000)(hd:d.length<100000)(hown:w.ownsRow Bs 5 1 v l.length (Lib.byteCells l))(hb:Bs<=w.heap.size) :
  Calls Tryz.prog 202 #[v,PV c s g d e] w fun x w'=>∃ v',x=.returned v'/\w'.ownsRow Bs 5 1 v' (l++nanT g d).length (Lib.byteCells (l++nanT g d))/\Below Bs w w':=by
 cases g
 ·cases d with
  | nil=>exact appNaN_fn Bs c s e v l w hl hown hb
  | cons x xs=>exact appNaN_fc Bs c s x xs e v l w hl hown hb hd
 ·cases d with
  | nil=>exact appNaN_tn Bs c s e v l w hl hown hb
  | cons x xs=>exact appNaN_tc Bs c s x xs e v l w hl hown hb hd
theorem appFin_any (Bs:Nat)(c:Int)(s g:Bool)(d:List UInt8)(e:Int)(v:Value)(l:List UInt8)(w:World)(hl:l.length<100000)(hd:d.length<100000)(he:-9223372036854775808<=e/\e<=9223372036854775807)(hown:w.ownsRow Bs 5 1 v l.length (Lib.byteCells l))(hb:Bs<=w.heap.size)(htab:Lib.TabBelow Tryz.prog Bs w "internal/strconv.uint64pow10" .u64 Lib.pow10Tab) :
  Calls Tryz.prog 203 #[v,PV c s g d e] w fun x w'=>∃ v',x=.returned v'/\w'.ownsRow Bs 5 1 v' (l++finT d e).length (Lib.byteCells (l++finT d e))/\Below Bs w w':=by
 by_cases h0:e=0
 ·subst h0
  cases d with
  | nil=>exact appFin_n0 Bs c s g v l w hl hown hb
  | cons x xs =>
   have:finT (x::xs) 0=x::xs:=by unfold finT dgT exT;simp
   rw [this]
   exact appFin_c0 Bs c s g x xs v l w hl hown hb hd
 ·have h1:(e != 0)=true:=by simpa using h0
  have e1:exT e=101::Lib.itoa e:=if_neg h0
  cases d with
  | nil =>
   have:=appFin_ne Bs c s g e v l w hl hown hb h1 he htab
   unfold finT;rw [e1];exact this
  | cons x xs =>
   have:=appFin_ce Bs c s g x xs e v l w hl hown hb hd h1 he htab
   unfold finT;rw [e1];exact this
theorem own_str {Bs:Nat}{v:Value}{l:List UInt8}{W:World}(h:W.ownsRow Bs 5 1 v l.length (Lib.byteCells l))(hp:0<l.length):(convert 136 9 v).run Tryz.prog W=.ok (.string (B l)) W:=by
 obtain ⟨g,cap,rfl,_,_⟩:=h.form hp
 refine run_convert_bytes_back W 136 9 5 ⟨g,0,none⟩ cap l Tryz.underlying136 Tryz.underlying5 Tryz.underlying9 fun j hj=>?_
 rw [show (⟨g,0,none⟩:Addr).add j=⟨g,j,none⟩ by unfold Addr.add;split<;>simp_all]
 rw [h.cellAt j (by omega)]
 simp [Lib.byteCells,hj]
theorem text_t2 (g:Bool)(d:List UInt8)(e:Int)(w:World)(hd:d.length<100000) :
  CB 168 #[PV 2 true g d e] w (.string (B ([45]++[105,110,102]))):=by
 have htl:=B_toList
 obtain ⟨i0,hi,hz0,hz1,hz2⟩:=info_parts Tryz.info5
 have A0:Ap w.heap.size w.heap.size (PC 2 true g d e) (.slice none 0 0) [] w (w.alloc (.cells (PC 2 true g d e) 133)):=Ap.start (World.ownsRow_nil _ _ _ _) (Nat.le_refl _)
 unfold PV
 go_enter Tryz.func168,Tryz.ntmps168
 go_wp2_with (first|(at_builtin;refine wpList_append_lies _ rfl (.tmp 6) (.tmp 7) 136 rfl w.heap.size 5 i0 (.int .u8 0) 1 1 Tryz.underlying136 hi hz0 hz1 hz2 rfl (by decide) (.slice none 0 0) (([]:List UInt8)).length (Lib.byteCells (([]:List UInt8))) rfl (A0.alloc (.cells #[.int .u8 45] 5)).own ⟨w.heap.size+1,0,none⟩ 1 1 [.int .u8 45] rfl rfl (news1 _ _ _ (by simp)) (one1 _) (by decide) (by unfold maxLen;decide) (by decide) (A0.alloc (.cells #[.int .u8 45] 5)).bs _ rfl ?_;intro g1 cap1 w1 hown hgrow hat hlt;have A1:=(A0.alloc (.cells #[.int .u8 45] 5)).app (m:=[45]) hgrow hown (by simp only [List.length_append,List.length_cons,List.length_nil];try omega) (bc_one _ 45);clear hown hgrow hat hlt;generalize (Value.slice (some ⟨g1,0,none⟩) ((([]:List UInt8)).length+1) cap1)=v1 at *;have k1_0:w1.cell? ⟨w.heap.size,0,none⟩=some (.int .i64 2):=A1.cell 0;have k1_1:w1.cell? ⟨w.heap.size,1,none⟩=some (.bool true):=A1.cell 1;have k1_2:w1.cell? ⟨w.heap.size,2,none⟩=some (.bool g):=A1.cell 2;have k1_3:w1.cell? ⟨w.heap.size,3,none⟩=some (.string (B d)):=A1.cell 3;have k1_4:w1.cell? ⟨w.heap.size,4,none⟩=some (.int .i64 e):=A1.cell 4)|(at_builtin;refine Lib.wpList_append_own_string _ rfl (.tmp 16) (.const (.string ⟨#[105,110,102]⟩)) 136 9 rfl w.heap.size 5 i0 Tryz.underlying136 Tryz.underlying9 hi hz0 hz1 hz2 v1 (([]++[45])).length (Lib.byteCells (([]++[45]))) rfl A1.own (B [105,110,102]) rfl (by rw [B_size];unfold maxLen;simp only [List.length_append,List.length_cons,List.length_nil];omega) (by rw [B_size];simp only [List.length_append,List.length_cons,List.length_nil];omega) A1.bs ?_;intro v2 w2 hown hgrow hq;have A2:=A1.app (m:=[105,110,102]) hgrow hown (by simp only [B_size,List.length_append,List.length_cons,List.length_nil];try omega) (bc_str _ _);clear hown hgrow hq;have hcv:=own_str A2.own (by simp)))
 go_ret
 exact ⟨rfl,A2.bel⟩
theorem text_t3 (g:Bool)(d:List UInt8)(e:Int)(w:World)(hd:d.length<100000) :
  CB 168 #[PV 3 true g d e] w (.string (B ([45]++nanT g d))):=by
 have htl:=B_toList
 obtain ⟨i0,hi,hz0,hz1,hz2⟩:=info_parts Tryz.info5
 have A0:Ap w.heap.size w.heap.size (PC 3 true g d e) (.slice none 0 0) [] w (w.alloc (.cells (PC 3 true g d e) 133)):=Ap.start (World.ownsRow_nil _ _ _ _) (Nat.le_refl _)
 unfold PV
 go_enter Tryz.func168,Tryz.ntmps168
 go_wp2_with (first|(at_builtin;refine wpList_append_lies _ rfl (.tmp 6) (.tmp 7) 136 rfl w.heap.size 5 i0 (.int .u8 0) 1 1 Tryz.underlying136 hi hz0 hz1 hz2 rfl (by decide) (.slice none 0 0) (([]:List UInt8)).length (Lib.byteCells (([]:List UInt8))) rfl (A0.alloc (.cells #[.int .u8 45] 5)).own ⟨w.heap.size+1,0,none⟩ 1 1 [.int .u8 45] rfl rfl (news1 _ _ _ (by simp)) (one1 _) (by decide) (by unfold maxLen;decide) (by decide) (A0.alloc (.cells #[.int .u8 45] 5)).bs _ rfl ?_;intro g1 cap1 w1 hown hgrow hat hlt;have A1:=(A0.alloc (.cells #[.int .u8 45] 5)).app (m:=[45]) hgrow hown (by simp only [List.length_append,List.length_cons,List.length_nil];try omega) (bc_one _ 45);clear hown hgrow hat hlt;generalize (Value.slice (some ⟨g1,0,none⟩) ((([]:List UInt8)).length+1) cap1)=v1 at *;have k1_0:w1.cell? ⟨w.heap.size,0,none⟩=some (.int .i64 3):=A1.cell 0;have k1_1:w1.cell? ⟨w.heap.size,1,none⟩=some (.bool true):=A1.cell 1;have k1_2:w1.cell? ⟨w.heap.size,2,none⟩=some (.bool g):=A1.cell 2;have k1_3:w1.cell? ⟨w.heap.size,3,none⟩=some (.string (B d)):=A1.cell 3;have k1_4:w1.cell? ⟨w.heap.size,4,none⟩=some (.int .i64 e):=A1.cell 4)|(go_at_call 202;refine (appNaN_any w.heap.size 3 true g d e v1 ([]++[45]) _ (by simp) hd A1.own A1.bs).mono ?_;rintro x w8 ⟨v8,rfl,hown8,hb8⟩;have hcv:=own_str hown8 (by rw [List.length_append];have:=nanT_pos g d;omega)))
 go_ret
 exact ⟨rfl,A1.bel.trans hb8⟩
theorem text_to (g:Bool)(d:List UInt8)(e:Int)(c:Int)(w:World)(hd:d.length<100000)(h2:(c==2)=false)(h3:(c==3)=false)(he:-9223372036854775808<=e/\e<=9223372036854775807)(htab:Lib.TabIs Tryz.prog w "internal/strconv.uint64pow10" .u64 Lib.pow10Tab) :
  CB 168 #[PV c true g d e] w (.string (B ([45]++finT d e))):=by
 have htl:=B_toList
 obtain ⟨i0,hi,hz0,hz1,hz2⟩:=info_parts Tryz.info5
 have A0:Ap w.heap.size w.heap.size (PC c true g d e) (.slice none 0 0) [] w (w.alloc (.cells (PC c true g d e) 133)):=Ap.start (World.ownsRow_nil _ _ _ _) (Nat.le_refl _)
 have hTB:=Lib.tabBelow_of_tabIs htab
 unfold PV
 go_enter Tryz.func168,Tryz.ntmps168
 go_wp2_with (first|(at_builtin;refine wpList_append_lies _ rfl (.tmp 6) (.tmp 7) 136 rfl w.heap.size 5 i0 (.int .u8 0) 1 1 Tryz.underlying136 hi hz0 hz1 hz2 rfl (by decide) (.slice none 0 0) (([]:List UInt8)).length (Lib.byteCells (([]:List UInt8))) rfl (A0.alloc (.cells #[.int .u8 45] 5)).own ⟨w.heap.size+1,0,none⟩ 1 1 [.int .u8 45] rfl rfl (news1 _ _ _ (by simp)) (one1 _) (by decide) (by unfold maxLen;decide) (by decide) (A0.alloc (.cells #[.int .u8 45] 5)).bs _ rfl ?_;intro g1 cap1 w1 hown hgrow hat hlt;have A1:=(A0.alloc (.cells #[.int .u8 45] 5)).app (m:=[45]) hgrow hown (by simp only [List.length_append,List.length_cons,List.length_nil];try omega) (bc_one _ 45);clear hown hgrow hat hlt;generalize (Value.slice (some ⟨g1,0,none⟩) ((([]:List UInt8)).length+1) cap1)=v1 at *;have k1_0:w1.cell? ⟨w.heap.size,0,none⟩=some (.int .i64 c):=A1.cell 0;have k1_1:w1.cell? ⟨w.heap.size,1,none⟩=some (.bool true):=A1.cell 1;have k1_2:w1.cell? ⟨w.heap.size,2,none⟩=some (.bool g):=A1.cell 2;have k1_3:w1.cell? ⟨w.heap.size,3,none⟩=some (.string (B d)):=A1.cell 3;have k1_4:w1.cell? ⟨w.heap.size,4,none⟩=some (.int .i64 e):=A1.cell 4)|(go_at_call 203;refine (appFin_any w.heap.size c true g d e v1 ([]++[45]) _ (by simp) hd he A1.own A1.bs (hTB.on A1.bel)).mono ?_;rintro x w8 ⟨v8,rfl,hown8,hb8⟩;have hcv:=own_str hown8 (by rw [List.length_append];have:=finT_pos d e;omega)))
 go_ret
 exact ⟨rfl,A1.bel.trans hb8⟩
theorem text_f2 (g:Bool)(d:List UInt8)(e:Int)(w:World)(hd:d.length<100000) :
  CB 168 #[PV 2 false g d e] w (.string (B ([105,110,102]))):=by
 have htl:=B_toList
 obtain ⟨i0,hi,hz0,hz1,hz2⟩:=info_parts Tryz.info5
 have A0:Ap w.heap.size w.heap.size (PC 2 false g d e) (.slice none 0 0) [] w (w.alloc (.cells (PC 2 false g d e) 133)):=Ap.start (World.ownsRow_nil _ _ _ _) (Nat.le_refl _)
 unfold PV
 go_enter Tryz.func168,Tryz.ntmps168
 go_wp2_with (first|(at_builtin;refine Lib.wpList_append_own_string _ rfl (.tmp 16) (.const (.string ⟨#[105,110,102]⟩)) 136 9 rfl w.heap.size 5 i0 Tryz.underlying136 Tryz.underlying9 hi hz0 hz1 hz2 (.slice none 0 0) (([]:List UInt8)).length (Lib.byteCells (([]:List UInt8))) rfl A0.own (B [105,110,102]) rfl (by rw [B_size];unfold maxLen;simp only [List.length_append,List.length_cons,List.length_nil];omega) (by rw [B_size];simp only [List.length_append,List.length_cons,List.length_nil];omega) A0.bs ?_;intro v2 w2 hown hgrow hq;have A2:=A0.app (m:=[105,110,102]) hgrow hown (by simp only [B_size,List.length_append,List.length_cons,List.length_nil];try omega) (bc_str _ _);clear hown hgrow hq;have hcv:=own_str A2.own (by simp)))
 go_ret
 exact ⟨rfl,A2.bel⟩
theorem text_f3 (g:Bool)(d:List UInt8)(e:Int)(w:World)(hd:d.length<100000) :
  CB 168 #[PV 3 false g d e] w (.string (B (nanT g d))):=by
 have htl:=B_toList
 obtain ⟨i0,hi,hz0,hz1,hz2⟩:=info_parts Tryz.info5
 have A0:Ap w.heap.size w.heap.size (PC 3 false g d e) (.slice none 0 0) [] w (w.alloc (.cells (PC 3 false g d e) 133)):=Ap.start (World.ownsRow_nil _ _ _ _) (Nat.le_refl _)
 unfold PV
 go_enter Tryz.func168,Tryz.ntmps168
 go_wp2_with (first|(go_at_call 202;refine (appNaN_any w.heap.size 3 false g d e (.slice none 0 0) [] _ (by simp) hd A0.own A0.bs).mono ?_;rintro x w8 ⟨v8,rfl,hown8,hb8⟩;have hcv:=own_str hown8 (by rw [List.length_append];have:=nanT_pos g d;omega)))
 go_ret
 exact ⟨rfl,A0.bel.trans hb8⟩
theorem text_fo (g:Bool)(d:List UInt8)(e:Int)(c:Int)(w:World)(hd:d.length<100000)(h2:(c==2)=false)(h3:(c==3)=false)(he:-9223372036854775808<=e/\e<=9223372036854775807)(htab:Lib.TabIs Tryz.prog w "internal/strconv.uint64pow10" .u64 Lib.pow10Tab) :
  CB 168 #[PV c false g d e] w (.string (B (finT d e))):=by
 have htl:=B_toList
 obtain ⟨i0,hi,hz0,hz1,hz2⟩:=info_parts Tryz.info5
 have A0:Ap w.heap.size w.heap.size (PC c false g d e) (.slice none 0 0) [] w (w.alloc (.cells (PC c false g d e) 133)):=Ap.start (World.ownsRow_nil _ _ _ _) (Nat.le_refl _)
 have hTB:=Lib.tabBelow_of_tabIs htab
 unfold PV
 go_enter Tryz.func168,Tryz.ntmps168
 go_wp2_with (first|(go_at_call 203;refine (appFin_any w.heap.size c false g d e (.slice none 0 0) [] _ (by simp) hd he A0.own A0.bs (hTB.on A0.bel)).mono ?_;rintro x w8 ⟨v8,rfl,hown8,hb8⟩;have hcv:=own_str hown8 (by rw [List.length_append];have:=finT_pos d e;omega)))
 go_ret
 exact ⟨rfl,A0.bel.trans hb8⟩
theorem text_any (c:Int)(s g:Bool)(d:List UInt8)(e:Int)(w:World)(hd:d.length<100000)(he:-9223372036854775808<=e/\e<=9223372036854775807)(htab:Lib.TabIs Tryz.prog w "internal/strconv.uint64pow10" .u64 Lib.pow10Tab) :
  CB 168 #[PV c s g d e] w (.string (B (texT c s g d e))):=by
 unfold texT bodT
 by_cases h2:c=2
 ·rw [if_pos h2];subst h2
  cases s
  ·exact text_f2 g d e w hd
  ·exact text_t2 g d e w hd
 ·rw [if_neg h2]
  by_cases h3:c=3
  ·rw [if_pos h3];subst h3
   cases s
   ·exact text_f3 g d e w hd
   ·exact text_t3 g d e w hd
  ·rw [if_neg h3]
   cases s
   ·exact text_fo g d e c w hd (beq_eq_false_iff_ne.2 h2) (beq_eq_false_iff_ne.2 h3) he htab
   ·exact text_to g d e c w hd (beq_eq_false_iff_ne.2 h2) (beq_eq_false_iff_ne.2 h3) he htab
theorem texT_len {c:Int}{s g:Bool}{d:List UInt8}{e:Int}(hd:d.length<=4000)(he:-9223372036854775808<=e/\e<=9223372036854775807):(texT c s g d e).length<=4100:=by
 have hi:=Lib.itoa_length_le e he.1 he.2
 have h1:(bodT c g d e).length<=4050:=by
  unfold bodT
  split
  ·simp
  ·split
   ·unfold nanT
    simp only [List.length_append,List.length_cons]
    split<;>split<;>simp<;>omega
   ·unfold finT dgT exT
    simp only [List.length_append]
    split<;>split<;>simp<;>omega
 unfold texT
 rw [List.length_append]
 split<;>simp<;>omega
theorem join_ok (c:Int)(s g:Bool)(d:List UInt8)(e:Int)(w:World)(hd:d.length<=4000)(T:List UInt8)
  (c24:∀ W,Below w.heap.size w W->CB 168 #[PV c s g d e] W (.string (B T)))
  (c9:∀ W,CB 169 #[.string (B T)] W (.tuple #[PV c s g d e,.int .i64 0])) :
  CB 101 #[PV c s g d e] w (.tuple #[.string (B T),.int .i64 0]):=by
 have htl:=B_toList
 have hsz:=B_size d
 have hdi:(d.length:Int)<=4000:=by omega
 unfold PV at c24 c9 ⊢
 have hsm:=gcell_set_map
 go_enter Tryz.func101,Tryz.ntmps101
 go_wp2_with (first|(go_at_call 168;refine (c24 _ bgo).mono ?_;rintro x w1 ⟨rfl,hb1⟩;obtain ⟨_,_,_,_,hA1,_⟩:=wz w hb1;clear hb1)|(go_at_call 169;refine (c9 _).mono ?_;rintro x w2 ⟨rfl,hb2⟩;obtain ⟨_,_,_,_,hA2,_⟩:=wz w hb2;clear hb2))
 go_ret2
 exact ⟨rfl,bgo⟩
def jnP (p:Prt):Prop:=p.dig.length<=4000/\cutP (texT p.cls p.sg p.sn p.dig p.ex)=some p
theorem cutE_some {l:List UInt8}{p:Prt}(h:cutP l=some p):cutE l=0/\cutV l=p:=by
 unfold cutE cutV
 have hl:¬ 4000<l.length:=by
  intro h2;unfold cutP at h;rw [if_pos h2] at h;cases h
 rw [if_neg hl,h];exact ⟨rfl,rfl⟩
def Tb10 (w:World):Prop:=Lib.TabIs Tryz.prog w "internal/strconv.uint64pow10" .u64 Lib.pow10Tab
theorem Tb10.next {w w':World}(h:Tb10 w)(hb:Below w.heap.size w w'):Tb10 w':=Lib.tabBelow_of_tabIs h w' hb
theorem join_y (p:Prt)(w:World)(hT:Tb10 w)(he:-9223372036854775808<=p.ex/\p.ex<=9223372036854775807)(h:jnP p) :
  CB 101 #[p.v] w (.tuple #[.string (B (texT p.cls p.sg p.sn p.dig p.ex)),.int .i64 0]):=by
 obtain ⟨e1,e2⟩:=cutE_some h.2
 have c9:=fun W=>cut_any (texT p.cls p.sg p.sn p.dig p.ex) W (by have:=texT_len (c:=p.cls) (s:=p.sg) (g:=p.sn) h.1 he;omega)
 rw [e1,e2] at c9
 exact join_ok _ _ _ _ _ w h.1 _ (fun W hW=>text_any _ _ _ _ _ W (by have:=h.1;omega) he (hT.next hW)) c9
theorem dig_of (k:Nat)(h:k<10):dg (UInt8.ofNat (48+k))=true/\((UInt8.ofNat (48+k)).toNat:Int)=48+k:=by
 have:(UInt8.ofNat (48+k)).toNat=48+k:=by
  rw [UInt8.toNat_ofNat'];omega
 refine ⟨?_,by omega⟩
 unfold dg;rw [this];simp;omega
theorem dec_dg (u:Nat):(Lib.decDigits u).all dg=true:=by
 induction u using Nat.strongRecOn with
 | ind u ih =>
  rw [Lib.decDigits]
  split
  ·rename_i h
   simp only [List.all_cons,List.all_nil,Bool.and_true]
   exact (dig_of u h).1
  ·rename_i h
   rw [List.all_append,ih (u/10) (by omega)]
   simp only [List.all_cons,List.all_nil,Bool.and_true,Bool.true_and]
   exact (dig_of (u%10) (by omega)).1
theorem dec_nv (u:Nat):nv (Lib.decDigits u)=u:=by
 induction u using Nat.strongRecOn with
 | ind u ih =>
  rw [Lib.decDigits]
  split
  ·rename_i h
   rw [gnv_one,(dig_of u h).2];omega
  ·rename_i h
   rw [nv_app,ih (u/10) (by omega),gnv_one,(dig_of (u%10) (by omega)).2]
   simp
   omega
theorem dec_ne (u:Nat):Lib.decDigits u≠[]:=by
 rw [Lib.decDigits]
 split
 ·simp
 ·simp
theorem dec_isd (u:Nat):isd (Lib.decDigits u)=true:=by
 unfold isd
 rw [dec_dg]
 simp [dec_ne u]
theorem sg_cons {c:UInt8}{r:List UInt8}(h:(c.toNat:Int)≠45/\(c.toNat:Int)≠43):gsgB (c::r)=false/\sgR (c::r)=c::r:=by
 refine ⟨by simp only [gsgB];exact decide_eq_false h.1,?_⟩
 simp only [sgR]
 rw [if_neg (by omega)]
theorem dg_nat {c:UInt8}(h:dg c=true):48<=(c.toNat:Int)/\(c.toNat:Int)<=57:=by
 unfold dg at h
 have:=of_decide_eq_true h
 omega
theorem sg_all {l:List UInt8}(h:l.all dg=true):gsgB l=false/\sgR l=l:=by
 cases l with
 | nil=>exact ⟨rfl,rfl⟩
 | cons c r =>
  rw [List.all_cons,Bool.and_eq_true] at h
  have:=dg_nat h.1
  exact sg_cons ⟨by omega,by omega⟩
theorem exT_cut (e:Int)(h:-1000000000<=e/\e<=1000000000):exB (exT e)=true/\exI (exT e)=e/\Lib.hasPrefix (exT e) [46]=false/\dgs (exT e)=[]/\rst (exT e)=exT e:=by
 unfold exT
 split
 ·rename_i h0;subst h0;exact ⟨rfl,rfl,rfl,rfl,rfl⟩
 ·rename_i h0
  have hi:isd (sgR (Lib.itoa e))=true/\exS (Lib.itoa e)=e:=by
   unfold Lib.itoa
   split
   ·rename_i h1
    have e1:gsgB (45::Lib.decDigits e.natAbs)=true:=rfl
    have e2:sgR (45::Lib.decDigits e.natAbs)=Lib.decDigits e.natAbs:=rfl
    unfold exS
    rw [e1,e2,if_pos rfl]
    refine ⟨dec_isd _,?_⟩
    unfold vc;rw [dec_nv];omega
   ·rename_i h1
    obtain ⟨e1,e2⟩:=sg_all (dec_dg e.toNat)
    unfold exS
    rw [e1,e2]
    refine ⟨dec_isd _,?_⟩
    rw [if_neg (by decide)]
    unfold vc;rw [dec_nv];omega
  have hx:exB (101::Lib.itoa e)=true:=by
   simp only [exB]
   rw [hi.1];rfl
  refine ⟨hx,?_,rfl,rfl,rfl⟩
  simp only [exI]
  rw [if_pos hx]
  exact hi.2
theorem dgs_app2 {l m:List UInt8}(h:l.all dg=true)(hm:dgs m=[]):dgs (l++m)=l/\rst (l++m)=m:=by
 have h1:dgs (l++m)=l:=by
  induction l with
  | nil=>exact hm
  | cons c r ih =>
   rw [List.all_cons,Bool.and_eq_true] at h
   unfold dgs at ih ⊢
   rw [List.cons_append,List.takeWhile_cons,if_pos h.1,ih h.2]
 refine ⟨h1,?_⟩
 have e:=dgs_rst (l++m)
 rw [h1] at e
 exact List.append_cancel_left e
theorem fin_cut (T:List UInt8)(e:Int)(hT:T.all dg=true)(hn:T≠[])(h:-1000000000<=e/\e<=1000000000):finB (T++exT e)=true/\finD (T++exT e)=bar T/\finE (T++exT e)=e:=by
 obtain ⟨h1,h2,h3,h4,h5⟩:=exT_cut e h
 obtain ⟨d1,d2⟩:=dgs_app2 hT h4
 have f1:frac (T++exT e)=[]:=by unfold frac;rw [d2,h3];rfl
 have f2:behind (T++exT e)=exT e:=by unfold behind;rw [d2,h3];rfl
 refine ⟨?_,?_,?_⟩
 ·unfold finB;rw [f1,f2,h1,d1]
  cases T with
  | nil=>exact absurd rfl hn
  | cons c r=>rfl
 ·unfold finD;rw [f1,d1,List.append_nil]
 ·unfold finE;rw [f1,f2,h2];unfold clampE;simp;omega
def gdD (d:List UInt8):Prop:=d=[]∨(isd d=true/\by_ d 0≠48)
theorem gdD_all {d:List UInt8}(h:gdD d):d.all dg=true:=by
 rcases h with rfl|⟨h,_⟩
 ·rfl
 ·exact isd_all h
theorem gdD_bar {d:List UInt8}(h:gdD d):bar d=d:=by
 cases d with
 | nil=>rfl
 | cons c r =>
  rcases h with h|⟨_,h⟩
  ·cases h
  ·rw [by_zero] at h
   rw [bar_cons,if_neg h]
theorem gdD_dgT {d:List UInt8}(h:gdD d):(dgT d).all dg=true/\dgT d≠[]/\bar (dgT d)=d:=by
 unfold dgT
 split
 ·rename_i h0;subst h0;exact ⟨rfl,by simp,rfl⟩
 ·rename_i h0;exact ⟨gdD_all h,h0,gdD_bar h⟩
def gdP (p:Prt):Prop:=gdD p.dig/\((p.cls=1/\p.sn=false/\(-1000000000<=p.ex/\p.ex<=1000000000)/\(texT p.cls p.sg p.sn p.dig p.ex).length<=4000)∨(p.cls=2/\p.sn=false/\p.dig=[]/\p.ex=0)∨(p.cls=3/\p.ex=0/\(texT p.cls p.sg p.sn p.dig p.ex).length<=4000))
theorem sig_app (s:Bool)(c:UInt8)(r:List UInt8)(h:(c.toNat:Int)≠45/\(c.toNat:Int)≠43):gsgB ((if s then [45] else [])++(c::r))=s/\sgR ((if s then [45] else [])++(c::r))=c::r:=by
 cases s
 ·exact sg_cons h
 ·exact ⟨rfl,rfl⟩
theorem sml_dg {d:List UInt8}(h:d.all dg=true):sml d=d:=by
 induction d with
 | nil=>rfl
 | cons c r ih =>
  rw [List.all_cons,Bool.and_eq_true] at h
  have:=dg_nat h.1
  show sm c::sml r=c::r
  rw [ih h.2]
  unfold sm
  rw [if_neg (by omega)]
theorem nan_pa {d:List UInt8}(h:gdD d):sml (if d=[] then [] else 40::(d++[41]))=(if d=[] then [] else 40::(d++[41]))/\paB (if d=[] then [] else 40::(d++[41]))=true/\paD (if d=[] then [] else 40::(d++[41]))=d:=by
 by_cases h0:d=[]
 ·rw [if_pos h0];subst h0;exact ⟨rfl,rfl,rfl⟩
 ·rw [if_neg h0]
  have e1:Lib.trimPrefix (40::(d++[41])) [40]=d++[41]:=rfl
  have e2:Lib.hasPrefix (40::(d++[41])) [40]=true:=rfl
  obtain ⟨d1,d2⟩:=dgs_app2 (m:=[41]) (gdD_all h) rfl
  refine ⟨?_,?_,?_⟩
  ·have:=sml_dg (gdD_all h)
   unfold sml at this ⊢
   rw [List.map_cons,List.map_append,this];rfl
  ·unfold paB;rw [e1,e2,d1,d2]
   cases d with
   | nil=>exact absurd rfl h0
   | cons c r=>rfl
  ·unfold paD;rw [e1,e2,d1];rfl
theorem nan_cut (g:Bool){d:List UInt8}(h:gdD d):finB (nanT g d)=false/\infB (sml (nanT g d))=false/\nanB (sml (nanT g d))=true/\Lib.hasPrefix (sml (nanT g d)) [115]=g/\paD (nanR (sml (nanT g d)))=d:=by
 obtain ⟨p1,p2,p3⟩:=nan_pa h
 unfold nanT
 generalize (if d=[] then [] else 40::(d++[41]):List UInt8)=X at p1 p2 p3 ⊢
 cases g
 ·have e:sml ((if false=true then [115] else [])++([110,97,110]++X))=[110,97,110]++X:=by
   show 110::97::110::sml X=_
   rw [p1];rfl
  rw [e]
  refine ⟨rfl,rfl,?_,rfl,?_⟩
  ·show (true&&paB X)=true
   rw [p2];rfl
  ·exact p3
 ·have e:sml ((if true=true then [115] else [])++([110,97,110]++X))=115::([110,97,110]++X):=by
   show 115::110::97::110::sml X=_
   rw [p1];rfl
  rw [e]
  refine ⟨rfl,rfl,?_,rfl,?_⟩
  ·show (true&&paB X)=true
   rw [p2];rfl
  ·exact p3
theorem jn_of_gd {p:Prt}(h:gdP p):jnP p:=by
 obtain ⟨c,s,g,d,e⟩:=p
 obtain ⟨hd,h⟩:=h
 dsimp only at hd h
 rcases h with ⟨rfl,rfl,he,hl⟩|⟨rfl,rfl,rfl,rfl⟩|⟨rfl,rfl,hl⟩
 ·obtain ⟨t1,t2,t3⟩:=gdD_dgT hd
  have hb:bodT 1 false d e=dgT d++exT e:=rfl
  have hdl:d.length<=(dgT d).length:=by
   unfold dgT;split
   ·rename_i h0;subst h0;simp
   ·exact Nat.le_refl _
  have ht:texT 1 s false d e=(if s then [45] else [])++(dgT d++exT e):=rfl
  refine ⟨?_,?_⟩
  ·rw [ht] at hl
   simp only [List.length_append] at hl
   show d.length<=4000
   omega
  ·unfold cutP
   rw [if_neg (show ¬ 4000<(texT 1 s false d e).length by omega)]
   show bodP (gsgB (texT 1 s false d e)) (sgR (texT 1 s false d e))=_
   obtain ⟨f1,f2,f3⟩:=fin_cut (dgT d) e t1 t2 he
   have hs:gsgB (texT 1 s false d e)=s/\sgR (texT 1 s false d e)=dgT d++exT e:=by
    rw [ht]
    revert t1 t2
    generalize dgT d=T
    intro t1 t2
    cases T with
    | nil=>exact absurd rfl t2
    | cons c r =>
     rw [List.all_cons,Bool.and_eq_true] at t1
     have:=dg_nat t1.1
     exact sig_app s c _ ⟨by omega,by omega⟩
   rw [hs.1,hs.2]
   unfold bodP
   rw [if_pos f1,f2,f3,t3]
 ·refine ⟨by simp,?_⟩
  cases s<;>rfl
 ·have hn:=nan_cut g hd
  have ht:texT 3 s g d 0=(if s then [45] else [])++nanT g d:=rfl
  refine ⟨?_,?_⟩
  ·rw [ht] at hl
   unfold nanT at hl
   simp only [List.length_append] at hl
   show d.length<=4000
   by_cases h0:d=[]
   ·subst h0;simp
   ·rw [if_neg h0] at hl
    simp only [List.length_cons,List.length_append] at hl
    omega
  ·unfold cutP
   rw [if_neg (show ¬ 4000<(texT 3 s g d 0).length by omega)]
   show bodP (gsgB (texT 3 s g d 0)) (sgR (texT 3 s g d 0))=_
   have hs:gsgB (texT 3 s g d 0)=s/\sgR (texT 3 s g d 0)=nanT g d:=by
    rw [ht]
    cases g
    ·exact sig_app s 110 _ ⟨by decide,by decide⟩
    ·exact sig_app s 115 _ ⟨by decide,by decide⟩
   obtain ⟨n1,n2,n3,n4,n5⟩:=hn
   rw [hs.1,hs.2]
   unfold bodP
   rw [if_neg (by rw [n1];decide),if_neg (by rw [n2];decide),if_pos n3,n4,n5,gdD_bar hd]
theorem itoa_any (e:Int)(w:World)(he:-9223372036854775808<=e/\e<=9223372036854775807)(hT:Tb10 w) :
  CB 100 #[.int .i64 e] w (.string (B (Lib.itoa e))):=by
 refine (Tryz.strconv_Itoa e he.1 he.2 w hT).mono ?_
 rintro x w' ⟨rfl,k,os,rfl⟩
 exact ⟨rfl,⟨rfl,rfl,rfl,by show w.heap.size<=(w.heap++os).size;simp,fun b hb=>by show (w.heap++os)[b]?=w.heap[b]?;rw [Array.getElem?_append_left hb]⟩⟩
end Go.Proofs.YtahfkpjhlbiamaaGreatDoor
