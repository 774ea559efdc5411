/-
  Texts that the proof leans on, joined: Gg, Gh, Gi.
-/
import Derived.Test.YtpabnhlfbjkmaaaGreatDoorL1
import Derived.RegionTactic
import Derived.ChangeAlike
import Derived.BigRegion
import Derived.Laws.Strings2
set_option maxHeartbeats 8000000
set_option linter.unusedVariables false
set_option linter.unusedSimpArgs false
set_option linter.unusedSectionVars false
set_option maxRecDepth 20000
namespace Go.Proofs.YtpabnhlfbjkmaaaGreatDoor
open Go.RowKit
def paD (l:List UInt8):List UInt8:=if Lib.hasPrefix l [40] then dgs (Lib.trimPrefix l [40]) else []
def paB (l:List UInt8):Bool:=l.isEmpty || (Lib.hasPrefix l [40] && (!(dgs (Lib.trimPrefix l [40])).isEmpty && (rst (Lib.trimPrefix l [40]) == [41])))
theorem payload_any (l:List UInt8) (w:World) (hs:l.length<10001) :
  CB 121 #[.string (B l)] w (.tuple #[.string (B (paD l)),.bool (paB l)]):=by
 have htl:=B_toList
 cases l with
 | nil =>
  go_enter Tryz.func121,Tryz.ntmps121
  go_wp2
  go_ret2
  exact ⟨rfl,Below.refl _ _⟩
 | cons c r =>
  have c28:∀ w,Calls Tryz.prog 117 #[.string (B (c :: r)),.string ⟨#[40]⟩] w fun e w'=>e=.returned (.tuple #[.string (B (Lib.trimPrefix (c :: r) [40])),.bool (Lib.hasPrefix (c :: r) [40])])/\w'=w:=fun w=>cutp_any (c :: r) [40] w
  have hTl:=trimPre_le (c :: r) [40]
  have c27:=fun w=>ldig_any (Lib.trimPrefix (c :: r) [40]) w (by omega)
  unfold paD paB
  generalize Lib.trimPrefix (c :: r) [40]=T at *
  generalize Lib.hasPrefix (c :: r) [40]=z at *
  simp only [List.isEmpty_cons,Bool.false_or]
  cases z
  ·simp only [Bool.false_eq_true,if_false,Bool.false_and]
   go_enter Tryz.func121,Tryz.ntmps121
   go_wp2_with (go_at_call 117;refine (c28 _).mono ?_;rintro x w2 ⟨rfl,rfl⟩)
   go_ret2
   exact ⟨rfl,Below.refl _ _⟩
  ·simp only [if_true,Bool.true_and]
   generalize dgs T=D at *
   generalize rst T=R at *
   cases D with
   | nil =>
    simp only [List.isEmpty_nil,Bool.not_true,Bool.false_and]
    go_enter Tryz.func121,Tryz.ntmps121
    go_wp2_with (first | (go_at_call 117;refine (c28 _).mono ?_;rintro x w2 ⟨rfl,rfl⟩) | (go_at_call 116;refine (c27 _).mono ?_;rintro x w3 ⟨rfl,hb3⟩))
    go_ret2
    exact ⟨rfl,hb3⟩
   | cons d ds =>
    simp only [List.isEmpty_cons,Bool.not_false,Bool.true_and]
    go_enter Tryz.func121,Tryz.ntmps121
    go_wp2_with (first | (go_at_call 117;refine (c28 _).mono ?_;rintro x w2 ⟨rfl,rfl⟩) | (go_at_call 116;refine (c27 _).mono ?_;rintro x w3 ⟨rfl,hb3⟩))
    go_ret2
    exact ⟨rfl,hb3⟩
def infB (x:List UInt8):Bool:=x == [105,110,102] || x == [105,110,102,105,110,105,116,121]
def nanR (x:List UInt8):List UInt8:=Lib.trimPrefix (Lib.trimPrefix x [115]) [110,97,110]
def nanB (x:List UInt8):Bool:=Lib.hasPrefix (Lib.trimPrefix x [115]) [110,97,110] && paB (nanR x)
def woB (s:List UInt8):Bool:=infB (sml s) || nanB (sml s)
def woV (s:List UInt8):Value:=if infB (sml s) then PV 2 false false [] 0 else if nanB (sml s) then PV 3 false (Lib.hasPrefix (sml s) [115]) (bar (paD (nanR (sml s)))) 0 else PV 0 false false [] 0
theorem gword_any (s:List UInt8) (w:World) (hs:s.length<10001) :
  CB 74 #[.string (B s)] w (.tuple #[woV s,.bool (woB s)]):=by
 have htl:=B_toList
 have c31:=fun w=>gsmall_any s w hs
 unfold woV woB PV
 have hxl:=sml_len s
 generalize sml s=x at *
 have HI:Hid (infB x=(x == [105,110,102] || x == [105,110,102,105,110,105,116,121])):=rfl
 by_cases h1:x=[105,110,102]
 ·have hi:infB x=true:=by rw [h1];rfl
  rw [hi]
  subst h1
  simp only [if_true,Bool.true_or]
  go_enter Tryz.func74,Tryz.ntmps74
  go_wp2_with (first | (go_at_call 120;refine (c31 _).mono ?_;rintro x w1 ⟨rfl,hb1⟩;obtain ⟨_,_,_,_,hA1,_⟩:=wz w hb1;clear hb1))
  exact bodyPost_ret (v:=.tuple #[.agg #[.int .i64 2,.bool false,.bool false,.string ⟨#[]⟩,.int .i64 0],.bool true]) (by simp only [results,Tryz.results74];go_simp) rfl ⟨rfl,bgo⟩
 ·by_cases h2:x=[105,110,102,105,110,105,116,121]
  ·have hi:infB x=true:=by rw [h2];rfl
   rw [hi]
   subst h2
   simp only [if_true,Bool.true_or]
   go_enter Tryz.func74,Tryz.ntmps74
   go_wp2_with (first | (go_at_call 120;refine (c31 _).mono ?_;rintro x w1 ⟨rfl,hb1⟩;obtain ⟨_,_,_,_,hA1,_⟩:=wz w hb1;clear hb1))
   exact bodyPost_ret (v:=.tuple #[.agg #[.int .i64 2,.bool false,.bool false,.string ⟨#[]⟩,.int .i64 0],.bool true]) (by simp only [results,Tryz.results74];go_simp) rfl ⟨rfl,bgo⟩
  ·have hi:infB x=false:=by unfold infB;rw [beq_eq_false_iff_ne.2 h1,beq_eq_false_iff_ne.2 h2];rfl
   rw [hi]
   have b1:(x == [105,110,102])=false:=beq_eq_false_iff_ne.2 h1
   have b2:(x == [105,110,102,105,110,105,116,121])=false:=beq_eq_false_iff_ne.2 h2
   simp only [Bool.false_eq_true,if_false,Bool.false_or]
   have c28:∀ w,Calls Tryz.prog 117 #[.string (B x),.string ⟨#[115]⟩] w fun e w'=>e=.returned (.tuple #[.string (B (Lib.trimPrefix x [115])),.bool (Lib.hasPrefix x [115])])/\w'=w:=fun w=>cutp_any x [115] w
   have hl1:=trimPre_le x [115]
   have c28n:∀ w,Calls Tryz.prog 117 #[.string (B (Lib.trimPrefix x [115])),.string ⟨#[110,97,110]⟩] w fun e w'=>e=.returned (.tuple #[.string (B (nanR x)),.bool (Lib.hasPrefix (Lib.trimPrefix x [115]) [110,97,110])])/\w'=w:=fun w=>cutp_any (Lib.trimPrefix x [115]) [110,97,110] w
   have hl2:=trimPre_le (Lib.trimPrefix x [115]) [110,97,110]
   change (nanR x).length<=_ at hl2
   unfold nanB
   generalize Lib.hasPrefix (Lib.trimPrefix x [115]) [110,97,110]=z at *
   generalize Lib.hasPrefix x [115]=g at *
   generalize Lib.trimPrefix x [115]=T at *
   have c32:=fun w=>payload_any (nanR x) w (by omega)
   generalize nanR x=N at *
   have hpl:(paD N).length<=N.length:=by
    unfold paD;split
    ·exact Nat.le_trans (dgs_le _) (trimPre_le _ _)
    ·simp
   have c30:=fun w=>signif_any (paD N) w (by omega)
   generalize paD N=P at *
   generalize paB N=y at *
   cases z
   ·simp only [Bool.false_and,Bool.false_eq_true,if_false]
    go_enter Tryz.func74,Tryz.ntmps74
    go_wp2_with (first | (go_at_call 120;refine (c31 _).mono ?_;rintro x w1 ⟨rfl,hb1⟩;obtain ⟨_,_,_,_,hA1,_⟩:=wz w hb1;clear hb1) | (go_at_call 117;refine (c28 _).mono ?_;rintro x w2 ⟨rfl,rfl⟩;clear c28))
    go_wp2_with (first | (go_at_call 117;refine (c28n _).mono ?_;rintro x w2 ⟨rfl,rfl⟩;clear c28n))
    exact bodyPost_ret (v:=.tuple #[.agg #[.int .i64 0,.bool false,.bool false,.string ⟨#[]⟩,.int .i64 0],.bool false]) (by simp only [results,Tryz.results74];go_simp) rfl ⟨rfl,bgo⟩
   ·cases y
    ·simp only [Bool.true_and,Bool.false_eq_true,if_false]
     go_enter Tryz.func74,Tryz.ntmps74
     go_wp2_with (first | (go_at_call 120;refine (c31 _).mono ?_;rintro x w1 ⟨rfl,hb1⟩;obtain ⟨_,_,_,_,hA1,_⟩:=wz w hb1;clear hb1) | (go_at_call 117;refine (c28 _).mono ?_;rintro x w2 ⟨rfl,rfl⟩;clear c28))
     go_wp2_with (first | (go_at_call 117;refine (c28n _).mono ?_;rintro x w2 ⟨rfl,rfl⟩;clear c28n) | (go_at_call 121;refine (c32 _).mono ?_;rintro x w3 ⟨rfl,hb3⟩;obtain ⟨_,_,_,_,hA3,_⟩:=wz w hb3;clear hb3))
     exact bodyPost_ret (v:=.tuple #[.agg #[.int .i64 0,.bool false,.bool false,.string ⟨#[]⟩,.int .i64 0],.bool false]) (by simp only [results,Tryz.results74];go_simp) rfl ⟨rfl,bgo⟩
    ·simp only [Bool.true_and,if_true]
     go_enter Tryz.func74,Tryz.ntmps74
     go_wp2_with (first | (go_at_call 120;refine (c31 _).mono ?_;rintro x w1 ⟨rfl,hb1⟩;obtain ⟨_,_,_,_,hA1,_⟩:=wz w hb1;clear hb1) | (go_at_call 117;refine (c28 _).mono ?_;rintro x w2 ⟨rfl,rfl⟩;clear c28))
     go_wp2_with (first | (go_at_call 117;refine (c28n _).mono ?_;rintro x w2 ⟨rfl,rfl⟩;clear c28n) | (go_at_call 121;refine (c32 _).mono ?_;rintro x w3 ⟨rfl,hb3⟩;obtain ⟨_,_,_,_,hA3,_⟩:=wz w hb3;clear hb3) | (go_at_call 119;refine (c30 _).mono ?_;rintro x w4 ⟨rfl,hb4⟩;obtain ⟨_,_,_,_,hA4,_⟩:=wz w hb4;clear hb4))
     exact bodyPost_ret (v:=.tuple #[.agg #[.int .i64 3,.bool false,.bool g,.string (B (bar P)),.int .i64 0],.bool true]) (by simp only [results,Tryz.results74];go_simp) rfl ⟨rfl,bgo⟩
structure Prt where
 cls:Int
 sg:Bool
 sn:Bool
 dig:List UInt8
 ex:Int
def Prt.v (p:Prt):Value:=PV p.cls p.sg p.sn p.dig p.ex
def Prt.zero:Prt:=⟨0,false,false,[],0⟩
def bodP (z:Bool) (r:List UInt8):Option Prt :=
 if finB r then some ⟨1,z,false,finD r,finE r⟩
 else if infB (sml r) then some ⟨2,z,false,[],0⟩
 else if nanB (sml r) then some ⟨3,z,Lib.hasPrefix (sml r) [115],bar (paD (nanR (sml r))),0⟩
 else none
def cutP (l:List UInt8):Option Prt:=if 4000<l.length then none else bodP (gsgB l) (sgR l)
def cutE (l:List UInt8):Int:=if 4000<l.length then 4 else if (cutP l).isSome then 0 else 2
def cutV (l:List UInt8):Prt:=(cutP l).getD Prt.zero
theorem cut_long (l:List UInt8) (w:World) (hs:l.length<10001) (hl:4000<l.length) :
  CB 35 #[.string (B l)] w (.tuple #[PV 0 false false [] 0,.int .i64 4]):=by
 have hsz:=B_size l
 have hi:(4000:Int)<l.length:=by omega
 unfold PV
 go_enter Tryz.func35,Tryz.ntmps35
 go_wp2
 exact bodyPost_ret (v:=.tuple #[.agg #[.int .i64 0,.bool false,.bool false,.string ⟨#[]⟩,.int .i64 0],.int .i64 4]) (by simp only [results,Tryz.results35];go_simp) rfl ⟨rfl,bgo⟩
theorem cut_fin (l:List UInt8) (w:World) (hl:l.length<=4000) (hf:finB (sgR l)=true) :
  CB 35 #[.string (B l)] w (.tuple #[PV 1 (gsgB l) false (finD (sgR l)) (finE (sgR l)),.int .i64 0]):=by
 have hsz:=B_size l
 have hi:(l.length:Int)<=4000:=by omega
 have hsl:=sgR_le l
 have c16:=fun w=>lsign_any l w (by omega)
 have c17:=fun w=>fin_eq (sgR l) w (by omega)
 rw [hf] at c17
 simp only [if_true] at c17
 unfold PV at c17 ⊢
 generalize finD (sgR l)=D at *
 generalize finE (sgR l)=E at *
 generalize gsgB l=z at *
 generalize sgR l=R at *
 have hsm:∀ (W:World) (b i:Nat) (v:Value),(W.setCell ⟨b,i,none⟩ v).cell? ⟨b,i,none⟩=(W.cell? ⟨b,i,none⟩).map fun _=>v:=fun W b i v=>gcell_set_map W b i v
 go_enter Tryz.func35,Tryz.ntmps35
 go_wp2_with (first | (go_at_call 72;refine (c16 _).mono ?_;rintro x w1 ⟨rfl,hb1⟩;obtain ⟨_,_,_,_,hA1,_⟩:=wz w hb1;clear hb1) | (go_at_call 73;refine (c17 _).mono ?_;rintro x w2 ⟨rfl,hb2⟩;obtain ⟨_,_,_,_,hA2,_⟩:=wz w hb2;clear hb2))
 exact bodyPost_ret (v:=.tuple #[.agg #[.int .i64 1,.bool z,.bool false,.string (B D),.int .i64 E],.int .i64 0]) (by simp only [results,Tryz.results35];go_simp) rfl ⟨rfl,bgo⟩
theorem cut_wo (l:List UInt8) (w:World) (hl:l.length<=4000) (hf:finB (sgR l)=false) (C:Int) (G:Bool) (D:List UInt8) (hv:woV (sgR l)=PV C false G D 0) (hb:woB (sgR l)=true) :
  CB 35 #[.string (B l)] w (.tuple #[PV C (gsgB l) G D 0,.int .i64 0]):=by
 have hsz:=B_size l
 have hi:(l.length:Int)<=4000:=by omega
 have hsl:=sgR_le l
 have c16:=fun w=>lsign_any l w (by omega)
 have c17:=fun w=>fin_eq (sgR l) w (by omega)
 have c18:=fun w=>gword_any (sgR l) w (by omega)
 rw [hf] at c17
 rw [hv,hb] at c18
 simp only [Bool.false_eq_true,if_false] at c17
 unfold PV at c17 c18 ⊢
 clear hv hb hf
 generalize gsgB l=z at *
 generalize sgR l=R at *
 have hsm:=gcell_set_map
 go_enter Tryz.func35,Tryz.ntmps35
 go_wp2_with (first | (go_at_call 72;refine (c16 _).mono ?_;rintro x w1 ⟨rfl,hb1⟩;obtain ⟨_,_,_,_,hA1,_⟩:=wz w hb1;clear hb1) | (go_at_call 73;refine (c17 _).mono ?_;rintro x w2 ⟨rfl,hb2⟩;obtain ⟨_,_,_,_,hA2,_⟩:=wz w hb2;clear hb2) | (go_at_call 74;refine (c18 _).mono ?_;rintro x w3 ⟨rfl,hb3⟩;obtain ⟨_,_,_,_,hA3,_⟩:=wz w hb3;obtain ⟨_,_⟩:=zf hb3 w2.heap.size;clear hb3))
 exact bodyPost_ret (v:=.tuple #[.agg #[.int .i64 C,.bool z,.bool G,.string (B D),.int .i64 0],.int .i64 0]) (by simp only [results,Tryz.results35];go_simp) rfl ⟨rfl,bgo⟩
theorem cut_no (l:List UInt8) (w:World) (hl:l.length<=4000) (hf:finB (sgR l)=false) (hv:woV (sgR l)=PV 0 false false [] 0) (hb:woB (sgR l)=false) :
  CB 35 #[.string (B l)] w (.tuple #[PV 0 false false [] 0,.int .i64 2]):=by
 have hsz:=B_size l
 have hi:(l.length:Int)<=4000:=by omega
 have hsl:=sgR_le l
 have c16:=fun w=>lsign_any l w (by omega)
 have c17:=fun w=>fin_eq (sgR l) w (by omega)
 have c18:=fun w=>gword_any (sgR l) w (by omega)
 rw [hf] at c17
 rw [hv,hb] at c18
 simp only [Bool.false_eq_true,if_false] at c17
 unfold PV at c17 c18 ⊢
 clear hv hb hf
 generalize gsgB l=z at *
 generalize sgR l=R at *
 have hsm:=gcell_set_map
 go_enter Tryz.func35,Tryz.ntmps35
 go_wp2_with (first | (go_at_call 72;refine (c16 _).mono ?_;rintro x w1 ⟨rfl,hb1⟩;obtain ⟨_,_,_,_,hA1,_⟩:=wz w hb1;clear hb1) | (go_at_call 73;refine (c17 _).mono ?_;rintro x w2 ⟨rfl,hb2⟩;obtain ⟨_,_,_,_,hA2,_⟩:=wz w hb2;clear hb2) | (go_at_call 74;refine (c18 _).mono ?_;rintro x w3 ⟨rfl,hb3⟩;obtain ⟨_,_,_,_,hA3,_⟩:=wz w hb3;obtain ⟨_,_⟩:=zf hb3 w2.heap.size;clear hb3))
 exact bodyPost_ret (v:=.tuple #[.agg #[.int .i64 0,.bool false,.bool false,.string ⟨#[]⟩,.int .i64 0],.int .i64 2]) (by simp only [results,Tryz.results35];go_simp) rfl ⟨rfl,bgo⟩
theorem cut_any (l:List UInt8) (w:World) (hs:l.length<10001) :
  CB 35 #[.string (B l)] w (.tuple #[(cutV l).v,.int .i64 (cutE l)]):=by
 unfold cutV cutE cutP
 by_cases hl:4000<l.length
 ·rw [if_pos hl,if_pos hl]
  exact cut_long l w hs hl
 ·rw [if_neg hl,if_neg hl]
  unfold bodP
  by_cases hf:finB (sgR l)=true
  ·rw [if_pos hf]
   exact cut_fin l w (by omega) hf
  ·rw [if_neg hf]
   have hf':finB (sgR l)=false:=by simpa using hf
   by_cases h1:infB (sml (sgR l))=true
   ·rw [if_pos h1]
    exact cut_wo l w (by omega) hf' 2 false [] (by unfold woV;rw [if_pos h1]) (by unfold woB;rw [h1];rfl)
   ·rw [if_neg h1]
    by_cases h2:nanB (sml (sgR l))=true
    ·rw [if_pos h2]
     exact cut_wo l w (by omega) hf' 3 _ _ (by unfold woV;rw [if_neg h1,if_pos h2];rfl) (by unfold woB;rw [h2,Bool.or_true])
    ·rw [if_neg h2]
     exact cut_no l w (by omega) hf' (by unfold woV;rw [if_neg h1,if_neg h2]) (by unfold woB;rw [show infB (sml (sgR l))=false by simpa using h1,show nanB (sml (sgR l))=false by simpa using h2];rfl)
theorem by_app_at (a b:List UInt8) (i:Nat):by_ (a++b) (a.length+i)=by_ b i:=by
 induction a with
 | nil=>simp
 | cons c r ih=>rw [List.cons_append,List.length_cons,show r.length+1+i=(r.length+i)+1 by omega,by_succ,ih]
end Go.Proofs.YtpabnhlfbjkmaaaGreatDoor
