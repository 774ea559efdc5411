/-
  Texts that the proof leans on.
-/
import Derived.Test.YtpabnhlfbjkmaaaGreatDoorR5
import Derived.Test.YtpabnhlfbjkmaaaGreatDoorR2
import Derived.Test.YtpabnhlfbjkmaaaGreatDoorR1
import Derived.RegionTactic
import Derived.ChangeAlike
import Derived.BigRegion
import Derived.Laws.Strings2
set_option maxHeartbeats 8000000
set_option linter.unusedVariables false
set_option linter.unusedSimpArgs false
set_option linter.unusedSectionVars false
set_option maxRecDepth 20000
namespace Go.Proofs.YtpabnhlfbjkmaaaGreatDoor
open Go.RowKit
theorem zZy (l:List UInt8)(w:World):Calls Tryz.prog 156 #[.string (B l),.string ⟨#[48]⟩] w fun e w'=>e=.returned (.string (B (bar l)))/\w'=w :=
 Tryz.strings_TrimLeft_one (B l) 48 (by decide) w
theorem zP0 (l:List UInt8)(w:World)(hs:l.length<4294967296):CB 155 #[.string (B l)] w (.string (B l)):=by
 have c:=fun w=>Tryz.stringslite_Clone (B l) w (by rw [zCa];omega)
 go_enter Tryz.func155,Tryz.ntmps155
 go_wp2_with (go_at_call 182;refine (c _).mono ?_;rintro x w1 ⟨rfl,hb1⟩)
 go_ret
 exact ⟨rfl,hb1⟩
theorem zRh (l p:List UInt8)(w:World):Calls Tryz.prog 117 #[.string (B l),.string ⟨p.toArray⟩] w fun e w'=>e=.returned (.tuple #[.string (B (Lib.trimPrefix l p)),.bool (Lib.hasPrefix l p)])/\w'=w :=
 Tryz.strings_CutPrefix (B l) (B p) w
theorem zDi (l:List UInt8)(w:World)(hs:l.length<4294967296):CB 119 #[.string (B l)] w (.string (B (bar l))):=by
 have c:=fun w=>zZy l w
 have c2:=fun w=>zP0 (bar l) w (by have:=zQs l;omega)
 go_enter Tryz.func119,Tryz.ntmps119
 go_wp2_with (first|(go_at_call 156;refine (c _).mono ?_;rintro x w1 ⟨rfl,rfl⟩)|(go_at_call 155;refine (c2 _).mono ?_;rintro x w2 ⟨rfl,hb2⟩))
 go_ret
 exact ⟨rfl,hb2⟩
def PV (c:Int)(s g:Bool)(d:List UInt8)(e:Int):Value:=.agg #[.int .i64 c,.bool s,.bool g,.string (B d),.int .i64 e]
def zNe (e:Int):Int:=min (max e (-1000000000)) 1000000000
def zWh (s:List UInt8):List UInt8:=if Lib.hasPrefix (rst s) [46] then dgs (Lib.trimPrefix (rst s) [46]) else []
def zFc (s:List UInt8):List UInt8:=if Lib.hasPrefix (rst s) [46] then rst (Lib.trimPrefix (rst s) [46]) else rst s
def zEg (s:List UInt8):Bool:=exB (zFc s)&&!((dgs s).isEmpty&&(zWh s).isEmpty)
def finD (s:List UInt8):List UInt8:=bar (dgs s++zWh s)
def finE (s:List UInt8):Int:=zNe (exI (zFc s)-(zWh s).length)
theorem zDc (l p:List UInt8):(Lib.trimPrefix l p).length<=l.length:=by unfold Lib.trimPrefix;split<;>simp
theorem yUb (s:List UInt8):(zWh s).length<=s.length:=by
 unfold zWh;split
 ·exact Nat.le_trans (zLe _) (Nat.le_trans (zDc _ _) (zUj _))
 ·simp
theorem zNz (r:List UInt8)(h:isd (sgR r)=true):-2000000000<=exS r/\exS r<=2000000000:=by
 have:=vc_bd (zKi h)
 unfold exS;split<;>omega
theorem zJ7 (l:List UInt8):-2000000000<=exI l/\exI l<=2000000000:=by
 cases l with
 | nil=>show -2000000000<=(0:Int)/\(0:Int)<=2000000000;omega
 | cons c r =>
  show -2000000000<=(if exB (c::r) then exS r else 0)/\(if exB (c::r) then exS r else 0)<=2000000000
  by_cases h:exB (c::r)=true
  ·rw [if_pos h]
   have:isd (sgR r)=true:=by
    have h2:(decide _&&isd (sgR r))=true:=h
    rw [Bool.and_eq_true] at h2;exact h2.2
   exact zNz r this
  ·rw [if_neg h];omega
def npB (s:List UInt8):Bool:=exB (rst s)&&!(dgs s).isEmpty
theorem zIz (s:List UInt8)(w:World)(hs:s.length<10001)(hp:Lib.hasPrefix (rst s) [46]=false) :
  CB 73 #[.string (B s)] w (.tuple #[if npB s then PV 1 false false (bar (dgs s)) (zNe (exI (rst s))) else PV 0 false false [] 0,.bool (npB s)]):=by
 have htl:=zDa
 have c27:=fun w=>zJh s w (by omega)
 have c28:∀ w,Calls Tryz.prog 117 #[.string (B (rst s)),.string ⟨#[46]⟩] w fun e w'=>e=.returned (.tuple #[.string (B (Lib.trimPrefix (rst s) [46])),.bool (Lib.hasPrefix (rst s) [46])])/\w'=w:=fun w=>zRh (rst s) [46] w
 rw [hp] at c28
 have hdl:=zLe s
 have c29:=fun w=>zVi (rst s) w (by have:=zUj s;omega)
 have hx:=zJ7 (rst s)
 have c30:=fun w=>zDi (dgs s) w (by omega)
 unfold npB PV zNe
 generalize bar (dgs s)=D at *
 generalize Lib.trimPrefix (rst s) [46]=T at *
 generalize rst s=R at *
 generalize exI R=E at *
 generalize exB R=z at *
 clear hp
 cases z
 ·rw [Bool.false_and]
  clear c30
  generalize dgs s=X at *
  simp only [Bool.false_eq_true,if_false]
  go_enter Tryz.func73,Tryz.ntmps73
  go_wp2_with (first|(go_at_call 116;refine wk w (c27 _) ?_;intro w1 hb1 _ _ _ _ hA1 _;clear hb1)|(go_at_call 117;refine (c28 _).mono ?_;rintro x w2 ⟨rfl,rfl⟩)|(go_at_call 118;refine wk w (c29 _) ?_;intro w3 hb3 _ _ _ _ hA3 _;clear hb3)|(go_at_call 119;refine wk w (c30 _) ?_;intro w4 hb4 _ _ _ _ hA4 _;clear hb4))
  exact bodyPost_ret (v:=.tuple #[.agg #[.int .i64 0,.bool false,.bool false,.string ⟨#[]⟩,.int .i64 0],.bool false]) (by simp only [results,Tryz.results73];go_simp) rfl ⟨rfl,bgo⟩
 ·rw [Bool.true_and]
  generalize dgs s=X at *
  cases X with
  | nil =>
   clear c30
   simp only [List.isEmpty_nil,Bool.not_true,Bool.false_eq_true,if_false]
   go_enter Tryz.func73,Tryz.ntmps73
   go_wp2_with (first|(go_at_call 116;refine wk w (c27 _) ?_;intro w1 hb1 _ _ _ _ hA1 _;clear hb1)|(go_at_call 117;refine (c28 _).mono ?_;rintro x w2 ⟨rfl,rfl⟩)|(go_at_call 118;refine wk w (c29 _) ?_;intro w3 hb3 _ _ _ _ hA3 _;clear hb3)|(go_at_call 119;refine wk w (c30 _) ?_;intro w4 hb4 _ _ _ _ hA4 _;clear hb4))
   exact bodyPost_ret (v:=.tuple #[.agg #[.int .i64 0,.bool false,.bool false,.string ⟨#[]⟩,.int .i64 0],.bool false]) (by simp only [results,Tryz.results73];go_simp) rfl ⟨rfl,bgo⟩
  | cons x xs =>
   simp only [List.isEmpty_cons,Bool.not_false,if_true]
   have hap:=zTa (x::xs) []
   rw [List.append_nil] at hap
   have hb9:(B (x::xs)).size<10001:=by rw [zCa];omega
   have hn:B []=⟨#[]⟩:=rfl
   have hn0:(⟨#[]⟩:ByteArray).size=0:=rfl
   rw [hn] at hap
   go_enter Tryz.func73,Tryz.ntmps73
   go_wp2_with (first|(go_at_call 116;refine wk w (c27 _) ?_;intro w1 hb1 _ _ _ _ hA1 _;clear hb1)|(go_at_call 117;refine (c28 _).mono ?_;rintro x w2 ⟨rfl,rfl⟩)|(go_at_call 118;refine wk w (c29 _) ?_;intro w3 hb3 _ _ _ _ hA3 _;clear hb3)|(go_at_call 119;refine wk w (c30 _) ?_;intro w4 hb4 _ _ _ _ hA4 _;clear hb4))
   exact bodyPost_ret (v:=.tuple #[.agg #[.int .i64 1,.bool false,.bool false,.string (B D),.int .i64 (min (max E (-1000000000)) 1000000000)],.bool true]) (by simp only [results,Tryz.results73];go_simp) rfl ⟨rfl,bgo⟩
def ptB (X T:List UInt8):Bool:=exB (rst T)&&!(X.isEmpty&&(dgs T).isEmpty)
theorem zHz (s T:List UInt8)(w:World)(hs:s.length<10001)(hp:Lib.hasPrefix (rst s) [46]=true)(hT:Lib.trimPrefix (rst s) [46]=T) :
  CB 73 #[.string (B s)] w (.tuple #[if ptB (dgs s) T then PV 1 false false (bar (dgs s++dgs T)) (zNe (exI (rst T)-(dgs T).length)) else PV 0 false false [] 0,.bool (ptB (dgs s) T)]):=by
 have htl:=zDa
 have c27:=fun w=>zJh s w (by omega)
 have c28:∀ w,Calls Tryz.prog 117 #[.string (B (rst s)),.string ⟨#[46]⟩] w fun e w'=>e=.returned (.tuple #[.string (B (Lib.trimPrefix (rst s) [46])),.bool (Lib.hasPrefix (rst s) [46])])/\w'=w:=fun w=>zRh (rst s) [46] w
 rw [hp] at c28
 have hdl:=zLe s
 rw [hT] at c28
 have hTl:T.length<=s.length:=by rw [← hT];exact Nat.le_trans (zDc _ _) (zUj _)
 have hFl:=zLe T
 have c27b:=fun w=>zJh T w (by omega)
 have c29:=fun w=>zVi (rst T) w (by have:=zUj T;omega)
 have hx:=zJ7 (rst T)
 have c30:=fun w=>zDi (dgs s++dgs T) w (by rw [List.length_append];omega)
 have hap:=zTa (dgs s) (dgs T)
 unfold ptB PV zNe
 generalize bar (dgs s++dgs T)=D at *
 clear hT hp
 generalize rst s=R at *
 generalize exI (rst T)=E at *
 generalize exB (rst T)=z at *
 generalize rst T=R2 at *
 generalize dgs T=F at *
 have hszF:=zCa F
 have hF9:(B F).size<10001:=by rw [hszF];omega
 cases z
 ·rw [Bool.false_and]
  clear c30 hap
  generalize dgs s=X at *
  simp only [Bool.false_eq_true,if_false]
  go_enter Tryz.func73,Tryz.ntmps73
  go_wp2_with (first|(go_at_call 116;refine (c27 _).mono ?_;rintro x w1 ⟨rfl,hb1⟩;clear c27;obtain ⟨_,_,_,_,hA1,_⟩:=wz w hb1;clear hb1)|(go_at_call 117;refine (c28 _).mono ?_;rintro x w2 ⟨rfl,rfl⟩))
  go_wp2_with (first|(go_at_call 116;refine wk w (c27b _) ?_;intro w5 hb5 _ _ _ _ hA5 _;clear hb5)|(go_at_call 118;refine wk w (c29 _) ?_;intro w3 hb3 _ _ _ _ hA3 _;clear hb3)|(go_at_call 119;refine wk w (c30 _) ?_;intro w4 hb4 _ _ _ _ hA4 _;clear hb4))
  exact bodyPost_ret (v:=.tuple #[.agg #[.int .i64 0,.bool false,.bool false,.string ⟨#[]⟩,.int .i64 0],.bool false]) (by simp only [results,Tryz.results73];go_simp) rfl ⟨rfl,bgo⟩
 ·rw [Bool.true_and]
  generalize dgs s=X at *
  cases X with
  | nil =>
   cases F with
   | nil =>
    clear c30 hap
    simp only [List.isEmpty_nil,Bool.true_and,Bool.not_true,Bool.false_eq_true,if_false]
    go_enter Tryz.func73,Tryz.ntmps73
    go_wp2_with (first|(go_at_call 116;refine (c27 _).mono ?_;rintro x w1 ⟨rfl,hb1⟩;clear c27;obtain ⟨_,_,_,_,hA1,_⟩:=wz w hb1;clear hb1)|(go_at_call 117;refine (c28 _).mono ?_;rintro x w2 ⟨rfl,rfl⟩))
    go_wp2_with (first|(go_at_call 116;refine wk w (c27b _) ?_;intro w5 hb5 _ _ _ _ hA5 _;clear hb5)|(go_at_call 118;refine wk w (c29 _) ?_;intro w3 hb3 _ _ _ _ hA3 _;clear hb3)|(go_at_call 119;refine wk w (c30 _) ?_;intro w4 hb4 _ _ _ _ hA4 _;clear hb4))
    exact bodyPost_ret (v:=.tuple #[.agg #[.int .i64 0,.bool false,.bool false,.string ⟨#[]⟩,.int .i64 0],.bool false]) (by simp only [results,Tryz.results73];go_simp) rfl ⟨rfl,bgo⟩
   | cons f fs =>
    simp only [List.isEmpty_nil,List.isEmpty_cons,Bool.true_and,Bool.not_false,if_true]
    have hb9:(B []).size=0:=rfl
    have hfs:fs.length+1<10001:=by rw [List.length_cons] at hFl;omega
    go_enter Tryz.func73,Tryz.ntmps73
    go_wp2_with (first|(go_at_call 116;refine (c27 _).mono ?_;rintro x w1 ⟨rfl,hb1⟩;clear c27;obtain ⟨_,_,_,_,hA1,_⟩:=wz w hb1;clear hb1)|(go_at_call 117;refine (c28 _).mono ?_;rintro x w2 ⟨rfl,rfl⟩))
    go_wp2_with (first|(go_at_call 116;refine wk w (c27b _) ?_;intro w5 hb5 _ _ _ _ hA5 _;clear hb5)|(go_at_call 118;refine wk w (c29 _) ?_;intro w3 hb3 _ _ _ _ hA3 _;clear hb3)|(go_at_call 119;refine wk w (c30 _) ?_;intro w4 hb4 _ _ _ _ hA4 _;clear hb4))
    exact bodyPost_ret (v:=.tuple #[.agg #[.int .i64 1,.bool false,.bool false,.string (B D),.int .i64 (min (max (E-(f::fs).length) (-1000000000)) 1000000000)],.bool true]) (by simp only [results,Tryz.results73];go_simp) rfl ⟨rfl,bgo⟩
  | cons x xs =>
   simp only [List.isEmpty_cons,Bool.false_and,Bool.not_false,if_true]
   have hb9:(B (x::xs)).size<10001:=by rw [zCa];omega
   go_enter Tryz.func73,Tryz.ntmps73
   go_wp2_with (first|(go_at_call 116;refine (c27 _).mono ?_;rintro x w1 ⟨rfl,hb1⟩;clear c27;obtain ⟨_,_,_,_,hA1,_⟩:=wz w hb1;clear hb1)|(go_at_call 117;refine (c28 _).mono ?_;rintro x w2 ⟨rfl,rfl⟩))
   go_wp2_with (first|(go_at_call 116;refine wk w (c27b _) ?_;intro w5 hb5 _ _ _ _ hA5 _;clear hb5)|(go_at_call 118;refine wk w (c29 _) ?_;intro w3 hb3 _ _ _ _ hA3 _;clear hb3)|(go_at_call 119;refine wk w (c30 _) ?_;intro w4 hb4 _ _ _ _ hA4 _;clear hb4))
   exact bodyPost_ret (v:=.tuple #[.agg #[.int .i64 1,.bool false,.bool false,.string (B D),.int .i64 (min (max (E-F.length) (-1000000000)) 1000000000)],.bool true]) (by simp only [results,Tryz.results73];go_simp) rfl ⟨rfl,bgo⟩
theorem zJz (s:List UInt8)(w:World)(hs:s.length<10001) :
  CB 73 #[.string (B s)] w (.tuple #[if zEg s then PV 1 false false (finD s) (finE s) else PV 0 false false [] 0,.bool (zEg s)]):=by
 by_cases hp:Lib.hasPrefix (rst s) [46]=true
 ·have c:=zHz s _ w hs hp rfl
  have e1:zEg s=ptB (dgs s) (Lib.trimPrefix (rst s) [46]):=by unfold zEg ptB zWh zFc;rw [if_pos hp,if_pos hp]
  have e2:finD s=bar (dgs s++dgs (Lib.trimPrefix (rst s) [46])):=by unfold finD zWh;rw [if_pos hp]
  have e3:finE s=zNe (exI (rst (Lib.trimPrefix (rst s) [46]))-(dgs (Lib.trimPrefix (rst s) [46])).length):=by unfold finE zWh zFc;rw [if_pos hp,if_pos hp]
  rw [e1,e2,e3];exact c
 ·have hp':Lib.hasPrefix (rst s) [46]=false:=by simpa using hp
  have c:=zIz s w hs hp'
  have e1:zEg s=npB s:=by unfold zEg npB zWh zFc;rw [if_neg hp,if_neg hp];simp
  have e2:finD s=bar (dgs s):=by unfold finD zWh;rw [if_neg hp,List.append_nil]
  have e3:finE s=zNe (exI (rst s)):=by unfold finE zWh zFc;rw [if_neg hp,if_neg hp];simp
  rw [e1,e2,e3];exact c
def paD (l:List UInt8):List UInt8:=if Lib.hasPrefix l [40] then dgs (Lib.trimPrefix l [40]) else []
def paB (l:List UInt8):Bool:=l.isEmpty||(Lib.hasPrefix l [40]&&(!(dgs (Lib.trimPrefix l [40])).isEmpty&&(rst (Lib.trimPrefix l [40])==[41])))
theorem zDq (l:List UInt8)(w:World)(hs:l.length<10001) :
  CB 121 #[.string (B l)] w (.tuple #[.string (B (paD l)),.bool (paB l)]):=by
 have htl:=zDa
 cases l with
 | nil =>
  go_enter Tryz.func121,Tryz.ntmps121
  go_wp2
  go_ret2
  exact ⟨rfl,Below.refl _ _⟩
 | cons c r =>
  have c28:∀ w,Calls Tryz.prog 117 #[.string (B (c::r)),.string ⟨#[40]⟩] w fun e w'=>e=.returned (.tuple #[.string (B (Lib.trimPrefix (c::r) [40])),.bool (Lib.hasPrefix (c::r) [40])])/\w'=w:=fun w=>zRh (c::r) [40] w
  have hTl:=zDc (c::r) [40]
  have c27:=fun w=>zJh (Lib.trimPrefix (c::r) [40]) w (by omega)
  unfold paD paB
  generalize Lib.trimPrefix (c::r) [40]=T at *
  generalize Lib.hasPrefix (c::r) [40]=z at *
  simp only [List.isEmpty_cons,Bool.false_or]
  cases z
  ·simp only [Bool.false_eq_true,if_false,Bool.false_and]
   go_enter Tryz.func121,Tryz.ntmps121
   go_wp2_with (go_at_call 117;refine (c28 _).mono ?_;rintro x w2 ⟨rfl,rfl⟩)
   go_ret2
   exact ⟨rfl,Below.refl _ _⟩
  ·simp only [if_true,Bool.true_and]
   generalize dgs T=D at *
   generalize rst T=R at *
   cases D with
   | nil =>
    simp only [List.isEmpty_nil,Bool.not_true,Bool.false_and]
    go_enter Tryz.func121,Tryz.ntmps121
    go_wp2_with (first|(go_at_call 117;refine (c28 _).mono ?_;rintro x w2 ⟨rfl,rfl⟩)|(go_at_call 116;refine (c27 _).mono ?_;rintro x w3 ⟨rfl,hb3⟩))
    go_ret2
    exact ⟨rfl,hb3⟩
   | cons d ds =>
    simp only [List.isEmpty_cons,Bool.not_false,Bool.true_and]
    go_enter Tryz.func121,Tryz.ntmps121
    go_wp2_with (first|(go_at_call 117;refine (c28 _).mono ?_;rintro x w2 ⟨rfl,rfl⟩)|(go_at_call 116;refine (c27 _).mono ?_;rintro x w3 ⟨rfl,hb3⟩))
    go_ret2
    exact ⟨rfl,hb3⟩
def zVm (x:List UInt8):Bool:=x==[105,110,102]||x==[105,110,102,105,110,105,116,121]
def nanR (x:List UInt8):List UInt8:=Lib.trimPrefix (Lib.trimPrefix x [115]) [110,97,110]
def zTo (x:List UInt8):Bool:=Lib.hasPrefix (Lib.trimPrefix x [115]) [110,97,110]&&paB (nanR x)
def woB (s:List UInt8):Bool:=zVm (sml s)||zTo (sml s)
def woV (s:List UInt8):Value:=if zVm (sml s) then PV 2 false false [] 0 else if zTo (sml s) then PV 3 false (Lib.hasPrefix (sml s) [115]) (bar (paD (nanR (sml s)))) 0 else PV 0 false false [] 0
theorem zCp (s:List UInt8)(w:World)(hs:s.length<10001) :
  CB 74 #[.string (B s)] w (.tuple #[woV s,.bool (woB s)]):=by
 have htl:=zDa
 have c31:=fun w=>zZt s w hs
 unfold woV woB PV
 have hxl:=zBi s
 generalize sml s=x at *
 have HI:Hid (zVm x=(x==[105,110,102]||x==[105,110,102,105,110,105,116,121])):=rfl
 by_cases h1:x=[105,110,102]
 ·have hi:zVm x=true:=by rw [h1];rfl
  rw [hi]
  subst h1
  simp only [if_true,Bool.true_or]
  go_enter Tryz.func74,Tryz.ntmps74
  go_wp2_with (first|(go_at_call 120;refine wk w (c31 _) ?_;intro w1 hb1 _ _ _ _ hA1 _;clear hb1))
  exact bodyPost_ret (v:=.tuple #[.agg #[.int .i64 2,.bool false,.bool false,.string ⟨#[]⟩,.int .i64 0],.bool true]) (by simp only [results,Tryz.results74];go_simp) rfl ⟨rfl,bgo⟩
 ·by_cases h2:x=[105,110,102,105,110,105,116,121]
  ·have hi:zVm x=true:=by rw [h2];rfl
   rw [hi]
   subst h2
   simp only [if_true,Bool.true_or]
   go_enter Tryz.func74,Tryz.ntmps74
   go_wp2_with (first|(go_at_call 120;refine wk w (c31 _) ?_;intro w1 hb1 _ _ _ _ hA1 _;clear hb1))
   exact bodyPost_ret (v:=.tuple #[.agg #[.int .i64 2,.bool false,.bool false,.string ⟨#[]⟩,.int .i64 0],.bool true]) (by simp only [results,Tryz.results74];go_simp) rfl ⟨rfl,bgo⟩
  ·have hi:zVm x=false:=by unfold zVm;rw [beq_eq_false_iff_ne.2 h1,beq_eq_false_iff_ne.2 h2];rfl
   rw [hi]
   have b1:(x==[105,110,102])=false:=beq_eq_false_iff_ne.2 h1
   have b2:(x==[105,110,102,105,110,105,116,121])=false:=beq_eq_false_iff_ne.2 h2
   simp only [Bool.false_eq_true,if_false,Bool.false_or]
   have c28:∀ w,Calls Tryz.prog 117 #[.string (B x),.string ⟨#[115]⟩] w fun e w'=>e=.returned (.tuple #[.string (B (Lib.trimPrefix x [115])),.bool (Lib.hasPrefix x [115])])/\w'=w:=fun w=>zRh x [115] w
   have hl1:=zDc x [115]
   have c28n:∀ w,Calls Tryz.prog 117 #[.string (B (Lib.trimPrefix x [115])),.string ⟨#[110,97,110]⟩] w fun e w'=>e=.returned (.tuple #[.string (B (nanR x)),.bool (Lib.hasPrefix (Lib.trimPrefix x [115]) [110,97,110])])/\w'=w:=fun w=>zRh (Lib.trimPrefix x [115]) [110,97,110] w
   have hl2:=zDc (Lib.trimPrefix x [115]) [110,97,110]
   change (nanR x).length<=_ at hl2
   unfold zTo
   generalize Lib.hasPrefix (Lib.trimPrefix x [115]) [110,97,110]=z at *
   generalize Lib.hasPrefix x [115]=g at *
   generalize Lib.trimPrefix x [115]=T at *
   have c32:=fun w=>zDq (nanR x) w (by omega)
   generalize nanR x=N at *
   have hpl:(paD N).length<=N.length:=by
    unfold paD;split
    ·exact Nat.le_trans (zLe _) (zDc _ _)
    ·simp
   have c30:=fun w=>zDi (paD N) w (by omega)
   generalize paD N=P at *
   generalize paB N=y at *
   cases z
   ·simp only [Bool.false_and,Bool.false_eq_true,if_false]
    go_enter Tryz.func74,Tryz.ntmps74
    go_wp2_with (first|(go_at_call 120;refine wk w (c31 _) ?_;intro w1 hb1 _ _ _ _ hA1 _;clear hb1)|(go_at_call 117;refine (c28 _).mono ?_;rintro x w2 ⟨rfl,rfl⟩;clear c28))
    go_wp2_with (first|(go_at_call 117;refine (c28n _).mono ?_;rintro x w2 ⟨rfl,rfl⟩;clear c28n))
    exact bodyPost_ret (v:=.tuple #[.agg #[.int .i64 0,.bool false,.bool false,.string ⟨#[]⟩,.int .i64 0],.bool false]) (by simp only [results,Tryz.results74];go_simp) rfl ⟨rfl,bgo⟩
   ·cases y
    ·simp only [Bool.true_and,Bool.false_eq_true,if_false]
     go_enter Tryz.func74,Tryz.ntmps74
     go_wp2_with (first|(go_at_call 120;refine wk w (c31 _) ?_;intro w1 hb1 _ _ _ _ hA1 _;clear hb1)|(go_at_call 117;refine (c28 _).mono ?_;rintro x w2 ⟨rfl,rfl⟩;clear c28))
     go_wp2_with (first|(go_at_call 117;refine (c28n _).mono ?_;rintro x w2 ⟨rfl,rfl⟩;clear c28n)|(go_at_call 121;refine wk w (c32 _) ?_;intro w3 hb3 _ _ _ _ hA3 _;clear hb3))
     exact bodyPost_ret (v:=.tuple #[.agg #[.int .i64 0,.bool false,.bool false,.string ⟨#[]⟩,.int .i64 0],.bool false]) (by simp only [results,Tryz.results74];go_simp) rfl ⟨rfl,bgo⟩
    ·simp only [Bool.true_and,if_true]
     go_enter Tryz.func74,Tryz.ntmps74
     go_wp2_with (first|(go_at_call 120;refine wk w (c31 _) ?_;intro w1 hb1 _ _ _ _ hA1 _;clear hb1)|(go_at_call 117;refine (c28 _).mono ?_;rintro x w2 ⟨rfl,rfl⟩;clear c28))
     go_wp2_with (first|(go_at_call 117;refine (c28n _).mono ?_;rintro x w2 ⟨rfl,rfl⟩;clear c28n)|(go_at_call 121;refine wk w (c32 _) ?_;intro w3 hb3 _ _ _ _ hA3 _;clear hb3)|(go_at_call 119;refine wk w (c30 _) ?_;intro w4 hb4 _ _ _ _ hA4 _;clear hb4))
     exact bodyPost_ret (v:=.tuple #[.agg #[.int .i64 3,.bool false,.bool g,.string (B (bar P)),.int .i64 0],.bool true]) (by simp only [results,Tryz.results74];go_simp) rfl ⟨rfl,bgo⟩
structure Prt where
 cls:Int
 sg:Bool
 sn:Bool
 dig:List UInt8
 ex:Int
def Prt.v (p:Prt):Value:=PV p.cls p.sg p.sn p.dig p.ex
def Prt.zero:Prt:=⟨0,false,false,[],0⟩
def zNu (z:Bool)(r:List UInt8):Option Prt :=
 if zEg r then some ⟨1,z,false,finD r,finE r⟩
 else if zVm (sml r) then some ⟨2,z,false,[],0⟩
 else if zTo (sml r) then some ⟨3,z,Lib.hasPrefix (sml r) [115],bar (paD (nanR (sml r))),0⟩
 else none
def zOk (l:List UInt8):Option Prt:=if 4000<l.length then none else zNu (gsgB l) (sgR l)
def zRq (l:List UInt8):Int:=if 4000<l.length then 4 else if (zOk l).isSome then 0 else 2
def cutV (l:List UInt8):Prt:=(zOk l).getD Prt.zero
theorem zV5 (l:List UInt8)(w:World)(hs:l.length<10001)(hl:4000<l.length) :
  CB 35 #[.string (B l)] w (.tuple #[PV 0 false false [] 0,.int .i64 4]):=by
 have hsz:=zCa l
 have hi:(4000:Int)<l.length:=by omega
 unfold PV
 go_enter Tryz.func35,Tryz.ntmps35
 go_wp2
 exact bodyPost_ret (v:=.tuple #[.agg #[.int .i64 0,.bool false,.bool false,.string ⟨#[]⟩,.int .i64 0],.int .i64 4]) (by simp only [results,Tryz.results35];go_simp) rfl ⟨rfl,bgo⟩
theorem yHd (l:List UInt8)(w:World)(hl:l.length<=4000)(hf:zEg (sgR l)=true) :
  CB 35 #[.string (B l)] w (.tuple #[PV 1 (gsgB l) false (finD (sgR l)) (finE (sgR l)),.int .i64 0]):=by
 have hsz:=zCa l
 have hi:(l.length:Int)<=4000:=by omega
 have hsl:=zDf l
 have c16:=fun w=>zHh l w (by omega)
 have c17:=fun w=>zJz (sgR l) w (by omega)
 rw [hf] at c17
 simp only [if_true] at c17
 unfold PV at c17 ⊢
 generalize finD (sgR l)=D at *
 generalize finE (sgR l)=E at *
 generalize gsgB l=z at *
 generalize sgR l=R at *
 have hsm:∀ (W:World) (b i:Nat) (v:Value),(W.setCell ⟨b,i,none⟩ v).cell? ⟨b,i,none⟩=(W.cell? ⟨b,i,none⟩).map fun _=>v:=fun W b i v=>zBa W b i v
 go_enter Tryz.func35,Tryz.ntmps35
 go_wp2_with (first|(go_at_call 72;refine wk w (c16 _) ?_;intro w1 hb1 _ _ _ _ hA1 _;clear hb1)|(go_at_call 73;refine wk w (c17 _) ?_;intro w2 hb2 _ _ _ _ hA2 _;clear hb2))
 exact bodyPost_ret (v:=.tuple #[.agg #[.int .i64 1,.bool z,.bool false,.string (B D),.int .i64 E],.int .i64 0]) (by simp only [results,Tryz.results35];go_simp) rfl ⟨rfl,bgo⟩
theorem zV7 (l:List UInt8)(w:World)(hl:l.length<=4000)(hf:zEg (sgR l)=false)(C:Int)(G:Bool)(D:List UInt8)(hv:woV (sgR l)=PV C false G D 0)(hb:woB (sgR l)=true) :
  CB 35 #[.string (B l)] w (.tuple #[PV C (gsgB l) G D 0,.int .i64 0]):=by
 have hsz:=zCa l
 have hi:(l.length:Int)<=4000:=by omega
 have hsl:=zDf l
 have c16:=fun w=>zHh l w (by omega)
 have c17:=fun w=>zJz (sgR l) w (by omega)
 have c18:=fun w=>zCp (sgR l) w (by omega)
 rw [hf] at c17
 rw [hv,hb] at c18
 simp only [Bool.false_eq_true,if_false] at c17
 unfold PV at c17 c18 ⊢
 clear hv hb hf
 generalize gsgB l=z at *
 generalize sgR l=R at *
 have hsm:=zBa
 go_enter Tryz.func35,Tryz.ntmps35
 go_wp2_with (first|(go_at_call 72;refine wk w (c16 _) ?_;intro w1 hb1 _ _ _ _ hA1 _;clear hb1)|(go_at_call 73;refine wk w (c17 _) ?_;intro w2 hb2 _ _ _ _ hA2 _;clear hb2)|(go_at_call 74;refine wk w (c18 _) ?_;intro w3 hb3 _ _ _ _ hA3 _;obtain ⟨_,_⟩:=zf hb3 w2.heap.size;clear hb3))
 exact bodyPost_ret (v:=.tuple #[.agg #[.int .i64 C,.bool z,.bool G,.string (B D),.int .i64 0],.int .i64 0]) (by simp only [results,Tryz.results35];go_simp) rfl ⟨rfl,bgo⟩
theorem cut_no (l:List UInt8)(w:World)(hl:l.length<=4000)(hf:zEg (sgR l)=false)(hv:woV (sgR l)=PV 0 false false [] 0)(hb:woB (sgR l)=false) :
  CB 35 #[.string (B l)] w (.tuple #[PV 0 false false [] 0,.int .i64 2]):=by
 have hsz:=zCa l
 have hi:(l.length:Int)<=4000:=by omega
 have hsl:=zDf l
 have c16:=fun w=>zHh l w (by omega)
 have c17:=fun w=>zJz (sgR l) w (by omega)
 have c18:=fun w=>zCp (sgR l) w (by omega)
 rw [hf] at c17
 rw [hv,hb] at c18
 simp only [Bool.false_eq_true,if_false] at c17
 unfold PV at c17 c18 ⊢
 clear hv hb hf
 generalize gsgB l=z at *
 generalize sgR l=R at *
 have hsm:=zBa
 go_enter Tryz.func35,Tryz.ntmps35
 go_wp2_with (first|(go_at_call 72;refine wk w (c16 _) ?_;intro w1 hb1 _ _ _ _ hA1 _;clear hb1)|(go_at_call 73;refine wk w (c17 _) ?_;intro w2 hb2 _ _ _ _ hA2 _;clear hb2)|(go_at_call 74;refine wk w (c18 _) ?_;intro w3 hb3 _ _ _ _ hA3 _;obtain ⟨_,_⟩:=zf hb3 w2.heap.size;clear hb3))
 exact bodyPost_ret (v:=.tuple #[.agg #[.int .i64 0,.bool false,.bool false,.string ⟨#[]⟩,.int .i64 0],.int .i64 2]) (by simp only [results,Tryz.results35];go_simp) rfl ⟨rfl,bgo⟩
theorem zQq (l:List UInt8)(w:World)(hs:l.length<10001) :
  CB 35 #[.string (B l)] w (.tuple #[(cutV l).v,.int .i64 (zRq l)]):=by
 unfold cutV zRq zOk
 by_cases hl:4000<l.length
 ·rw [if_pos hl,if_pos hl]
  exact zV5 l w hs hl
 ·rw [if_neg hl,if_neg hl]
  unfold zNu
  by_cases hf:zEg (sgR l)=true
  ·rw [if_pos hf]
   exact yHd l w (by omega) hf
  ·rw [if_neg hf]
   have hf':zEg (sgR l)=false:=by simpa using hf
   by_cases h1:zVm (sml (sgR l))=true
   ·rw [if_pos h1]
    exact zV7 l w (by omega) hf' 2 false [] (by unfold woV;rw [if_pos h1]) (by unfold woB;rw [h1];rfl)
   ·rw [if_neg h1]
    by_cases h2:zTo (sml (sgR l))=true
    ·rw [if_pos h2]
     exact zV7 l w (by omega) hf' 3 _ _ (by unfold woV;rw [if_neg h1,if_pos h2];rfl) (by unfold woB;rw [h2,Bool.or_true])
    ·rw [if_neg h2]
     exact cut_no l w (by omega) hf' (by unfold woV;rw [if_neg h1,if_neg h2]) (by unfold woB;rw [show zVm (sml (sgR l))=false by simpa using h1,show zTo (sml (sgR l))=false by simpa using h2];rfl)
theorem zNa (c:UInt8)(r:List UInt8)(h:0<(B (c::r)).size):(((B (c::r))[0]'h).toNat:Int)=(c.toNat:Int):=by
 rw [zMc (l:=c::r) h,zXa]
theorem zR0 (a b:List UInt8)(i:Nat):by_ (a++b) (a.length+i)=by_ b i:=by
 induction a with
 | nil=>simp
 | cons c r ih=>rw [List.cons_append,List.length_cons,show r.length+1+i=(r.length+i)+1 by omega,zSg,ih]
theorem zVl (c q:UInt8)(m:List UInt8)(h:m.length+1<(B (c::(m++[q]))).size):(((B (c::(m++[q])))[m.length+1]'h).toNat:Int)=(q.toNat:Int):=by
 rw [zMc (l:=c::(m++[q])) h,zSg]
 have:=zR0 m [q] 0
 rw [Nat.add_zero] at this
 rw [this,zXa]
theorem B_mid (c q:UInt8)(m:List UInt8):(B (c::(m++[q]))).extract 1 (m.length+1)=B m:=by
 rw [zVh]
 congr 1
 simp
theorem zQm (m:List UInt8)(W:World):(Instr.slice 9 (Value.string (B (40::(m++[41])))) (some (.int .i64 1)) (some (.int .i64 ((m.length:Int)+2-1))) none).run Tryz.prog W=.ok (.string (B m)) W:=by
 have hsz:(B (40::(m++[41]))).size=m.length+2:=by rw [zCa];simp
 rw [run_slice_string W 9 _ _ _ _ _ Tryz.underlying9 (by omega) (by omega) (by rw [hsz];omega)]
 rw [show (1:Int).toNat=1 from rfl,show ((m.length:Int)+2-1).toNat=m.length+1 by omega,B_mid]
theorem B_tk (l:List UInt8)(k:Nat):(B l).extract 0 k=B (l.take k):=by rw [zVh,List.drop_zero]
theorem zDe (N:List UInt8):(B (110::97::110::N)).size=N.length+3:=rfl
theorem zEj (N:List UInt8):(B (110::97::110::N)).extract 0 3=B [110,97,110]:=by rw [zVh];rfl
theorem zMg (N:List UInt8):(B (110::97::110::N)).extract 3 (N.length+3)=B N:=by
 rw [zVh];congr 1;simp
theorem zZv (s:List UInt8)(T:List UInt8)(hT:T.length<3)(w:World)(hi1:(115::T)≠[105,110,102])(hi2:(115::T)≠[105,110,102,105,110,105,116,121])
  (c33:∀ w,CB 122 #[.string (B s)] w (.string (B (115::T)))) :
  CB 76 #[.string (B s)] w (.tuple #[.agg #[.int .i64 0,.bool false,.bool false,.string ⟨#[]⟩,.int .i64 0],.bool false]):=by
 have htl:=zDa
 have e1:((115::T)==[105,110,102])=false:=beq_eq_false_iff_ne.2 hi1
 have e2:((115::T)==[105,110,102,105,110,105,116,121])=false:=beq_eq_false_iff_ne.2 hi2
 have hszT:=zCa T
 have hTi:(T.length:Int)<3:=by omega
 have hsz:(B (115::T)).size=T.length+1:=rfl
 have hbt:(B (115::T)).extract 1 (T.length+1)=B (T):=by rw [← hsz];exact zJb 115 _
 have hsb:=zNa 115 (T) (by omega)
 have hsm:=zBa
 go_enter Tryz.func76,Tryz.ntmps76
 go_wp2_with (first|(go_at_call 122;refine wk w (c33 _) ?_;intro w1 hb1 _ _ _ _ hA1 _;clear hb1))
 have hz2:w.heap.size<w1.heap.size+1:=by omega
 go_region
 go_wp2
 exact bodyPost_ret (v:=.tuple #[.agg #[.int .i64 0,.bool false,.bool false,.string ⟨#[]⟩,.int .i64 0],.bool false]) (by simp only [results,Tryz.results76];go_simp) rfl ⟨rfl,bgo⟩
theorem zYv (s:List UInt8)(T:List UInt8)(hT:3<=T.length)(hTl:T.length<10001)(hn:T.take 3≠[110,97,110])(w:World)(hi1:(115::T)≠[105,110,102])(hi2:(115::T)≠[105,110,102,105,110,105,116,121])
  (c33:∀ w,CB 122 #[.string (B s)] w (.string (B (115::T)))) :
  CB 76 #[.string (B s)] w (.tuple #[.agg #[.int .i64 0,.bool false,.bool false,.string ⟨#[]⟩,.int .i64 0],.bool false]):=by
 have htl:=zDa
 have e1:((115::T)==[105,110,102])=false:=beq_eq_false_iff_ne.2 hi1
 have e2:((115::T)==[105,110,102,105,110,105,116,121])=false:=beq_eq_false_iff_ne.2 hi2
 have hszT:=zCa T
 have hTi:(3:Int)<=T.length:=by omega
 have hx3:=B_tk T 3
 have hn2:(T.take 3==[110,97,110])=false:=beq_eq_false_iff_ne.2 hn
 have hsz:(B (115::T)).size=T.length+1:=rfl
 have hbt:(B (115::T)).extract 1 (T.length+1)=B (T):=by rw [← hsz];exact zJb 115 _
 have hsb:=zNa 115 (T) (by omega)
 have hsm:=zBa
 go_enter Tryz.func76,Tryz.ntmps76
 go_wp2_with (first|(go_at_call 122;refine wk w (c33 _) ?_;intro w1 hb1 _ _ _ _ hA1 _;clear hb1))
 have hz2:w.heap.size<w1.heap.size+1:=by omega
 go_region
 go_wp2
 exact bodyPost_ret (v:=.tuple #[.agg #[.int .i64 0,.bool false,.bool false,.string ⟨#[]⟩,.int .i64 0],.bool false]) (by simp only [results,Tryz.results76];go_simp) rfl ⟨rfl,bgo⟩
theorem zXv (s:List UInt8)(w:World)(hi1:(115::110::97::110::[])≠[105,110,102])(hi2:(115::110::97::110::[])≠[105,110,102,105,110,105,116,121])
  (c33:∀ w,CB 122 #[.string (B s)] w (.string (B (115::110::97::110::[])))) :
  CB 76 #[.string (B s)] w (.tuple #[.agg #[.int .i64 3,.bool false,.bool true,.string ⟨#[]⟩,.int .i64 0],.bool true]):=by
 have htl:=zDa
 have e1:((115::110::97::110::[])==[105,110,102])=false:=beq_eq_false_iff_ne.2 hi1
 have e2:((115::110::97::110::[])==[105,110,102,105,110,105,116,121])=false:=beq_eq_false_iff_ne.2 hi2
 have hszT:(B (110::97::110::[])).size=3:=rfl
 have hx3:=zEj []
 have hx4:(B (110::97::110::[])).extract 3 3=B []:=rfl
 have hszN:(B []).size=0:=rfl
 have hsz:(B (115::110::97::110::[])).size=3+1:=by rw [zCa] at hszT ⊢;rw [List.length_cons,hszT]
 have hbt:(B (115::110::97::110::[])).extract 1 (3+1)=B (110::97::110::[]):=by rw [← hsz];exact zJb 115 _
 have hsb:=zNa 115 (110::97::110::[]) (by omega)
 have hsm:=zBa
 go_enter Tryz.func76,Tryz.ntmps76
 go_wp2_with (first|(go_at_call 122;refine wk w (c33 _) ?_;intro w1 hb1 _ _ _ _ hA1 _;clear hb1))
 have hz2:w.heap.size<w1.heap.size+1:=by omega
 go_region
 go_wp2
 exact bodyPost_ret (v:=.tuple #[.agg #[.int .i64 3,.bool false,.bool true,.string ⟨#[]⟩,.int .i64 0],.bool true]) (by simp only [results,Tryz.results76];go_simp) rfl ⟨rfl,bgo⟩
theorem zWv (s:List UInt8)(c:UInt8)(r:List UInt8)(hN:r.length<2)(w:World)(hi1:(115::110::97::110::c::r)≠[105,110,102])(hi2:(115::110::97::110::c::r)≠[105,110,102,105,110,105,116,121])
  (c33:∀ w,CB 122 #[.string (B s)] w (.string (B (115::110::97::110::c::r)))) :
  CB 76 #[.string (B s)] w (.tuple #[.agg #[.int .i64 0,.bool false,.bool false,.string ⟨#[]⟩,.int .i64 0],.bool false]):=by
 have htl:=zDa
 have e1:((115::110::97::110::c::r)==[105,110,102])=false:=beq_eq_false_iff_ne.2 hi1
 have e2:((115::110::97::110::c::r)==[105,110,102,105,110,105,116,121])=false:=beq_eq_false_iff_ne.2 hi2
 have hszT:=zDe (c::r)
 have hx3:=zEj (c::r)
 have hx4:=zMg (c::r)
 have hszN:(B (c::r)).size=r.length+1:=rfl
 rw [List.length_cons] at hszT hx4
 have hNi:(r.length:Int)+1<3:=by omega
 have hsz:(B (115::110::97::110::c::r)).size=(r.length+1+3)+1:=by rw [zCa] at hszT ⊢;rw [List.length_cons,hszT]
 have hbt:(B (115::110::97::110::c::r)).extract 1 ((r.length+1+3)+1)=B (110::97::110::c::r):=by rw [← hsz];exact zJb 115 _
 have hsb:=zNa 115 (110::97::110::c::r) (by omega)
 have hsm:=zBa
 go_enter Tryz.func76,Tryz.ntmps76
 go_wp2_with (first|(go_at_call 122;refine wk w (c33 _) ?_;intro w1 hb1 _ _ _ _ hA1 _;clear hb1))
 have hz2:w.heap.size<w1.heap.size+1:=by omega
 go_region
 go_wp2
 exact bodyPost_ret (v:=.tuple #[.agg #[.int .i64 0,.bool false,.bool false,.string ⟨#[]⟩,.int .i64 0],.bool false]) (by simp only [results,Tryz.results76];go_simp) rfl ⟨rfl,bgo⟩
theorem zVv (s:List UInt8)(c q:UInt8)(m:List UInt8)(hm:1<=m.length)(hml:m.length<10001)(hc:(c.toNat:Int)≠40)(w:World)(hi1:(115::110::97::110::c::(m++[q]))≠[105,110,102])(hi2:(115::110::97::110::c::(m++[q]))≠[105,110,102,105,110,105,116,121])
  (c33:∀ w,CB 122 #[.string (B s)] w (.string (B (115::110::97::110::c::(m++[q]))))) :
  CB 76 #[.string (B s)] w (.tuple #[.agg #[.int .i64 0,.bool false,.bool false,.string ⟨#[]⟩,.int .i64 0],.bool false]):=by
 have htl:=zDa
 have e1:((115::110::97::110::c::(m++[q]))==[105,110,102])=false:=beq_eq_false_iff_ne.2 hi1
 have e2:((115::110::97::110::c::(m++[q]))==[105,110,102,105,110,105,116,121])=false:=beq_eq_false_iff_ne.2 hi2
 have hszT:(B (110::97::110::c::(m++[q]))).size=m.length+2+3:=by rw [zDe];simp
 have hx3:=zEj (c::(m++[q]))
 have hx4:(B (110::97::110::c::(m++[q]))).extract 3 (m.length+2+3)=B (c::(m++[q])):=by
  have:=zMg (c::(m++[q]))
  rw [show (c::(m++[q])).length=m.length+2 by simp] at this
  exact this
 have hszN:(B (c::(m++[q]))).size=m.length+2:=by rw [zCa];simp
 have hfs:=zNa c (m++[q]) (by omega)
 have hmi:(1:Int)<=m.length:=by omega
 have hcb:((c.toNat:Int) != 40)=true:=by simpa using hc
 have hsz:(B (115::110::97::110::c::(m++[q]))).size=(m.length+2+3)+1:=by rw [zCa] at hszT ⊢;rw [List.length_cons,hszT]
 have hbt:(B (115::110::97::110::c::(m++[q]))).extract 1 ((m.length+2+3)+1)=B (110::97::110::c::(m++[q])):=by rw [← hsz];exact zJb 115 _
 have hsb:=zNa 115 (110::97::110::c::(m++[q])) (by omega)
 have hsm:=zBa
 go_enter Tryz.func76,Tryz.ntmps76
 go_wp2_with (first|(go_at_call 122;refine wk w (c33 _) ?_;intro w1 hb1 _ _ _ _ hA1 _;clear hb1))
 have hz2:w.heap.size<w1.heap.size+1:=by omega
 go_region
 go_wp2
 exact bodyPost_ret (v:=.tuple #[.agg #[.int .i64 0,.bool false,.bool false,.string ⟨#[]⟩,.int .i64 0],.bool false]) (by simp only [results,Tryz.results76];go_simp) rfl ⟨rfl,bgo⟩
theorem zUv (s:List UInt8)(q:UInt8)(m:List UInt8)(hm:1<=m.length)(hml:m.length<10001)(hq:(q.toNat:Int)≠41)(w:World)(hi1:(115::110::97::110::40::(m++[q]))≠[105,110,102])(hi2:(115::110::97::110::40::(m++[q]))≠[105,110,102,105,110,105,116,121])
  (c33:∀ w,CB 122 #[.string (B s)] w (.string (B (115::110::97::110::40::(m++[q]))))) :
  CB 76 #[.string (B s)] w (.tuple #[.agg #[.int .i64 0,.bool false,.bool false,.string ⟨#[]⟩,.int .i64 0],.bool false]):=by
 have htl:=zDa
 have e1:((115::110::97::110::40::(m++[q]))==[105,110,102])=false:=beq_eq_false_iff_ne.2 hi1
 have e2:((115::110::97::110::40::(m++[q]))==[105,110,102,105,110,105,116,121])=false:=beq_eq_false_iff_ne.2 hi2
 have hszT:(B (110::97::110::40::(m++[q]))).size=m.length+2+3:=by rw [zDe];simp
 have hx3:=zEj (40::(m++[q]))
 have hx4:(B (110::97::110::40::(m++[q]))).extract 3 (m.length+2+3)=B (40::(m++[q])):=by
  have:=zMg (40::(m++[q]))
  rw [show (40::(m++[q])).length=m.length+2 by simp] at this
  exact this
 have hszN:(B (40::(m++[q]))).size=m.length+2:=by rw [zCa];simp
 have hfs:=zNa 40 (m++[q]) (by omega)
 have hls:=zVl 40 q m (by omega)
 have hmi:(1:Int)<=m.length:=by omega
 have hqb:((q.toNat:Int) != 41)=true:=by simpa using hq
 have hsz:(B (115::110::97::110::40::(m++[q]))).size=(m.length+2+3)+1:=by rw [zCa] at hszT ⊢;rw [List.length_cons,hszT]
 have hbt:(B (115::110::97::110::40::(m++[q]))).extract 1 ((m.length+2+3)+1)=B (110::97::110::40::(m++[q])):=by rw [← hsz];exact zJb 115 _
 have hsb:=zNa 115 (110::97::110::40::(m++[q])) (by omega)
 have hsm:=zBa
 go_enter Tryz.func76,Tryz.ntmps76
 go_wp2_with (first|(go_at_call 122;refine wk w (c33 _) ?_;intro w1 hb1 _ _ _ _ hA1 _;clear hb1))
 have hz2:w.heap.size<w1.heap.size+1:=by omega
 go_region
 go_wp2
 exact bodyPost_ret (v:=.tuple #[.agg #[.int .i64 0,.bool false,.bool false,.string ⟨#[]⟩,.int .i64 0],.bool false]) (by simp only [results,Tryz.results76];go_simp) rfl ⟨rfl,bgo⟩
theorem zTv (s:List UInt8)(m:List UInt8)(hm:1<=m.length)(hml:m.length<10001)(hd:isd m=false)(w:World)(hi1:(115::110::97::110::40::(m++[41]))≠[105,110,102])(hi2:(115::110::97::110::40::(m++[41]))≠[105,110,102,105,110,105,116,121])
  (c33:∀ w,CB 122 #[.string (B s)] w (.string (B (115::110::97::110::40::(m++[41]))))) :
  CB 76 #[.string (B s)] w (.tuple #[.agg #[.int .i64 0,.bool false,.bool false,.string ⟨#[]⟩,.int .i64 0],.bool false]):=by
 have htl:=zDa
 have e1:((115::110::97::110::40::(m++[41]))==[105,110,102])=false:=beq_eq_false_iff_ne.2 hi1
 have e2:((115::110::97::110::40::(m++[41]))==[105,110,102,105,110,105,116,121])=false:=beq_eq_false_iff_ne.2 hi2
 have hszT:(B (110::97::110::40::(m++[41]))).size=m.length+2+3:=by rw [zDe];simp
 have hx3:=zEj (40::(m++[41]))
 have hx4:(B (110::97::110::40::(m++[41]))).extract 3 (m.length+2+3)=B (40::(m++[41])):=by
  have:=zMg (40::(m++[41]))
  rw [show (40::(m++[41])).length=m.length+2 by simp] at this
  exact this
 have hszN:(B (40::(m++[41]))).size=m.length+2:=by rw [zCa];simp
 have hfs:=zNa 40 (m++[41]) (by omega)
 have hls:=zVl 40 41 m (by omega)
 have hmr:=zQm m
 have hmi:(1:Int)<=m.length:=by omega
 have c34:=fun w=>zQb m w (by omega)
 rw [hd] at c34
 have hsz:(B (115::110::97::110::40::(m++[41]))).size=(m.length+2+3)+1:=by rw [zCa] at hszT ⊢;rw [List.length_cons,hszT]
 have hbt:(B (115::110::97::110::40::(m++[41]))).extract 1 ((m.length+2+3)+1)=B (110::97::110::40::(m++[41])):=by rw [← hsz];exact zJb 115 _
 have hsb:=zNa 115 (110::97::110::40::(m++[41])) (by omega)
 have hsm:=zBa
 go_enter Tryz.func76,Tryz.ntmps76
 go_wp2_with (first|(go_at_call 122;refine wk w (c33 _) ?_;intro w1 hb1 _ _ _ _ hA1 _;clear hb1))
 have hz2:w.heap.size<w1.heap.size+1:=by omega
 go_region
 go_wp2_with (first|(go_at_call 84;refine wk w (c34 _) ?_;intro w2 hb2 _ _ _ _ hA2 _;obtain ⟨_,_⟩:=zf hb2 w1.heap.size;clear hb2))
 exact bodyPost_ret (v:=.tuple #[.agg #[.int .i64 0,.bool false,.bool false,.string ⟨#[]⟩,.int .i64 0],.bool false]) (by simp only [results,Tryz.results76];go_simp) rfl ⟨rfl,bgo⟩
theorem zSv (s:List UInt8)(m:List UInt8)(hm:1<=m.length)(hml:m.length<10001)(hd:isd m=true)(w:World)(hi1:(115::110::97::110::40::(m++[41]))≠[105,110,102])(hi2:(115::110::97::110::40::(m++[41]))≠[105,110,102,105,110,105,116,121])
  (c33:∀ w,CB 122 #[.string (B s)] w (.string (B (115::110::97::110::40::(m++[41]))))) :
  CB 76 #[.string (B s)] w (.tuple #[.agg #[.int .i64 3,.bool false,.bool true,.string (B (bar m)),.int .i64 0],.bool true]):=by
 have htl:=zDa
 have e1:((115::110::97::110::40::(m++[41]))==[105,110,102])=false:=beq_eq_false_iff_ne.2 hi1
 have e2:((115::110::97::110::40::(m++[41]))==[105,110,102,105,110,105,116,121])=false:=beq_eq_false_iff_ne.2 hi2
 have hszT:(B (110::97::110::40::(m++[41]))).size=m.length+2+3:=by rw [zDe];simp
 have hx3:=zEj (40::(m++[41]))
 have hx4:(B (110::97::110::40::(m++[41]))).extract 3 (m.length+2+3)=B (40::(m++[41])):=by
  have:=zMg (40::(m++[41]))
  rw [show (40::(m++[41])).length=m.length+2 by simp] at this
  exact this
 have hszN:(B (40::(m++[41]))).size=m.length+2:=by rw [zCa];simp
 have hfs:=zNa 40 (m++[41]) (by omega)
 have hls:=zVl 40 41 m (by omega)
 have hmr:=zQm m
 have hmi:(1:Int)<=m.length:=by omega
 have c34:=fun w=>zQb m w (by omega)
 rw [hd] at c34
 have c23:=fun w=>zTd m w (by omega)
 have hsz:(B (115::110::97::110::40::(m++[41]))).size=(m.length+2+3)+1:=by rw [zCa] at hszT ⊢;rw [List.length_cons,hszT]
 have hbt:(B (115::110::97::110::40::(m++[41]))).extract 1 ((m.length+2+3)+1)=B (110::97::110::40::(m++[41])):=by rw [← hsz];exact zJb 115 _
 have hsb:=zNa 115 (110::97::110::40::(m++[41])) (by omega)
 have hsm:=zBa
 go_enter Tryz.func76,Tryz.ntmps76
 go_wp2_with (first|(go_at_call 122;refine wk w (c33 _) ?_;intro w1 hb1 _ _ _ _ hA1 _;clear hb1))
 have hz2:w.heap.size<w1.heap.size+1:=by omega
 go_region
 go_wp2_with (first|(go_at_call 84;refine wk w (c34 _) ?_;intro w2 hb2 _ _ _ _ hA2 _;obtain ⟨_,_⟩:=zf hb2 w1.heap.size;clear hb2)|(go_at_call 79;refine wk w (c23 _) ?_;intro w3 hb3 _ _ _ _ hA3 _;obtain ⟨_,_⟩:=zf hb3 w1.heap.size;clear hb3))
 exact bodyPost_ret (v:=.tuple #[.agg #[.int .i64 3,.bool false,.bool true,.string (B (bar m)),.int .i64 0],.bool true]) (by simp only [results,Tryz.results76];go_simp) rfl ⟨rfl,bgo⟩
theorem zHw (s:List UInt8)(T:List UInt8)(hT:T.length<3)(c0:UInt8)(r0:List UInt8)(hT0:T=c0::r0)(hc0:(c0.toNat:Int)≠115)(w:World)(hi1:(T)≠[105,110,102])(hi2:(T)≠[105,110,102,105,110,105,116,121])
  (c33:∀ w,CB 122 #[.string (B s)] w (.string (B (T)))) :
  CB 76 #[.string (B s)] w (.tuple #[.agg #[.int .i64 0,.bool false,.bool false,.string ⟨#[]⟩,.int .i64 0],.bool false]):=by
 have htl:=zDa
 have e1:((T)==[105,110,102])=false:=beq_eq_false_iff_ne.2 hi1
 have e2:((T)==[105,110,102,105,110,105,116,121])=false:=beq_eq_false_iff_ne.2 hi2
 have hszT:=zCa T
 have hTi:(T.length:Int)<3:=by omega
 have hsb:∀ h,(((B T)[0]'h).toNat:Int)=(c0.toNat:Int):=by subst hT0;exact fun h=>zNa c0 r0 h
 have hpos:(0:Int)<T.length:=by rw [hT0,List.length_cons];omega
 have hc0b:((c0.toNat:Int)==115)=false:=beq_eq_false_iff_ne.2 hc0
 clear hT0
 have hsm:=zBa
 go_enter Tryz.func76,Tryz.ntmps76
 go_wp2_with (first|(go_at_call 122;refine wk w (c33 _) ?_;intro w1 hb1 _ _ _ _ hA1 _;clear hb1))
 exact bodyPost_ret (v:=.tuple #[.agg #[.int .i64 0,.bool false,.bool false,.string ⟨#[]⟩,.int .i64 0],.bool false]) (by simp only [results,Tryz.results76];go_simp) rfl ⟨rfl,bgo⟩
theorem zGw (s:List UInt8)(T:List UInt8)(hT:3<=T.length)(hTl:T.length<10001)(hn:T.take 3≠[110,97,110])(c0:UInt8)(r0:List UInt8)(hT0:T=c0::r0)(hc0:(c0.toNat:Int)≠115)(w:World)(hi1:(T)≠[105,110,102])(hi2:(T)≠[105,110,102,105,110,105,116,121])
  (c33:∀ w,CB 122 #[.string (B s)] w (.string (B (T)))) :
  CB 76 #[.string (B s)] w (.tuple #[.agg #[.int .i64 0,.bool false,.bool false,.string ⟨#[]⟩,.int .i64 0],.bool false]):=by
 have htl:=zDa
 have e1:((T)==[105,110,102])=false:=beq_eq_false_iff_ne.2 hi1
 have e2:((T)==[105,110,102,105,110,105,116,121])=false:=beq_eq_false_iff_ne.2 hi2
 have hszT:=zCa T
 have hTi:(3:Int)<=T.length:=by omega
 have hx3:=B_tk T 3
 have hn2:(T.take 3==[110,97,110])=false:=beq_eq_false_iff_ne.2 hn
 have hsb:∀ h,(((B T)[0]'h).toNat:Int)=(c0.toNat:Int):=by subst hT0;exact fun h=>zNa c0 r0 h
 have hpos:(0:Int)<T.length:=by rw [hT0,List.length_cons];omega
 have hc0b:((c0.toNat:Int)==115)=false:=beq_eq_false_iff_ne.2 hc0
 clear hT0
 have hsm:=zBa
 go_enter Tryz.func76,Tryz.ntmps76
 go_wp2_with (first|(go_at_call 122;refine wk w (c33 _) ?_;intro w1 hb1 _ _ _ _ hA1 _;clear hb1))
 exact bodyPost_ret (v:=.tuple #[.agg #[.int .i64 0,.bool false,.bool false,.string ⟨#[]⟩,.int .i64 0],.bool false]) (by simp only [results,Tryz.results76];go_simp) rfl ⟨rfl,bgo⟩
theorem zFw (s:List UInt8)(w:World)(hi1:(110::97::110::[])≠[105,110,102])(hi2:(110::97::110::[])≠[105,110,102,105,110,105,116,121])
  (c33:∀ w,CB 122 #[.string (B s)] w (.string (B (110::97::110::[])))) :
  CB 76 #[.string (B s)] w (.tuple #[.agg #[.int .i64 3,.bool false,.bool false,.string ⟨#[]⟩,.int .i64 0],.bool true]):=by
 have htl:=zDa
 have e1:((110::97::110::[])==[105,110,102])=false:=beq_eq_false_iff_ne.2 hi1
 have e2:((110::97::110::[])==[105,110,102,105,110,105,116,121])=false:=beq_eq_false_iff_ne.2 hi2
 have hszT:(B (110::97::110::[])).size=3:=rfl
 have hx3:=zEj []
 have hx4:(B (110::97::110::[])).extract 3 3=B []:=rfl
 have hszN:(B []).size=0:=rfl
 have hsb:=zNa 110 _ (show 0<(B (110::97::110::[])).size by omega)
 have hsm:=zBa
 go_enter Tryz.func76,Tryz.ntmps76
 go_wp2_with (first|(go_at_call 122;refine wk w (c33 _) ?_;intro w1 hb1 _ _ _ _ hA1 _;clear hb1))
 exact bodyPost_ret (v:=.tuple #[.agg #[.int .i64 3,.bool false,.bool false,.string ⟨#[]⟩,.int .i64 0],.bool true]) (by simp only [results,Tryz.results76];go_simp) rfl ⟨rfl,bgo⟩
theorem zEw (s:List UInt8)(c:UInt8)(r:List UInt8)(hN:r.length<2)(w:World)(hi1:(110::97::110::c::r)≠[105,110,102])(hi2:(110::97::110::c::r)≠[105,110,102,105,110,105,116,121])
  (c33:∀ w,CB 122 #[.string (B s)] w (.string (B (110::97::110::c::r)))) :
  CB 76 #[.string (B s)] w (.tuple #[.agg #[.int .i64 0,.bool false,.bool false,.string ⟨#[]⟩,.int .i64 0],.bool false]):=by
 have htl:=zDa
 have e1:((110::97::110::c::r)==[105,110,102])=false:=beq_eq_false_iff_ne.2 hi1
 have e2:((110::97::110::c::r)==[105,110,102,105,110,105,116,121])=false:=beq_eq_false_iff_ne.2 hi2
 have hszT:=zDe (c::r)
 have hx3:=zEj (c::r)
 have hx4:=zMg (c::r)
 have hszN:(B (c::r)).size=r.length+1:=rfl
 rw [List.length_cons] at hszT hx4
 have hNi:(r.length:Int)+1<3:=by omega
 have hsb:=zNa 110 _ (show 0<(B (110::97::110::c::r)).size by omega)
 have hsm:=zBa
 go_enter Tryz.func76,Tryz.ntmps76
 go_wp2_with (first|(go_at_call 122;refine wk w (c33 _) ?_;intro w1 hb1 _ _ _ _ hA1 _;clear hb1))
 exact bodyPost_ret (v:=.tuple #[.agg #[.int .i64 0,.bool false,.bool false,.string ⟨#[]⟩,.int .i64 0],.bool false]) (by simp only [results,Tryz.results76];go_simp) rfl ⟨rfl,bgo⟩
theorem zDw (s:List UInt8)(c q:UInt8)(m:List UInt8)(hm:1<=m.length)(hml:m.length<10001)(hc:(c.toNat:Int)≠40)(w:World)(hi1:(110::97::110::c::(m++[q]))≠[105,110,102])(hi2:(110::97::110::c::(m++[q]))≠[105,110,102,105,110,105,116,121])
  (c33:∀ w,CB 122 #[.string (B s)] w (.string (B (110::97::110::c::(m++[q]))))) :
  CB 76 #[.string (B s)] w (.tuple #[.agg #[.int .i64 0,.bool false,.bool false,.string ⟨#[]⟩,.int .i64 0],.bool false]):=by
 have htl:=zDa
 have e1:((110::97::110::c::(m++[q]))==[105,110,102])=false:=beq_eq_false_iff_ne.2 hi1
 have e2:((110::97::110::c::(m++[q]))==[105,110,102,105,110,105,116,121])=false:=beq_eq_false_iff_ne.2 hi2
 have hszT:(B (110::97::110::c::(m++[q]))).size=m.length+2+3:=by rw [zDe];simp
 have hx3:=zEj (c::(m++[q]))
 have hx4:(B (110::97::110::c::(m++[q]))).extract 3 (m.length+2+3)=B (c::(m++[q])):=by
  have:=zMg (c::(m++[q]))
  rw [show (c::(m++[q])).length=m.length+2 by simp] at this
  exact this
 have hszN:(B (c::(m++[q]))).size=m.length+2:=by rw [zCa];simp
 have hfs:=zNa c (m++[q]) (by omega)
 have hmi:(1:Int)<=m.length:=by omega
 have hcb:((c.toNat:Int) != 40)=true:=by simpa using hc
 have hsb:=zNa 110 _ (show 0<(B (110::97::110::c::(m++[q]))).size by omega)
 have hsm:=zBa
 go_enter Tryz.func76,Tryz.ntmps76
 go_wp2_with (first|(go_at_call 122;refine wk w (c33 _) ?_;intro w1 hb1 _ _ _ _ hA1 _;clear hb1))
 exact bodyPost_ret (v:=.tuple #[.agg #[.int .i64 0,.bool false,.bool false,.string ⟨#[]⟩,.int .i64 0],.bool false]) (by simp only [results,Tryz.results76];go_simp) rfl ⟨rfl,bgo⟩
theorem zCw (s:List UInt8)(q:UInt8)(m:List UInt8)(hm:1<=m.length)(hml:m.length<10001)(hq:(q.toNat:Int)≠41)(w:World)(hi1:(110::97::110::40::(m++[q]))≠[105,110,102])(hi2:(110::97::110::40::(m++[q]))≠[105,110,102,105,110,105,116,121])
  (c33:∀ w,CB 122 #[.string (B s)] w (.string (B (110::97::110::40::(m++[q]))))) :
  CB 76 #[.string (B s)] w (.tuple #[.agg #[.int .i64 0,.bool false,.bool false,.string ⟨#[]⟩,.int .i64 0],.bool false]):=by
 have htl:=zDa
 have e1:((110::97::110::40::(m++[q]))==[105,110,102])=false:=beq_eq_false_iff_ne.2 hi1
 have e2:((110::97::110::40::(m++[q]))==[105,110,102,105,110,105,116,121])=false:=beq_eq_false_iff_ne.2 hi2
 have hszT:(B (110::97::110::40::(m++[q]))).size=m.length+2+3:=by rw [zDe];simp
 have hx3:=zEj (40::(m++[q]))
 have hx4:(B (110::97::110::40::(m++[q]))).extract 3 (m.length+2+3)=B (40::(m++[q])):=by
  have:=zMg (40::(m++[q]))
  rw [show (40::(m++[q])).length=m.length+2 by simp] at this
  exact this
 have hszN:(B (40::(m++[q]))).size=m.length+2:=by rw [zCa];simp
 have hfs:=zNa 40 (m++[q]) (by omega)
 have hls:=zVl 40 q m (by omega)
 have hmi:(1:Int)<=m.length:=by omega
 have hqb:((q.toNat:Int) != 41)=true:=by simpa using hq
 have hsb:=zNa 110 _ (show 0<(B (110::97::110::40::(m++[q]))).size by omega)
 have hsm:=zBa
 go_enter Tryz.func76,Tryz.ntmps76
 go_wp2_with (first|(go_at_call 122;refine wk w (c33 _) ?_;intro w1 hb1 _ _ _ _ hA1 _;clear hb1))
 exact bodyPost_ret (v:=.tuple #[.agg #[.int .i64 0,.bool false,.bool false,.string ⟨#[]⟩,.int .i64 0],.bool false]) (by simp only [results,Tryz.results76];go_simp) rfl ⟨rfl,bgo⟩
theorem zBw (s:List UInt8)(m:List UInt8)(hm:1<=m.length)(hml:m.length<10001)(hd:isd m=false)(w:World)(hi1:(110::97::110::40::(m++[41]))≠[105,110,102])(hi2:(110::97::110::40::(m++[41]))≠[105,110,102,105,110,105,116,121])
  (c33:∀ w,CB 122 #[.string (B s)] w (.string (B (110::97::110::40::(m++[41]))))) :
  CB 76 #[.string (B s)] w (.tuple #[.agg #[.int .i64 0,.bool false,.bool false,.string ⟨#[]⟩,.int .i64 0],.bool false]):=by
 have htl:=zDa
 have e1:((110::97::110::40::(m++[41]))==[105,110,102])=false:=beq_eq_false_iff_ne.2 hi1
 have e2:((110::97::110::40::(m++[41]))==[105,110,102,105,110,105,116,121])=false:=beq_eq_false_iff_ne.2 hi2
 have hszT:(B (110::97::110::40::(m++[41]))).size=m.length+2+3:=by rw [zDe];simp
 have hx3:=zEj (40::(m++[41]))
 have hx4:(B (110::97::110::40::(m++[41]))).extract 3 (m.length+2+3)=B (40::(m++[41])):=by
  have:=zMg (40::(m++[41]))
  rw [show (40::(m++[41])).length=m.length+2 by simp] at this
  exact this
 have hszN:(B (40::(m++[41]))).size=m.length+2:=by rw [zCa];simp
 have hfs:=zNa 40 (m++[41]) (by omega)
 have hls:=zVl 40 41 m (by omega)
 have hmr:=zQm m
 have hmi:(1:Int)<=m.length:=by omega
 have c34:=fun w=>zQb m w (by omega)
 rw [hd] at c34
 have hsb:=zNa 110 _ (show 0<(B (110::97::110::40::(m++[41]))).size by omega)
 have hsm:=zBa
 go_enter Tryz.func76,Tryz.ntmps76
 go_wp2_with (first|(go_at_call 122;refine wk w (c33 _) ?_;intro w1 hb1 _ _ _ _ hA1 _;clear hb1)|(go_at_call 84;refine wk w (c34 _) ?_;intro w2 hb2 _ _ _ _ hA2 _;obtain ⟨_,_⟩:=zf hb2 w1.heap.size;clear hb2))
 exact bodyPost_ret (v:=.tuple #[.agg #[.int .i64 0,.bool false,.bool false,.string ⟨#[]⟩,.int .i64 0],.bool false]) (by simp only [results,Tryz.results76];go_simp) rfl ⟨rfl,bgo⟩
theorem zAw (s:List UInt8)(m:List UInt8)(hm:1<=m.length)(hml:m.length<10001)(hd:isd m=true)(w:World)(hi1:(110::97::110::40::(m++[41]))≠[105,110,102])(hi2:(110::97::110::40::(m++[41]))≠[105,110,102,105,110,105,116,121])
  (c33:∀ w,CB 122 #[.string (B s)] w (.string (B (110::97::110::40::(m++[41]))))) :
  CB 76 #[.string (B s)] w (.tuple #[.agg #[.int .i64 3,.bool false,.bool false,.string (B (bar m)),.int .i64 0],.bool true]):=by
 have htl:=zDa
 have e1:((110::97::110::40::(m++[41]))==[105,110,102])=false:=beq_eq_false_iff_ne.2 hi1
 have e2:((110::97::110::40::(m++[41]))==[105,110,102,105,110,105,116,121])=false:=beq_eq_false_iff_ne.2 hi2
 have hszT:(B (110::97::110::40::(m++[41]))).size=m.length+2+3:=by rw [zDe];simp
 have hx3:=zEj (40::(m++[41]))
 have hx4:(B (110::97::110::40::(m++[41]))).extract 3 (m.length+2+3)=B (40::(m++[41])):=by
  have:=zMg (40::(m++[41]))
  rw [show (40::(m++[41])).length=m.length+2 by simp] at this
  exact this
 have hszN:(B (40::(m++[41]))).size=m.length+2:=by rw [zCa];simp
 have hfs:=zNa 40 (m++[41]) (by omega)
 have hls:=zVl 40 41 m (by omega)
 have hmr:=zQm m
 have hmi:(1:Int)<=m.length:=by omega
 have c34:=fun w=>zQb m w (by omega)
 rw [hd] at c34
 have c23:=fun w=>zTd m w (by omega)
 have hsb:=zNa 110 _ (show 0<(B (110::97::110::40::(m++[41]))).size by omega)
 have hsm:=zBa
 go_enter Tryz.func76,Tryz.ntmps76
 go_wp2_with (first|(go_at_call 122;refine wk w (c33 _) ?_;intro w1 hb1 _ _ _ _ hA1 _;clear hb1)|(go_at_call 84;refine wk w (c34 _) ?_;intro w2 hb2 _ _ _ _ hA2 _;obtain ⟨_,_⟩:=zf hb2 w1.heap.size;clear hb2)|(go_at_call 79;refine wk w (c23 _) ?_;intro w3 hb3 _ _ _ _ hA3 _;obtain ⟨_,_⟩:=zf hb3 w1.heap.size;clear hb3))
 exact bodyPost_ret (v:=.tuple #[.agg #[.int .i64 3,.bool false,.bool false,.string (B (bar m)),.int .i64 0],.bool true]) (by simp only [results,Tryz.results76];go_simp) rfl ⟨rfl,bgo⟩
end Go.Proofs.YtpabnhlfbjkmaaaGreatDoor
