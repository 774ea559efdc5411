/-
  Texts that the proof leans on, joined: Hb.
-/
import Derived.Test.YtpabnhlfbjkmaaaGreatDoorJ16
import Derived.Test.YtpabnhlfbjkmaaaGreatDoorJ1
set_option maxHeartbeats 8000000
set_option linter.unusedVariables false
set_option linter.unusedSimpArgs false
set_option linter.unusedSectionVars false
set_option maxRecDepth 20000
namespace Go.Proofs.YtpabnhlfbjkmaaaGreatDoor
open Go.RowKit
theorem itoa_any (e:Int) (w:World) (he:-9223372036854775808<=e/\e<=9223372036854775807) (hT:Tb10 w) :
  CB 68 #[.int .i64 e] w (.string (B (Lib.itoa e))):=by
 refine (Tryz.strconv_Itoa e he.1 he.2 w hT).mono ?_
 rintro x w' ⟨rfl,k,os,rfl⟩
 exact ⟨rfl,⟨rfl,rfl,rfl,by show w.heap.size<=(w.heap++os).size;simp,fun b hb=>by show (w.heap++os)[b]?=w.heap[b]?;rw [Array.getElem?_append_left hb]⟩⟩
theorem rx2_f (g:Bool) (d:List UInt8) (e:Int) (w:World) :
  CB 69 #[PV 2 false g d e] w (.string (B ([]++[105,110,102]))):=by
 have htl:=B_toList
 have hsm:=gcell_set_map
 have hn0:B []=⟨#[]⟩:=rfl
 have p0:(⟨#[]⟩:ByteArray)++(⟨#[105,110,102]⟩:ByteArray)=B ([]++[105,110,102]):=B_app ([]) ([105,110,102])
 have z0:(B ([]++[105,110,102])).size=3:=by rw [B_size];simp only [List.length_append,List.length_cons,List.length_nil];try omega
 generalize ([]++[105,110,102]:List UInt8)=L0 at *
 unfold PV
 go_enter Tryz.func69,Tryz.ntmps69
 go_wp2
 go_ret
 exact ⟨rfl,bgo⟩
theorem rx3_ff0 (e:Int) (w:World) :
  CB 69 #[PV 3 false false [] e] w (.string (B ([]++[110,97,110]))):=by
 have htl:=B_toList
 have hsm:=gcell_set_map
 have hn0:B []=⟨#[]⟩:=rfl
 have p0:(⟨#[]⟩:ByteArray)++(⟨#[110,97,110]⟩:ByteArray)=B ([]++[110,97,110]):=B_app ([]) ([110,97,110])
 have z0:(B ([]++[110,97,110])).size=3:=by rw [B_size];simp only [List.length_append,List.length_cons,List.length_nil];try omega
 generalize ([]++[110,97,110]:List UInt8)=L0 at *
 unfold PV
 go_enter Tryz.func69,Tryz.ntmps69
 go_wp2
 go_ret
 exact ⟨rfl,bgo⟩
theorem rx3_ff1 (y:UInt8) (ys:List UInt8) (hd:ys.length<100000) (e:Int) (w:World) :
  CB 69 #[PV 3 false false (y :: ys) e] w (.string (B (((([]++[110,97,110])++[40])++(y :: ys))++[41]))):=by
 have htl:=B_toList
 have hsm:=gcell_set_map
 have hsz:(B (y :: ys)).size=ys.length+1:=B_size (y :: ys)
 have p0:(⟨#[]⟩:ByteArray)++(⟨#[110,97,110]⟩:ByteArray)=B ([]++[110,97,110]):=B_app ([]) ([110,97,110])
 have z0:(B ([]++[110,97,110])).size=3:=by rw [B_size];simp only [List.length_append,List.length_cons,List.length_nil];try omega
 generalize ([]++[110,97,110]:List UInt8)=L0 at *
 have p1:B L0++(⟨#[40]⟩:ByteArray)=B (L0++[40]):=B_app (L0) ([40])
 have z1:(B (L0++[40])).size=4:=by have h:=z0;rw [B_size] at h ⊢;simp only [List.length_append,List.length_cons,List.length_nil];omega
 generalize (L0++[40]:List UInt8)=L1 at *
 have p2:B L1++B (y :: ys)=B (L1++(y :: ys)):=B_app (L1) ((y :: ys))
 have z2:(B (L1++(y :: ys))).size=ys.length+1+4:=by have h:=z1;rw [B_size] at h ⊢;simp only [List.length_append,List.length_cons,List.length_nil];omega
 generalize (L1++(y :: ys):List UInt8)=L2 at *
 have p3:B L2++(⟨#[41]⟩:ByteArray)=B (L2++[41]):=B_app (L2) ([41])
 have z3:(B (L2++[41])).size=ys.length+1+5:=by have h:=z2;rw [B_size] at h ⊢;simp only [List.length_append,List.length_cons,List.length_nil];omega
 generalize (L2++[41]:List UInt8)=L3 at *
 unfold PV
 go_enter Tryz.func69,Tryz.ntmps69
 go_wp2
 go_ret
 exact ⟨rfl,bgo⟩
theorem rx3_ft0 (e:Int) (w:World) :
  CB 69 #[PV 3 false true [] e] w (.string (B (([]++[115])++[110,97,110]))):=by
 have htl:=B_toList
 have hsm:=gcell_set_map
 have hn0:B []=⟨#[]⟩:=rfl
 have p0:(⟨#[]⟩:ByteArray)++(⟨#[115]⟩:ByteArray)=B ([]++[115]):=B_app ([]) ([115])
 have z0:(B ([]++[115])).size=1:=by rw [B_size];simp only [List.length_append,List.length_cons,List.length_nil];try omega
 generalize ([]++[115]:List UInt8)=L0 at *
 have p1:B L0++(⟨#[110,97,110]⟩:ByteArray)=B (L0++[110,97,110]):=B_app (L0) ([110,97,110])
 have z1:(B (L0++[110,97,110])).size=4:=by have h:=z0;rw [B_size] at h ⊢;simp only [List.length_append,List.length_cons,List.length_nil];omega
 generalize (L0++[110,97,110]:List UInt8)=L1 at *
 unfold PV
 go_enter Tryz.func69,Tryz.ntmps69
 go_wp2
 go_ret
 exact ⟨rfl,bgo⟩
theorem rx3_ft1 (y:UInt8) (ys:List UInt8) (hd:ys.length<100000) (e:Int) (w:World) :
  CB 69 #[PV 3 false true (y :: ys) e] w (.string (B ((((([]++[115])++[110,97,110])++[40])++(y :: ys))++[41]))):=by
 have htl:=B_toList
 have hsm:=gcell_set_map
 have hsz:(B (y :: ys)).size=ys.length+1:=B_size (y :: ys)
 have p0:(⟨#[]⟩:ByteArray)++(⟨#[115]⟩:ByteArray)=B ([]++[115]):=B_app ([]) ([115])
 have z0:(B ([]++[115])).size=1:=by rw [B_size];simp only [List.length_append,List.length_cons,List.length_nil];try omega
 generalize ([]++[115]:List UInt8)=L0 at *
 have p1:B L0++(⟨#[110,97,110]⟩:ByteArray)=B (L0++[110,97,110]):=B_app (L0) ([110,97,110])
 have z1:(B (L0++[110,97,110])).size=4:=by have h:=z0;rw [B_size] at h ⊢;simp only [List.length_append,List.length_cons,List.length_nil];omega
 generalize (L0++[110,97,110]:List UInt8)=L1 at *
 have p2:B L1++(⟨#[40]⟩:ByteArray)=B (L1++[40]):=B_app (L1) ([40])
 have z2:(B (L1++[40])).size=5:=by have h:=z1;rw [B_size] at h ⊢;simp only [List.length_append,List.length_cons,List.length_nil];omega
 generalize (L1++[40]:List UInt8)=L2 at *
 have p3:B L2++B (y :: ys)=B (L2++(y :: ys)):=B_app (L2) ((y :: ys))
 have z3:(B (L2++(y :: ys))).size=ys.length+1+5:=by have h:=z2;rw [B_size] at h ⊢;simp only [List.length_append,List.length_cons,List.length_nil];omega
 generalize (L2++(y :: ys):List UInt8)=L3 at *
 have p4:B L3++(⟨#[41]⟩:ByteArray)=B (L3++[41]):=B_app (L3) ([41])
 have z4:(B (L3++[41])).size=ys.length+1+6:=by have h:=z3;rw [B_size] at h ⊢;simp only [List.length_append,List.length_cons,List.length_nil];omega
 generalize (L3++[41]:List UInt8)=L4 at *
 unfold PV
 go_enter Tryz.func69,Tryz.ntmps69
 go_wp2
 go_ret
 exact ⟨rfl,bgo⟩
theorem rxo_f00 (g:Bool) (c:Int) (h2:(c == 2)=false) (h3:(c == 3)=false) (e:Int) (he0:(e != 0)=true) (he:-9223372036854775808<=e/\e<=9223372036854775807) (w:World) (hT:Tb10 w) :
  CB 69 #[PV c false g [] e] w (.string (B (((([]++[48])++[])++[101])++Lib.itoa e))):=by
 have htl:=B_toList
 have hsm:=gcell_set_map
 have hn0:B []=⟨#[]⟩:=rfl
 have hil:=Lib.itoa_length_le e he.1 he.2
 have hisz:=B_size (Lib.itoa e)
 have c38:=fun W (hb:Below w.heap.size w W)=>itoa_any e W he (hT.next hb)
 have p0:(⟨#[]⟩:ByteArray)++(⟨#[48]⟩:ByteArray)=B ([]++[48]):=B_app ([]) ([48])
 have z0:(B ([]++[48])).size=1:=by rw [B_size];simp only [List.length_append,List.length_cons,List.length_nil];try omega
 generalize ([]++[48]:List UInt8)=L0 at *
 have p1:B L0++(⟨#[]⟩:ByteArray)=B (L0++[]):=B_app (L0) ([])
 have z1:(B (L0++[])).size=1:=by have h:=z0;rw [B_size] at h ⊢;simp only [List.length_append,List.length_cons,List.length_nil];omega
 generalize (L0++[]:List UInt8)=L1 at *
 have p2:B L1++(⟨#[101]⟩:ByteArray)=B (L1++[101]):=B_app (L1) ([101])
 have z2:(B (L1++[101])).size=2:=by have h:=z1;rw [B_size] at h ⊢;simp only [List.length_append,List.length_cons,List.length_nil];omega
 generalize (L1++[101]:List UInt8)=L2 at *
 have p3:B L2++B (Lib.itoa e)=B (L2++Lib.itoa e):=B_app (L2) (Lib.itoa e)
 have z3:(B (L2++Lib.itoa e)).size=(Lib.itoa e).length+2:=by have h:=z2;rw [B_size] at h ⊢;simp only [List.length_append,List.length_cons,List.length_nil];omega
 generalize (L2++Lib.itoa e:List UInt8)=L3 at *
 unfold PV
 go_enter Tryz.func69,Tryz.ntmps69
 go_wp2_with (first | (go_at_call 68;refine (c38 _ bgo).mono ?_;rintro x w1 ⟨rfl,hb1⟩;obtain ⟨_,_,_,_,hA1,_⟩:=wz w hb1;clear hb1))
 go_ret
 exact ⟨rfl,bgo⟩
theorem rxo_f01 (g:Bool) (c:Int) (h2:(c == 2)=false) (h3:(c == 3)=false) (w:World) :
  CB 69 #[PV c false g [] 0] w (.string (B (([]++[48])++[]))):=by
 have htl:=B_toList
 have hsm:=gcell_set_map
 have hn0:B []=⟨#[]⟩:=rfl
 have p0:(⟨#[]⟩:ByteArray)++(⟨#[48]⟩:ByteArray)=B ([]++[48]):=B_app ([]) ([48])
 have z0:(B ([]++[48])).size=1:=by rw [B_size];simp only [List.length_append,List.length_cons,List.length_nil];try omega
 generalize ([]++[48]:List UInt8)=L0 at *
 have p1:B L0++(⟨#[]⟩:ByteArray)=B (L0++[]):=B_app (L0) ([])
 have z1:(B (L0++[])).size=1:=by have h:=z0;rw [B_size] at h ⊢;simp only [List.length_append,List.length_cons,List.length_nil];omega
 generalize (L0++[]:List UInt8)=L1 at *
 unfold PV
 go_enter Tryz.func69,Tryz.ntmps69
 go_wp2
 go_ret
 exact ⟨rfl,bgo⟩
theorem rxo_f10 (g:Bool) (c:Int) (h2:(c == 2)=false) (h3:(c == 3)=false) (y:UInt8) (ys:List UInt8) (hd:ys.length<100000) (e:Int) (he0:(e != 0)=true) (he:-9223372036854775808<=e/\e<=9223372036854775807) (w:World) (hT:Tb10 w) :
  CB 69 #[PV c false g (y :: ys) e] w (.string (B ((([]++(y :: ys))++[101])++Lib.itoa e))):=by
 have htl:=B_toList
 have hsm:=gcell_set_map
 have hsz:(B (y :: ys)).size=ys.length+1:=B_size (y :: ys)
 have hil:=Lib.itoa_length_le e he.1 he.2
 have hisz:=B_size (Lib.itoa e)
 have c38:=fun W (hb:Below w.heap.size w W)=>itoa_any e W he (hT.next hb)
 have p0:(⟨#[]⟩:ByteArray)++B (y :: ys)=B ([]++(y :: ys)):=B_app ([]) ((y :: ys))
 have z0:(B ([]++(y :: ys))).size=ys.length+1+0:=by rw [B_size];simp only [List.length_append,List.length_cons,List.length_nil];try omega
 generalize ([]++(y :: ys):List UInt8)=L0 at *
 have p1:B L0++(⟨#[101]⟩:ByteArray)=B (L0++[101]):=B_app (L0) ([101])
 have z1:(B (L0++[101])).size=ys.length+1+1:=by have h:=z0;rw [B_size] at h ⊢;simp only [List.length_append,List.length_cons,List.length_nil];omega
 generalize (L0++[101]:List UInt8)=L1 at *
 have p2:B L1++B (Lib.itoa e)=B (L1++Lib.itoa e):=B_app (L1) (Lib.itoa e)
 have z2:(B (L1++Lib.itoa e)).size=ys.length+1+(Lib.itoa e).length+1:=by have h:=z1;rw [B_size] at h ⊢;simp only [List.length_append,List.length_cons,List.length_nil];omega
 generalize (L1++Lib.itoa e:List UInt8)=L2 at *
 unfold PV
 go_enter Tryz.func69,Tryz.ntmps69
 go_wp2_with (first | (go_at_call 68;refine (c38 _ bgo).mono ?_;rintro x w1 ⟨rfl,hb1⟩;obtain ⟨_,_,_,_,hA1,_⟩:=wz w hb1;clear hb1))
 go_ret
 exact ⟨rfl,bgo⟩
theorem rxo_f11 (g:Bool) (c:Int) (h2:(c == 2)=false) (h3:(c == 3)=false) (y:UInt8) (ys:List UInt8) (hd:ys.length<100000) (w:World) :
  CB 69 #[PV c false g (y :: ys) 0] w (.string (B ([]++(y :: ys)))):=by
 have htl:=B_toList
 have hsm:=gcell_set_map
 have hsz:(B (y :: ys)).size=ys.length+1:=B_size (y :: ys)
 have p0:(⟨#[]⟩:ByteArray)++B (y :: ys)=B ([]++(y :: ys)):=B_app ([]) ((y :: ys))
 have z0:(B ([]++(y :: ys))).size=ys.length+1+0:=by rw [B_size];simp only [List.length_append,List.length_cons,List.length_nil];try omega
 generalize ([]++(y :: ys):List UInt8)=L0 at *
 unfold PV
 go_enter Tryz.func69,Tryz.ntmps69
 go_wp2
 go_ret
 exact ⟨rfl,bgo⟩
theorem rx2_t (g:Bool) (d:List UInt8) (e:Int) (w:World) :
  CB 69 #[PV 2 true g d e] w (.string (B ([45]++[105,110,102]))):=by
 have htl:=B_toList
 have hsm:=gcell_set_map
 have hn0:B []=⟨#[]⟩:=rfl
 have p0:(⟨#[45]⟩:ByteArray)++(⟨#[105,110,102]⟩:ByteArray)=B ([45]++[105,110,102]):=B_app ([45]) ([105,110,102])
 have z0:(B ([45]++[105,110,102])).size=4:=by rw [B_size];simp only [List.length_append,List.length_cons,List.length_nil];try omega
 generalize ([45]++[105,110,102]:List UInt8)=L0 at *
 unfold PV
 go_enter Tryz.func69,Tryz.ntmps69
 go_wp2
 go_ret
 exact ⟨rfl,bgo⟩
theorem rx3_tf0 (e:Int) (w:World) :
  CB 69 #[PV 3 true false [] e] w (.string (B ([45]++[110,97,110]))):=by
 have htl:=B_toList
 have hsm:=gcell_set_map
 have hn0:B []=⟨#[]⟩:=rfl
 have p0:(⟨#[45]⟩:ByteArray)++(⟨#[110,97,110]⟩:ByteArray)=B ([45]++[110,97,110]):=B_app ([45]) ([110,97,110])
 have z0:(B ([45]++[110,97,110])).size=4:=by rw [B_size];simp only [List.length_append,List.length_cons,List.length_nil];try omega
 generalize ([45]++[110,97,110]:List UInt8)=L0 at *
 unfold PV
 go_enter Tryz.func69,Tryz.ntmps69
 go_wp2
 go_ret
 exact ⟨rfl,bgo⟩
theorem rx3_tf1 (y:UInt8) (ys:List UInt8) (hd:ys.length<100000) (e:Int) (w:World) :
  CB 69 #[PV 3 true false (y :: ys) e] w (.string (B (((([45]++[110,97,110])++[40])++(y :: ys))++[41]))):=by
 have htl:=B_toList
 have hsm:=gcell_set_map
 have hsz:(B (y :: ys)).size=ys.length+1:=B_size (y :: ys)
 have p0:(⟨#[45]⟩:ByteArray)++(⟨#[110,97,110]⟩:ByteArray)=B ([45]++[110,97,110]):=B_app ([45]) ([110,97,110])
 have z0:(B ([45]++[110,97,110])).size=4:=by rw [B_size];simp only [List.length_append,List.length_cons,List.length_nil];try omega
 generalize ([45]++[110,97,110]:List UInt8)=L0 at *
 have p1:B L0++(⟨#[40]⟩:ByteArray)=B (L0++[40]):=B_app (L0) ([40])
 have z1:(B (L0++[40])).size=5:=by have h:=z0;rw [B_size] at h ⊢;simp only [List.length_append,List.length_cons,List.length_nil];omega
 generalize (L0++[40]:List UInt8)=L1 at *
 have p2:B L1++B (y :: ys)=B (L1++(y :: ys)):=B_app (L1) ((y :: ys))
 have z2:(B (L1++(y :: ys))).size=ys.length+1+5:=by have h:=z1;rw [B_size] at h ⊢;simp only [List.length_append,List.length_cons,List.length_nil];omega
 generalize (L1++(y :: ys):List UInt8)=L2 at *
 have p3:B L2++(⟨#[41]⟩:ByteArray)=B (L2++[41]):=B_app (L2) ([41])
 have z3:(B (L2++[41])).size=ys.length+1+6:=by have h:=z2;rw [B_size] at h ⊢;simp only [List.length_append,List.length_cons,List.length_nil];omega
 generalize (L2++[41]:List UInt8)=L3 at *
 unfold PV
 go_enter Tryz.func69,Tryz.ntmps69
 go_wp2
 go_ret
 exact ⟨rfl,bgo⟩
theorem rx3_tt0 (e:Int) (w:World) :
  CB 69 #[PV 3 true true [] e] w (.string (B (([45]++[115])++[110,97,110]))):=by
 have htl:=B_toList
 have hsm:=gcell_set_map
 have hn0:B []=⟨#[]⟩:=rfl
 have p0:(⟨#[45]⟩:ByteArray)++(⟨#[115]⟩:ByteArray)=B ([45]++[115]):=B_app ([45]) ([115])
 have z0:(B ([45]++[115])).size=2:=by rw [B_size];simp only [List.length_append,List.length_cons,List.length_nil];try omega
 generalize ([45]++[115]:List UInt8)=L0 at *
 have p1:B L0++(⟨#[110,97,110]⟩:ByteArray)=B (L0++[110,97,110]):=B_app (L0) ([110,97,110])
 have z1:(B (L0++[110,97,110])).size=5:=by have h:=z0;rw [B_size] at h ⊢;simp only [List.length_append,List.length_cons,List.length_nil];omega
 generalize (L0++[110,97,110]:List UInt8)=L1 at *
 unfold PV
 go_enter Tryz.func69,Tryz.ntmps69
 go_wp2
 go_ret
 exact ⟨rfl,bgo⟩
theorem rx3_tt1 (y:UInt8) (ys:List UInt8) (hd:ys.length<100000) (e:Int) (w:World) :
  CB 69 #[PV 3 true true (y :: ys) e] w (.string (B ((((([45]++[115])++[110,97,110])++[40])++(y :: ys))++[41]))):=by
 have htl:=B_toList
 have hsm:=gcell_set_map
 have hsz:(B (y :: ys)).size=ys.length+1:=B_size (y :: ys)
 have p0:(⟨#[45]⟩:ByteArray)++(⟨#[115]⟩:ByteArray)=B ([45]++[115]):=B_app ([45]) ([115])
 have z0:(B ([45]++[115])).size=2:=by rw [B_size];simp only [List.length_append,List.length_cons,List.length_nil];try omega
 generalize ([45]++[115]:List UInt8)=L0 at *
 have p1:B L0++(⟨#[110,97,110]⟩:ByteArray)=B (L0++[110,97,110]):=B_app (L0) ([110,97,110])
 have z1:(B (L0++[110,97,110])).size=5:=by have h:=z0;rw [B_size] at h ⊢;simp only [List.length_append,List.length_cons,List.length_nil];omega
 generalize (L0++[110,97,110]:List UInt8)=L1 at *
 have p2:B L1++(⟨#[40]⟩:ByteArray)=B (L1++[40]):=B_app (L1) ([40])
 have z2:(B (L1++[40])).size=6:=by have h:=z1;rw [B_size] at h ⊢;simp only [List.length_append,List.length_cons,List.length_nil];omega
 generalize (L1++[40]:List UInt8)=L2 at *
 have p3:B L2++B (y :: ys)=B (L2++(y :: ys)):=B_app (L2) ((y :: ys))
 have z3:(B (L2++(y :: ys))).size=ys.length+1+6:=by have h:=z2;rw [B_size] at h ⊢;simp only [List.length_append,List.length_cons,List.length_nil];omega
 generalize (L2++(y :: ys):List UInt8)=L3 at *
 have p4:B L3++(⟨#[41]⟩:ByteArray)=B (L3++[41]):=B_app (L3) ([41])
 have z4:(B (L3++[41])).size=ys.length+1+7:=by have h:=z3;rw [B_size] at h ⊢;simp only [List.length_append,List.length_cons,List.length_nil];omega
 generalize (L3++[41]:List UInt8)=L4 at *
 unfold PV
 go_enter Tryz.func69,Tryz.ntmps69
 go_wp2
 go_ret
 exact ⟨rfl,bgo⟩
theorem rxo_t00 (g:Bool) (c:Int) (h2:(c == 2)=false) (h3:(c == 3)=false) (e:Int) (he0:(e != 0)=true) (he:-9223372036854775808<=e/\e<=9223372036854775807) (w:World) (hT:Tb10 w) :
  CB 69 #[PV c true g [] e] w (.string (B (((([45]++[48])++[])++[101])++Lib.itoa e))):=by
 have htl:=B_toList
 have hsm:=gcell_set_map
 have hn0:B []=⟨#[]⟩:=rfl
 have hil:=Lib.itoa_length_le e he.1 he.2
 have hisz:=B_size (Lib.itoa e)
 have c38:=fun W (hb:Below w.heap.size w W)=>itoa_any e W he (hT.next hb)
 have p0:(⟨#[45]⟩:ByteArray)++(⟨#[48]⟩:ByteArray)=B ([45]++[48]):=B_app ([45]) ([48])
 have z0:(B ([45]++[48])).size=2:=by rw [B_size];simp only [List.length_append,List.length_cons,List.length_nil];try omega
 generalize ([45]++[48]:List UInt8)=L0 at *
 have p1:B L0++(⟨#[]⟩:ByteArray)=B (L0++[]):=B_app (L0) ([])
 have z1:(B (L0++[])).size=2:=by have h:=z0;rw [B_size] at h ⊢;simp only [List.length_append,List.length_cons,List.length_nil];omega
 generalize (L0++[]:List UInt8)=L1 at *
 have p2:B L1++(⟨#[101]⟩:ByteArray)=B (L1++[101]):=B_app (L1) ([101])
 have z2:(B (L1++[101])).size=3:=by have h:=z1;rw [B_size] at h ⊢;simp only [List.length_append,List.length_cons,List.length_nil];omega
 generalize (L1++[101]:List UInt8)=L2 at *
 have p3:B L2++B (Lib.itoa e)=B (L2++Lib.itoa e):=B_app (L2) (Lib.itoa e)
 have z3:(B (L2++Lib.itoa e)).size=(Lib.itoa e).length+3:=by have h:=z2;rw [B_size] at h ⊢;simp only [List.length_append,List.length_cons,List.length_nil];omega
 generalize (L2++Lib.itoa e:List UInt8)=L3 at *
 unfold PV
 go_enter Tryz.func69,Tryz.ntmps69
 go_wp2_with (first | (go_at_call 68;refine (c38 _ bgo).mono ?_;rintro x w1 ⟨rfl,hb1⟩;obtain ⟨_,_,_,_,hA1,_⟩:=wz w hb1;clear hb1))
 go_ret
 exact ⟨rfl,bgo⟩
theorem rxo_t01 (g:Bool) (c:Int) (h2:(c == 2)=false) (h3:(c == 3)=false) (w:World) :
  CB 69 #[PV c true g [] 0] w (.string (B (([45]++[48])++[]))):=by
 have htl:=B_toList
 have hsm:=gcell_set_map
 have hn0:B []=⟨#[]⟩:=rfl
 have p0:(⟨#[45]⟩:ByteArray)++(⟨#[48]⟩:ByteArray)=B ([45]++[48]):=B_app ([45]) ([48])
 have z0:(B ([45]++[48])).size=2:=by rw [B_size];simp only [List.length_append,List.length_cons,List.length_nil];try omega
 generalize ([45]++[48]:List UInt8)=L0 at *
 have p1:B L0++(⟨#[]⟩:ByteArray)=B (L0++[]):=B_app (L0) ([])
 have z1:(B (L0++[])).size=2:=by have h:=z0;rw [B_size] at h ⊢;simp only [List.length_append,List.length_cons,List.length_nil];omega
 generalize (L0++[]:List UInt8)=L1 at *
 unfold PV
 go_enter Tryz.func69,Tryz.ntmps69
 go_wp2
 go_ret
 exact ⟨rfl,bgo⟩
theorem rxo_t10 (g:Bool) (c:Int) (h2:(c == 2)=false) (h3:(c == 3)=false) (y:UInt8) (ys:List UInt8) (hd:ys.length<100000) (e:Int) (he0:(e != 0)=true) (he:-9223372036854775808<=e/\e<=9223372036854775807) (w:World) (hT:Tb10 w) :
  CB 69 #[PV c true g (y :: ys) e] w (.string (B ((([45]++(y :: ys))++[101])++Lib.itoa e))):=by
 have htl:=B_toList
 have hsm:=gcell_set_map
 have hsz:(B (y :: ys)).size=ys.length+1:=B_size (y :: ys)
 have hil:=Lib.itoa_length_le e he.1 he.2
 have hisz:=B_size (Lib.itoa e)
 have c38:=fun W (hb:Below w.heap.size w W)=>itoa_any e W he (hT.next hb)
 have p0:(⟨#[45]⟩:ByteArray)++B (y :: ys)=B ([45]++(y :: ys)):=B_app ([45]) ((y :: ys))
 have z0:(B ([45]++(y :: ys))).size=ys.length+1+1:=by rw [B_size];simp only [List.length_append,List.length_cons,List.length_nil];try omega
 generalize ([45]++(y :: ys):List UInt8)=L0 at *
 have p1:B L0++(⟨#[101]⟩:ByteArray)=B (L0++[101]):=B_app (L0) ([101])
 have z1:(B (L0++[101])).size=ys.length+1+2:=by have h:=z0;rw [B_size] at h ⊢;simp only [List.length_append,List.length_cons,List.length_nil];omega
 generalize (L0++[101]:List UInt8)=L1 at *
 have p2:B L1++B (Lib.itoa e)=B (L1++Lib.itoa e):=B_app (L1) (Lib.itoa e)
 have z2:(B (L1++Lib.itoa e)).size=ys.length+1+(Lib.itoa e).length+2:=by have h:=z1;rw [B_size] at h ⊢;simp only [List.length_append,List.length_cons,List.length_nil];omega
 generalize (L1++Lib.itoa e:List UInt8)=L2 at *
 unfold PV
 go_enter Tryz.func69,Tryz.ntmps69
 go_wp2_with (first | (go_at_call 68;refine (c38 _ bgo).mono ?_;rintro x w1 ⟨rfl,hb1⟩;obtain ⟨_,_,_,_,hA1,_⟩:=wz w hb1;clear hb1))
 go_ret
 exact ⟨rfl,bgo⟩
theorem rxo_t11 (g:Bool) (c:Int) (h2:(c == 2)=false) (h3:(c == 3)=false) (y:UInt8) (ys:List UInt8) (hd:ys.length<100000) (w:World) :
  CB 69 #[PV c true g (y :: ys) 0] w (.string (B ([45]++(y :: ys)))):=by
 have htl:=B_toList
 have hsm:=gcell_set_map
 have hsz:(B (y :: ys)).size=ys.length+1:=B_size (y :: ys)
 have p0:(⟨#[45]⟩:ByteArray)++B (y :: ys)=B ([45]++(y :: ys)):=B_app ([45]) ((y :: ys))
 have z0:(B ([45]++(y :: ys))).size=ys.length+1+1:=by rw [B_size];simp only [List.length_append,List.length_cons,List.length_nil];try omega
 generalize ([45]++(y :: ys):List UInt8)=L0 at *
 unfold PV
 go_enter Tryz.func69,Tryz.ntmps69
 go_wp2
 go_ret
 exact ⟨rfl,bgo⟩
theorem rtext_any (c:Int) (s g:Bool) (d:List UInt8) (e:Int) (w:World) (hd:d.length<100000) (he:-9223372036854775808<=e/\e<=9223372036854775807) (hT:Tb10 w) :
  CB 69 #[PV c s g d e] w (.string (B (texT c s g d e))):=by
 by_cases h2:c=2
 ·subst h2
  cases s
  ·exact rx2_f g d e w
  ·exact rx2_t g d e w
 ·by_cases h3:c=3
  ·subst h3
   by_cases h0:d=[]
   ·subst h0
    cases s <;> cases g
    ·exact rx3_ff0 e w
    ·exact rx3_ft0 e w
    ·exact rx3_tf0 e w
    ·exact rx3_tt0 e w
   ·obtain ⟨y,ys,rfl⟩:∃ y ys,d=y :: ys:=by cases d with | nil=>exact absurd rfl h0 | cons y ys=>exact ⟨y,ys,rfl⟩
    have hx:ys.length<100000:=by rw [List.length_cons] at hd;omega
    have q:∀ s g,texT 3 s g (y :: ys) e=(if s then [45] else [])++((if g then [115] else [])++([110,97,110]++(40 :: ((y :: ys)++[41])))):=fun s g=>by
     show _++nanT g (y :: ys)=_
     unfold nanT;rw [if_neg h0]
    rw [q]
    cases s <;> cases g
    ·have:=rx3_ff1 y ys hx e w;simpa using this
    ·have:=rx3_ft1 y ys hx e w;simpa using this
    ·have:=rx3_tf1 y ys hx e w;simpa using this
    ·have:=rx3_tt1 y ys hx e w;simpa using this
  ·have b2:=beq_eq_false_iff_ne.2 h2
   have b3:=beq_eq_false_iff_ne.2 h3
   have q:∀ s,texT c s g d e=(if s then [45] else [])++(dgT d++exT e):=fun s=>by
    unfold texT bodT;rw [if_neg h2,if_neg h3];rfl
   rw [q]
   unfold dgT exT
   by_cases h0:d=[] <;> by_cases h1:e=0
   ·subst h0 h1
    cases s
    ·exact rxo_f01 g c b2 b3 w
    ·exact rxo_t01 g c b2 b3 w
   ·subst h0
    rw [if_pos rfl,if_neg h1]
    cases s
    ·have:=rxo_f00 g c b2 b3 e (bne_iff_ne.2 h1) he w hT;simpa using this
    ·have:=rxo_t00 g c b2 b3 e (bne_iff_ne.2 h1) he w hT;simpa using this
   ·subst h1
    obtain ⟨y,ys,rfl⟩:∃ y ys,d=y :: ys:=by cases d with | nil=>exact absurd rfl h0 | cons y ys=>exact ⟨y,ys,rfl⟩
    have hx:ys.length<100000:=by rw [List.length_cons] at hd;omega
    rw [if_neg h0,if_pos rfl]
    cases s
    ·have:=rxo_f11 g c b2 b3 y ys hx w;simpa using this
    ·have:=rxo_t11 g c b2 b3 y ys hx w;simpa using this
   ·obtain ⟨y,ys,rfl⟩:∃ y ys,d=y :: ys:=by cases d with | nil=>exact absurd rfl h0 | cons y ys=>exact ⟨y,ys,rfl⟩
    have hx:ys.length<100000:=by rw [List.length_cons] at hd;omega
    rw [if_neg h0,if_neg h1]
    cases s
    ·have:=rxo_f10 g c b2 b3 y ys hx e (bne_iff_ne.2 h1) he w hT;simpa using this
    ·have:=rxo_t10 g c b2 b3 y ys hx e (bne_iff_ne.2 h1) he w hT;simpa using this
end Go.Proofs.YtpabnhlfbjkmaaaGreatDoor
