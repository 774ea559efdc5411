/-
  Texts that the proof leans on.
-/
import Derived.Test.YtpabnhlfbjkmaaaGreatDoorR26
import Derived.Test.YtpabnhlfbjkmaaaGreatDoorR1
import Derived.Test.YtpabnhlfbjkmaaaGreatDoorR24
import Derived.Test.YtpabnhlfbjkmaaaGreatDoorR27
import Derived.Test.YtpabnhlfbjkmaaaGreatDoorR16
import Derived.Test.YtpabnhlfbjkmaaaGreatDoorR13
import Derived.Deep.Cut
import Derived.Deep.CutRange
import Derived.Deep.RegionWith
import Derived.Test.YtpabnhlfbjkmaaaGreatDoorR10
import Derived.Test.YtpabnhlfbjkmaaaGreatDoorR25
import Derived.Test.YtpabnhlfbjkmaaaGreatDoorR4
import Derived.Test.YtpabnhlfbjkmaaaGreatDoorR28
import Derived.Test.YtpabnhlfbjkmaaaGreatDoorR23
import Derived.Test.YtpabnhlfbjkmaaaGreatDoorR6
import Derived.Test.YtpabnhlfbjkmaaaGreatDoorR17
import Derived.Test.YtpabnhlfbjkmaaaGreatDoorR20
import Derived.Test.YtpabnhlfbjkmaaaGreatDoorR3
import Derived.Test.YtpabnhlfbjkmaaaGreatDoorR5
set_option maxHeartbeats 8000000
set_option linter.unusedVariables false
set_option linter.unusedSimpArgs false
set_option linter.unusedSectionVars false
set_option maxRecDepth 20000
namespace Go.Proofs.YtpabnhlfbjkmaaaGreatDoor
open Go.RowKit
theorem gd_bad (s:Bool)(c:Int)(g:Bool)(y:UInt8)(ys:List UInt8)(hd:ys.length<100000)(hi:isd (y::ys)=false)(e:Int)(w:World) :
  CB 40 #[PV c s g (y::ys) e] w (.bool false):=by
 have htl:=zDa
 have hsm:=zBa
 have hsz:(B (y::ys)).size=ys.length+1:=zCa (y::ys)
 have hsb:=zMc (l:=y::ys) (i:=0) (by rw [hsz];omega)
 rw [zXa] at hsb
 have hbd:=y.toNat_lt
 have c34:=fun W=>zQb (y::ys) W (by rw [List.length_cons];omega)
 rw [hi] at c34
 unfold PV
 go_enter Tryz.func40,Tryz.ntmps40
 go_wp2_with (first|(go_at_call 84;refine wk w (c34 _) ?_;intro w1 hb1 _ _ _ _ hA1 _;clear hb1))
 go_ret
 exact ⟨rfl,bgo⟩
theorem zDz (s:Bool)(c:Int)(g:Bool)(y:UInt8)(ys:List UInt8)(hd:ys.length<100000)(hi:isd (y::ys)=true)(hy:(y.toNat:Int)=48)(e:Int)(w:World) :
  CB 40 #[PV c s g (y::ys) e] w (.bool false):=by
 have htl:=zDa
 have hsm:=zBa
 have hsz:(B (y::ys)).size=ys.length+1:=zCa (y::ys)
 have hsb:=zMc (l:=y::ys) (i:=0) (by rw [hsz];omega)
 rw [zXa] at hsb
 have hbd:=y.toNat_lt
 have c34:=fun W=>zQb (y::ys) W (by rw [List.length_cons];omega)
 rw [hi] at c34
 unfold PV
 go_enter Tryz.func40,Tryz.ntmps40
 go_wp2_with (first|(go_at_call 84;refine wk w (c34 _) ?_;intro w1 hb1 _ _ _ _ hA1 _;clear hb1))
 go_ret
 exact ⟨rfl,bgo⟩
theorem gd_1sn (s:Bool)(e:Int)(w:World) :
  CB 40 #[PV 1 s true [] e] w (.bool false):=by
 have htl:=zDa
 have hsm:=zBa
 have hn0:B []=⟨#[]⟩:=rfl
 unfold PV
 go_enter Tryz.func40,Tryz.ntmps40
 go_wp2
 go_ret
 exact ⟨rfl,bgo⟩
theorem gd_1ln (s:Bool)(e:Int)(he:e < -1000000000)(w:World) :
  CB 40 #[PV 1 s false [] e] w (.bool false):=by
 have htl:=zDa
 have hsm:=zBa
 have hn0:B []=⟨#[]⟩:=rfl
 unfold PV
 go_enter Tryz.func40,Tryz.ntmps40
 go_wp2
 go_ret
 exact ⟨rfl,bgo⟩
theorem gd_1hn (s:Bool)(e:Int)(he1:-1000000000<=e)(he2:1000000000<e)(w:World) :
  CB 40 #[PV 1 s false [] e] w (.bool false):=by
 have htl:=zDa
 have hsm:=zBa
 have hn0:B []=⟨#[]⟩:=rfl
 unfold PV
 go_enter Tryz.func40,Tryz.ntmps40
 go_wp2
 go_ret
 exact ⟨rfl,bgo⟩
theorem gd_1yn (s:Bool)(e:Int)(he1:-1000000000<=e)(he2:e<=1000000000)(T:List UInt8)(hT:(T.length:Int)<=4000)(w:World)
  (c26:∀ W,Below w.heap.size w W->CB 69 #[PV 1 s false [] e] W (.string (B T))) :
  CB 40 #[PV 1 s false [] e] w (.bool true):=by
 have htl:=zDa
 have hsm:=zBa
 have hn0:B []=⟨#[]⟩:=rfl
 have hTz:=zCa T
 unfold PV at c26
 unfold PV
 go_enter Tryz.func40,Tryz.ntmps40
 go_wp2_with (first|(go_at_call 69;refine wk w (c26 _ bgo) ?_;intro w2 hb2 _ _ _ _ hA2 _;clear hb2))
 go_ret
 exact ⟨rfl,bgo⟩
theorem gd_1tn (s:Bool)(e:Int)(he1:-1000000000<=e)(he2:e<=1000000000)(T:List UInt8)(hT:(4000:Int)<T.length)(w:World)
  (c26:∀ W,Below w.heap.size w W->CB 69 #[PV 1 s false [] e] W (.string (B T))) :
  CB 40 #[PV 1 s false [] e] w (.bool false):=by
 have htl:=zDa
 have hsm:=zBa
 have hn0:B []=⟨#[]⟩:=rfl
 have hTz:=zCa T
 unfold PV at c26
 unfold PV
 go_enter Tryz.func40,Tryz.ntmps40
 go_wp2_with (first|(go_at_call 69;refine wk w (c26 _ bgo) ?_;intro w2 hb2 _ _ _ _ hA2 _;clear hb2))
 go_ret
 exact ⟨(show Ending.returned (Value.bool (decide ((T.length:Int)<=4000)))=_ by rw [decide_eq_false (by omega)]),bgo⟩
theorem gd_2sn (s:Bool)(e:Int)(w:World) :
  CB 40 #[PV 2 s true [] e] w (.bool false):=by
 have htl:=zDa
 have hsm:=zBa
 have hn0:B []=⟨#[]⟩:=rfl
 unfold PV
 go_enter Tryz.func40,Tryz.ntmps40
 go_wp2
 go_ret
 exact ⟨rfl,bgo⟩
theorem gd_2en (s:Bool)(e:Int)(he:(e==0)=false)(w:World) :
  CB 40 #[PV 2 s false [] e] w (.bool false):=by
 have htl:=zDa
 have hsm:=zBa
 have hn0:B []=⟨#[]⟩:=rfl
 unfold PV
 go_enter Tryz.func40,Tryz.ntmps40
 go_wp2
 go_ret
 exact ⟨rfl,bgo⟩
theorem gd_2yn (s:Bool)(w:World) :
  CB 40 #[PV 2 s false [] 0] w (.bool true):=by
 have htl:=zDa
 have hsm:=zBa
 have hn0:B []=⟨#[]⟩:=rfl
 unfold PV
 go_enter Tryz.func40,Tryz.ntmps40
 go_wp2
 go_ret
 exact ⟨rfl,bgo⟩
theorem gd_3en (s:Bool)(g:Bool)(e:Int)(he:(e==0)=false)(w:World) :
  CB 40 #[PV 3 s g [] e] w (.bool false):=by
 have htl:=zDa
 have hsm:=zBa
 have hn0:B []=⟨#[]⟩:=rfl
 unfold PV
 go_enter Tryz.func40,Tryz.ntmps40
 go_wp2
 go_ret
 exact ⟨rfl,bgo⟩
theorem gd_3yn (s:Bool)(g:Bool)(T:List UInt8)(hT:(T.length:Int)<=4000)(w:World)
  (c26:∀ W,Below w.heap.size w W->CB 69 #[PV 3 s g [] 0] W (.string (B T))) :
  CB 40 #[PV 3 s g [] 0] w (.bool true):=by
 have htl:=zDa
 have hsm:=zBa
 have hn0:B []=⟨#[]⟩:=rfl
 have hTz:=zCa T
 unfold PV at c26
 unfold PV
 go_enter Tryz.func40,Tryz.ntmps40
 go_wp2_with (first|(go_at_call 69;refine wk w (c26 _ bgo) ?_;intro w2 hb2 _ _ _ _ hA2 _;clear hb2))
 go_ret
 exact ⟨rfl,bgo⟩
theorem gd_3tn (s:Bool)(g:Bool)(T:List UInt8)(hT:(4000:Int)<T.length)(w:World)
  (c26:∀ W,Below w.heap.size w W->CB 69 #[PV 3 s g [] 0] W (.string (B T))) :
  CB 40 #[PV 3 s g [] 0] w (.bool false):=by
 have htl:=zDa
 have hsm:=zBa
 have hn0:B []=⟨#[]⟩:=rfl
 have hTz:=zCa T
 unfold PV at c26
 unfold PV
 go_enter Tryz.func40,Tryz.ntmps40
 go_wp2_with (first|(go_at_call 69;refine wk w (c26 _ bgo) ?_;intro w2 hb2 _ _ _ _ hA2 _;clear hb2))
 go_ret
 exact ⟨(show Ending.returned (Value.bool (decide ((T.length:Int)<=4000)))=_ by rw [decide_eq_false (by omega)]),bgo⟩
theorem gd_cn (s:Bool)(c:Int)(h1:(c==1)=false)(h2:(c==2)=false)(h3:(c==3)=false)(g:Bool)(e:Int)(w:World) :
  CB 40 #[PV c s g [] e] w (.bool false):=by
 have htl:=zDa
 have hsm:=zBa
 have hn0:B []=⟨#[]⟩:=rfl
 unfold PV
 go_enter Tryz.func40,Tryz.ntmps40
 go_wp2
 go_ret
 exact ⟨rfl,bgo⟩
theorem gd_1sg (s:Bool)(y:UInt8)(ys:List UInt8)(hd:ys.length<100000)(hi:isd (y::ys)=true)(hy:((y.toNat:Int)==48)=false)(e:Int)(w:World) :
  CB 40 #[PV 1 s true (y::ys) e] w (.bool false):=by
 have htl:=zDa
 have hsm:=zBa
 have hsz:(B (y::ys)).size=ys.length+1:=zCa (y::ys)
 have hsb:=zMc (l:=y::ys) (i:=0) (by rw [hsz];omega)
 rw [zXa] at hsb
 have hbd:=y.toNat_lt
 have c34:=fun W=>zQb (y::ys) W (by rw [List.length_cons];omega)
 rw [hi] at c34
 unfold PV
 go_enter Tryz.func40,Tryz.ntmps40
 go_wp2_with (first|(go_at_call 84;refine wk w (c34 _) ?_;intro w1 hb1 _ _ _ _ hA1 _;clear hb1))
 go_ret
 exact ⟨rfl,bgo⟩
theorem gd_1lg (s:Bool)(y:UInt8)(ys:List UInt8)(hd:ys.length<100000)(hi:isd (y::ys)=true)(hy:((y.toNat:Int)==48)=false)(e:Int)(he:e < -1000000000)(w:World) :
  CB 40 #[PV 1 s false (y::ys) e] w (.bool false):=by
 have htl:=zDa
 have hsm:=zBa
 have hsz:(B (y::ys)).size=ys.length+1:=zCa (y::ys)
 have hsb:=zMc (l:=y::ys) (i:=0) (by rw [hsz];omega)
 rw [zXa] at hsb
 have hbd:=y.toNat_lt
 have c34:=fun W=>zQb (y::ys) W (by rw [List.length_cons];omega)
 rw [hi] at c34
 unfold PV
 go_enter Tryz.func40,Tryz.ntmps40
 go_wp2_with (first|(go_at_call 84;refine wk w (c34 _) ?_;intro w1 hb1 _ _ _ _ hA1 _;clear hb1))
 go_ret
 exact ⟨rfl,bgo⟩
theorem gd_1hg (s:Bool)(y:UInt8)(ys:List UInt8)(hd:ys.length<100000)(hi:isd (y::ys)=true)(hy:((y.toNat:Int)==48)=false)(e:Int)(he1:-1000000000<=e)(he2:1000000000<e)(w:World) :
  CB 40 #[PV 1 s false (y::ys) e] w (.bool false):=by
 have htl:=zDa
 have hsm:=zBa
 have hsz:(B (y::ys)).size=ys.length+1:=zCa (y::ys)
 have hsb:=zMc (l:=y::ys) (i:=0) (by rw [hsz];omega)
 rw [zXa] at hsb
 have hbd:=y.toNat_lt
 have c34:=fun W=>zQb (y::ys) W (by rw [List.length_cons];omega)
 rw [hi] at c34
 unfold PV
 go_enter Tryz.func40,Tryz.ntmps40
 go_wp2_with (first|(go_at_call 84;refine wk w (c34 _) ?_;intro w1 hb1 _ _ _ _ hA1 _;clear hb1))
 go_ret
 exact ⟨rfl,bgo⟩
theorem gd_1yg (s:Bool)(y:UInt8)(ys:List UInt8)(hd:ys.length<100000)(hi:isd (y::ys)=true)(hy:((y.toNat:Int)==48)=false)(e:Int)(he1:-1000000000<=e)(he2:e<=1000000000)(T:List UInt8)(hT:(T.length:Int)<=4000)(w:World)
  (c26:∀ W,Below w.heap.size w W->CB 69 #[PV 1 s false (y::ys) e] W (.string (B T))) :
  CB 40 #[PV 1 s false (y::ys) e] w (.bool true):=by
 have htl:=zDa
 have hsm:=zBa
 have hsz:(B (y::ys)).size=ys.length+1:=zCa (y::ys)
 have hsb:=zMc (l:=y::ys) (i:=0) (by rw [hsz];omega)
 rw [zXa] at hsb
 have hbd:=y.toNat_lt
 have c34:=fun W=>zQb (y::ys) W (by rw [List.length_cons];omega)
 rw [hi] at c34
 have hTz:=zCa T
 unfold PV at c26
 unfold PV
 go_enter Tryz.func40,Tryz.ntmps40
 go_wp2_with (first|(go_at_call 84;refine wk w (c34 _) ?_;intro w1 hb1 _ _ _ _ hA1 _;clear hb1)|(go_at_call 69;refine wk w (c26 _ bgo) ?_;intro w2 hb2 _ _ _ _ hA2 _;clear hb2))
 go_ret
 exact ⟨rfl,bgo⟩
theorem gd_1tg (s:Bool)(y:UInt8)(ys:List UInt8)(hd:ys.length<100000)(hi:isd (y::ys)=true)(hy:((y.toNat:Int)==48)=false)(e:Int)(he1:-1000000000<=e)(he2:e<=1000000000)(T:List UInt8)(hT:(4000:Int)<T.length)(w:World)
  (c26:∀ W,Below w.heap.size w W->CB 69 #[PV 1 s false (y::ys) e] W (.string (B T))) :
  CB 40 #[PV 1 s false (y::ys) e] w (.bool false):=by
 have htl:=zDa
 have hsm:=zBa
 have hsz:(B (y::ys)).size=ys.length+1:=zCa (y::ys)
 have hsb:=zMc (l:=y::ys) (i:=0) (by rw [hsz];omega)
 rw [zXa] at hsb
 have hbd:=y.toNat_lt
 have c34:=fun W=>zQb (y::ys) W (by rw [List.length_cons];omega)
 rw [hi] at c34
 have hTz:=zCa T
 unfold PV at c26
 unfold PV
 go_enter Tryz.func40,Tryz.ntmps40
 go_wp2_with (first|(go_at_call 84;refine wk w (c34 _) ?_;intro w1 hb1 _ _ _ _ hA1 _;clear hb1)|(go_at_call 69;refine wk w (c26 _ bgo) ?_;intro w2 hb2 _ _ _ _ hA2 _;clear hb2))
 go_ret
 exact ⟨(show Ending.returned (Value.bool (decide ((T.length:Int)<=4000)))=_ by rw [decide_eq_false (by omega)]),bgo⟩
theorem gd_2sg (s:Bool)(y:UInt8)(ys:List UInt8)(hd:ys.length<100000)(hi:isd (y::ys)=true)(hy:((y.toNat:Int)==48)=false)(e:Int)(w:World) :
  CB 40 #[PV 2 s true (y::ys) e] w (.bool false):=by
 have htl:=zDa
 have hsm:=zBa
 have hsz:(B (y::ys)).size=ys.length+1:=zCa (y::ys)
 have hsb:=zMc (l:=y::ys) (i:=0) (by rw [hsz];omega)
 rw [zXa] at hsb
 have hbd:=y.toNat_lt
 have c34:=fun W=>zQb (y::ys) W (by rw [List.length_cons];omega)
 rw [hi] at c34
 unfold PV
 go_enter Tryz.func40,Tryz.ntmps40
 go_wp2_with (first|(go_at_call 84;refine wk w (c34 _) ?_;intro w1 hb1 _ _ _ _ hA1 _;clear hb1))
 go_ret
 exact ⟨rfl,bgo⟩
theorem gd_2dg (s:Bool)(y:UInt8)(ys:List UInt8)(hd:ys.length<100000)(hi:isd (y::ys)=true)(hy:((y.toNat:Int)==48)=false)(e:Int)(w:World) :
  CB 40 #[PV 2 s false (y::ys) e] w (.bool false):=by
 have htl:=zDa
 have hsm:=zBa
 have hsz:(B (y::ys)).size=ys.length+1:=zCa (y::ys)
 have hsb:=zMc (l:=y::ys) (i:=0) (by rw [hsz];omega)
 rw [zXa] at hsb
 have hbd:=y.toNat_lt
 have c34:=fun W=>zQb (y::ys) W (by rw [List.length_cons];omega)
 rw [hi] at c34
 unfold PV
 go_enter Tryz.func40,Tryz.ntmps40
 go_wp2_with (first|(go_at_call 84;refine wk w (c34 _) ?_;intro w1 hb1 _ _ _ _ hA1 _;clear hb1))
 go_ret
 exact ⟨rfl,bgo⟩
theorem gd_3eg (s:Bool)(g:Bool)(y:UInt8)(ys:List UInt8)(hd:ys.length<100000)(hi:isd (y::ys)=true)(hy:((y.toNat:Int)==48)=false)(e:Int)(he:(e==0)=false)(w:World) :
  CB 40 #[PV 3 s g (y::ys) e] w (.bool false):=by
 have htl:=zDa
 have hsm:=zBa
 have hsz:(B (y::ys)).size=ys.length+1:=zCa (y::ys)
 have hsb:=zMc (l:=y::ys) (i:=0) (by rw [hsz];omega)
 rw [zXa] at hsb
 have hbd:=y.toNat_lt
 have c34:=fun W=>zQb (y::ys) W (by rw [List.length_cons];omega)
 rw [hi] at c34
 unfold PV
 go_enter Tryz.func40,Tryz.ntmps40
 go_wp2_with (first|(go_at_call 84;refine wk w (c34 _) ?_;intro w1 hb1 _ _ _ _ hA1 _;clear hb1))
 go_ret
 exact ⟨rfl,bgo⟩
theorem gd_3yg (s:Bool)(g:Bool)(y:UInt8)(ys:List UInt8)(hd:ys.length<100000)(hi:isd (y::ys)=true)(hy:((y.toNat:Int)==48)=false)(T:List UInt8)(hT:(T.length:Int)<=4000)(w:World)
  (c26:∀ W,Below w.heap.size w W->CB 69 #[PV 3 s g (y::ys) 0] W (.string (B T))) :
  CB 40 #[PV 3 s g (y::ys) 0] w (.bool true):=by
 have htl:=zDa
 have hsm:=zBa
 have hsz:(B (y::ys)).size=ys.length+1:=zCa (y::ys)
 have hsb:=zMc (l:=y::ys) (i:=0) (by rw [hsz];omega)
 rw [zXa] at hsb
 have hbd:=y.toNat_lt
 have c34:=fun W=>zQb (y::ys) W (by rw [List.length_cons];omega)
 rw [hi] at c34
 have hTz:=zCa T
 unfold PV at c26
 unfold PV
 go_enter Tryz.func40,Tryz.ntmps40
 go_wp2_with (first|(go_at_call 84;refine wk w (c34 _) ?_;intro w1 hb1 _ _ _ _ hA1 _;clear hb1)|(go_at_call 69;refine wk w (c26 _ bgo) ?_;intro w2 hb2 _ _ _ _ hA2 _;clear hb2))
 go_ret
 exact ⟨rfl,bgo⟩
theorem gd_3tg (s:Bool)(g:Bool)(y:UInt8)(ys:List UInt8)(hd:ys.length<100000)(hi:isd (y::ys)=true)(hy:((y.toNat:Int)==48)=false)(T:List UInt8)(hT:(4000:Int)<T.length)(w:World)
  (c26:∀ W,Below w.heap.size w W->CB 69 #[PV 3 s g (y::ys) 0] W (.string (B T))) :
  CB 40 #[PV 3 s g (y::ys) 0] w (.bool false):=by
 have htl:=zDa
 have hsm:=zBa
 have hsz:(B (y::ys)).size=ys.length+1:=zCa (y::ys)
 have hsb:=zMc (l:=y::ys) (i:=0) (by rw [hsz];omega)
 rw [zXa] at hsb
 have hbd:=y.toNat_lt
 have c34:=fun W=>zQb (y::ys) W (by rw [List.length_cons];omega)
 rw [hi] at c34
 have hTz:=zCa T
 unfold PV at c26
 unfold PV
 go_enter Tryz.func40,Tryz.ntmps40
 go_wp2_with (first|(go_at_call 84;refine wk w (c34 _) ?_;intro w1 hb1 _ _ _ _ hA1 _;clear hb1)|(go_at_call 69;refine wk w (c26 _ bgo) ?_;intro w2 hb2 _ _ _ _ hA2 _;clear hb2))
 go_ret
 exact ⟨(show Ending.returned (Value.bool (decide ((T.length:Int)<=4000)))=_ by rw [decide_eq_false (by omega)]),bgo⟩
theorem gd_cg (s:Bool)(c:Int)(h1:(c==1)=false)(h2:(c==2)=false)(h3:(c==3)=false)(g:Bool)(y:UInt8)(ys:List UInt8)(hd:ys.length<100000)(hi:isd (y::ys)=true)(hy:((y.toNat:Int)==48)=false)(e:Int)(w:World) :
  CB 40 #[PV c s g (y::ys) e] w (.bool false):=by
 have htl:=zDa
 have hsm:=zBa
 have hsz:(B (y::ys)).size=ys.length+1:=zCa (y::ys)
 have hsb:=zMc (l:=y::ys) (i:=0) (by rw [hsz];omega)
 rw [zXa] at hsb
 have hbd:=y.toNat_lt
 have c34:=fun W=>zQb (y::ys) W (by rw [List.length_cons];omega)
 rw [hi] at c34
 unfold PV
 go_enter Tryz.func40,Tryz.ntmps40
 go_wp2_with (first|(go_at_call 84;refine wk w (c34 _) ?_;intro w1 hb1 _ _ _ _ hA1 _;clear hb1))
 go_ret
 exact ⟨rfl,bgo⟩
theorem zWy {y:UInt8}{ys:List UInt8}(h:by_ (y::ys) 0≠48):((y.toNat:Int)==48)=false:=by
 rw [zXa] at h;exact beq_eq_false_iff_ne.2 h
theorem good_y (p:Prt)(w:World)(hd:p.dig.length<100000)(he:-9223372036854775808<=p.ex/\p.ex<=9223372036854775807)(hT:Tb10 w)(h:gdP p) :
  CB 40 #[p.v] w (.bool true):=by
 have c26:=fun W (hb:Below w.heap.size w W)=>zDo p.cls p.sg p.sn p.dig p.ex W hd he (hT.next hb)
 obtain ⟨c,s,g,d,e⟩:=p
 obtain ⟨hg,h⟩:=h
 show Calls Tryz.prog 40 #[PV c s g d e] w _
 dsimp only at c26 hd he hg h
 cases d with
 | nil =>
  rcases h with ⟨rfl,rfl,h3,h4⟩|⟨rfl,rfl,_,rfl⟩|⟨rfl,rfl,h4⟩
  ·exact gd_1yn s e h3.1 h3.2 _ (by omega) w c26
  ·exact gd_2yn s w
  ·exact gd_3yn s g _ (by omega) w c26
 | cons y ys =>
  have hx:ys.length<100000:=by rw [List.length_cons] at hd;omega
  rcases hg with hg|⟨hi,hy⟩
  ·cases hg
  ·rcases h with ⟨rfl,rfl,h3,h4⟩|⟨rfl,rfl,h3,rfl⟩|⟨rfl,rfl,h4⟩
   ·exact gd_1yg s y ys hx hi (zWy hy) e h3.1 h3.2 _ (by omega) w c26
   ·cases h3
   ·exact gd_3yg s g y ys hx hi (zWy hy) _ (by omega) w c26
theorem good_n (p:Prt)(w:World)(hd:p.dig.length<100000)(he:-9223372036854775808<=p.ex/\p.ex<=9223372036854775807)(hT:Tb10 w)(h:¬ gdP p) :
  CB 40 #[p.v] w (.bool false):=by
 have c26:=fun W (hb:Below w.heap.size w W)=>zDo p.cls p.sg p.sn p.dig p.ex W hd he (hT.next hb)
 obtain ⟨c,s,g,d,e⟩:=p
 unfold gdP at h
 show Calls Tryz.prog 40 #[PV c s g d e] w _
 dsimp only at c26 hd he h
 cases d with
 | nil =>
  have hg:gdD []:=Or.inl rfl
  by_cases h1:c=1
  ·subst h1
   cases g with
   | true=>exact gd_1sn s e w
   | false =>
    by_cases e1:-1000000000<=e
    ·by_cases e2:e<=1000000000
     ·refine gd_1tn s e e1 e2 _ ?_ w c26
      by_cases h4:(zCf 1 s false [] e).length<=4000
      ·exact absurd ⟨hg,Or.inl ⟨rfl,rfl,⟨e1,e2⟩,h4⟩⟩ h
      ·omega
     ·exact gd_1hn s e e1 (by omega) w
    ·exact gd_1ln s e (by omega) w
  ·by_cases h2:c=2
   ·subst h2
    cases g with
    | true=>exact gd_2sn s e w
    | false =>
     refine gd_2en s e (beq_eq_false_iff_ne.2 fun h0=>?_) w
     exact absurd ⟨hg,Or.inr (Or.inl ⟨rfl,rfl,rfl,h0⟩)⟩ h
   ·by_cases h3:c=3
    ·subst h3
     by_cases h0:e=0
     ·subst h0
      refine gd_3tn s g _ ?_ w c26
      by_cases h4:(zCf 3 s g [] 0).length<=4000
      ·exact absurd ⟨hg,Or.inr (Or.inr ⟨rfl,rfl,h4⟩)⟩ h
      ·omega
     ·exact gd_3en s g e (beq_eq_false_iff_ne.2 h0) w
    ·exact gd_cn s c (beq_eq_false_iff_ne.2 h1) (beq_eq_false_iff_ne.2 h2) (beq_eq_false_iff_ne.2 h3) g e w
 | cons y ys =>
  have hx:ys.length<100000:=by rw [List.length_cons] at hd;omega
  cases hi:isd (y::ys) with
  | false=>exact gd_bad s c g y ys hx hi e w
  | true =>
   by_cases hy0:(y.toNat:Int)=48
   ·exact zDz s c g y ys hx hi hy0 e w
   ·have hy:=beq_eq_false_iff_ne.2 hy0
    have hg:gdD (y::ys):=Or.inr ⟨hi,by rw [zXa];exact hy0⟩
    by_cases h1:c=1
    ·subst h1
     cases g with
     | true=>exact gd_1sg s y ys hx hi hy e w
     | false =>
      by_cases e1:-1000000000<=e
      ·by_cases e2:e<=1000000000
       ·refine gd_1tg s y ys hx hi hy e e1 e2 _ ?_ w c26
        by_cases h4:(zCf 1 s false (y::ys) e).length<=4000
        ·exact absurd ⟨hg,Or.inl ⟨rfl,rfl,⟨e1,e2⟩,h4⟩⟩ h
        ·omega
       ·exact gd_1hg s y ys hx hi hy e e1 (by omega) w
      ·exact gd_1lg s y ys hx hi hy e (by omega) w
    ·by_cases h2:c=2
     ·subst h2
      cases g with
      | true=>exact gd_2sg s y ys hx hi hy e w
      | false=>exact gd_2dg s y ys hx hi hy e w
     ·by_cases h3:c=3
      ·subst h3
       by_cases h0:e=0
       ·subst h0
        refine gd_3tg s g y ys hx hi hy _ ?_ w c26
        by_cases h4:(zCf 3 s g (y::ys) 0).length<=4000
        ·exact absurd ⟨hg,Or.inr (Or.inr ⟨rfl,rfl,h4⟩)⟩ h
        ·omega
       ·exact gd_3eg s g y ys hx hi hy e (beq_eq_false_iff_ne.2 h0) w
      ·exact gd_cg s c (beq_eq_false_iff_ne.2 h1) (beq_eq_false_iff_ne.2 h2) (beq_eq_false_iff_ne.2 h3) g y ys hx hi hy e w
section
attribute [local irreducible] W4 Nz Nt
def dV (l:List UInt8):Nat:=(numV (B l) (B l).size).toNat
theorem zHm (l:List UInt8)(i:Nat):sb (B l) i=by_ l i:=by
 unfold sb by_
 by_cases h:i<l.length
 ·rw [dif_pos (show i<(B l).size from h),dif_pos h,B_get]
 ·rw [dif_neg (show ¬ i<(B l).size from h),dif_neg h]
theorem zL5 {l:List UInt8}(h:l.all dg=true):zPp (B l) (B l).size=true:=by
 refine zOq _ fun k hk=>?_
 rw [zHm]
 have hk':k<l.length:=hk
 have h1:=List.all_eq_true.1 h (l[k]'hk') (List.getElem_mem hk')
 unfold dg at h1
 unfold by_
 rw [dif_pos hk']
 have:=of_decide_eq_true h1
 omega
theorem zPq {l:List UInt8}(h:l.all dg=true):dV l<10^l.length/\(dV l:Int)=numV (B l) (B l).size:=by
 obtain ⟨a,b⟩:=zNm _ (zL5 h)
 unfold dV
 generalize numV (B l) (B l).size=V at *
 rw [zCa] at b
 have:((10:Int)^l.length)=((10^l.length:Nat):Int):=by simp
 rw [this] at b
 exact ⟨by omega,by omega⟩
theorem zW3 (l:List UInt8):numV (B (48::l)) (B (48::l)).size=numV (B l) (B l).size:=by
 have h:=zIj (s:=B (48::l)) (u:=B l) 1 (B l).size (fun i hi=>by rw [zHm,zHm,Nat.add_comm,zSg])
 have hs:(B (48::l)).size=1+(B l).size:=by rw [zCa,zCa,List.length_cons];omega
 rw [hs,h]
 have h1:numV (B (48::l)) 1=0:=by
  have:numV (B (48::l)) 1=numV (B (48::l)) 0*10+(sb (B (48::l)) 0-48):=rfl
  rw [this,zHm,zXa];rfl
 rw [h1];omega
theorem bl_10 {A L k:Nat}(h:A<10^L)(hk:4*L<=k):bl A<=k:=by
 refine bl_le.2 (Nat.lt_of_lt_of_le h ?_)
 have h1:10^L<=16^L:=Nat.pow_le_pow_left (by decide) L
 have h2:(16:Nat)^L=2^(4*L):=by rw [Nat.pow_mul]
 exact Nat.le_trans h1 (h2▸Nat.pow_le_pow_right (by decide) hk)
theorem nz_of {a:Option Addr}{k cap K V:Nat}{z:Nat->Int}{w:World}(h:Num w a k cap z)(hv:val z k=(V:Int))(hs:sizeL z k=k)(hb:bl V<=64*K):Nz K V (.slice a k cap) w:=by
 unfold Nz
 exact ⟨a,k,cap,z,rfl,by have:=(zId (m:=K) h.2.2.1 hv).2 hb;omega,h,hv,hs⟩
end
section
theorem zSl (a b:Nat):bl (a*b)<=bl a+bl b:=by
 refine bl_le.2 ?_
 rw [Nat.pow_add]
 have h1:=bl_le.1 (Nat.le_refl (bl a))
 have h2:=bl_le.1 (Nat.le_refl (bl b))
 exact Nat.mul_lt_mul'' h1 h2
attribute [local irreducible] W4 Nz Nt
end
section
theorem NT.tight {K K' V:Nat}{v:Value}{w:World}(h:NT K V v w)(hb:bl V<=64*K'):NT K' V v w:=by
 obtain ⟨g,k,cap,z,h1,h2,h3,h4,h5⟩:=h
 exact ⟨g,k,cap,z,h1,by have:=(zId (m:=K') h3.2.2.1 h4).2 hb;omega,h3,h4,h5⟩
section
variable (x:Int)(vn vd:Value)(A KK:Nat)(w:World)(hx:-12000<=x/\x<=12000)
include hx
end
theorem zKf (k:Nat):bl (10^k)<=4*k+1:=by
 refine bl_le.2 ?_
 have h1:10^k<=16^k:=Nat.pow_le_pow_left (by decide) k
 have h2:(16:Nat)^k=2^(4*k):=by rw [Nat.pow_mul]
 have h3:(2:Nat)^(4*k)<2^(4*k+1):=Nat.pow_lt_pow_right (by decide) (by omega)
 omega
theorem zSt (w:World):CE 23 #[.string (B [])] w (NT 1001 0):=by
 have hs:(B []).size=0:=rfl
 have hN:=zQo w
 go_enter Tryz.func23,Tryz.ntmps23
 go_wp2
 go_loopw [3,4,5,6] (fun t3 t4 u5 u6 wr=>t3=.slice (some ⟨w.heap.size,0,none⟩) 0 0/\t4=.int .i64 0/\wr=w.alloc (.cells #[] 22)) (fun _ _ _ _ _=>0)
 case atStart=>exact ⟨rfl,rfl,rfl⟩
 case round =>
  obtain ⟨rfl,rfl,rfl⟩:=hrel
  go_wp2
  go_ret
  exact ⟨_,rfl,⟨_,0,0,fun _=>0,rfl,by decide,hN,rfl,rfl⟩,zEa _ _⟩
theorem yTa (l:List UInt8)(w:World)(hd:l.all dg=true)(hl:l.length<=4000):CE 23 #[.string (B l)] w (NT 1001 (dV l)):=by
 by_cases h0:l=[]
 ·subst h0
  exact zSt w
 ·have hlen:0<l.length:=List.length_pos_iff.2 h0
  obtain ⟨hlt,he⟩:=zPq hd
  have hbl:bl (dV l)<=64*1001:=bl_10 hlt (by omega)
  have c:=zTt (B l) w (by unfold zHe;rw [zL5 hd,Bool.true_and];exact decide_eq_true (by rw [zCa];exact hlen)) (by rw [zCa];omega)
  refine c.mono fun r w' ⟨g,k,cap,z,e1,hk,hN,hv,hB,hs⟩=>⟨_,e1,?_,hB⟩
  have h36:NT 36000 (dV l) (.slice (some ⟨g,0,none⟩) k cap) w':=⟨g,k,cap,z,rfl,hk,hN,by rw [hv,he],hs⟩
  exact h36.tight hbl
attribute [local irreducible] W4 NT NV
theorem zY5 (a:Option Addr)(k cap:Nat)(z:Nat->Int)(w:World)(h:Num w a k cap z) :
  CB 22 #[.slice a k cap] w (.agg (arrOf z 4)):=by
 have hw:=fun (i:Nat) (o1 o2:Obj)=>zRb a k cap i z ((w.alloc o1).alloc o2) ((h.next (zEa w _)).next (zEa _ _))
 clear h
 go_enter Tryz.func22,Tryz.ntmps22
 go_wp2
 go_loopw [4,5] (fun u4 i wr=>∃ (j:Nat) (ss:Array Value),j<=4/\i=.int .i64 j/\ss.size=4/\(∀ q h,ss[q]'h=Value.int .u64 (if q<j then z q else 0))/\wr=(w.alloc (.cells #[.int .u64 0,.int .u64 0,.int .u64 0,.int .u64 0] 24)).alloc (.cells ss 24)) (fun _ i _=>4-(intOf i).toNat)
 case atStart=>exact ⟨0,_,Nat.zero_le _,rfl,rfl,by intro q h;have h':q<4:=h;match q,h' with|0,_=>rfl|1,_=>rfl|2,_=>rfl|3,_=>rfl,rfl⟩
 case round =>
  obtain ⟨j,ss,hj,rfl,hsz,hss,rfl⟩:=hrel
  by_cases h4:j<4
  ·have h4i:(j:Int)<4:=by omega
   have h4s:j<ss.size:=by omega
   have hsk:ss[j]?=some (.int .u64 0):=by rw [Array.getElem?_eq_getElem h4s,hss j h4s,if_neg (by omega)]
   have HR:Hid (∀ (i:Nat) (h:i<(ss.setIfInBounds j (.int .u64 (z j))).size),(ss.setIfInBounds j (.int .u64 (z j)))[i]'h=Value.int .u64 (if i<j+1 then z i else 0)):=zKc hss
   have hwj:=hw j (.cells #[.int .u64 0,.int .u64 0,.int .u64 0,.int .u64 0] 24) (.cells ss 24)
   clear hss hw
   go_wp2_with (go_at_call 46;refine hwj.mono ?_;rintro e w' ⟨rfl,rfl⟩)
   go_roundw
   case rel=>exact ⟨j+1,ss.setIfInBounds j (.int .u64 (z j)),by omega,by go_num,by simp [hsz],HR.out,rfl⟩
   case measure=>simp [intOf];omega
  ·obtain rfl:j=4:=by omega
   have hss':∀ q h,ss[q]'h=Value.int .u64 (z q):=by
    intro q h;rw [hss q h,if_pos (by omega)]
   clear hss hw
   go_wp2
   exact bodyPost_ret (v:=.agg (arrOf z 4)) (by simp [results,Tryz.results22,go_sem];rfl) rfl ⟨rfl,((Below.refl _ _).alloc (Nat.le_refl _) _).alloc (by simp) _⟩
theorem zA6 (w:World):CB 22 #[.slice none 0 0] w (A4 0):=by
 have h:Num w none 0 0 (fun _=>0):=⟨Nat.le_refl _,by unfold maxLen;omega,fun i=>⟨Int.le_refl _,(by decide:(0:Int)<=18446744073709551615)⟩,fun _ _=>rfl,Or.inl ⟨rfl,rfl⟩⟩
 rw [ySd]
 exact zY5 none 0 0 (fun _=>0) w h
end
section
theorem NT.nz {K V:Nat}{v:Value}{w:World}(h:NT K V v w):Nz K V v w:=by
 obtain ⟨g,k,cap,z,h1,h2,h3,h4,h5⟩:=h
 exact ⟨_,k,cap,z,h1,h2,h3,h4,h5⟩
theorem NT.nt {K V:Nat}{v:Value}{w:World}(h:NT K V v w):Nt K V v w:=h.nz.nt
theorem zU6 {K K' A P:Nat}{v v':Value}{w:World}(hK:K<100000000)(hK':K'<100000000)(h:Nt K A v w)(h':Nt K' P v' w)(hb:bl A+bl P<=127000) :
  Calls Tryz.prog 189 #[v,v'] w fun r w'=>∃ q,r=.returned (.tuple #[q,.int .i64 0])/\NT 2001 (A*P) q w'/\Below w.heap.size w w':=by
 obtain ⟨a,k,cap,z,rfl,hk,hN,hv⟩:=h
 obtain ⟨a',k',cap',z',rfl,hk',hN',hv'⟩:=h'
 have s1:=(zId (m:=(bl A+63)/64) hN.2.2.1 hv).2 (by omega)
 have s2:=(zId (m:=(bl P+63)/64) hN'.2.2.1 hv').2 (by omega)
 refine (zOm a a' k cap k' cap' z z' w (by omega) (by omega) hN hN' (by omega)).mono fun r w' ⟨g,q,cp,y,e1,hq,hNq,hvq,hsq,hB⟩=>⟨_,e1,⟨g,q,cp,y,rfl,by omega,hNq,?_,hsq⟩,hB⟩
 rw [hvq,hv,hv'];simp
attribute [local irreducible] W4 Nz Nt NT
theorem yVa {W:World}{g k:Nat}(hk:k<2^256)(hg:g<W.heap.size)(h0:W.cell? ⟨g,4,none⟩=some (.int .u64 (W4 k 0)))(h1:W.cell? ⟨g,5,none⟩=some (.int .u64 (W4 k 1)))(h2:W.cell? ⟨g,6,none⟩=some (.int .u64 (W4 k 2)))(h3:W.cell? ⟨g,7,none⟩=some (.int .u64 (W4 k 3))) :
  Nt 4 k (.slice (some ⟨g,4,none⟩) 4 4) W:=by
 unfold Nt
 refine ⟨some ⟨g,4,none⟩,4,4,fun i=>if i<4 then W4 k i else 0,rfl,Nat.le_refl _,⟨Nat.le_refl _,by unfold maxLen;omega,fun i=>?_,fun i hi=>if_neg (by omega),Or.inr ⟨g,4,rfl,hg,fun i hi=>?_⟩⟩,?_⟩
 ·dsimp only
  split
  ·exact zLa k i
  ·exact ⟨Int.le_refl _,by decide⟩
 ·have:i=0∨i=1∨i=2∨i=3:=by omega
  rcases this with rfl|rfl|rfl|rfl
  ·exact h0
  ·exact h1
  ·exact h2
  ·exact h3
 ·have e:=zZb hk
  rw [← e]
  simp [val]
theorem gs_bd (y:Int)(h:-200000<=y/\y<=200000):-100000<=(y*30103).tdiv 100000/\(y*30103).tdiv 100000<=100000:=by
 by_cases h0:0<=y
 ·rw [Int.tdiv_eq_ediv_of_nonneg (by omega)];omega
 ·rw [show y*30103=-(-y*30103) by omega,Int.neg_tdiv,Int.tdiv_eq_ediv_of_nonneg (by omega)];omega
def gsP (k:Nat)(x:Int):Int:=(((bl k:Int)-1+x)*30103).tdiv 100000-1
end
section
attribute [local irreducible] NT NV
theorem zX2 (b n:Nat)(w:World)(hb0:b≠0)(hb:b<18446744073709551616)(hn:n<=60000) :
  CE 25 #[.int .u64 (b:Int),.int .i64 (n:Int)] w (NT (4*n+2) (b^n)):=by
 have hN1:=(zGi (W:=w) (g:=w.heap.size) (V:=1) (vi:=1) rfl rfl (by decide) (by decide)).next (zEa _ (.cells #[.int .u64 (b:Int)] 22))
 have hN2:=zGi (W:=w.alloc (.cells #[.int .u64 1] 22)) (g:=w.heap.size+1) (V:=b) (vi:=(b:Int)) (by simp) rfl hb hb0
 have HB:Hid (Below w.heap.size w ((w.alloc (.cells #[.int .u64 1] 22)).alloc (.cells #[.int .u64 (b:Int)] 22))):=((Below.refl _ _).alloc (Nat.le_refl _) _).alloc (by simp) _
 go_enter Tryz.func25,Tryz.ntmps25
 go_wp2
 generalize (w.alloc (.cells #[.int .u64 1] 22)).alloc (.cells #[.int .u64 (b:Int)] 22)=wA at *
 go_loopw [1,5,6] (fun nv ov sv wr=>∃ (m P X Y:Nat),nv=.int .i64 (m:Int)/\m<=n/\1<=P/\m*P<=n/\P<=2*n+1/\NT (2*P-1) X ov wr/\NT (2*P-1) Y sv wr/\Hid (X*Y^m=b^n)/\Below w.heap.size w wr) (fun nv _ _ _=>(intOf nv).toNat)
 case atStart=>exact ⟨n,1,1,b,rfl,Nat.le_refl _,Nat.le_refl _,by omega,by omega,hN1,hN2,by show _=_;rw [Nat.one_mul],HB.out⟩
 case round =>
  clear hN1 hN2 HB
  obtain ⟨m,P,X,Y,rfl,hmn,hP,hmP,hP2,hN1,hN2,hv,hB⟩:=hrel
  by_cases h0:m=0
  ·subst h0
   have HV:Hid (X=b^n):=by show _=_;have:=hv.out;rw [Nat.pow_zero,Nat.mul_one] at this;exact this
   clear hN2 hv
   go_wp2
   go_ret
   exact ⟨_,rfl,by rw [← HV.out];exact hN1.more (by omega),hB⟩
  ·have hm0:(0:Int)<m:=by omega
   have hPn:P<=n:=by
    have:1*P<=m*P:=Nat.mul_le_mul_right P (by omega)
    omega
   have hq2:(m:Int)/2=((m/2:Nat):Int):=by omega
   have hr2:(m:Int)%2=((m%2:Nat):Int):=by omega
   have hmP':m/2*(2*P)<=n:=by
    have h1:m/2*2<=m:=Nat.div_mul_le_self m 2
    have h2:m/2*2*P<=m*P:=Nat.mul_le_mul_right P h1
    rw [← Nat.mul_assoc];omega
   have HPH:Hid (Y^m=(if m%2=1 then Y else 1)*(Y*Y)^(m/2)):=zUr _ _
   generalize hq:m/2=q at *
   by_cases hodd:m%2=1
   ·rw [hodd] at hr2
    rw [if_pos hodd] at HPH
    have t1:=zZc (by omega) (by omega) hN1.nv hN2.nv
    by_cases hq0:q=0
    ·subst hq0
     have hq00:(m:Int)/2=0:=hq2
     clear hq2
     go_wp2_with (go_at_call 24;refine t1.mono ?_;rintro e w1 ⟨r1,rfl,hr1,hb1⟩;clear t1)
     have HV3:Hid (X*Y*Y^0=b^n):=by
      show _=_
      rw [← hv.out,HPH.out];simp
     have hN2':=hN2.next hb1
     have hB1:=hB.trans (hb1.mono hB.size)
     clear hN1 hN2 hv
     go_roundw
     case rel=>exact ⟨0,2*P,X*Y,Y,rfl,by omega,by omega,by omega,by omega,hr1.more (by omega),hN2'.more (by omega),HV3,hB1⟩
     case measure=>simp [intOf];omega
    ·have hq0':(0:Int)<q:=by omega
     go_wp2_with (go_at_call 24;refine t1.mono ?_;rintro e w1 ⟨r1,rfl,hr1,hb1⟩;clear t1)
     have hB1:=hB.trans (hb1.mono hB.size)
     have hN21:=hN2.next hb1
     have t2:=zZc (by omega) (by omega) hN21.nv hN21.nv
     go_wp2_with (go_at_call 24;refine t2.mono ?_;rintro e w2 ⟨r2,rfl,hr2',hb2⟩;clear t2)
     have HV3:Hid (X*Y*(Y*Y)^q=b^n):=by
      show _=_
      rw [← hv.out,HPH.out,Nat.mul_assoc]
     have hr1':=hr1.next hb2
     have hB2:=hB1.trans (hb2.mono hB1.size)
     clear hN1 hN2 hN21 hr1 hv
     go_roundw
     case rel=>exact ⟨q,2*P,X*Y,Y*Y,rfl,by omega,by omega,by omega,by omega,hr1'.more (by omega),hr2'.more (by omega),HV3,hB2⟩
     case measure=>simp [intOf];omega
   ·have h20:m%2=0:=by omega
    rw [h20] at hr2
    rw [if_neg hodd,Nat.one_mul] at HPH
    have hq0':(0:Int)<q:=by omega
    have t2:=zZc (by omega) (by omega) hN2.nv hN2.nv
    go_wp2_with (go_at_call 24;refine t2.mono ?_;rintro e w2 ⟨r2,rfl,hr2',hb2⟩;clear t2)
    have HV3:Hid (X*(Y*Y)^q=b^n):=by
     show _=_
     rw [← hv.out,HPH.out]
    have hN1':=hN1.next hb2
    have hB2:=hB.trans (hb2.mono hB.size)
    clear hN1 hN2 hv
    go_roundw
    case rel=>exact ⟨q,2*P,X,Y*Y,rfl,by omega,by omega,by omega,by omega,hN1'.more (by omega),hr2'.more (by omega),HV3,hB2⟩
    case measure=>simp [intOf];omega
theorem yBa (n:Nat)(w:World)(hn:n<=60000):CE 25 #[.int .u64 10,.int .i64 (n:Int)] w (NT 4000 (10^n)) :=
 (zX2 10 n w (by decide) (by decide) hn).mono fun r w' ⟨v,e1,e2,e3⟩=>⟨v,e1,e2.tight (by have:=zKf n;omega),e3⟩
theorem zFo (n:Nat)(w:World)(hn:n<=60000):CE 131 #[.int .u64 10,.int .i64 (n:Int)] w (NT 4000 (10^n)):=by
 have c19:=yBa n w hn
 go_enter Tryz.func131,Tryz.ntmps131
 go_wp2_with (go_at_call 25;refine c19.mono ?_;rintro r w1 ⟨v,rfl,hv,hb1⟩)
 go_ret
 exact ⟨v,rfl,hv,hb1⟩
section
variable (x:Int)(vn vd:Value)(A KK:Nat)(w:World)(hx:-60000<=x/\x<=60000)
include hx
theorem zIw (h:0<=x)
  (c79:Calls Tryz.prog 131 #[.int .u64 10,.int .i64 x] w fun e w'=>∃ p,e=.returned p/\Below w.heap.size w w'/\Calls Tryz.prog 24 #[vn,p] w' fun e w''=>∃ r,e=.returned r/\NT KK A r w''/\Below w'.heap.size w' w'') :
  Calls Tryz.prog 85 #[vn,vd,.int .u64 10,.int .i64 x] w fun e w'=>∃ r,e=.returned (.tuple #[r,vd])/\NT KK A r w'/\Below w.heap.size w w':=by
 have e1:max x (-60000)=x:=by omega
 have e2:min x 60000=x:=by omega
 go_enter Tryz.func85,Tryz.ntmps85
 go_wp2_with (first
  | (go_at_call 131;refine c79.mono ?_;rintro e w1 ⟨p,rfl,hb1,c17⟩)
  | (go_at_call 24;refine c17.mono ?_;rintro e w2 ⟨r,rfl,hr,hb2⟩))
 exact bodyPost_ret (v:=.tuple #[r,vd]) (by simp only [results,Tryz.results85];go_simp) rfl ⟨_,rfl,hr,hb1.trans (hb2.mono hb1.size)⟩
theorem zJw (m:Int)(hm:m=-x)(h:¬ 0<=x)
  (c79:Calls Tryz.prog 131 #[.int .u64 10,.int .i64 m] w fun e w'=>∃ p,e=.returned p/\Below w.heap.size w w'/\Calls Tryz.prog 24 #[vd,p] w' fun e w''=>∃ r,e=.returned r/\NT KK A r w''/\Below w'.heap.size w' w'') :
  Calls Tryz.prog 85 #[vn,vd,.int .u64 10,.int .i64 x] w fun e w'=>∃ r,e=.returned (.tuple #[vn,r])/\NT KK A r w'/\Below w.heap.size w w':=by
 have e1:max x (-60000)=x:=by omega
 have e2:min x 60000=x:=by omega
 subst hm
 go_enter Tryz.func85,Tryz.ntmps85
 go_wp2_with (first
  | (go_at_call 131;refine c79.mono ?_;rintro e w1 ⟨p,rfl,hb1,c17⟩)
  | (go_at_call 24;refine c17.mono ?_;rintro e w2 ⟨r,rfl,hr,hb2⟩))
 exact bodyPost_ret (v:=.tuple #[vn,r]) (by simp only [results,Tryz.results85];go_simp) rfl ⟨_,rfl,hr,hb1.trans (hb2.mono hb1.size)⟩
end
theorem zZp {N D:Nat}{vn vd:Value}{w:World}(x:Int)(hx:-60000<=x/\x<=60000)(h:NT 7000 N vn w)(h':NT 7000 D vd w)(hN:bl N<=200000)(hD:bl D<=200000) :
  Calls Tryz.prog 85 #[vn,vd,.int .u64 10,.int .i64 x] w fun e w'=>∃ a b,e=.returned (.tuple #[a,b])/\NT 7000 (N*10^x.toNat) a w'/\NT 7000 (D*10^(-x).toNat) b w'/\Below w.heap.size w w':=by
 by_cases hp:0<=x
 ·have c79:=zFo x.toNat w (by omega)
  rw [show ((x.toNat:Nat):Int)=x by omega] at c79
  rw [show (-x).toNat=0 by omega,Nat.pow_zero,Nat.mul_one]
  have b1:=zSl N (10^x.toNat)
  have b2:=zKf x.toNat
  exact (zIw x vn vd (N*10^x.toNat) 7000 w hx hp (c79.mono fun e w' ⟨p,e1,e2,e3⟩=>⟨p,e1,e3,(zZc (by decide) (by decide) (h.next e3).nv e2.nv).mono fun e w'' ⟨r,f1,f2,f3⟩=>⟨r,f1,f2.tight (by omega),f3⟩⟩)).mono fun e w' ⟨r,e1,e2,e3⟩=>⟨_,_,e1,e2,h'.next e3,e3⟩
 ·have c79:=zFo (-x).toNat w (by omega)
  rw [show (((-x).toNat:Nat):Int)=-x by omega] at c79
  rw [show x.toNat=0 by omega,Nat.pow_zero,Nat.mul_one]
  have b1:=zSl D (10^(-x).toNat)
  have b2:=zKf (-x).toNat
  exact (zJw x vn vd (D*10^(-x).toNat) 7000 w hx (-x) rfl hp (c79.mono fun e w' ⟨p,e1,e2,e3⟩=>⟨p,e1,e3,(zZc (by decide) (by decide) (h'.next e3).nv e2.nv).mono fun e w'' ⟨r,f1,f2,f3⟩=>⟨r,f1,f2.tight (by omega),f3⟩⟩)).mono fun e w' ⟨r,e1,e2,e3⟩=>⟨_,_,e1,h.next e3,e2,e3⟩
theorem zSn {N D:Nat}{E:Int}(hD:0<D)(h:tnG N D E):3*E<=bl N:=by
 rcases Int.lt_or_le E 0 with q|q
 ·omega
 ·unfold tnG at h
  rw [show (-E).toNat=0 by omega,Nat.pow_zero,Nat.mul_one] at h
  have h1:10^E.toNat<=N:=Nat.le_trans (Nat.le_mul_of_pos_left _ hD) h
  have h2:N<2^bl N:=bl_le.1 (Nat.le_refl _)
  have h3:(8:Nat)^E.toNat<=10^E.toNat:=Nat.pow_le_pow_left (by decide) _
  have h4:(2:Nat)^(3*E.toNat)<2^bl N:=by
   rw [Nat.pow_mul]
   exact Nat.lt_of_le_of_lt (Nat.le_trans h3 h1) h2
  have:=(Nat.pow_lt_pow_iff_right (a:=2) (by decide)).1 h4
  omega
theorem zYu {N D:Nat}{E:Int}(hN:0<N)(h:¬ tnG N D E):-(bl D:Int)<=3*E:=by
 rcases Int.lt_or_le 0 E with q|q
 ·omega
 ·unfold tnG at h
  rw [show E.toNat=0 by omega,Nat.pow_zero,Nat.mul_one] at h
  have h1:10^(-E).toNat<D:=by
   have:10^(-E).toNat<=N*10^(-E).toNat:=Nat.le_mul_of_pos_left _ hN
   omega
  have h2:D<2^bl D:=bl_le.1 (Nat.le_refl _)
  have h3:(8:Nat)^(-E).toNat<=10^(-E).toNat:=Nat.pow_le_pow_left (by decide) _
  have h4:(2:Nat)^(3*(-E).toNat)<2^bl D:=by
   rw [Nat.pow_mul]
   exact Nat.lt_of_le_of_lt (Nat.le_trans h3 (Nat.le_of_lt h1)) h2
  have:=(Nat.pow_lt_pow_iff_right (a:=2) (by decide)).1 h4
  omega
theorem rtensW (vn vd:Value)(LN LD E:Int)(w:World)(T:Int->Prop)(hL:0<=LN/\LN<=150000/\0<=LD/\LD<=150000)(hE:-59000<=E/\E<=59000)(t1:∀ e,e<=E->T e)(t2:∀ e,E<e->¬ T e)
  (c56n:∀ W,Below w.heap.size w W->CQ 91 #[vn] W (.int .i64 LN))
  (c56d:∀ W,Below w.heap.size w W->CQ 91 #[vd] W (.int .i64 LD))
  (cy:∀ W e (y:Int),y=-e->-59900<=e/\e<=59900->T e->Below w.heap.size w W->Calls Tryz.prog 85 #[vn,vd,.int .u64 10,.int .i64 y] W fun r w'=>∃ a b,r=.returned (.tuple #[a,b])/\(Calls Tryz.prog 42 #[a,b] w' fun r w''=>∃ sv:Int,r=.returned (.int .i64 sv)/\¬ sv<0/\w'=w'')/\Below W.heap.size W w')
  (cn:∀ W e (y:Int),y=-e->-59900<=e/\e<=59900->¬ T e->Below w.heap.size w W->Calls Tryz.prog 85 #[vn,vd,.int .u64 10,.int .i64 y] W fun r w'=>∃ a b,r=.returned (.tuple #[a,b])/\(Calls Tryz.prog 42 #[a,b] w' fun r w''=>∃ sv:Int,r=.returned (.int .i64 sv)/\sv<0/\w'=w'')/\Below W.heap.size W w') :
  CB 86 #[vn,vd] w (.int .i64 E):=by
 have hgs:=gs_bd (LN-LD) (by omega)
 have HG:Hid (-59000<=((LN-LD)*30103).tdiv 100000/\((LN-LD)*30103).tdiv 100000<=59000):=by
  show _/\_
  by_cases h0:0<=LN-LD
  ·rw [Int.tdiv_eq_ediv_of_nonneg (by omega)];omega
  ·rw [show (LN-LD)*30103=-(-(LN-LD)*30103) by omega,Int.neg_tdiv,Int.tdiv_eq_ediv_of_nonneg (by omega)];omega
 go_enter Tryz.func86,Tryz.ntmps86
 go_wp2_with (first
  | (go_at_call_of 91 vn;refine (c56n _ bgo).mono ?_;rintro r w1 ⟨rfl,rfl⟩)
  | (go_at_call_of 91 vd;refine (c56d _ bgo).mono ?_;rintro r w1 ⟨rfl,rfl⟩))
 have hg:=HG.out
 generalize ((LN-LD)*30103).tdiv 100000=e0 at *
 clear hgs HG c56n c56d
 rename World=>w
 go_loopw [5] (fun t5 wr=>∃ e:Int,t5=.int .i64 e/\-59000<=e/\e<=59000/\Below w.heap.size w wr) (fun t5 _=>(intOf t5-E).natAbs)
 case atStart=>exact ⟨e0,rfl,hg.1,hg.2,Below.refl _ _⟩
 case round =>
  obtain ⟨e,rfl,h1,h2,hB⟩:=hrel
  by_cases hlt:E<e
  ·have c30:=cn wr e (-e) rfl (by omega) (t2 e hlt) hB
   go_wp2_with (first
    | (go_at_call 85;refine c30.mono ?_;rintro r w1 ⟨a1,b1,rfl,c38,hb1⟩)
    | (go_at_call 42;refine c38.mono ?_;rintro r w2 ⟨sv,rfl,hsv,rfl⟩))
   go_roundw
   case rel=>exact ⟨e-1,by go_num,by omega,by omega,bnx hB hb1⟩
   case measure=>simp [intOf];omega
  ·have c30:=cy wr e (-e) rfl (by omega) (t1 e (by omega)) hB
   by_cases heq:e=E
   ·subst heq
    have c30b:=fun W (hW:Below w.heap.size w W)=>cn W (e+1) (-e-1) (by omega) (by omega) (t2 _ (by omega)) hW
    go_wp2_with (first
     | (go_at_call 85;refine (c30b _ (bnx hB hb1)).mono ?_;rintro r w3 ⟨a2,b2,rfl,d38,hb3⟩)
     | (go_at_call 85;refine c30.mono ?_;rintro r w1 ⟨a1,b1,rfl,c38,hb1⟩)
     | (go_at_call 42;refine d38.mono ?_;rintro r w4 ⟨sv2,rfl,hsv2,rfl⟩)
     | (go_at_call 42;refine c38.mono ?_;rintro r w2 ⟨sv,rfl,hsv,rfl⟩))
    go_ret
    exact ⟨rfl,bnx (bnx hB hb1) hb3⟩
   ·have c30b:=fun W (hW:Below w.heap.size w W)=>cy W (e+1) (-e-1) (by omega) (by omega) (t1 _ (by omega)) hW
    go_wp2_with (first
     | (go_at_call 85;refine (c30b _ (bnx hB hb1)).mono ?_;rintro r w3 ⟨a2,b2,rfl,d38,hb3⟩)
     | (go_at_call 85;refine c30.mono ?_;rintro r w1 ⟨a1,b1,rfl,c38,hb1⟩)
     | (go_at_call 42;refine d38.mono ?_;rintro r w4 ⟨sv2,rfl,hsv2,rfl⟩)
     | (go_at_call 42;refine c38.mono ?_;rintro r w2 ⟨sv,rfl,hsv,rfl⟩))
    go_roundw
    case rel=>exact ⟨e+1,by go_num,by omega,by omega,bnx (bnx hB hb1) hb3⟩
    case measure=>simp [intOf];omega
theorem rtensT {N D:Nat}{E:Int}{vn vd:Value}{w:World}(hN0:0<N)(hD0:0<D)(hE:TnE N D E)(hN:bl N<=150000)(hD:bl D<=150000)(h:NT 7000 N vn w)(h':NT 7000 D vd w) :
  CB 86 #[vn,vd] w (.int .i64 E):=by
 have u:=zSn hD0 hE.1
 have l:=zYu hN0 hE.2
 have sc:∀ W e (y:Int),y=-e->-59900<=e/\e<=59900->Below w.heap.size w W->Calls Tryz.prog 85 #[vn,vd,.int .u64 10,.int .i64 y] W fun r w'=>∃ a b,r=.returned (.tuple #[a,b])/\(Calls Tryz.prog 42 #[a,b] w' fun r w''=>r=.returned (.int .i64 (sgn ((N*10^(-e).toNat:Nat):Int) ((D*10^e.toNat:Nat):Int)))/\w'=w'')/\Below W.heap.size W w':=by
  rintro W e y rfl he hW
  refine (zZp (-e) (by omega) (h.next hW) (h'.next hW) (by omega) (by omega)).mono fun r w' ⟨a,b,e1,e2,e3,e4⟩=>⟨a,b,e1,?_,e4⟩
  rw [Int.neg_neg] at e3
  exact zWj (by decide) (by decide) e2.nv e3.nv
 refine rtensW vn vd (bl N) (bl D) E w (fun e=>tnG N D e) (by omega) (by omega) (fun e he=>zFl hE.1 he) (fun e he h'=>hE.2 (zFl h' (by omega))) (fun W hW=>zOw (by decide) (h.next hW).nv) (fun W hW=>zOw (by decide) (h'.next hW).nv) ?_ ?_
 ·intro W e y hy he ht hW
  refine (sc W e y hy he hW).mono fun r w' ⟨a,b,e1,e2,e3⟩=>⟨a,b,e1,e2.mono fun r w'' ⟨f1,f2⟩=>⟨_,f1,?_,f2⟩,e3⟩
  have:D*10^e.toNat<=N*10^(-e).toNat:=ht
  rcases zUc ((N*10^(-e).toNat:Nat):Int) ((D*10^e.toNat:Nat):Int) with ⟨a,e⟩|⟨a,e⟩|⟨a,e⟩<;>omega
 ·intro W e y hy he ht hW
  refine (sc W e y hy he hW).mono fun r w' ⟨a,b,e1,e2,e3⟩=>⟨a,b,e1,e2.mono fun r w'' ⟨f1,f2⟩=>⟨_,f1,?_,f2⟩,e3⟩
  have:¬ D*10^e.toNat<=N*10^(-e).toNat:=ht
  rcases zUc ((N*10^(-e).toNat:Nat):Int) ((D*10^e.toNat:Nat):Int) with ⟨a,e⟩|⟨a,e⟩|⟨a,e⟩<;>omega
end
section
theorem yKd {a b k:Nat}(h:a<=b)(hb:bl b<=k):bl a<=k:=bl_le.2 (Nat.lt_of_le_of_lt h (bl_le.1 hb))
def OvTrm (X Y:Int)(w:World)(e:Ending)(w':World):Prop :=
 ∃ g k cap z g' k' cap' z',e=.returned (.tuple #[.slice (some ⟨g,0,none⟩) k cap,.slice (some ⟨g',0,none⟩) k' cap'])/\k<=41000/\k'<=41000/\Num w' (some ⟨g,0,none⟩) k cap z/\Num w' (some ⟨g',0,none⟩) k' cap' z'/\val z k=X/Y/\val z' k'=X%Y/\Below w.heap.size w w'/\sizeL z' k'=k'/\sizeL z k=k
theorem zTx (ga gb s c t c':Nat)(x y:Nat->Int)(w:World)(hs:s<=20000)(ht2:t<=20000)(ht:2<=t)(h:Num w (some ⟨ga,0,none⟩) s c x)(h':Num w (some ⟨gb,0,none⟩) t c' y)(hxs:sizeL x s=s)(hys:sizeL y t=t) :
  Calls Tryz.prog 56 #[.slice (some ⟨ga,0,none⟩) s c,.slice (some ⟨gb,0,none⟩) t c'] w (OvTrm (val x s) (val y t) w):=by
 have hx:=h.2.2.1
 have hy:=h'.2.2.1
 have HXS:Hid (sizeL x s=s):=hxs
 have c31:=zZg _ t c' y w (by omega) h'
 rw [hys] at c31
 have c20:=zTe _ s c x w (by omega) h
 have c20':=zTe _ t c' y w (by omega) h'
 have c45:=zMb _ s c x w (by omega) h
 rw [hxs] at c45
 have hlx:0<=lenL x s/\lenL x s<=64*s:=by
  unfold lenL;rw [hxs]
  split
  ·omega
  ·have:=zXc (x (s-1)).toNat;omega
 have hY0:0<val y t:=zOj hy t (by omega) hys
 have hX0:=(zRa hx s).1
 obtain ⟨Ly,hLy,hy1,hy2⟩:=zKg hy (n:=t) (by omega)
 have hne:((t:Int)==1)=false:=by simp;omega
 -- the number below the divisor times 2^(far + 1)
 have key:∀ F:Int,lenL x s-lenL y t=F->(F<0->val x s<val y t)/\(0<=F->val x s<val y t*2^(F.toNat+1)):=by
  intro F hF
  rcases Nat.eq_zero_or_pos s with h0|h0
  ·subst h0
   have e0:val x 0=0:=rfl
   refine ⟨fun _=>by rw [e0];exact hY0,fun _=>by rw [e0];exact Int.mul_pos hY0 (zHb _)⟩
  ·obtain ⟨Lx,hLx,hx1,hx2⟩:=zKg hx (n:=s) (by omega)
   have mono:∀ a b:Nat,a<=b->(2:Int)^a<=2^b:=fun a b hab=>by
    obtain ⟨k,rfl⟩:∃ k,b=a+k:=⟨b-a,by omega⟩
    rw [Int.pow_add]
    have:=zHb a
    have h3:=zHb k
    have:(2:Int)^a*1<=2^a*2^k:=Int.mul_le_mul_of_nonneg_left (by omega) (by omega)
    omega
   refine ⟨fun hneg=>?_,fun hpos=>?_⟩
   ·have:=mono (Lx+1) Ly (by omega);omega
   ·have e1:Lx+1=Ly+(F.toNat+1):=by omega
    have h5:2^Ly*2^(F.toNat+1)<=val y t*2^(F.toNat+1):=Int.mul_le_mul_of_nonneg_right hy1 (Int.le_of_lt (zHb _))
    rw [← Int.pow_add,← e1] at h5
    omega
 have hlyb:0<=lenL y t/\lenL y t<=64*t:=by
  unfold lenL;rw [hys]
  split
  ·omega
  ·have:=zXc (y (t-1)).toNat;omega
 obtain ⟨F,hF⟩:∃ F,lenL x s-lenL y t=F:=⟨_,rfl⟩
 have hk:=key F hF
 have hFb:F<=1280000:=by omega
 generalize lenL x s=LX at *
 generalize lenL y t=LY at *
 have HXN:Hid (Num w (some ⟨ga,0,none⟩) s c x):=h
 have HYN:Hid (Num w (some ⟨gb,0,none⟩) t c' y):=h'
 clear key h h' hy1 hy2 hLy hx hy
 obtain ⟨X,hX⟩:∃ X,val x s=X:=⟨_,rfl⟩
 obtain ⟨Y,hY⟩:∃ Y,val y t=Y:=⟨_,rfl⟩
 rw [hX,hY] at hk
 rw [hX] at hX0
 rw [hY] at hY0
 rw [hX,hY]
 have HX:Hid (val x s=X):=hX
 have HY:Hid (val y t=Y):=hY
 clear hX hY
 by_cases hneg:F<0
 ·have hXY:=hk.1 hneg
  have HV:Hid (X/Y=0/\X%Y=X):=⟨Int.ediv_eq_zero_of_lt hX0 hXY,Int.emod_eq_of_lt hX0 hXY⟩
  have HF:Hid (LX-LY=F):=hF
  have hFn:LX-LY<0:=by omega
  clear hk hF
  go_enter Tryz.func56,Tryz.ntmps56
  go_wp2_with (first|(go_at_call 98;refine c31.mono ?_;rintro e w' ⟨rfl,rfl⟩)|(go_at_call_of 91 (Value.slice (some ⟨ga,0,none⟩) s c);refine c20.mono ?_;rintro e w' ⟨rfl,rfl⟩;clear c20)|(go_at_call_of 91 (Value.slice (some ⟨gb,0,none⟩) t c');refine c20'.mono ?_;rintro e w' ⟨rfl,rfl⟩)|(go_at_call 44;refine c45.mono ?_;rintro e w1 ⟨g1,p1,rfl,hN1,hB1⟩))
  go_ret2
  have hb:=zEa w1 (.cells #[] 22)
  exact ⟨w1.heap.size,0,0,fun _=>0,g1,s,p1,x,rfl,by omega,by omega,⟨Nat.le_refl _,by unfold maxLen;omega,fun _=>(by decide:(0:Int)<=0/\(0:Int)<=18446744073709551615),fun _ _=>rfl,Or.inr ⟨w1.heap.size,0,rfl,by simp,fun i hi=>by omega⟩⟩,hN1.next hb,by rw [HV.out.1];rfl,by rw [HV.out.2];exact HX.out,hB1.trans (hb.mono hB1.size),HXS.out,rfl⟩
 ·obtain ⟨N,rfl⟩:=Int.eq_ofNat_of_zero_le (show 0<=F by omega)
  have hXb:=hk.2 (by omega)
  rw [Int.toNat_natCast] at hXb
  obtain ⟨m0,hm0⟩:∃ m0:Nat,(N:Int)/64=m0:=⟨N/64,by omega⟩
  have hmk:=fun w=>zWa ((m0:Int)+1) (m0+1) (by omega) (by omega) w
  have hm0b:m0<=20000:=by omega
  have hm0n:m0=N/64:=by omega
  have HM0:Hid (m0=N/64):=hm0n
  clear hk hm0n
  go_enter Tryz.func56,Tryz.ntmps56
  go_wp2_with (first|(go_at_call 98;refine c31.mono ?_;rintro e w' ⟨rfl,rfl⟩)|(go_at_call_of 91 (Value.slice (some ⟨ga,0,none⟩) s c);refine c20.mono ?_;rintro e w' ⟨rfl,rfl⟩;clear c20)|(go_at_call_of 91 (Value.slice (some ⟨gb,0,none⟩) t c');refine c20'.mono ?_;rintro e w' ⟨rfl,rfl⟩)|(go_at_call 44;refine c45.mono ?_;rintro e w1 ⟨g1,p1,rfl,hN1,hB1⟩))
  have hb1:=zEa w1 (.cells (arrOf (fun _=>0) (m0+1)) 22)
  have hBq:=hB1.trans (hb1.mono hB1.size)
  have c49:=zNh gb 0 t c' N y _ (by omega) (by omega) (by omega) (HYN.out.next hBq)
  rw [Int.toNat_natCast,HY.out] at c49
  have hO0:=Own.new w1 (fun _=>0) (m0+1)
  have hg1lt:g1<w1.heap.size:=by
   rcases hN1.2.2.2.2 with ⟨h,_⟩|⟨b,off,h,hb,_⟩
   ·cases h
   ·cases h;exact hb
  have hsz:(w1.alloc (.cells (arrOf (fun _=>0) (m0+1)) 22)).heap.size=w1.heap.size+1:=by simp
  go_wp2_with (go_at_call 95;refine c49.mono ?_;rintro e w2 ⟨g2,k2,p2,z2,rfl,hk2,hN2,hv2,hb2,hf2,htr2⟩;clear c49 htr2)
  rw [hsz] at hf2 hb2
  have hB2:=hBq.trans (hb2.mono (by have:=hB1.size;omega))
  have hNr:=(hN1.next hb1).next (by rw [hsz];exact hb2)
  have hO2:=Below.own hb2 (by omega) hO0
  generalize hgq:w1.heap.size=gq at *
  have hBsz:=hB1.size
  have HGq:Hid (w.heap.size<=gq):=by show _<=_;omega
  have hgq2:gq<w2.heap.size:=by have:=hb2.size;omega
  clear hN1 hB1 hb1 hBq hO0 hb2 hsz hBsz hgq
  go_loopw [7,9,10,65] (fun rv dv iv u65 wr=>∃ (k g1 k1 p1 g2 k2 p2:Nat) (z1 z2 q:Nat->Int),k<=N+1/\iv=.int .i64 ((k:Int)-1)/\rv=.slice (some ⟨g1,0,none⟩) k1 p1/\dv=.slice (some ⟨g2,0,none⟩) k2 p2/\k1<=40002/\k2<=40002/\g1≠gq/\g2≠gq/\gq<wr.heap.size/\Num wr (some ⟨g1,0,none⟩) k1 p1 z1/\Num wr (some ⟨g2,0,none⟩) k2 p2 z2/\Own gq (m0+1) q wr/\zFa q/\Hid (val q (m0+1)*Y+val z1 k1=X)/\Hid (val z1 k1<Y*2^k)/\Hid (0<k->val z2 k2=Y*2^(k-1))/\Hid (val q (m0+1)%2^k=0)/\Hid (sizeL z1 k1=k1)/\Below w.heap.size w wr) (fun _ _ iv _ _=>(intOf iv+1).toNat)
  case atStart=>exact ⟨N+1,g1,s,p1,g2,k2,p2,x,z2,fun _=>0,Nat.le_refl _,by go_num,rfl,rfl,by omega,by omega,by omega,by omega,hgq2,hNr,hN2,hO2,fun _=>(by decide:(0:Int)<=0/\(0:Int)<=18446744073709551615),by show _=_;rw [zWd,Int.zero_mul,Int.zero_add,HX.out],by show _<_;rw [HX.out];exact hXb,fun _=>hv2,by show _=_;rw [zWd];exact Int.zero_emod _,HXS,hB2⟩
  case round =>
   clear hNr hN2 hO2 hB2 hv2 hk2 hf2 hg1lt hgq2 hXb c31 c20' c45
   obtain ⟨k,g1,k1,p1,g2,k2,p2,z1,z2,q,hk,rfl,rfl,rfl,hk1,hk2,hg1,hg2,hgq,hN1,hN2,hO,hqw,hv,hlt,hd,hmod,htr,hB⟩:=hrel
   by_cases h0:k=0
   ·subst h0
    have hQN:=hO.num hqw 0 (m0+1) (m0+1) (by omega) (Nat.le_refl _) (by unfold maxLen;omega)
    have c45:=zMb _ (m0+1) (m0+1) _ _ (by omega) hQN
    have hle:=zGa (segW q 0 (m0+1)) (m0+1)
    have e1:val (segW q 0 (m0+1)) (sizeL (segW q 0 (m0+1)) (m0+1))=val q (m0+1):=by
     rw [zOa];exact zIa _ fun i hi=>by rw [zUa _ _ _ i hi,Nat.zero_add]
    have HFIN:Hid (val (segW q 0 (m0+1)) (sizeL (segW q 0 (m0+1)) (m0+1))=X/Y/\val z1 k1=X%Y):=by
     have h1:=hv.out
     have h2:=hlt.out
     rw [Int.pow_zero,Int.mul_one] at h2
     have:=(Int.ediv_emod_unique hY0 (a:=X) (r:=val z1 k1) (q:=val q (m0+1))).2 ⟨by rw [Int.mul_comm];omega,(zRa hN1.2.2.1 k1).1,h2⟩
     exact ⟨by rw [e1];exact this.1.symm,this.2.symm⟩
    have HN1:Hid (Num wr (some ⟨g1,0,none⟩) k1 p1 z1):=hN1
    have HSS:Hid (sizeL (segW q 0 (m0+1)) (sizeL (segW q 0 (m0+1)) (m0+1))=sizeL (segW q 0 (m0+1)) (m0+1)):=zHa _ _
    generalize segW q 0 (m0+1)=qz at *
    generalize sizeL qz (m0+1)=kq at *
    clear hQN hO hqw hv hlt hd hmod hN1 hN2 e1
    go_wp2_with (go_at_call 44;refine c45.mono ?_;rintro e w3 ⟨g3,p3,rfl,hN3,hB3⟩)
    go_ret2
    exact ⟨g3,kq,p3,qz,g1,k1,p1,z1,rfl,by omega,by omega,hN3,HN1.out.next hB3,HFIN.out.1,HFIN.out.2,hB.trans (hB3.mono hB.size),htr.out,HSS.out⟩
   ·obtain ⟨j,rfl⟩:∃ j,k=j+1:=⟨k-1,by omega⟩
    have ej:((j+1:Nat):Int)-1=j:=by omega
    rw [ej]
    have hdv:val z2 k2=Y*2^j:=hd.out (by omega)
    have hT:=zHb j
    have hdp:0<val z2 k2:=by rw [hdv];exact Int.mul_pos hY0 hT
    have hk2p:=zCq hdp
    have c16:=zGj _ _ k1 p1 k2 p2 z1 z2 wr (by omega) (by omega) hN1 hN2
    have HLT:Hid (val z1 k1<Y*2^j*2):=by show _<_;have:=hlt.out;rw [Int.pow_succ,← Int.mul_assoc] at this;exact this
    have HMOD:Hid (val q (m0+1)%(2^j*2)=0):=by show _=_;have:=hmod.out;rw [Int.pow_succ] at this;exact this
    have HMODF:Hid (val q (m0+1)%2^(j+1)=0):=hmod
    have HN':Hid (∀ (z':Nat->Int) (k':Nat),(∀ V,val z2 k2=V*2->val z' k'=V)->0<j->val z' k'=Y*2^(j-1)):=fun z' k' hh hj=>hh _ (by rw [hdv,Int.mul_assoc,← Int.pow_succ];congr 2;omega)
    have HJ:Hid (j<=N):=by show _<=_;omega
    clear ej hd hlt hmod
    by_cases hge:Y*2^j<=val z1 k1
    ·have hsg:0<=sgn (val z1 k1) (val z2 k2):=by unfold sgn;rw [if_neg (by omega)];split<;>omega
     have c37:=zMi _ _ k1 p1 k2 p2 z1 z2 wr (by omega) (by omega) hN1 hN2 (by rw [hdv];exact hge)
     generalize sgn (val z1 k1) (val z2 k2)=sg at *
     obtain ⟨m,hmj⟩:∃ m:Nat,(j:Int)/64=m:=⟨j/64,by omega⟩
     obtain ⟨r,hrj⟩:∃ r:Nat,(j:Int)%64=r:=⟨j%64,by omega⟩
     have hr64:r<64:=by omega
     have hjm:j=64*m+r:=by omega
     have hmm:m<m0+1:=by have:=HJ.out;have:=HM0.out;omega
     have hmi:(m:Int)<((m0+1:Nat):Int):=by omega
     have hob:=zVx (hqw m) hr64 (zYl hqw hmm (show r+1<=64 by omega) (by have:=HMODF.out;rw [hjm] at this;exact this))
     have HOR:Hid (bits BinOp.or IntKind.u64 (q m) (2^r)=q m+2^r):=hob.1
     have hpr:=zHb r
     have hpl:=zKm hr64
     have HQ2:Hid (val (fun i=>if i=m then q m+2^r else q i) (m0+1)=val q (m0+1)+2^j):=by
      show _=_
      rw [zGd q m (q m+2^r) (m0+1) hmm]
      have e9:(2:Int)^j=2^r*18446744073709551616^m:=by rw [p64,← hjm]
      rw [e9];congr 1;congr 1;omega
     have HQW2:Hid (zFa (fun i=>if i=m then q m+2^r else q i)):=zTb hqw ⟨by have:=hqw m;omega,hob.2⟩
     have bq:=hqw m
     have HO:Hid (Own gq (m0+1) q wr):=hO
     have HN2:Hid (Num wr (some ⟨g2,0,none⟩) k2 p2 z2):=hN2
     have hob2:=hob.2
     have HD:Hid (val z2 k2=Y*2^j):=hdv
     clear hN1 hN2 hO hqw hob hjm HMODF
     go_wp2_with (first|(go_at_call 42;refine c16.mono ?_;rintro e w' ⟨rfl,rfl⟩)|(go_at_call 89;refine c37.mono ?_;rintro e w3 ⟨g3,k3,p3,z3,rfl,hk3,hN3,hv3,hb3,hf3,htr3⟩;have HT3:Hid (sizeL z3 k3=k3):=htr3;clear htr3;have hO3:=Below.own hb3 hgq HO.out;have hcq:=hO3.cell m hmm;have hfq:=hO3.frozen m))
     have hU3:Upd gq w3 (w3.setCell ⟨gq,m,none⟩ (.int .u64 (bits BinOp.or IntKind.u64 (q m) (2^r)))):=(Upd.refl gq w3).set m _
     have hO4:=hO3.set m (q m+2^r)
     rw [← HOR.out] at hO4
     have hN24:=hU3.num hg2 (HN2.out.next hb3)
     have hN34:=hU3.num (by omega) hN3
     have hB3:=(hB.trans (hb3.mono hB.size)).trans (hU3.below HGq.out)
     have hsz3:w3.heap.size<=(w3.setCell ⟨gq,m,none⟩ (.int .u64 (bits BinOp.or IntKind.u64 (q m) (2^r)))).heap.size:=Nat.le_of_eq hU3.size.symm
     have hgq3:=hb3.size
     have c51:=zDg g2 k2 p2 z2 _ hk2p (by omega) hN24
     clear hO3 hN3 hN24 hU3 hb3
     generalize w3.setCell ⟨gq,m,none⟩ (.int .u64 (bits BinOp.or IntKind.u64 (q m) (2^r)))=wS at *
     go_wp2_with (go_at_call 58;refine c51.mono ?_;rintro e w4 ⟨g4,k4,p4,bb,z4,rfl,hk4,hN4,hhf,hb4,hf4⟩)
     have hgS:gq<wS.heap.size:=by omega
     go_roundw
     case rel =>
      refine ⟨j,g3,k3,p3,g4,k4,p4,z3,z4,fun i=>if i=m then q m+2^r else q i,by have:=HJ.out;omega,by go_num,rfl,rfl,by omega,by omega,by omega,by omega,by have:=hb4.size;omega,hN34.next hb4,hN4,?_,HQW2.out,?_,?_,fun hj=>HN'.out z4 k4 hhf hj,?_,HT3,hB3.trans (hb4.mono hB3.size)⟩
      ·have:=Below.own hb4 hgS hO4
       rw [HOR.out] at this
       exact this
      ·show _=_
       rw [HQ2.out,hv3,HD.out,Int.add_mul,Int.mul_comm (2^j) Y]
       have:=hv.out
       omega
      ·show _<_
       rw [hv3,HD.out]
       have:=HLT.out
       omega
      ·show _=_
       rw [HQ2.out,Int.add_emod_right]
       exact zZf HMOD.out
     case measure=>simp [intOf]
    ·have hs1:sgn (val z1 k1) (val z2 k2)=-1:=by unfold sgn;rw [if_pos (by omega)]
     rw [hs1] at c16
     have c51:=zDg g2 k2 p2 z2 wr hk2p (by omega) hN2
     have HN1:Hid (Num wr (some ⟨g1,0,none⟩) k1 p1 z1):=hN1
     have HO:Hid (Own gq (m0+1) q wr):=hO
     have HQW:Hid (zFa q):=hqw
     clear hN1 hN2 hO hqw hs1
     go_wp2_with (first|(go_at_call 42;refine c16.mono ?_;rintro e w' ⟨rfl,rfl⟩)|(go_at_call 58;refine c51.mono ?_;rintro e w4 ⟨g4,k4,p4,bb,z4,rfl,hk4,hN4,hhf,hb4,hf4⟩))
     go_roundw
     case rel=>exact ⟨j,g1,k1,p1,g4,k4,p4,z1,z4,q,by have:=HJ.out;omega,by go_num,rfl,rfl,hk1,by omega,hg1,by omega,by have:=hb4.size;omega,HN1.out.next hb4,hN4,Below.own hb4 hgq HO.out,HQW.out,hv,by show _<_;omega,fun hj=>HN'.out z4 k4 hhf hj,zZf HMOD.out,htr,hB.trans (hb4.mono hB.size)⟩
     case measure=>simp [intOf]
theorem zGo {K N D:Nat}{vn vd:Value}{w:World}(hK:K<=20000)(h:NT K N vn w)(h':NT K D vd w)(hD:D≠0) :
  Calls Tryz.prog 56 #[vn,vd] w fun e w'=>∃ q r,e=.returned (.tuple #[q,r])/\NT 41000 (N/D) q w'/\NT 41000 (N%D) r w'/\Below w.heap.size w w':=by
 obtain ⟨ga,s,c,x,rfl,hs,hN,hx,hxs⟩:=h
 obtain ⟨gb,t,c',y,rfl,ht,hN',hy,hys⟩:=h'
 have ht0:t≠0:=by
  intro e;subst e
  have:val y 0=0:=rfl
  omega
 by_cases ht1:t=1
 ·subst ht1
  refine (zXj ga gb s c c' x y w (by omega) hN hN' hys).mono ?_
  rintro e w' ⟨g,k,cap,z,g',k',cap',z',e1,hk,hk',hA,hB,hv,hs1,hv',hs2,hb,hg⟩
  refine ⟨_,_,e1,⟨g,k,cap,z,rfl,by omega,hA,?_,hs1⟩,⟨g',k',cap',z',rfl,by omega,hB,?_,hs2⟩,hb⟩
  ·rw [hv,hx,hy];rfl
  ·rw [hv',hx,hy];rfl
 ·refine (zTx ga gb s c t c' x y w (by omega) (by omega) (by omega) hN hN' hxs hys).mono ?_
  rintro e w' ⟨g,k,cap,z,g',k',cap',z',e1,hk,hk',hA,hB,hv,hv',hb,htr,hq⟩
  refine ⟨_,_,e1,⟨g,k,cap,z,rfl,hk,hA,?_,hq⟩,⟨g',k',cap',z',rfl,hk',hB,?_,htr⟩,hb⟩
  ·rw [hv,hx,hy];rfl
  ·rw [hv',hx,hy];rfl
attribute [local irreducible] NT NV
theorem zG8 {Q:Nat}{va vb:Value}{w:World}(d:Int)(s:Bool)(cap0:Nat)
  (c99:Calls Tryz.prog 56 #[va,vb] w fun e w1=>∃ q g cap,e=.returned (.tuple #[q,.slice (some ⟨g,0,none⟩) 0 cap])/\NT 41000 Q q w1/\Below w.heap.size w w1) :
  Calls Tryz.prog 87 #[.int .i64 d,.bool s,va,vb] w fun e w'=>∃ q,e=.returned (.tuple #[q,.bool true])/\NT 41000 Q q w'/\Below w.heap.size w w':=by
 go_enter Tryz.func87,Tryz.ntmps87
 go_wp2_with (go_at_call 56;refine c99.mono ?_;rintro e w1 ⟨q,g,cap,rfl,hq,hb1⟩)
 exact bodyPost_ret (v:=.tuple #[q,.bool true]) (by simp only [results,Tryz.results87];go_simp) rfl ⟨_,rfl,hq,hb1⟩
theorem zTp {K A B:Nat}{va vb:Value}{w:World}(d:Int)(s:Bool)(hK:K<=20000)(h:NT K A va w)(h':NT K B vb w)(hB:B≠0)(h0:A%B=0) :
  Calls Tryz.prog 87 #[.int .i64 d,.bool s,va,vb] w fun e w'=>∃ q,e=.returned (.tuple #[q,.bool true])/\NT 41000 (A/B) q w'/\Below w.heap.size w w':=by
 have c99:=zGo hK h h' hB
 rw [h0] at c99
 refine zG8 d s 0 (c99.mono fun e w' ⟨q,r,e1,e2,e3,e4⟩=>?_)
 obtain ⟨g,k,cap,er,hk,hz⟩:=e3.zero
 obtain rfl:k=0:=hz.2 rfl
 subst er
 exact ⟨q,g,cap,e1,e2,e4⟩
section
variable (n:Int)(nm:ByteArray)(wd pr ex le mo pa:Int)(dn:Bool)
theorem yDa (C:Nat)(q want:Int)(vc:Value)(w:World)(hq:q<=mo)(hq0:-30000<=q)(hmo:mo<=30000)(hC:bl C<=1000)(h:NT 41000 C vc w) :
  Calls Tryz.prog 90 #[vc,.int .i64 q,.int .i64 want,zAb n nm wd pr ex le mo pa dn] w fun r w'=>∃ v,r=.returned (.tuple #[v,.int .i64 (mbr mo want (mo-q).toNat C q).2])/\NT 41000 (mbr mo want (mo-q).toNat C q).1 v w'/\Below w.heap.size w w':=by
 have ht:NT 16 C vc w:=h.tight (by omega)
 clear h
 go_enter Tryz.func90,Tryz.ntmps90
 go_wp2
 go_loopw [0,1,10,11] (fun t0 t1 _ _ wr=>∃ (c:Nat) (p:Int),t1=.int .i64 p/\q<=p/\p<=mo/\NT 16 c t0 wr/\Hid (mbr mo want (mo-p).toNat c p=mbr mo want (mo-q).toNat C q)/\Hid (c<=C)/\Below w.heap.size w wr/\wr.cell? ⟨w.heap.size,7,none⟩=some (.int .i64 mo)/\w.heap.size<wr.heap.size) (fun _ t1 _ _ _=>(mo-intOf t1).toNat)
 case atStart=>exact ⟨C,q,rfl,Int.le_refl _,hq,ht.next (zEa _ _),by show _=_;rfl,by show _<=_;exact Nat.le_refl _,bgo,by go_simp,by simp⟩
 case round =>
  obtain ⟨c,p,rfl,h1,h2,hc,HM,HC,hB,k7,hl⟩:=hrel
  have hend:¬ (p<want/\p<mo/\c%10=0)->mbr mo want (mo-q).toNat C q=(c,p):=fun hn=>by
   rw [← HM.out]
   cases (mo-p).toNat with
   | zero=>rfl
   | succ k=>unfold mbr;rw [if_neg hn]
  by_cases hw:p<want
  ·by_cases hm:p<mo
   ·have c21:=zGo (K:=16) (N:=c) (D:=10) (by decide) (hc.next (zEa wr (.cells #[.int .u64 10] 22))) ((zGi (W:=wr) (g:=wr.heap.size) (V:=10) (vi:=10) rfl rfl (by decide) (by decide)).more (by decide)) (by decide)
    by_cases hz:c%10=0
    ·have HN:Hid (mbr mo want (mo-(p+1)).toNat (c/10) (p+1)=mbr mo want (mo-q).toNat C q):=by
      show _=_
      rw [← HM.out,show (mo-p).toNat=(mo-(p+1)).toNat+1 by omega]
      conv=>rhs;unfold mbr
      rw [if_pos ⟨hw,hm,hz⟩]
     have HC':Hid (c/10<=C):=by show _<=_;have:=HC.out;omega
     have hbl:bl (c/10)<=64*16:=Nat.le_trans (yKd HC'.out hC) (by decide)
     have HBL:Hid (bl (c/10)<=64*16):=hbl
     rw [hz] at c21
     clear hend hbl
     go_wp2_with (go_at_call 56;refine c21.mono ?_;rintro r w1 ⟨vq,vr,rfl,uq,ur,hb1⟩;have hb2:=zTg (w0:=wr) (zEa _ _) hb1;obtain ⟨gr,kr,cr,rfl,hkr,hzr⟩:=ur.zero;obtain rfl:kr=0:=hzr.2 rfl;clear hzr ur)
     have k71:w1.cell? ⟨w.heap.size,7,none⟩=some (.int .i64 mo):=(hb2.cell (p:=⟨w.heap.size,7,none⟩) hl).trans k7
     have hl1:w.heap.size<w1.heap.size:=Nat.lt_of_lt_of_le hl hb2.size
     go_roundw
     case rel=>exact ⟨c/10,p+1,by go_num,by omega,by omega,uq.tight HBL.out,HN,HC',bnx hB hb2,k71,hl1⟩
     case measure=>simp [intOf];omega
    ·have he:=hend (fun h=>hz h.2.2)
     clear hend
     go_wp2_with (go_at_call 56;refine c21.mono ?_;rintro r w1 ⟨vq,vr,rfl,uq,ur,hb1⟩;have hb2:=zTg (w0:=wr) (zEa _ _) hb1;obtain ⟨gr,kr,cr,rfl,hkr,hzr⟩:=ur.zero;have hk0:(0:Int)<(kr:Int):=(by have:kr≠0:=fun e=>hz (hzr.1 e);omega);clear hzr ur)
     exact bodyPost_ret (v:=.tuple #[_,.int .i64 p]) (by simp only [results,Tryz.results90];go_simp;rfl) rfl ⟨_,by rw [he],by rw [he];exact (hc.next hb2).more (by decide),bnx hB hb2⟩
   ·have he:=hend (fun h=>hm h.2.1)
    clear hend
    go_wp2
    exact bodyPost_ret (v:=.tuple #[_,.int .i64 p]) (by simp only [results,Tryz.results90];go_simp) rfl ⟨_,rfl,hc.more (by decide),hB⟩
  ·have he:=hend (fun h=>hw h.1)
   clear hend
   go_wp2
   exact bodyPost_ret (v:=.tuple #[_,.int .i64 p]) (by simp only [results,Tryz.results90];go_simp) rfl ⟨_,rfl,hc.more (by decide),hB⟩
end
end
section
attribute [local irreducible] W4 Nz Nt NT
def nbB (n x:Int)(k:Nat):Bool:=decide (zNd n<x)&&decide (k=2^fN n)
end
section
structure Mut (g:Nat) (w w':World):Prop where
 os:w'.os=w.os
 tape:w'.tape=w.tape
 output:w'.output=w.output
 size:w.heap.size<=w'.heap.size
 block:∀ k,k<w.heap.size->k≠g->w'.heap[k]?=w.heap[k]?
theorem Mut.refl (g:Nat)(w:World):Mut g w w:=⟨rfl,rfl,rfl,Nat.le_refl _,fun _ _ _=>rfl⟩
theorem Mut.trans {g:Nat}{a b c:World}(h:Mut g a b)(k:Mut g b c):Mut g a c :=
 ⟨k.os.trans h.os,k.tape.trans h.tape,k.output.trans h.output,Nat.le_trans h.size k.size,fun i hi hg=>(k.block i (Nat.lt_of_lt_of_le hi h.size) hg).trans (h.block i hi hg)⟩
theorem Mut.below {g:Nat}{a b:World}(h:Below a.heap.size a b):Mut g a b:=⟨h.os,h.tape,h.output,h.size,fun k hk _=>h.block k hk⟩
theorem Mut.set {g:Nat}{a b:World}(h:Mut g a b)(i:Nat)(v:Value):Mut g a (b.setCell ⟨g,i,none⟩ v) :=
 h.trans ⟨rfl,rfl,rfl,by simp [World.setCell],fun k _ hk=>Below.heap_setCell _ _ _ _ hk⟩
theorem Mut.out {g B:Nat}{w0 w w':World}(h:Mut g w w')(h0:Below B w0 w)(hB:B<=g)(hs:B<=w0.heap.size):Below B w0 w' :=
 h0.trans ⟨h.os,h.tape,h.output,h.size,fun k hk=>h.block k (by have:=h0.size;omega) (by omega)⟩
attribute [local irreducible] W4 Nz Nt NT
end
section
theorem tn_ex {k:Nat}{x:Int}:∀ (d:Nat) (g0:Int),tnP k x g0->¬ tnP k x (g0+d)->∃ E,g0<=E/\E<g0+d/\tnP k x E/\¬ tnP k x (E+1)
 | 0,g0,h0,h1=>absurd h0 (by simpa using h1)
 | d+1,g0,h0,h1=>by
  by_cases h:tnP k x (g0+1)
  ·obtain ⟨E,e1,e2,e3,e4⟩:=tn_ex d (g0+1) h (by rw [show g0+1+(d:Int)=g0+((d+1:Nat):Int) by omega];exact h1)
   exact ⟨E,by omega,by omega,e3,e4⟩
  ·exact ⟨g0,Int.le_refl _,by omega,h0,h⟩
theorem tn_top {k:Nat}{x:Int}(hk:k<2^256)(hx:x<=17000):¬ tnP k x 6000:=by
 unfold tnP zE oE
 rw [show ((-6000:Int)).toNat=0 by decide,Nat.pow_zero,Nat.mul_one,show ((6000:Int)).toNat=6000 by decide]
 have h1:(2:Nat)^18000<=10^6000:=by decide +kernel
 obtain ⟨m',hm'⟩:∃ m':Nat,m'=18000:=⟨_,rfl⟩
 rw [← hm'] at h1
 generalize (10:Nat)^6000=T at *
 obtain ⟨m,hm⟩:∃ m:Nat,m=17000:=⟨_,rfl⟩
 have h2:k*2^x.toNat<2^256*2^m:=by
  have a1:k*2^x.toNat<2^256*2^x.toNat:=Nat.mul_lt_mul_of_pos_right hk (Nat.two_pow_pos _)
  have a2:2^256*2^x.toNat<=2^256*2^m:=Nat.mul_le_mul_left _ (Nat.pow_le_pow_right (by decide) (by omega))
  exact Nat.lt_of_lt_of_le a1 a2
 rw [← Nat.pow_add] at h2
 have h3:(2:Nat)^(256+m)<=2^m':=Nat.pow_le_pow_right (by decide) (by omega)
 have h4:1*T<=2^(-x).toNat*T:=Nat.mul_le_mul_right _ (Nat.two_pow_pos _)
 generalize (2:Nat)^(256+m)=Y at *
 generalize (2:Nat)^m'=Y' at *
 rw [Nat.mul_assoc 4,Nat.mul_assoc 4]
 generalize 2^(-x).toNat*T=Z1 at *
 generalize k*2^x.toNat=Z2 at *
 omega
attribute [local irreducible] W4 Nz Nt NT
end
section
theorem NT.grown {K V Bs:Nat}{v tv:Value}{l:List UInt8}{w w':World}(h:NT K V v w)(ho:w.ownsRow Bs 5 1 tv l.length (Lib.byteCells l))(hl:tv=.slice none 0 0∨0<l.length)(hg:w.grownBy w' tv.ownBlock):NT K V v w':=by
 obtain ⟨b,k,cap,z,h1,h2,⟨n1,n2,n3,n4,n5⟩,h4,h5⟩:=h
 refine ⟨b,k,cap,z,h1,h2,⟨n1,n2,n3,n4,?_⟩,h4,h5⟩
 rcases n5 with n5|⟨b',off,e,hb,hc⟩
 ·exact Or.inl n5
 ·cases e
  refine Or.inr ⟨b,0,rfl,Nat.lt_of_lt_of_le hb hg.size,fun i hi=>?_⟩
  have hne:some b≠tv.ownBlock:=by
   rcases hl with rfl|hl
   ·intro h;cases h
   ·obtain ⟨g',cap',rfl,_,_⟩:=ho.form hl
    intro h
    have:b=g':=Option.some.inj h
    subst this
    have h6:=hc 0 (by omega)
    rw [Nat.add_zero,ho.cellAt 0 (by omega)] at h6
    simp [Lib.byteCells,hl] at h6
  exact (World.cell?_of_block (w:=w) (a:=⟨b,0+i,none⟩) (hg.block b hb hne)).trans (hc i hi)
attribute [local irreducible] W4 Nz Nt NT
end
def lwN (n x:Int)(k:Nat):Nat:=if nbB n x k then 1 else 2
def evK (k:Nat):Bool:=decide (k%2=0)
structure Shd (n x:Int) (k:Nat) (E:Int) (K:Nat):Prop where
 t0:tnP k x E
 t1:¬ tnP k x (E+1)
 st:stK (evK k) (4*k*oE x E) (lwN n x k*oE x E) (2*oE x E) (zE x E) K=true
 mn:∀ j,j<K->stK (evK k) (4*k*oE x E) (lwN n x k*oE x E) (2*oE x E) (zE x E) j=false
theorem gs_in {k:Nat}{x:Int}(hk:k<2^256)(hk0:k≠0)(hx:-16990<=x/\x<=16990):tnP k x (gsP k x)/\-6000<=gsP k x/\gsP k x<6000:=by
 have hb:bl k<=256:=bl_le.2 hk
 obtain ⟨b1,b2,b3⟩:=yLd hk0
 have e:((bl k-1:Nat):Int)=(bl k:Int)-1:=by omega
 have:=zI4 (c:=k) (L:=bl k-1) (x:=x) b1 (by omega)
 rw [e] at this
 refine ⟨this,?_⟩
 unfold gsP
 by_cases h0:0<=(bl k:Int)-1+x
 ·rw [Int.tdiv_eq_ediv_of_nonneg (by omega)];omega
 ·rw [show ((bl k:Int)-1+x)*30103=-(-((bl k:Int)-1+x)*30103) by omega,Int.neg_tdiv,Int.tdiv_eq_ediv_of_nonneg (by omega)];omega
theorem Shd.ex {n x:Int}{k:Nat}(hk:k<2^256)(hk0:k≠0)(hx:-16990<=x/\x<=16990):∃ E K,Shd n x k E K:=by
 obtain ⟨g1,g2,g3⟩:=gs_in hk hk0 hx
 obtain ⟨E,e1,e2,e3,e4⟩:=tn_ex (6000-gsP k x).toNat (gsP k x) g1 (by rw [show gsP k x+((6000-gsP k x).toNat:Int)=6000 by omega];exact tn_top hk (by omega))
 have hl:0<lwN n x k*oE x E:=Nat.mul_pos (by unfold lwN;split<;>decide) (oE_pos _ _)
 obtain ⟨K,h1,h2⟩:=st_ex (c:=evK k) (R:=4*k*oE x E) (u:=2*oE x E) (zE_pos x E) hl
 exact ⟨E,K,e3,e4,h1,h2⟩
section
theorem yQd {k:Nat}(hk:k<2^256):decide (W4 k 0=0/\W4 k 1=0/\W4 k 2=0/\W4 k 3=0)=decide (k=0):=by
 by_cases h:k=0
 ·subst h
  rw [decide_eq_true (by simp [zPa]),decide_eq_true rfl]
 ·rw [decide_eq_false h,decide_eq_false]
  rintro ⟨h0,h1,h2,h3⟩
  refine h (zXs hk (by decide) fun i hi=>?_)
  have:i=0∨i=1∨i=2∨i=3:=by omega
  rcases this with rfl|rfl|rfl|rfl
  ·rw [h0,zPa]
  ·rw [h1,zPa]
  ·rw [h2,zPa]
  ·rw [h3,zPa]
attribute [local irreducible] W4
end
theorem zW5 {l:List UInt8}{p:Prt}(h:zOk l=some p):p.dig.length<=8000:=by
 unfold zOk at h
 split at h
 ·cases h
 ·rename_i hl
  have hs:=zDf l
  unfold zNu at h
  split at h
  ·cases h
   show (finD (sgR l)).length<=8000
   unfold finD
   have h1:=zQs (dgs (sgR l)++zWh (sgR l))
   have h2:=zLe (sgR l)
   have h3:=yUb (sgR l)
   rw [List.length_append] at h1
   omega
  ·split at h
   ·cases h
    exact Nat.zero_le _
   ·split at h
    ·cases h
     show (bar (paD (nanR (sml (sgR l))))).length<=8000
     have h1:=zQs (paD (nanR (sml (sgR l))))
     have h2:(paD (nanR (sml (sgR l)))).length<=(nanR (sml (sgR l))).length:=by
      unfold paD
      split
      ·exact Nat.le_trans (zLe _) (zDc _ _)
      ·exact Nat.zero_le _
     have h3:(nanR (sml (sgR l))).length<=(sml (sgR l)).length:=by
      unfold nanR
      exact Nat.le_trans (zDc _ _) (zDc _ _)
     rw [zBi] at h3
     omega
    ·cases h
theorem dV_ge {l:List UInt8}(hd:l.all dg=true)(h0:by_ l 0≠48)(hl:l≠[]):10^(l.length-1)<=dV l:=by
 cases l with
 | nil=>exact absurd rfl hl
 | cons c r =>
  have hr:r.all dg=true:=by rw [List.all_cons] at hd;simp at hd;simpa using hd.2
  have hc:dg c=true:=by rw [List.all_cons] at hd;simp at hd;exact hd.1
  unfold dg at hc
  have hc':=of_decide_eq_true hc
  rw [zXa] at h0
  have h:=zIj (s:=B (c::r)) (u:=B r) 1 (B r).size (fun i hi=>by rw [zHm,zHm,Nat.add_comm,zSg])
  have hs:(B (c::r)).size=1+(B r).size:=by rw [zCa,zCa,List.length_cons];omega
  have h1:numV (B (c::r)) 1=(c.toNat:Int)-48:=by
   have:numV (B (c::r)) 1=numV (B (c::r)) 0*10+(sb (B (c::r)) 0-48):=rfl
   rw [this,zHm,zXa]
   have:numV (B (c::r)) 0=0:=rfl
   omega
  have hb:=(zNm _ (zL5 hr)).1
  have e:=(zPq hd).2
  rw [hs,h,h1] at e
  rw [zCa] at e hb
  have hp:((10:Int)^r.length)=((10^r.length:Nat):Int):=by simp
  rw [hp] at e
  show 10^(r.length+1-1)<=_
  rw [Nat.add_sub_cancel]
  have hm:1*((10^r.length:Nat):Int)<=((c.toNat:Int)-48)*((10^r.length:Nat):Int):=Int.mul_le_mul_of_nonneg_right (by omega) (Int.natCast_nonneg _)
  omega
theorem zM0:dV []=0:=rfl
theorem zM2 {c:Int}{s g:Bool}{d:List UInt8}{e:Int}(he:-9223372036854775808<=e/\e<=9223372036854775807):(zCf c s g d e).length<=d.length+100:=by
 have hi:=Lib.itoa_length_le e he.1 he.2
 have h1:(zX7 c g d e).length<=d.length+50:=by
  unfold zX7
  split
  ·simp
  ·split
   ·unfold zKl
    simp only [List.length_append,List.length_cons]
    split<;>split<;>simp<;>omega
   ·unfold zFu dgT exT
    simp only [List.length_append]
    split<;>split<;>simp<;>omega
 unfold zCf
 rw [List.length_append]
 split<;>simp<;>omega
def Prt.at (p:Prt)(s:Bool):Prt:=⟨p.cls,s,p.sn,p.dig,p.ex⟩
/-! Make by value -/
/-! Read by value -/
theorem zLs {V:Int}{L:Nat}(h0:0<V)(h:V<10^L):zI3 V (sizeL (dgt V) L)=zH0 V L:=by
 unfold zH0 zI3
 rw [if_neg]
 intro e
 have:=zSm (Int.le_of_lt h0) L h
 rw [e] at this;simp at this;omega
theorem zE9 {l:List Int}(hl:∀ v ∈ l,48<=v/\v<=57){i:Nat}(hi:i<l.length):sb (strOfNums l) i=l[i]:=by
 unfold sb
 rw [dif_pos (by rw [strOfNums_size];exact hi)]
 have h:=hl l[i] (List.getElem_mem hi)
 have e:(strOfNums l)[i]'(by rw [strOfNums_size];exact hi)=UInt8.ofNat l[i].toNat:=by
  show (strOfNums l).data[i]'_=_
  simp [strOfNums]
 rw [e]
 simp
 omega
theorem zPr {V:Int}{K:Nat}{u:ByteArray}(hu:∀ i,i<K->sb u i=48+dgt V (K-1-i))(h0:0<=V)(hV:V<10^K):∀ j,j<=K->numV u j=V/10^(K-j)
 | 0,_=>by rw [Nat.sub_zero,Int.ediv_eq_zero_of_lt h0 hV];rfl
 | j+1,h=>by
  have ih:=zPr hu h0 hV j (by omega)
  simp only [numV]
  rw [ih,hu j (by omega)]
  have e1:K-j=(K-(j+1))+1:=by omega
  have e2:K-1-j=K-(j+1):=by omega
  rw [e1,e2]
  unfold dgt
  rw [← zGk]
  generalize V/10^(K-(j+1))=W
  omega
def dcD (V:Int)(L:Nat):List UInt8:=(strOfNums (zI3 V (sizeL (dgt V) L))).data.toList
theorem zLp {V:Int}{L:Nat}(h0:0<V)(h:V<10^L):gdD (dcD V L)/\(dV (dcD V L):Int)=V/\(dcD V L).length<=L:=by
 have hK:=zSm (Int.le_of_lt h0) L h
 have hKp:0<sizeL (dgt V) L:=by
  rcases Nat.eq_zero_or_pos (sizeL (dgt V) L) with e|e
  ·rw [e] at hK;simp at hK;omega
  ·exact e
 have hKL:=zGa (dgt V) L
 have htop:=zJc L hKp
 have hB:B (dcD V L)=strOfNums (zI3 V (sizeL (dgt V) L)):=B_of _
 have hd:∀ v ∈ zI3 V (sizeL (dgt V) L),48<=v/\v<=57:=by
  intro v hv
  simp [zI3] at hv
  obtain ⟨i,_,rfl⟩:=hv
  have:=zC0 V (sizeL (dgt V) L-1-i)
  omega
 have hrl:(zI3 V (sizeL (dgt V) L)).length=sizeL (dgt V) L:=by simp [zI3]
 have hsz:(dcD V L).length=sizeL (dgt V) L:=by
  rw [← zCa,hB,strOfNums_size,hrl]
 have hby:∀ i,i<sizeL (dgt V) L->by_ (dcD V L) i=48+dgt V (sizeL (dgt V) L-1-i):=fun i hi=>by
  rw [← zHm,hB,zE9 hd (by rw [hrl];exact hi)];simp [zI3]
 have hall:(dcD V L).all dg=true:=(zMk _).2 fun i hi=>by
  rw [hsz] at hi
  rw [hby i hi]
  have:=zC0 V (sizeL (dgt V) L-1-i)
  omega
 refine ⟨Or.inr ⟨?_,?_⟩,?_,by omega⟩
 ·unfold isd
  rw [hall]
  have:dcD V L≠[]:=fun e=>by rw [e] at hsz;simp at hsz;omega
  simp [this]
 ·rw [hby 0 hKp,Nat.sub_zero]
  intro e
  exact htop (by omega)
 ·rw [(zPq hall).2,zCa,hsz]
  rw [zPr (K:=sizeL (dgt V) L) (fun i hi=>by rw [zHm];exact hby i hi) (Int.le_of_lt h0) hK _ (Nat.le_refl _)]
  simp
section
theorem zXt {e:Int}(he:-100000<=e/\e<=100000):(Lib.itoa e).length<=21:=by
 have:=Lib.itoa_length_le e (by omega) (by omega)
 omega
def unT (D:List UInt8)(e:Int):List UInt8:=((D.take 1++if 1<D.length then [46]++D.drop 1 else [])++[101])++Lib.itoa e
theorem zIf {D:List UInt8}{e:Int}(he:-100000<=e/\e<=100000):(unT D e).length<=D.length+25:=by
 have:=zXt he
 unfold unT
 rw [List.length_append,List.length_append,List.length_append,List.length_take]
 split
 ·simp;omega
 ·simp;omega
theorem zMl {e:Int}(he:-100000<=e/\e<=100000):(Lib.itoa e).length<=100:=by
 have:=Lib.itoa_length_le e (by omega) (by omega)
 omega
attribute [local irreducible] W4
end
section
section
variable (D:List UInt8)(e:Int)(w:World)(hT10:Tb10 w)(he:-100000<=e/\e<=100000)
include hT10 he
theorem yEb (hD:D.length=1):CB 31 #[.string (B D),.int .i64 e] w (.string (B (unT D e))):=by
 have hi:=zMl he
 have c53:=fun W (h:Tb10 W)=>zCg e W (by omega) h
 have htl:=zDa
 have hsz:(B D).size=1:=by rw [zCa,hD]
 have HU:Hid (unT D e=(D++[101])++Lib.itoa e):=by
  show _=_
  unfold unT
  rw [if_neg (by omega),List.append_nil,List.take_of_length_le (by omega)]
 have ht:(B D).extract 0 1=B D:=by rw [zVh,List.drop_zero,List.take_of_length_le (by omega)]
 have p0:B D++(⟨#[101]⟩:ByteArray)=B (D++[101]):=zTa D [101]
 have z0:(B (D++[101])).size=2:=by rw [zCa,List.length_append,hD];rfl
 have p1:B (D++[101])++B (Lib.itoa e)=B ((D++[101])++Lib.itoa e):=zTa _ _
 obtain ⟨il,hil⟩:∃ il,(Lib.itoa e).length=il:=⟨_,rfl⟩
 have z2:(B (Lib.itoa e)).size=il:=by rw [zCa];exact hil
 have hil2:il<=100:=by omega
 have hemp:D.isEmpty=false:=by cases D with|nil=>exact absurd hD (by decide)|cons y ys=>rfl
 clear hD hi hil
 generalize hL0:D++[101]=L0 at *
 clear hL0
 generalize Lib.itoa e=I at *
 generalize hL1:L0++I=L1 at *
 clear hL1
 go_enter Tryz.func31,Tryz.ntmps31
 go_wp2_with (go_at_call 68;refine (c53 _ (hT10.next bgo)).mono ?_;rintro r w3 ⟨rfl,hb3⟩)
 go_ret
 exact ⟨by rw [HU.out];rfl,hb3⟩
theorem yDb (hD:1<D.length)(hD2:D.length<=4000):CB 31 #[.string (B D),.int .i64 e] w (.string (B (unT D e))):=by
 have hi:=zMl he
 have c53:=fun W (h:Tb10 W)=>zCg e W (by omega) h
 have htl:=zDa
 obtain ⟨m,hm⟩:∃ m,D.length=m+2:=⟨D.length-2,by omega⟩
 have hsz:(B D).size=m+2:=by rw [zCa,hm]
 have HU:Hid (unT D e=((D.take 1++([46]++D.drop 1))++[101])++Lib.itoa e):=by
  show _=_
  unfold unT
  rw [if_pos hD]
 have ht:(B D).extract 0 1=B (D.take 1):=by rw [zVh,List.drop_zero]
 have hd:(B D).extract 1 (m+2)=B (D.drop 1):=by have:=zA8 D 1;rw [hsz] at this;exact this
 have hm2:m<=4000:=by omega
 have q0:(⟨#[46]⟩:ByteArray)++B (D.drop 1)=B ([46]++D.drop 1):=zTa [46] _
 have y0:(B (D.drop 1)).size=m+1:=by rw [zCa,List.length_drop,hm];omega
 have y1:(B ([46]++D.drop 1)).size=m+2:=by rw [zCa,List.length_append,List.length_drop,hm];simp;omega
 have y2:(B (D.take 1)).size=1:=by rw [zCa,List.length_take,hm];omega
 have p0:B (D.take 1)++B ([46]++D.drop 1)=B (D.take 1++([46]++D.drop 1)):=zTa _ _
 have z0:(B (D.take 1++([46]++D.drop 1))).size=m+3:=by rw [zCa] at y1 y2 ⊢;rw [List.length_append,y1,y2];omega
 have p1:B (D.take 1++([46]++D.drop 1))++(⟨#[101]⟩:ByteArray)=B ((D.take 1++([46]++D.drop 1))++[101]):=zTa _ [101]
 have z1:(B ((D.take 1++([46]++D.drop 1))++[101])).size=m+4:=by rw [zCa] at z0 ⊢;rw [List.length_append,z0];rfl
 have p2:B ((D.take 1++([46]++D.drop 1))++[101])++B (Lib.itoa e)=B (((D.take 1++([46]++D.drop 1))++[101])++Lib.itoa e):=zTa _ _
 obtain ⟨il,hil⟩:∃ il,(Lib.itoa e).length=il:=⟨_,rfl⟩
 have z2:(B (Lib.itoa e)).size=il:=by rw [zCa];exact hil
 have hil2:il<=100:=by omega
 have hemp:D.isEmpty=false:=by cases D with|nil=>exact absurd hD (by decide)|cons y ys=>rfl
 clear hD hD2 hm hi hil
 generalize Lib.itoa e=I at *
 generalize hL3:((D.take 1++([46]++D.drop 1))++[101])++I=L3 at *
 generalize hL2:(D.take 1++([46]++D.drop 1))++[101]=L2 at *
 generalize hL1:D.take 1++([46]++D.drop 1)=L1 at *
 generalize hL0:[46]++D.drop 1=L0 at *
 generalize hA:D.take 1=A0 at *
 generalize hB:D.drop 1=B0 at *
 clear hL3 hL2 hL1 hL0 hA hB
 go_enter Tryz.func31,Tryz.ntmps31
 go_wp2_with (go_at_call 68;refine (c53 _ (hT10.next bgo)).mono ?_;rintro r w3 ⟨rfl,hb3⟩)
 go_ret
 exact ⟨by rw [HU.out];rfl,hb3⟩
end
theorem yCb (D:List UInt8)(e:Int)(w:World)(hT10:Tb10 w)(he:-100000<=e/\e<=100000)(hD:1<=D.length)(hD2:D.length<=4000):CB 31 #[.string (B D),.int .i64 e] w (.string (B (unT D e))):=by
 by_cases h:D.length=1
 ·exact yEb D e w hT10 he h
 ·exact yDb D e w hT10 he (by omega) hD2
end
section
def sgL (s:Bool):List UInt8:=if s then [45] else []
attribute [local irreducible] W4
end
section
def dcL (k:Nat):List UInt8:=if k=0 then [] else dcD (k:Int) 660
theorem k660 {k:Nat}(hk:k<2^256):(k:Int)<10^660:=by
 have h:(2:Nat)^256<=10^100:=by decide
 have h2:(10:Int)^100<=10^660:=by decide +kernel
 have h3:((10^100:Nat):Int)=(10:Int)^100:=by decide
 omega
theorem zQh {k:Nat}(hk:k<2^256):gdD (dcL k)/\dV (dcL k)=k/\(dcL k).length<=660:=by
 unfold dcL
 by_cases h:k=0
 ·rw [if_pos h];exact ⟨Or.inl rfl,by rw [h,zM0],by decide⟩
 ·rw [if_neg h]
  obtain ⟨h1,h2,h3⟩:=zLp (V:=(k:Int)) (L:=660) (by omega) (k660 hk)
  exact ⟨h1,by omega,h3⟩
theorem zW6 {K k:Nat}{v:Value}{w:World}(hK:K<=1000)(hk:k<2^256)(hk0:k≠0)(h:Nt K k v w):CB 30 #[v] w (.tuple #[.string (B (dcL k)),.int .i64 0]):=by
 obtain ⟨a,n,c,z,rfl,hn,hN,hz⟩:=h
 have hle:=zGa z n
 refine (zNg a n c z w (by omega) hN (by omega)).mono fun r w' ⟨L,hL,he,hB⟩=>⟨?_,hB⟩
 rw [he,hz] at *
 have h0:(0:Int)<k:=by omega
 have h660:=k660 hk
 rw [zIk (Int.le_of_lt h0) hL h660,← zLs h0 h660]
 unfold dcL
 rw [if_neg hk0]
 unfold dcD
 rw [B_of]
attribute [local irreducible] W4 Nt
end
theorem zI7 (e:Int)(h:-1000000000<=e/\e<=1000000000):exB (101::Lib.itoa e)=true/\exI (101::Lib.itoa e)=e/\Lib.hasPrefix (101::Lib.itoa e) [46]=false/\dgs (101::Lib.itoa e)=[]/\rst (101::Lib.itoa e)=101::Lib.itoa e:=by
 by_cases h0:e=0
 ·subst h0
  have e0:Lib.itoa 0=[48]:=by kernel_rfl
  rw [e0]
  exact ⟨by decide,by decide,by decide,by decide,by decide⟩
 ·have:=zMz e h
  unfold exT at this
  rw [if_neg h0] at this
  exact this
theorem zHn {e:Int}(h:-1000000000<=e/\e<=1000000000):zNe e=e:=by unfold zNe;omega
theorem un_cut (s:Bool){c:UInt8}{r:List UInt8}{e:Int}(hc:dg c=true)(hc0:(c.toNat:Int)≠48)(hr:r.all dg=true)(hl:r.length<=3950)(he:-100000<=e/\e<=100000) :
  zOk (sgL s++unT (c::r) e)=some ⟨1,s,false,c::r,e-r.length⟩:=by
 have hlen:(unT (c::r) e).length<=r.length+26:=by have:=zIf (D:=c::r) he;rw [List.length_cons] at this;omega
 obtain ⟨x1,x2,x3,x4,x5⟩:=zI7 e (by omega)
 have hcn:=zKs hc
 have hall:[c].all dg=true:=by simp [hc]
 have hbar:bar (c::r)=c::r:=by rw [zAf,if_neg hc0]
 have key:zEg (unT (c::r) e)=true/\finD (unT (c::r) e)=c::r/\finE (unT (c::r) e)=e-r.length/\∃ t,unT (c::r) e=c::t:=by
  cases hr0:r with
  | nil =>
   have hu:unT [c] e=[c]++(101::Lib.itoa e):=rfl
   rw [hu]
   obtain ⟨d1,d2⟩:=zGg (m:=101::Lib.itoa e) hall x4
   have f1:zWh ([c]++101::Lib.itoa e)=[]:=by unfold zWh;rw [d2,x3];rfl
   have f2:zFc ([c]++101::Lib.itoa e)=101::Lib.itoa e:=by unfold zFc;rw [d2,x3];rfl
   refine ⟨?_,?_,?_,_,rfl⟩
   ·unfold zEg;rw [f1,f2,x1,d1];rfl
   ·unfold finD;rw [f1,d1]
    rw [hr0] at hbar
    exact hbar
   ·unfold finE;rw [f1,f2,x2]
    exact zHn (by simp;omega)
  | cons a t =>
   rw [← hr0]
   have hu:unT (c::r) e=[c]++46::(r++(101::Lib.itoa e)):=by
    unfold unT
    rw [hr0]
    simp
   rw [hu]
   obtain ⟨d1,d2⟩:=zGg (m:=46::(r++(101::Lib.itoa e))) hall rfl
   obtain ⟨d3,d4⟩:=zGg (m:=101::Lib.itoa e) hr x4
   have e1:Lib.hasPrefix (46::(r++(101::Lib.itoa e))) [46]=true:=rfl
   have e2:Lib.trimPrefix (46::(r++(101::Lib.itoa e))) [46]=r++(101::Lib.itoa e):=rfl
   have f1:zWh ([c]++46::(r++(101::Lib.itoa e)))=r:=by unfold zWh;rw [d2,e1,e2,d3];rfl
   have f2:zFc ([c]++46::(r++(101::Lib.itoa e)))=101::Lib.itoa e:=by unfold zFc;rw [d2,e1,e2,d4];rfl
   refine ⟨?_,?_,?_,_,rfl⟩
   ·unfold zEg;rw [f1,f2,x1,d1];rfl
   ·unfold finD;rw [f1,d1]
    exact hbar
   ·unfold finE;rw [f1,f2,x2]
    exact zHn (by omega)
 obtain ⟨k1,k2,k3,t,k4⟩:=key
 unfold zOk
 have hs:(sgL s++unT (c::r) e).length<=4000:=by
  rw [List.length_append]
  have:(sgL s).length<=1:=by cases s<;>decide
  omega
 rw [if_neg (by omega)]
 have hsg:gsgB (sgL s++unT (c::r) e)=s/\sgR (sgL s++unT (c::r) e)=unT (c::r) e:=by
  rw [k4]
  exact zRj s c t ⟨by omega,by omega⟩
 rw [hsg.1,hsg.2]
 unfold zNu
 rw [if_pos k1,k2,k3]
end Go.Proofs.YtpabnhlfbjkmaaaGreatDoor

namespace Go.Proofs.YtpabnhlfbjkmaaaGreatDoor
theorem yYc (s:Bool){D:List UInt8}{e ex:Int}(hg:gdD D)(h0:D≠[])(hl:D.length<=3950)(he:-50000<=ex/\ex<=50000)(hE:e=ex+D.length-1) :
  zOk (sgL s++unT D e)=some ⟨1,s,false,D,ex⟩:=by
 cases D with
 | nil=>exact absurd rfl h0
 | cons c r =>
  have ha:=zPg hg
  rw [List.all_cons,Bool.and_eq_true] at ha
  have hc0:(c.toNat:Int)≠48:=by
   rcases hg with h|⟨_,h⟩
   ·cases h
   ·rw [zXa] at h;exact h
  rw [List.length_cons] at hl hE
  have:=un_cut s (e:=e) ha.1 hc0 ha.2 (by omega) (by omega)
  rw [this,hE]
  congr 2
  omega
end Go.Proofs.YtpabnhlfbjkmaaaGreatDoor

namespace Go.Proofs.YtpabnhlfbjkmaaaGreatDoor
open Go.RowKit
def dcW (X:Nat):List UInt8:=if X=0 then [] else dcD X (bl X)
theorem zKp (X:Nat):gdD (dcW X)/\dV (dcW X)=X:=by
 unfold dcW
 by_cases h0:X=0
 ·rw [if_pos h0]
  exact ⟨Or.inl rfl,h0▸rfl⟩
 ·rw [if_neg h0]
  have hX:(0:Int)<X:=by omega
  have hL:(X:Int)<10^bl X:=by
   have h1:=(yLd h0).2.1
   have h2:=Nat.pow_le_pow_left (show 2<=10 by decide) (bl X)
   have h3:X<10^bl X:=by omega
   exact_mod_cast h3
  obtain ⟨d1,d2,d3⟩:=zLp hX hL
  exact ⟨d1,by omega⟩
theorem dcW_ne {X:Nat}(h:X≠0):dcW X≠[]:=fun e=>h (by rw [← (zKp X).2,e];rfl)
theorem ten_28 {m q:Nat}(hm:m<=93*q):2^m<=10^(28*q):=by
 have a1:2^m<=2^(93*q):=Nat.pow_le_pow_right (by decide) hm
 have a2:(2:Nat)^(93*q)<=10^(28*q):=by
  rw [Nat.pow_mul,Nat.pow_mul 10]
  exact Nat.pow_le_pow_left (by decide) _
 exact Nat.le_trans a1 a2
theorem zJ0 {X:Nat}(h0:X≠0):1<=(dcW X).length/\10^((dcW X).length-1)<=X/\X<10^(dcW X).length:=by
 obtain ⟨d1,d2⟩:=zKp X
 have hne:=dcW_ne h0
 have hlt:=(zPq (zPg d1)).1
 rcases d1 with h|⟨h,hh⟩
 ·exact absurd h hne
 have hge:=dV_ge (zKi h) hh hne
 rw [d2] at hlt hge
 refine ⟨?_,hge,hlt⟩
 rcases Nat.eq_zero_or_pos (dcW X).length with h|h
 ·exact absurd (List.eq_nil_of_length_eq_zero h) hne
 ·exact h
theorem zFn {X:Nat}(h0:X≠0)(hb:bl X<=39785):(dcW X).length<=11984:=by
 obtain ⟨h1,h2,h3⟩:=zJ0 h0
 have h4:X<2^bl X:=bl_le.1 (Nat.le_refl _)
 obtain ⟨q,hq⟩:∃ q:Nat,q=428:=⟨_,rfl⟩
 have h5:=ten_28 (m:=bl X) (q:=q) (by omega)
 have h6:10^((dcW X).length-1)<10^(28*q):=Nat.lt_of_le_of_lt h2 (Nat.lt_of_lt_of_le h4 h5)
 have:=(Nat.pow_lt_pow_iff_right (by decide:1<10)).1 h6
 omega
end Go.Proofs.YtpabnhlfbjkmaaaGreatDoor
