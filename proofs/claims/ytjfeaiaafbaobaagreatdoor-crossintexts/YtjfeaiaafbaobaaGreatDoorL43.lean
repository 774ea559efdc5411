/-
  Texts that the proof leans on.
-/
import Derived.Test.YtjfeaiaafbaobaaGreatDoorL23
import Derived.Test.YtjfeaiaafbaobaaGreatDoorL25
import Derived.Test.YtjfeaiaafbaobaaGreatDoorL35
import Derived.Test.YtjfeaiaafbaobaaGreatDoorL38
import Derived.Test.YtjfeaiaafbaobaaGreatDoorL17
set_option linter.unusedVariables false
set_option linter.unusedSectionVars false
set_option linter.unusedSimpArgs false
set_option maxRecDepth 20000
namespace Go.Proofs.YtjfeaiaafbaobaaGreatDoor
open Go.RowKit
theorem ex_any (e:Int)(h:-1000000000<=e/\e<=1000000000):exB (101::Lib.itoa e)=true/\exI (101::Lib.itoa e)=e/\Lib.hasPrefix (101::Lib.itoa e) [46]=false/\dgs (101::Lib.itoa e)=[]/\rst (101::Lib.itoa e)=101::Lib.itoa e:=by
 by_cases h0:e=0
 ·subst h0
  have e0:Lib.itoa 0=[48]:=by kernel_rfl
  rw [e0]
  exact ⟨by decide,by decide,by decide,by decide,by decide⟩
 ·have:=exT_cut e h
  unfold exT at this
  rw [if_neg h0] at this
  exact this
theorem clamp_id {e:Int}(h:-1000000000<=e/\e<=1000000000):clampE e=e:=by unfold clampE;omega
theorem un_cut (s:Bool){c:UInt8}{r:List UInt8}{e:Int}(hc:dg c=true)(hc0:(c.toNat:Int)≠48)(hr:r.all dg=true)(hl:r.length<=3950)(he:-100000<=e/\e<=100000) :
  cutP (sgL s++unT (c::r) e)=some ⟨1,s,false,c::r,e-r.length⟩:=by
 have hlen:(unT (c::r) e).length<=r.length+26:=by have:=unT_brief (D:=c::r) he;rw [List.length_cons] at this;omega
 obtain ⟨x1,x2,x3,x4,x5⟩:=ex_any e (by omega)
 have hcn:=dg_nat hc
 have hall:[c].all dg=true:=by simp [hc]
 have hbar:bar (c::r)=c::r:=by rw [bar_cons,if_neg hc0]
 have key:finB (unT (c::r) e)=true/\finD (unT (c::r) e)=c::r/\finE (unT (c::r) e)=e-r.length/\∃ t,unT (c::r) e=c::t:=by
  cases hr0:r with
  | nil =>
   have hu:unT [c] e=[c]++(101::Lib.itoa e):=rfl
   rw [hu]
   obtain ⟨d1,d2⟩:=dgs_app2 (m:=101::Lib.itoa e) hall x4
   have f1:frac ([c]++101::Lib.itoa e)=[]:=by unfold frac;rw [d2,x3];rfl
   have f2:behind ([c]++101::Lib.itoa e)=101::Lib.itoa e:=by unfold behind;rw [d2,x3];rfl
   refine ⟨?_,?_,?_,_,rfl⟩
   ·unfold finB;rw [f1,f2,x1,d1];rfl
   ·unfold finD;rw [f1,d1]
    rw [hr0] at hbar
    exact hbar
   ·unfold finE;rw [f1,f2,x2]
    exact clamp_id (by simp;omega)
  | cons a t =>
   rw [← hr0]
   have hu:unT (c::r) e=[c]++46::(r++(101::Lib.itoa e)):=by
    unfold unT
    rw [hr0]
    simp
   rw [hu]
   obtain ⟨d1,d2⟩:=dgs_app2 (m:=46::(r++(101::Lib.itoa e))) hall rfl
   obtain ⟨d3,d4⟩:=dgs_app2 (m:=101::Lib.itoa e) hr x4
   have e1:Lib.hasPrefix (46::(r++(101::Lib.itoa e))) [46]=true:=rfl
   have e2:Lib.trimPrefix (46::(r++(101::Lib.itoa e))) [46]=r++(101::Lib.itoa e):=rfl
   have f1:frac ([c]++46::(r++(101::Lib.itoa e)))=r:=by unfold frac;rw [d2,e1,e2,d3];rfl
   have f2:behind ([c]++46::(r++(101::Lib.itoa e)))=101::Lib.itoa e:=by unfold behind;rw [d2,e1,e2,d4];rfl
   refine ⟨?_,?_,?_,_,rfl⟩
   ·unfold finB;rw [f1,f2,x1,d1];rfl
   ·unfold finD;rw [f1,d1]
    exact hbar
   ·unfold finE;rw [f1,f2,x2]
    exact clamp_id (by omega)
 obtain ⟨k1,k2,k3,t,k4⟩:=key
 unfold cutP
 have hs:(sgL s++unT (c::r) e).length<=4000:=by
  rw [List.length_append]
  have:(sgL s).length<=1:=by cases s<;>decide
  omega
 rw [if_neg (by omega)]
 have hsg:gsgB (sgL s++unT (c::r) e)=s/\sgR (sgL s++unT (c::r) e)=unT (c::r) e:=by
  rw [k4]
  exact sig_app s c t ⟨by omega,by omega⟩
 rw [hsg.1,hsg.2]
 unfold bodP
 rw [if_pos k1,k2,k3]
end Go.Proofs.YtjfeaiaafbaobaaGreatDoor
