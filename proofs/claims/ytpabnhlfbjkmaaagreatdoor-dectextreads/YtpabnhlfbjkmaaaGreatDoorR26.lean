/-
  Texts that the proof leans on.
-/
import Derived.Test.YtpabnhlfbjkmaaaGreatDoorR23
import Derived.Lib.ItoaLen
import Derived.Test.YtpabnhlfbjkmaaaGreatDoorR1
import Derived.Test.YtpabnhlfbjkmaaaGreatDoorR13
import Derived.Test.YtpabnhlfbjkmaaaGreatDoorR20
import Derived.Test.YtpabnhlfbjkmaaaGreatDoorR8
import Derived.Test.YtpabnhlfbjkmaaaGreatDoorR4
import Derived.Test.YtpabnhlfbjkmaaaGreatDoorRows
import Derived.ProofKit
import Derived.OpenShut
import Derived.Carry
import Derived.Deep.DeepHandedRow
import Derived.LaidLaws
import Derived.ChangeMaps5
set_option maxHeartbeats 8000000
set_option linter.unusedVariables false
set_option linter.unusedSimpArgs false
set_option linter.unusedSectionVars false
set_option maxRecDepth 20000
namespace Go.Proofs.YtpabnhlfbjkmaaaGreatDoor
open Go.RowKit
theorem zDr {c:Int}{s g:Bool}{d:List UInt8}{e:Int}(hd:d.length<=4000)(he:-9223372036854775808<=e/\e<=9223372036854775807):(zCf c s g d e).length<=4100:=by
 have hi:=Lib.itoa_length_le e he.1 he.2
 have h1:(zX7 c g d e).length<=4050:=by
  unfold zX7
  split
  ·simp
  ·split
   ·unfold zKl
    simp only [List.length_append,List.length_cons]
    split<;>split<;>simp<;>omega
   ·unfold zFu dgT exT
    simp only [List.length_append]
    split<;>split<;>simp<;>omega
 unfold zCf
 rw [List.length_append]
 split<;>simp<;>omega
theorem yQb (c:Int)(s g:Bool)(d:List UInt8)(e:Int)(w:World)(hd:d.length<=4000)(T:List UInt8)
  (c24:∀ W,Below w.heap.size w W->CB 80 #[PV c s g d e] W (.string (B T)))
  (c9:∀ W,CB 35 #[.string (B T)] W (.tuple #[PV c s g d e,.int .i64 0])) :
  CB 37 #[PV c s g d e] w (.tuple #[.string (B T),.int .i64 0]):=by
 have htl:=zDa
 have hsz:=zCa d
 have hdi:(d.length:Int)<=4000:=by omega
 unfold PV at c24 c9 ⊢
 have hsm:=zBa
 go_enter Tryz.func37,Tryz.ntmps37
 go_wp2_with (first|(go_at_call 80;refine wk w (c24 _ bgo) ?_;intro w1 hb1 _ _ _ _ hA1 _;clear hb1)|(go_at_call 35;refine wk w (c9 _) ?_;intro w2 hb2 _ _ _ _ hA2 _;clear hb2))
 go_ret2
 exact ⟨rfl,bgo⟩
theorem join_e (c:Int)(s g:Bool)(d:List UInt8)(e:Int)(w:World)(hd:d.length<=4000)(V1:Int)(V2 V3:Bool)(V4:List UInt8)(V5:Int)(E:Int)(hE:(E != 0)=true)(T:List UInt8)
  (c24:∀ W,Below w.heap.size w W->CB 80 #[PV c s g d e] W (.string (B T)))
  (c9:∀ W,CB 35 #[.string (B T)] W (.tuple #[PV V1 V2 V3 V4 V5,.int .i64 E])) :
  CB 37 #[PV c s g d e] w (.tuple #[.string (B []),.int .i64 1]):=by
 have htl:=zDa
 have hsz:=zCa d
 have hdi:(d.length:Int)<=4000:=by omega
 unfold PV at c24 c9 ⊢
 have hsm:=zBa
 go_enter Tryz.func37,Tryz.ntmps37
 go_wp2_with (first|(go_at_call 80;refine wk w (c24 _ bgo) ?_;intro w1 hb1 _ _ _ _ hA1 _;clear hb1)|(go_at_call 35;refine wk w (c9 _) ?_;intro w2 hb2 _ _ _ _ hA2 _;clear hb2))
 go_ret2
 exact ⟨rfl,bgo⟩
theorem yRb (c:Int)(s g:Bool)(d:List UInt8)(e:Int)(w:World)(hd:d.length<=4000)(V1:Int)(V2 V3:Bool)(V4:List UInt8)(V5:Int)(hne:¬ (V1=c/\V2=s/\V3=g/\V4=d/\V5=e))(T:List UInt8)
  (c24:∀ W,Below w.heap.size w W->CB 80 #[PV c s g d e] W (.string (B T)))
  (c9:∀ W,CB 35 #[.string (B T)] W (.tuple #[PV V1 V2 V3 V4 V5,.int .i64 0])) :
  CB 37 #[PV c s g d e] w (.tuple #[.string (B []),.int .i64 1]):=by
 have htl:=zDa
 have hsz:=zCa d
 have hdi:(d.length:Int)<=4000:=by omega
 unfold PV at c24 c9 ⊢
 have hsm:=zBa
 go_enter Tryz.func37,Tryz.ntmps37
 go_wp2_with (first|(go_at_call 80;refine wk w (c24 _ bgo) ?_;intro w1 hb1 _ _ _ _ hA1 _;clear hb1)|(go_at_call 35;refine wk w (c9 _) ?_;intro w2 hb2 _ _ _ _ hA2 _;clear hb2))
 all_goals
  first
  | exact absurd ⟨by assumption,by assumption,by assumption,by assumption,by assumption⟩ hne
  | (go_ret2;exact ⟨rfl,bgo⟩)
theorem zRy (c:Int)(s g:Bool)(d:List UInt8)(e:Int)(w:World)(hd:4000<d.length) :
  CB 37 #[PV c s g d e] w (.tuple #[.string (B []),.int .i64 1]):=by
 have hsz:=zCa d
 have hdi:(4000:Int)<d.length:=by omega
 unfold PV
 go_enter Tryz.func37,Tryz.ntmps37
 go_wp2
 go_ret2
 exact ⟨rfl,bgo⟩
def jnP (p:Prt):Prop:=p.dig.length<=4000/\zOk (zCf p.cls p.sg p.sn p.dig p.ex)=some p
theorem zO0 {l:List UInt8}{p:Prt}(h:zOk l=some p):zRq l=0/\cutV l=p:=by
 unfold zRq cutV
 have hl:¬ 4000<l.length:=by
  intro h2;unfold zOk at h;rw [if_pos h2] at h;cases h
 rw [if_neg hl,h];exact ⟨rfl,rfl⟩
theorem zJk {l:List UInt8}(h:zRq l=0):zOk l=some (cutV l):=by
 unfold zRq at h
 split at h
 ·cases h
 ·split at h
  ·rename_i h2
   obtain ⟨p,hp⟩:=Option.isSome_iff_exists.1 h2
   unfold cutV;rw [hp];rfl
  ·cases h
def Tb10 (w:World):Prop:=Lib.TabIs Tryz.prog w "internal/strconv.uint64pow10" .u64 Lib.pow10Tab
theorem Tb10.next {w w':World}(h:Tb10 w)(hb:Below w.heap.size w w'):Tb10 w':=Lib.tabBelow_of_tabIs h w' hb
theorem zB7 (p:Prt)(w:World)(hT:Tb10 w)(he:-9223372036854775808<=p.ex/\p.ex<=9223372036854775807)(h:jnP p) :
  CB 37 #[p.v] w (.tuple #[.string (B (zCf p.cls p.sg p.sn p.dig p.ex)),.int .i64 0]):=by
 obtain ⟨e1,e2⟩:=zO0 h.2
 have c9:=fun W=>zQq (zCf p.cls p.sg p.sn p.dig p.ex) W (by have:=zDr (c:=p.cls) (s:=p.sg) (g:=p.sn) h.1 he;omega)
 rw [e1,e2] at c9
 exact yQb _ _ _ _ _ w h.1 _ (fun W hW=>zCr _ _ _ _ _ W (by have:=h.1;omega) he (hT.next hW)) c9
theorem join_n (p:Prt)(w:World)(hT:Tb10 w)(he:-9223372036854775808<=p.ex/\p.ex<=9223372036854775807)(h:¬ jnP p) :
  CB 37 #[p.v] w (.tuple #[.string (B []),.int .i64 1]):=by
 by_cases hd:p.dig.length<=4000
 ·have c9:=fun W=>zQq (zCf p.cls p.sg p.sn p.dig p.ex) W (by have:=zDr (c:=p.cls) (s:=p.sg) (g:=p.sn) hd he;omega)
  have c24:=fun W (hW:Below w.heap.size w W)=>zCr p.cls p.sg p.sn p.dig p.ex W (by omega) he (hT.next hW)
  by_cases hE:zRq (zCf p.cls p.sg p.sn p.dig p.ex)=0
  ·have hs:=zJk hE
   rw [hE] at c9
   refine yRb _ _ _ _ _ w hd _ _ _ _ _ (fun hh=>h ⟨hd,?_⟩) _ c24 c9
   rw [hs]
   obtain ⟨h1,h2,h3,h4,h5⟩:=hh
   congr 1
   obtain ⟨q1,q2,q3,q4,q5⟩:=p
   generalize cutV _=V at *
   obtain ⟨v1,v2,v3,v4,v5⟩:=V
   dsimp only at h1 h2 h3 h4 h5
   subst h1 h2 h3 h4 h5
   rfl
  ·exact join_e _ _ _ _ _ w hd _ _ _ _ _ _ (by simpa using hE) _ c24 c9
 ·exact zRy _ _ _ _ _ w (by omega)
theorem zJs (k:Nat)(h:k<10):dg (UInt8.ofNat (48+k))=true/\((UInt8.ofNat (48+k)).toNat:Int)=48+k:=by
 have:(UInt8.ofNat (48+k)).toNat=48+k:=by
  rw [UInt8.toNat_ofNat'];omega
 refine ⟨?_,by omega⟩
 unfold dg;rw [this];simp;omega
theorem zS7 (u:Nat):(Lib.decDigits u).all dg=true:=by
 induction u using Nat.strongRecOn with
 | ind u ih =>
  rw [Lib.decDigits]
  split
  ·rename_i h
   simp only [List.all_cons,List.all_nil,Bool.and_true]
   exact (zJs u h).1
  ·rename_i h
   rw [List.all_append,ih (u/10) (by omega)]
   simp only [List.all_cons,List.all_nil,Bool.and_true,Bool.true_and]
   exact (zJs (u%10) (by omega)).1
theorem zQ7 (u:Nat):nv (Lib.decDigits u)=u:=by
 induction u using Nat.strongRecOn with
 | ind u ih =>
  rw [Lib.decDigits]
  split
  ·rename_i h
   rw [zDk,(zJs u h).2];omega
  ·rename_i h
   rw [zPo,ih (u/10) (by omega),zDk,(zJs (u%10) (by omega)).2]
   simp
   omega
theorem dec_ne (u:Nat):Lib.decDigits u≠[]:=by
 rw [Lib.decDigits]
 split
 ·simp
 ·simp
theorem zF0 (u:Nat):isd (Lib.decDigits u)=true:=by
 unfold isd
 rw [zS7]
 simp [dec_ne u]
theorem zQv {c:UInt8}{r:List UInt8}(h:(c.toNat:Int)≠45/\(c.toNat:Int)≠43):gsgB (c::r)=false/\sgR (c::r)=c::r:=by
 refine ⟨by simp only [gsgB];exact decide_eq_false h.1,?_⟩
 simp only [sgR]
 rw [if_neg (by omega)]
theorem zKs {c:UInt8}(h:dg c=true):48<=(c.toNat:Int)/\(c.toNat:Int)<=57:=by
 unfold dg at h
 have:=of_decide_eq_true h
 omega
theorem sg_all {l:List UInt8}(h:l.all dg=true):gsgB l=false/\sgR l=l:=by
 cases l with
 | nil=>exact ⟨rfl,rfl⟩
 | cons c r =>
  rw [List.all_cons,Bool.and_eq_true] at h
  have:=zKs h.1
  exact zQv ⟨by omega,by omega⟩
theorem zMz (e:Int)(h:-1000000000<=e/\e<=1000000000):exB (exT e)=true/\exI (exT e)=e/\Lib.hasPrefix (exT e) [46]=false/\dgs (exT e)=[]/\rst (exT e)=exT e:=by
 unfold exT
 split
 ·rename_i h0;subst h0;exact ⟨rfl,rfl,rfl,rfl,rfl⟩
 ·rename_i h0
  have hi:isd (sgR (Lib.itoa e))=true/\exS (Lib.itoa e)=e:=by
   unfold Lib.itoa
   split
   ·rename_i h1
    have e1:gsgB (45::Lib.decDigits e.natAbs)=true:=rfl
    have e2:sgR (45::Lib.decDigits e.natAbs)=Lib.decDigits e.natAbs:=rfl
    unfold exS
    rw [e1,e2,if_pos rfl]
    refine ⟨zF0 _,?_⟩
    unfold vc;rw [zQ7];omega
   ·rename_i h1
    obtain ⟨e1,e2⟩:=sg_all (zS7 e.toNat)
    unfold exS
    rw [e1,e2]
    refine ⟨zF0 _,?_⟩
    rw [if_neg (by decide)]
    unfold vc;rw [zQ7];omega
  have hx:exB (101::Lib.itoa e)=true:=by
   simp only [exB]
   rw [hi.1];rfl
  refine ⟨hx,?_,rfl,rfl,rfl⟩
  simp only [exI]
  rw [if_pos hx]
  exact hi.2
theorem zGg {l m:List UInt8}(h:l.all dg=true)(hm:dgs m=[]):dgs (l++m)=l/\rst (l++m)=m:=by
 have h1:dgs (l++m)=l:=by
  induction l with
  | nil=>exact hm
  | cons c r ih =>
   rw [List.all_cons,Bool.and_eq_true] at h
   unfold dgs at ih ⊢
   rw [List.cons_append,List.takeWhile_cons,if_pos h.1,ih h.2]
 refine ⟨h1,?_⟩
 have e:=zUd (l++m)
 rw [h1] at e
 exact List.append_cancel_left e
theorem yYb (T:List UInt8)(e:Int)(hT:T.all dg=true)(hn:T≠[])(h:-1000000000<=e/\e<=1000000000):zEg (T++exT e)=true/\finD (T++exT e)=bar T/\finE (T++exT e)=e:=by
 obtain ⟨h1,h2,h3,h4,h5⟩:=zMz e h
 obtain ⟨d1,d2⟩:=zGg hT h4
 have f1:zWh (T++exT e)=[]:=by unfold zWh;rw [d2,h3];rfl
 have f2:zFc (T++exT e)=exT e:=by unfold zFc;rw [d2,h3];rfl
 refine ⟨?_,?_,?_⟩
 ·unfold zEg;rw [f1,f2,h1,d1]
  cases T with
  | nil=>exact absurd rfl hn
  | cons c r=>rfl
 ·unfold finD;rw [f1,d1,List.append_nil]
 ·unfold finE;rw [f1,f2,h2];unfold zNe;simp;omega
def gdD (d:List UInt8):Prop:=d=[]∨(isd d=true/\by_ d 0≠48)
theorem zPg {d:List UInt8}(h:gdD d):d.all dg=true:=by
 rcases h with rfl|⟨h,_⟩
 ·rfl
 ·exact zKi h
theorem zFz {d:List UInt8}(h:gdD d):bar d=d:=by
 cases d with
 | nil=>rfl
 | cons c r =>
  rcases h with h|⟨_,h⟩
  ·cases h
  ·rw [zXa] at h
   rw [zAf,if_neg h]
theorem zX0 {l:List UInt8}(h:l.all dg=true):gdD (bar l):=by
 have ha:=zLn h
 cases hb:bar l with
 | nil=>exact Or.inl rfl
 | cons c r =>
  rw [hb] at ha
  refine Or.inr ⟨?_,?_⟩
  ·unfold isd;rw [ha];rfl
  ·rw [zXa];exact zRs hb
theorem yTb {d:List UInt8}(h:gdD d):(dgT d).all dg=true/\dgT d≠[]/\bar (dgT d)=d:=by
 unfold dgT
 split
 ·rename_i h0;subst h0;exact ⟨rfl,by simp,rfl⟩
 ·rename_i h0;exact ⟨zPg h,h0,zFz h⟩
def gdP (p:Prt):Prop:=gdD p.dig/\((p.cls=1/\p.sn=false/\(-1000000000<=p.ex/\p.ex<=1000000000)/\(zCf p.cls p.sg p.sn p.dig p.ex).length<=4000)∨(p.cls=2/\p.sn=false/\p.dig=[]/\p.ex=0)∨(p.cls=3/\p.ex=0/\(zCf p.cls p.sg p.sn p.dig p.ex).length<=4000))
theorem zRj (s:Bool)(c:UInt8)(r:List UInt8)(h:(c.toNat:Int)≠45/\(c.toNat:Int)≠43):gsgB ((if s then [45] else [])++(c::r))=s/\sgR ((if s then [45] else [])++(c::r))=c::r:=by
 cases s
 ·exact zQv h
 ·exact ⟨rfl,rfl⟩
theorem sml_dg {d:List UInt8}(h:d.all dg=true):sml d=d:=by
 induction d with
 | nil=>rfl
 | cons c r ih =>
  rw [List.all_cons,Bool.and_eq_true] at h
  have:=zKs h.1
  show sm c::sml r=c::r
  rw [ih h.2]
  unfold sm
  rw [if_neg (by omega)]
theorem nan_pa {d:List UInt8}(h:gdD d):sml (if d=[] then [] else 40::(d++[41]))=(if d=[] then [] else 40::(d++[41]))/\paB (if d=[] then [] else 40::(d++[41]))=true/\paD (if d=[] then [] else 40::(d++[41]))=d:=by
 by_cases h0:d=[]
 ·rw [if_pos h0];subst h0;exact ⟨rfl,rfl,rfl⟩
 ·rw [if_neg h0]
  have e1:Lib.trimPrefix (40::(d++[41])) [40]=d++[41]:=rfl
  have e2:Lib.hasPrefix (40::(d++[41])) [40]=true:=rfl
  obtain ⟨d1,d2⟩:=zGg (m:=[41]) (zPg h) rfl
  refine ⟨?_,?_,?_⟩
  ·have:=sml_dg (zPg h)
   unfold sml at this ⊢
   rw [List.map_cons,List.map_append,this];rfl
  ·unfold paB;rw [e1,e2,d1,d2]
   cases d with
   | nil=>exact absurd rfl h0
   | cons c r=>rfl
  ·unfold paD;rw [e1,e2,d1];rfl
theorem yBb (g:Bool){d:List UInt8}(h:gdD d):zEg (zKl g d)=false/\zVm (sml (zKl g d))=false/\zTo (sml (zKl g d))=true/\Lib.hasPrefix (sml (zKl g d)) [115]=g/\paD (nanR (sml (zKl g d)))=d:=by
 obtain ⟨p1,p2,p3⟩:=nan_pa h
 unfold zKl
 generalize (if d=[] then [] else 40::(d++[41]):List UInt8)=X at p1 p2 p3 ⊢
 cases g
 ·have e:sml ((if false=true then [115] else [])++([110,97,110]++X))=[110,97,110]++X:=by
   show 110::97::110::sml X=_
   rw [p1];rfl
  rw [e]
  refine ⟨rfl,rfl,?_,rfl,?_⟩
  ·show (true&&paB X)=true
   rw [p2];rfl
  ·exact p3
 ·have e:sml ((if true=true then [115] else [])++([110,97,110]++X))=115::([110,97,110]++X):=by
   show 115::110::97::110::sml X=_
   rw [p1];rfl
  rw [e]
  refine ⟨rfl,rfl,?_,rfl,?_⟩
  ·show (true&&paB X)=true
   rw [p2];rfl
  ·exact p3
theorem zUm {p:Prt}(h:gdP p):jnP p:=by
 obtain ⟨c,s,g,d,e⟩:=p
 obtain ⟨hd,h⟩:=h
 dsimp only at hd h
 rcases h with ⟨rfl,rfl,he,hl⟩|⟨rfl,rfl,rfl,rfl⟩|⟨rfl,rfl,hl⟩
 ·obtain ⟨t1,t2,t3⟩:=yTb hd
  have hb:zX7 1 false d e=dgT d++exT e:=rfl
  have hdl:d.length<=(dgT d).length:=by
   unfold dgT;split
   ·rename_i h0;subst h0;simp
   ·exact Nat.le_refl _
  have ht:zCf 1 s false d e=(if s then [45] else [])++(dgT d++exT e):=rfl
  refine ⟨?_,?_⟩
  ·rw [ht] at hl
   simp only [List.length_append] at hl
   show d.length<=4000
   omega
  ·unfold zOk
   rw [if_neg (show ¬ 4000<(zCf 1 s false d e).length by omega)]
   show zNu (gsgB (zCf 1 s false d e)) (sgR (zCf 1 s false d e))=_
   obtain ⟨f1,f2,f3⟩:=yYb (dgT d) e t1 t2 he
   have hs:gsgB (zCf 1 s false d e)=s/\sgR (zCf 1 s false d e)=dgT d++exT e:=by
    rw [ht]
    revert t1 t2
    generalize dgT d=T
    intro t1 t2
    cases T with
    | nil=>exact absurd rfl t2
    | cons c r =>
     rw [List.all_cons,Bool.and_eq_true] at t1
     have:=zKs t1.1
     exact zRj s c _ ⟨by omega,by omega⟩
   rw [hs.1,hs.2]
   unfold zNu
   rw [if_pos f1,f2,f3,t3]
 ·refine ⟨by simp,?_⟩
  cases s<;>rfl
 ·have hn:=yBb g hd
  have ht:zCf 3 s g d 0=(if s then [45] else [])++zKl g d:=rfl
  refine ⟨?_,?_⟩
  ·rw [ht] at hl
   unfold zKl at hl
   simp only [List.length_append] at hl
   show d.length<=4000
   by_cases h0:d=[]
   ·subst h0;simp
   ·rw [if_neg h0] at hl
    simp only [List.length_cons,List.length_append] at hl
    omega
  ·unfold zOk
   rw [if_neg (show ¬ 4000<(zCf 3 s g d 0).length by omega)]
   show zNu (gsgB (zCf 3 s g d 0)) (sgR (zCf 3 s g d 0))=_
   have hs:gsgB (zCf 3 s g d 0)=s/\sgR (zCf 3 s g d 0)=zKl g d:=by
    rw [ht]
    cases g
    ·exact zRj s 110 _ ⟨by decide,by decide⟩
    ·exact zRj s 115 _ ⟨by decide,by decide⟩
   obtain ⟨n1,n2,n3,n4,n5⟩:=hn
   rw [hs.1,hs.2]
   unfold zNu
   rw [if_neg (by rw [n1];decide),if_neg (by rw [n2];decide),if_pos n3,n4,n5,zFz hd]
theorem zNs {l:List UInt8}{p:Prt}(h:zOk l=some p):gdD p.dig/\((p.cls=1/\p.sn=false/\(-1000000000<=p.ex/\p.ex<=1000000000))∨(p.cls=2/\p.sn=false/\p.dig=[]/\p.ex=0)∨(p.cls=3/\p.ex=0)):=by
 unfold zOk at h
 split at h
 ·cases h
 ·unfold zNu at h
  generalize sgR l=r at h
  split at h
  ·injection h with h;subst h
   refine ⟨zX0 ?_,Or.inl ⟨rfl,rfl,?_⟩⟩
   ·rw [List.all_append,zWg]
    unfold zWh
    split
    ·rw [zWg];rfl
    ·rfl
   ·show -1000000000<=finE r/\finE r<=1000000000
    unfold finE zNe
    omega
  ·split at h
   ·injection h with h;subst h
    exact ⟨Or.inl rfl,Or.inr (Or.inl ⟨rfl,rfl,rfl,rfl⟩)⟩
   ·split at h
    ·injection h with h;subst h
     refine ⟨zX0 ?_,Or.inr (Or.inr ⟨rfl,rfl⟩)⟩
     unfold paD
     split
     ·rw [zWg]
     ·rfl
    ·cases h
theorem zN4 {p:Prt}(h:jnP p):gdP p:=by
 obtain ⟨hd,h⟩:=h
 have hl:(zCf p.cls p.sg p.sn p.dig p.ex).length<=4000:=by
  unfold zOk at h
  split at h
  ·cases h
  ·omega
 obtain ⟨g1,g2⟩:=zNs h
 refine ⟨g1,?_⟩
 rcases g2 with ⟨a,b,c⟩|g2|⟨a,b⟩
 ·exact Or.inl ⟨a,b,c,hl⟩
 ·exact Or.inr (Or.inl g2)
 ·exact Or.inr (Or.inr ⟨a,b,hl⟩)
theorem zCg (e:Int)(w:World)(he:-9223372036854775808<=e/\e<=9223372036854775807)(hT:Tb10 w) :
  CB 68 #[.int .i64 e] w (.string (B (Lib.itoa e))):=by
 refine (Tryz.strconv_Itoa e he.1 he.2 w hT).mono ?_
 rintro x w' ⟨rfl,k,os,rfl⟩
 exact ⟨rfl,⟨rfl,rfl,rfl,by show w.heap.size<=(w.heap++os).size;simp,fun b hb=>by show (w.heap++os)[b]?=w.heap[b]?;rw [Array.getElem?_append_left hb]⟩⟩
theorem rx2_f (g:Bool)(d:List UInt8)(e:Int)(w:World) :
  CB 69 #[PV 2 false g d e] w (.string (B ([]++[105,110,102]))):=by
 have htl:=zDa
 have hsm:=zBa
 have hn0:B []=⟨#[]⟩:=rfl
 have p0:(⟨#[]⟩:ByteArray)++(⟨#[105,110,102]⟩:ByteArray)=B ([]++[105,110,102]):=zTa ([]) ([105,110,102])
 have z0:(B ([]++[105,110,102])).size=3:=by rw [zCa];simp only [ll];try omega
 generalize ([]++[105,110,102]:List UInt8)=L0 at *
 unfold PV
 go_enter Tryz.func69,Tryz.ntmps69
 go_wp2
 go_ret
 exact ⟨rfl,bgo⟩
theorem zV9 (e:Int)(w:World) :
  CB 69 #[PV 3 false false [] e] w (.string (B ([]++[110,97,110]))):=by
 have htl:=zDa
 have hsm:=zBa
 have hn0:B []=⟨#[]⟩:=rfl
 have p0:(⟨#[]⟩:ByteArray)++(⟨#[110,97,110]⟩:ByteArray)=B ([]++[110,97,110]):=zTa ([]) ([110,97,110])
 have z0:(B ([]++[110,97,110])).size=3:=by rw [zCa];simp only [ll];try omega
 generalize ([]++[110,97,110]:List UInt8)=L0 at *
 unfold PV
 go_enter Tryz.func69,Tryz.ntmps69
 go_wp2
 go_ret
 exact ⟨rfl,bgo⟩
theorem zU9 (y:UInt8)(ys:List UInt8)(hd:ys.length<100000)(e:Int)(w:World) :
  CB 69 #[PV 3 false false (y::ys) e] w (.string (B (((([]++[110,97,110])++[40])++(y::ys))++[41]))):=by
 have htl:=zDa
 have hsm:=zBa
 have hsz:(B (y::ys)).size=ys.length+1:=zCa (y::ys)
 have p0:(⟨#[]⟩:ByteArray)++(⟨#[110,97,110]⟩:ByteArray)=B ([]++[110,97,110]):=zTa ([]) ([110,97,110])
 have z0:(B ([]++[110,97,110])).size=3:=by rw [zCa];simp only [ll];try omega
 generalize ([]++[110,97,110]:List UInt8)=L0 at *
 have p1:B L0++(⟨#[40]⟩:ByteArray)=B (L0++[40]):=zTa (L0) ([40])
 have z1:(B (L0++[40])).size=4:=by have h:=z0;rw [zCa] at h ⊢;simp only [ll];omega
 generalize (L0++[40]:List UInt8)=L1 at *
 have p2:B L1++B (y::ys)=B (L1++(y::ys)):=zTa (L1) ((y::ys))
 have z2:(B (L1++(y::ys))).size=ys.length+1+4:=by have h:=z1;rw [zCa] at h ⊢;simp only [ll];omega
 generalize (L1++(y::ys):List UInt8)=L2 at *
 have p3:B L2++(⟨#[41]⟩:ByteArray)=B (L2++[41]):=zTa (L2) ([41])
 have z3:(B (L2++[41])).size=ys.length+1+5:=by have h:=z2;rw [zCa] at h ⊢;simp only [ll];omega
 generalize (L2++[41]:List UInt8)=L3 at *
 unfold PV
 go_enter Tryz.func69,Tryz.ntmps69
 go_wp2
 go_ret
 exact ⟨rfl,bgo⟩
theorem zT9 (e:Int)(w:World) :
  CB 69 #[PV 3 false true [] e] w (.string (B (([]++[115])++[110,97,110]))):=by
 have htl:=zDa
 have hsm:=zBa
 have hn0:B []=⟨#[]⟩:=rfl
 have p0:(⟨#[]⟩:ByteArray)++(⟨#[115]⟩:ByteArray)=B ([]++[115]):=zTa ([]) ([115])
 have z0:(B ([]++[115])).size=1:=by rw [zCa];simp only [ll];try omega
 generalize ([]++[115]:List UInt8)=L0 at *
 have p1:B L0++(⟨#[110,97,110]⟩:ByteArray)=B (L0++[110,97,110]):=zTa (L0) ([110,97,110])
 have z1:(B (L0++[110,97,110])).size=4:=by have h:=z0;rw [zCa] at h ⊢;simp only [ll];omega
 generalize (L0++[110,97,110]:List UInt8)=L1 at *
 unfold PV
 go_enter Tryz.func69,Tryz.ntmps69
 go_wp2
 go_ret
 exact ⟨rfl,bgo⟩
theorem zS9 (y:UInt8)(ys:List UInt8)(hd:ys.length<100000)(e:Int)(w:World) :
  CB 69 #[PV 3 false true (y::ys) e] w (.string (B ((((([]++[115])++[110,97,110])++[40])++(y::ys))++[41]))):=by
 have htl:=zDa
 have hsm:=zBa
 have hsz:(B (y::ys)).size=ys.length+1:=zCa (y::ys)
 have p0:(⟨#[]⟩:ByteArray)++(⟨#[115]⟩:ByteArray)=B ([]++[115]):=zTa ([]) ([115])
 have z0:(B ([]++[115])).size=1:=by rw [zCa];simp only [ll];try omega
 generalize ([]++[115]:List UInt8)=L0 at *
 have p1:B L0++(⟨#[110,97,110]⟩:ByteArray)=B (L0++[110,97,110]):=zTa (L0) ([110,97,110])
 have z1:(B (L0++[110,97,110])).size=4:=by have h:=z0;rw [zCa] at h ⊢;simp only [ll];omega
 generalize (L0++[110,97,110]:List UInt8)=L1 at *
 have p2:B L1++(⟨#[40]⟩:ByteArray)=B (L1++[40]):=zTa (L1) ([40])
 have z2:(B (L1++[40])).size=5:=by have h:=z1;rw [zCa] at h ⊢;simp only [ll];omega
 generalize (L1++[40]:List UInt8)=L2 at *
 have p3:B L2++B (y::ys)=B (L2++(y::ys)):=zTa (L2) ((y::ys))
 have z3:(B (L2++(y::ys))).size=ys.length+1+5:=by have h:=z2;rw [zCa] at h ⊢;simp only [ll];omega
 generalize (L2++(y::ys):List UInt8)=L3 at *
 have p4:B L3++(⟨#[41]⟩:ByteArray)=B (L3++[41]):=zTa (L3) ([41])
 have z4:(B (L3++[41])).size=ys.length+1+6:=by have h:=z3;rw [zCa] at h ⊢;simp only [ll];omega
 generalize (L3++[41]:List UInt8)=L4 at *
 unfold PV
 go_enter Tryz.func69,Tryz.ntmps69
 go_wp2
 go_ret
 exact ⟨rfl,bgo⟩
theorem zN9 (g:Bool)(c:Int)(h2:(c==2)=false)(h3:(c==3)=false)(e:Int)(he0:(e != 0)=true)(he:-9223372036854775808<=e/\e<=9223372036854775807)(w:World)(hT:Tb10 w) :
  CB 69 #[PV c false g [] e] w (.string (B (((([]++[48])++[])++[101])++Lib.itoa e))):=by
 have htl:=zDa
 have hsm:=zBa
 have hn0:B []=⟨#[]⟩:=rfl
 have hil:=Lib.itoa_length_le e he.1 he.2
 have hisz:=zCa (Lib.itoa e)
 have c38:=fun W (hb:Below w.heap.size w W)=>zCg e W he (hT.next hb)
 have p0:(⟨#[]⟩:ByteArray)++(⟨#[48]⟩:ByteArray)=B ([]++[48]):=zTa ([]) ([48])
 have z0:(B ([]++[48])).size=1:=by rw [zCa];simp only [ll];try omega
 generalize ([]++[48]:List UInt8)=L0 at *
 have p1:B L0++(⟨#[]⟩:ByteArray)=B (L0++[]):=zTa (L0) ([])
 have z1:(B (L0++[])).size=1:=by have h:=z0;rw [zCa] at h ⊢;simp only [ll];omega
 generalize (L0++[]:List UInt8)=L1 at *
 have p2:B L1++(⟨#[101]⟩:ByteArray)=B (L1++[101]):=zTa (L1) ([101])
 have z2:(B (L1++[101])).size=2:=by have h:=z1;rw [zCa] at h ⊢;simp only [ll];omega
 generalize (L1++[101]:List UInt8)=L2 at *
 have p3:B L2++B (Lib.itoa e)=B (L2++Lib.itoa e):=zTa (L2) (Lib.itoa e)
 have z3:(B (L2++Lib.itoa e)).size=(Lib.itoa e).length+2:=by have h:=z2;rw [zCa] at h ⊢;simp only [ll];omega
 generalize (L2++Lib.itoa e:List UInt8)=L3 at *
 unfold PV
 go_enter Tryz.func69,Tryz.ntmps69
 go_wp2_with (first|(go_at_call 68;refine wk w (c38 _ bgo) ?_;intro w1 hb1 _ _ _ _ hA1 _;clear hb1))
 go_ret
 exact ⟨rfl,bgo⟩
theorem zM9 (g:Bool)(c:Int)(h2:(c==2)=false)(h3:(c==3)=false)(w:World) :
  CB 69 #[PV c false g [] 0] w (.string (B (([]++[48])++[]))):=by
 have htl:=zDa
 have hsm:=zBa
 have hn0:B []=⟨#[]⟩:=rfl
 have p0:(⟨#[]⟩:ByteArray)++(⟨#[48]⟩:ByteArray)=B ([]++[48]):=zTa ([]) ([48])
 have z0:(B ([]++[48])).size=1:=by rw [zCa];simp only [ll];try omega
 generalize ([]++[48]:List UInt8)=L0 at *
 have p1:B L0++(⟨#[]⟩:ByteArray)=B (L0++[]):=zTa (L0) ([])
 have z1:(B (L0++[])).size=1:=by have h:=z0;rw [zCa] at h ⊢;simp only [ll];omega
 generalize (L0++[]:List UInt8)=L1 at *
 unfold PV
 go_enter Tryz.func69,Tryz.ntmps69
 go_wp2
 go_ret
 exact ⟨rfl,bgo⟩
theorem zL9 (g:Bool)(c:Int)(h2:(c==2)=false)(h3:(c==3)=false)(y:UInt8)(ys:List UInt8)(hd:ys.length<100000)(e:Int)(he0:(e != 0)=true)(he:-9223372036854775808<=e/\e<=9223372036854775807)(w:World)(hT:Tb10 w) :
  CB 69 #[PV c false g (y::ys) e] w (.string (B ((([]++(y::ys))++[101])++Lib.itoa e))):=by
 have htl:=zDa
 have hsm:=zBa
 have hsz:(B (y::ys)).size=ys.length+1:=zCa (y::ys)
 have hil:=Lib.itoa_length_le e he.1 he.2
 have hisz:=zCa (Lib.itoa e)
 have c38:=fun W (hb:Below w.heap.size w W)=>zCg e W he (hT.next hb)
 have p0:(⟨#[]⟩:ByteArray)++B (y::ys)=B ([]++(y::ys)):=zTa ([]) ((y::ys))
 have z0:(B ([]++(y::ys))).size=ys.length+1+0:=by rw [zCa];simp only [ll];try omega
 generalize ([]++(y::ys):List UInt8)=L0 at *
 have p1:B L0++(⟨#[101]⟩:ByteArray)=B (L0++[101]):=zTa (L0) ([101])
 have z1:(B (L0++[101])).size=ys.length+1+1:=by have h:=z0;rw [zCa] at h ⊢;simp only [ll];omega
 generalize (L0++[101]:List UInt8)=L1 at *
 have p2:B L1++B (Lib.itoa e)=B (L1++Lib.itoa e):=zTa (L1) (Lib.itoa e)
 have z2:(B (L1++Lib.itoa e)).size=ys.length+1+(Lib.itoa e).length+1:=by have h:=z1;rw [zCa] at h ⊢;simp only [ll];omega
 generalize (L1++Lib.itoa e:List UInt8)=L2 at *
 unfold PV
 go_enter Tryz.func69,Tryz.ntmps69
 go_wp2_with (first|(go_at_call 68;refine wk w (c38 _ bgo) ?_;intro w1 hb1 _ _ _ _ hA1 _;clear hb1))
 go_ret
 exact ⟨rfl,bgo⟩
theorem zK9 (g:Bool)(c:Int)(h2:(c==2)=false)(h3:(c==3)=false)(y:UInt8)(ys:List UInt8)(hd:ys.length<100000)(w:World) :
  CB 69 #[PV c false g (y::ys) 0] w (.string (B ([]++(y::ys)))):=by
 have htl:=zDa
 have hsm:=zBa
 have hsz:(B (y::ys)).size=ys.length+1:=zCa (y::ys)
 have p0:(⟨#[]⟩:ByteArray)++B (y::ys)=B ([]++(y::ys)):=zTa ([]) ((y::ys))
 have z0:(B ([]++(y::ys))).size=ys.length+1+0:=by rw [zCa];simp only [ll];try omega
 generalize ([]++(y::ys):List UInt8)=L0 at *
 unfold PV
 go_enter Tryz.func69,Tryz.ntmps69
 go_wp2
 go_ret
 exact ⟨rfl,bgo⟩
theorem rx2_t (g:Bool)(d:List UInt8)(e:Int)(w:World) :
  CB 69 #[PV 2 true g d e] w (.string (B ([45]++[105,110,102]))):=by
 have htl:=zDa
 have hsm:=zBa
 have hn0:B []=⟨#[]⟩:=rfl
 have p0:(⟨#[45]⟩:ByteArray)++(⟨#[105,110,102]⟩:ByteArray)=B ([45]++[105,110,102]):=zTa ([45]) ([105,110,102])
 have z0:(B ([45]++[105,110,102])).size=4:=by rw [zCa];simp only [ll];try omega
 generalize ([45]++[105,110,102]:List UInt8)=L0 at *
 unfold PV
 go_enter Tryz.func69,Tryz.ntmps69
 go_wp2
 go_ret
 exact ⟨rfl,bgo⟩
theorem zR9 (e:Int)(w:World) :
  CB 69 #[PV 3 true false [] e] w (.string (B ([45]++[110,97,110]))):=by
 have htl:=zDa
 have hsm:=zBa
 have hn0:B []=⟨#[]⟩:=rfl
 have p0:(⟨#[45]⟩:ByteArray)++(⟨#[110,97,110]⟩:ByteArray)=B ([45]++[110,97,110]):=zTa ([45]) ([110,97,110])
 have z0:(B ([45]++[110,97,110])).size=4:=by rw [zCa];simp only [ll];try omega
 generalize ([45]++[110,97,110]:List UInt8)=L0 at *
 unfold PV
 go_enter Tryz.func69,Tryz.ntmps69
 go_wp2
 go_ret
 exact ⟨rfl,bgo⟩
theorem zQ9 (y:UInt8)(ys:List UInt8)(hd:ys.length<100000)(e:Int)(w:World) :
  CB 69 #[PV 3 true false (y::ys) e] w (.string (B (((([45]++[110,97,110])++[40])++(y::ys))++[41]))):=by
 have htl:=zDa
 have hsm:=zBa
 have hsz:(B (y::ys)).size=ys.length+1:=zCa (y::ys)
 have p0:(⟨#[45]⟩:ByteArray)++(⟨#[110,97,110]⟩:ByteArray)=B ([45]++[110,97,110]):=zTa ([45]) ([110,97,110])
 have z0:(B ([45]++[110,97,110])).size=4:=by rw [zCa];simp only [ll];try omega
 generalize ([45]++[110,97,110]:List UInt8)=L0 at *
 have p1:B L0++(⟨#[40]⟩:ByteArray)=B (L0++[40]):=zTa (L0) ([40])
 have z1:(B (L0++[40])).size=5:=by have h:=z0;rw [zCa] at h ⊢;simp only [ll];omega
 generalize (L0++[40]:List UInt8)=L1 at *
 have p2:B L1++B (y::ys)=B (L1++(y::ys)):=zTa (L1) ((y::ys))
 have z2:(B (L1++(y::ys))).size=ys.length+1+5:=by have h:=z1;rw [zCa] at h ⊢;simp only [ll];omega
 generalize (L1++(y::ys):List UInt8)=L2 at *
 have p3:B L2++(⟨#[41]⟩:ByteArray)=B (L2++[41]):=zTa (L2) ([41])
 have z3:(B (L2++[41])).size=ys.length+1+6:=by have h:=z2;rw [zCa] at h ⊢;simp only [ll];omega
 generalize (L2++[41]:List UInt8)=L3 at *
 unfold PV
 go_enter Tryz.func69,Tryz.ntmps69
 go_wp2
 go_ret
 exact ⟨rfl,bgo⟩
theorem zP9 (e:Int)(w:World) :
  CB 69 #[PV 3 true true [] e] w (.string (B (([45]++[115])++[110,97,110]))):=by
 have htl:=zDa
 have hsm:=zBa
 have hn0:B []=⟨#[]⟩:=rfl
 have p0:(⟨#[45]⟩:ByteArray)++(⟨#[115]⟩:ByteArray)=B ([45]++[115]):=zTa ([45]) ([115])
 have z0:(B ([45]++[115])).size=2:=by rw [zCa];simp only [ll];try omega
 generalize ([45]++[115]:List UInt8)=L0 at *
 have p1:B L0++(⟨#[110,97,110]⟩:ByteArray)=B (L0++[110,97,110]):=zTa (L0) ([110,97,110])
 have z1:(B (L0++[110,97,110])).size=5:=by have h:=z0;rw [zCa] at h ⊢;simp only [ll];omega
 generalize (L0++[110,97,110]:List UInt8)=L1 at *
 unfold PV
 go_enter Tryz.func69,Tryz.ntmps69
 go_wp2
 go_ret
 exact ⟨rfl,bgo⟩
theorem zO9 (y:UInt8)(ys:List UInt8)(hd:ys.length<100000)(e:Int)(w:World) :
  CB 69 #[PV 3 true true (y::ys) e] w (.string (B ((((([45]++[115])++[110,97,110])++[40])++(y::ys))++[41]))):=by
 have htl:=zDa
 have hsm:=zBa
 have hsz:(B (y::ys)).size=ys.length+1:=zCa (y::ys)
 have p0:(⟨#[45]⟩:ByteArray)++(⟨#[115]⟩:ByteArray)=B ([45]++[115]):=zTa ([45]) ([115])
 have z0:(B ([45]++[115])).size=2:=by rw [zCa];simp only [ll];try omega
 generalize ([45]++[115]:List UInt8)=L0 at *
 have p1:B L0++(⟨#[110,97,110]⟩:ByteArray)=B (L0++[110,97,110]):=zTa (L0) ([110,97,110])
 have z1:(B (L0++[110,97,110])).size=5:=by have h:=z0;rw [zCa] at h ⊢;simp only [ll];omega
 generalize (L0++[110,97,110]:List UInt8)=L1 at *
 have p2:B L1++(⟨#[40]⟩:ByteArray)=B (L1++[40]):=zTa (L1) ([40])
 have z2:(B (L1++[40])).size=6:=by have h:=z1;rw [zCa] at h ⊢;simp only [ll];omega
 generalize (L1++[40]:List UInt8)=L2 at *
 have p3:B L2++B (y::ys)=B (L2++(y::ys)):=zTa (L2) ((y::ys))
 have z3:(B (L2++(y::ys))).size=ys.length+1+6:=by have h:=z2;rw [zCa] at h ⊢;simp only [ll];omega
 generalize (L2++(y::ys):List UInt8)=L3 at *
 have p4:B L3++(⟨#[41]⟩:ByteArray)=B (L3++[41]):=zTa (L3) ([41])
 have z4:(B (L3++[41])).size=ys.length+1+7:=by have h:=z3;rw [zCa] at h ⊢;simp only [ll];omega
 generalize (L3++[41]:List UInt8)=L4 at *
 unfold PV
 go_enter Tryz.func69,Tryz.ntmps69
 go_wp2
 go_ret
 exact ⟨rfl,bgo⟩
theorem zJ9 (g:Bool)(c:Int)(h2:(c==2)=false)(h3:(c==3)=false)(e:Int)(he0:(e != 0)=true)(he:-9223372036854775808<=e/\e<=9223372036854775807)(w:World)(hT:Tb10 w) :
  CB 69 #[PV c true g [] e] w (.string (B (((([45]++[48])++[])++[101])++Lib.itoa e))):=by
 have htl:=zDa
 have hsm:=zBa
 have hn0:B []=⟨#[]⟩:=rfl
 have hil:=Lib.itoa_length_le e he.1 he.2
 have hisz:=zCa (Lib.itoa e)
 have c38:=fun W (hb:Below w.heap.size w W)=>zCg e W he (hT.next hb)
 have p0:(⟨#[45]⟩:ByteArray)++(⟨#[48]⟩:ByteArray)=B ([45]++[48]):=zTa ([45]) ([48])
 have z0:(B ([45]++[48])).size=2:=by rw [zCa];simp only [ll];try omega
 generalize ([45]++[48]:List UInt8)=L0 at *
 have p1:B L0++(⟨#[]⟩:ByteArray)=B (L0++[]):=zTa (L0) ([])
 have z1:(B (L0++[])).size=2:=by have h:=z0;rw [zCa] at h ⊢;simp only [ll];omega
 generalize (L0++[]:List UInt8)=L1 at *
 have p2:B L1++(⟨#[101]⟩:ByteArray)=B (L1++[101]):=zTa (L1) ([101])
 have z2:(B (L1++[101])).size=3:=by have h:=z1;rw [zCa] at h ⊢;simp only [ll];omega
 generalize (L1++[101]:List UInt8)=L2 at *
 have p3:B L2++B (Lib.itoa e)=B (L2++Lib.itoa e):=zTa (L2) (Lib.itoa e)
 have z3:(B (L2++Lib.itoa e)).size=(Lib.itoa e).length+3:=by have h:=z2;rw [zCa] at h ⊢;simp only [ll];omega
 generalize (L2++Lib.itoa e:List UInt8)=L3 at *
 unfold PV
 go_enter Tryz.func69,Tryz.ntmps69
 go_wp2_with (first|(go_at_call 68;refine wk w (c38 _ bgo) ?_;intro w1 hb1 _ _ _ _ hA1 _;clear hb1))
 go_ret
 exact ⟨rfl,bgo⟩
theorem zI9 (g:Bool)(c:Int)(h2:(c==2)=false)(h3:(c==3)=false)(w:World) :
  CB 69 #[PV c true g [] 0] w (.string (B (([45]++[48])++[]))):=by
 have htl:=zDa
 have hsm:=zBa
 have hn0:B []=⟨#[]⟩:=rfl
 have p0:(⟨#[45]⟩:ByteArray)++(⟨#[48]⟩:ByteArray)=B ([45]++[48]):=zTa ([45]) ([48])
 have z0:(B ([45]++[48])).size=2:=by rw [zCa];simp only [ll];try omega
 generalize ([45]++[48]:List UInt8)=L0 at *
 have p1:B L0++(⟨#[]⟩:ByteArray)=B (L0++[]):=zTa (L0) ([])
 have z1:(B (L0++[])).size=2:=by have h:=z0;rw [zCa] at h ⊢;simp only [ll];omega
 generalize (L0++[]:List UInt8)=L1 at *
 unfold PV
 go_enter Tryz.func69,Tryz.ntmps69
 go_wp2
 go_ret
 exact ⟨rfl,bgo⟩
theorem zH9 (g:Bool)(c:Int)(h2:(c==2)=false)(h3:(c==3)=false)(y:UInt8)(ys:List UInt8)(hd:ys.length<100000)(e:Int)(he0:(e != 0)=true)(he:-9223372036854775808<=e/\e<=9223372036854775807)(w:World)(hT:Tb10 w) :
  CB 69 #[PV c true g (y::ys) e] w (.string (B ((([45]++(y::ys))++[101])++Lib.itoa e))):=by
 have htl:=zDa
 have hsm:=zBa
 have hsz:(B (y::ys)).size=ys.length+1:=zCa (y::ys)
 have hil:=Lib.itoa_length_le e he.1 he.2
 have hisz:=zCa (Lib.itoa e)
 have c38:=fun W (hb:Below w.heap.size w W)=>zCg e W he (hT.next hb)
 have p0:(⟨#[45]⟩:ByteArray)++B (y::ys)=B ([45]++(y::ys)):=zTa ([45]) ((y::ys))
 have z0:(B ([45]++(y::ys))).size=ys.length+1+1:=by rw [zCa];simp only [ll];try omega
 generalize ([45]++(y::ys):List UInt8)=L0 at *
 have p1:B L0++(⟨#[101]⟩:ByteArray)=B (L0++[101]):=zTa (L0) ([101])
 have z1:(B (L0++[101])).size=ys.length+1+2:=by have h:=z0;rw [zCa] at h ⊢;simp only [ll];omega
 generalize (L0++[101]:List UInt8)=L1 at *
 have p2:B L1++B (Lib.itoa e)=B (L1++Lib.itoa e):=zTa (L1) (Lib.itoa e)
 have z2:(B (L1++Lib.itoa e)).size=ys.length+1+(Lib.itoa e).length+2:=by have h:=z1;rw [zCa] at h ⊢;simp only [ll];omega
 generalize (L1++Lib.itoa e:List UInt8)=L2 at *
 unfold PV
 go_enter Tryz.func69,Tryz.ntmps69
 go_wp2_with (first|(go_at_call 68;refine wk w (c38 _ bgo) ?_;intro w1 hb1 _ _ _ _ hA1 _;clear hb1))
 go_ret
 exact ⟨rfl,bgo⟩
theorem zG9 (g:Bool)(c:Int)(h2:(c==2)=false)(h3:(c==3)=false)(y:UInt8)(ys:List UInt8)(hd:ys.length<100000)(w:World) :
  CB 69 #[PV c true g (y::ys) 0] w (.string (B ([45]++(y::ys)))):=by
 have htl:=zDa
 have hsm:=zBa
 have hsz:(B (y::ys)).size=ys.length+1:=zCa (y::ys)
 have p0:(⟨#[45]⟩:ByteArray)++B (y::ys)=B ([45]++(y::ys)):=zTa ([45]) ((y::ys))
 have z0:(B ([45]++(y::ys))).size=ys.length+1+1:=by rw [zCa];simp only [ll];try omega
 generalize ([45]++(y::ys):List UInt8)=L0 at *
 unfold PV
 go_enter Tryz.func69,Tryz.ntmps69
 go_wp2
 go_ret
 exact ⟨rfl,bgo⟩
theorem zDo (c:Int)(s g:Bool)(d:List UInt8)(e:Int)(w:World)(hd:d.length<100000)(he:-9223372036854775808<=e/\e<=9223372036854775807)(hT:Tb10 w) :
  CB 69 #[PV c s g d e] w (.string (B (zCf c s g d e))):=by
 by_cases h2:c=2
 ·subst h2
  cases s
  ·exact rx2_f g d e w
  ·exact rx2_t g d e w
 ·by_cases h3:c=3
  ·subst h3
   by_cases h0:d=[]
   ·subst h0
    cases s<;>cases g
    ·exact zV9 e w
    ·exact zT9 e w
    ·exact zR9 e w
    ·exact zP9 e w
   ·obtain ⟨y,ys,rfl⟩:∃ y ys,d=y::ys:=by cases d with|nil=>exact absurd rfl h0|cons y ys=>exact ⟨y,ys,rfl⟩
    have hx:ys.length<100000:=by rw [List.length_cons] at hd;omega
    have q:∀ s g,zCf 3 s g (y::ys) e=(if s then [45] else [])++((if g then [115] else [])++([110,97,110]++(40::((y::ys)++[41])))):=fun s g=>by
     show _++zKl g (y::ys)=_
     unfold zKl;rw [if_neg h0]
    rw [q]
    cases s<;>cases g
    ·have:=zU9 y ys hx e w;simpa using this
    ·have:=zS9 y ys hx e w;simpa using this
    ·have:=zQ9 y ys hx e w;simpa using this
    ·have:=zO9 y ys hx e w;simpa using this
  ·have b2:=beq_eq_false_iff_ne.2 h2
   have b3:=beq_eq_false_iff_ne.2 h3
   have q:∀ s,zCf c s g d e=(if s then [45] else [])++(dgT d++exT e):=fun s=>by
    unfold zCf zX7;rw [if_neg h2,if_neg h3];rfl
   rw [q]
   unfold dgT exT
   by_cases h0:d=[]<;>by_cases h1:e=0
   ·subst h0 h1
    cases s
    ·exact zM9 g c b2 b3 w
    ·exact zI9 g c b2 b3 w
   ·subst h0
    rw [if_pos rfl,if_neg h1]
    cases s
    ·have:=zN9 g c b2 b3 e (bne_iff_ne.2 h1) he w hT;simpa using this
    ·have:=zJ9 g c b2 b3 e (bne_iff_ne.2 h1) he w hT;simpa using this
   ·subst h1
    obtain ⟨y,ys,rfl⟩:∃ y ys,d=y::ys:=by cases d with|nil=>exact absurd rfl h0|cons y ys=>exact ⟨y,ys,rfl⟩
    have hx:ys.length<100000:=by rw [List.length_cons] at hd;omega
    rw [if_neg h0,if_pos rfl]
    cases s
    ·have:=zK9 g c b2 b3 y ys hx w;simpa using this
    ·have:=zG9 g c b2 b3 y ys hx w;simpa using this
   ·obtain ⟨y,ys,rfl⟩:∃ y ys,d=y::ys:=by cases d with|nil=>exact absurd rfl h0|cons y ys=>exact ⟨y,ys,rfl⟩
    have hx:ys.length<100000:=by rw [List.length_cons] at hd;omega
    rw [if_neg h0,if_neg h1]
    cases s
    ·have:=zL9 g c b2 b3 y ys hx e (bne_iff_ne.2 h1) he w hT;simpa using this
    ·have:=zH9 g c b2 b3 y ys hx e (bne_iff_ne.2 h1) he w hT;simpa using this
end Go.Proofs.YtpabnhlfbjkmaaaGreatDoor

set_option maxRecDepth 100000
namespace Go.Proofs.YtpabnhlfbjkmaaaGreatDoor
open Go.ChangeShapes Go.WideShapes Go.ChangeAt Go.RowKit
def zDu:Array Value:=(((List.replicate 128 240++List.replicate 66 241++List.replicate 30 2++[19]++List.replicate 12 3++[35]++List.replicate 2 3++[52]++List.replicate 3 4++[68]++List.replicate 11 241:List Int)).map fun n=>Value.int .u8 n).toArray
def zLt:Array Value:=((([128,191,160,191,128,159,144,191,128,143]++List.replicate 22 0:List Int)).map fun n=>Value.int .u8 n).toArray
def zL0:Array Value:=(([0,1,28,2,29,14,24,3,30,22,20,15,25,17,4,8,31,27,13,23,21,19,16,7,26,12,18,6,11,5,10,9]:List Int).map fun n=>Value.int .u8 n).toArray
def zK0:Array Value:=((([0,1,56,2,57,49,28,3,61,58,42,50,38,29,17,4,62,47,59,36,45,43,51,22,53,39,33,30,24,18,12,5]++[63,55,48,27,60,41,37,16,46,35,44,21,52,32,23,11,54,26,40,15,34,20,31,10,25,14,19,9,13,8,7,6]:List Int)).map fun n=>Value.int .u8 n).toArray
def zNt:Array Value:=((List.range 20).map fun k=>Value.int .u64 ((10^k:Nat):Int)).toArray
noncomputable def zJi (os:Os):World :=
 { World.holding Tryz.prog os ⟨#[],#[],[]⟩ with heap:=((((((World.holding Tryz.prog os ⟨#[],#[],[]⟩).heap.modify 0 (zBg zO2)).modify 3 (zBg zNt)).modify 6 (zBg zL0)).modify 7 (zBg zK0)).modify 4 (zBg zDu)).modify 5 (zBg zLt) }
theorem Tryz.cells31:Tryz.prog.cellsOf 31=5:=by kernel_rfl
theorem Tryz.cells3':Tryz.prog.cellsOf 3=1:=by kernel_rfl
theorem Tryz.cells4':Tryz.prog.cellsOf 4=1:=by kernel_rfl
theorem Tryz.cells9':Tryz.prog.cellsOf 9=1:=by kernel_rfl
theorem Tryz.rec31:Tryz.prog.readableRec 31=true:=by kernel_rfl
theorem Tryz.row31:(31:TypeId)<Tryz.prog.types.size:=of_decide_eq_true (by kernel_rfl)
theorem zGe {P:Program}{W:World}{x:String×DataW Unit}{r:List (String×DataW Unit)}(h:laidMet P (x::r) W):laidMet P r W:=by
 obtain ⟨ps,⟨g,t,cs,fuel,p,q,_,_,_,_,hr,rfl⟩,hn,hc⟩:=h
 refine ⟨q,hr,?_,fun b off hm=>hc b off (by simp [hm])⟩
 exact (List.nodup_append.1 hn).2.1
theorem zHo {W:World}{x y:String×DataW Unit}{r:List (String×DataW Unit)}(h:laidMet Tryz.prog (x::y::("internal/strconv.uint64pow10",Lib.tabData .u64 Lib.pow10Tab)::r) W):Tb10 W :=
 Lib.tabIs_of_head (P:=Tryz.prog) (name := "internal/strconv.uint64pow10") (k:=.u64) (zs:=Lib.pow10Tab) (g:=3) (t:=219) (e:=22) (n:=20) (by kernel_rfl) (by kernel_rfl) (by kernel_rfl) (by kernel_rfl) (by kernel_rfl) (by kernel_rfl) (zGe (zGe h))
theorem zXp {W:World}{x0 x1 x2 x3:String×DataW Unit}{r:List (String×DataW Unit)}(h:laidMet Tryz.prog (x0::x1::x2::x3::("caliper/desc.rows",Rows.laid_caliper_desc_rows)::r) W):Tab W :=
 tab_of_laid (zGe (zGe (zGe (zGe h))))
section
variable {H:Type}{enc:TypeId×Value->H}{W:World}{r:Reach}{base b:Nat}{sp:Nat->Bool}{held:Bool}{t:TypeId}{n:Nat}{v:Value}{d:DataW H}{p:List MemPlace}
theorem zPt (hok:Value.okWide Tryz.prog W r base 31 v)(h:DataW.Trod enc Tryz.prog W b sp held 31 v d p):∃ P:Prt,(-9223372036854775808<=P.ex/\P.ex<=9223372036854775807)/\v=P.v/\p=[]:=by
 obtain ⟨cs,rfl,hcs⟩:=okWide_struct Tryz.underlying31 hok
 rw [Tryz.cells31] at hcs
 obtain ⟨fuel,hf⟩:=h
 obtain ⟨xs,n,_,hx,hl,hlen,hfi⟩:=DataW.trod_struct Tryz.underlying31 hf
 have g0:DataW.trod enc Tryz.prog W b sp held n 3 (((Value.agg cs).cells.toList.drop 0).take (Tryz.prog.cellsOf 3))=xs[0]?:=hfi 0 _ rfl
 have g1:DataW.trod enc Tryz.prog W b sp held n 4 (((Value.agg cs).cells.toList.drop 1).take (Tryz.prog.cellsOf 4))=xs[1]?:=hfi 1 _ rfl
 have g2:DataW.trod enc Tryz.prog W b sp held n 4 (((Value.agg cs).cells.toList.drop 2).take (Tryz.prog.cellsOf 4))=xs[2]?:=hfi 2 _ rfl
 have g3:DataW.trod enc Tryz.prog W b sp held n 9 (((Value.agg cs).cells.toList.drop 3).take (Tryz.prog.cellsOf 9))=xs[3]?:=hfi 3 _ rfl
 have g4:DataW.trod enc Tryz.prog W b sp held n 3 (((Value.agg cs).cells.toList.drop 4).take (Tryz.prog.cellsOf 3))=xs[4]?:=hfi 4 _ rfl
 match xs,hlen with
 | [y0,y1,y2,y3,y4],_ =>
  obtain ⟨l0,rfl⟩:∃ l:List Value,cs=l.toArray:=⟨cs.toList,by simp⟩
  match l0,hcs with
  | [v0,v1,v2,v3,v4],_ =>
   rw [Tryz.cells3'] at g0 g4
   rw [Tryz.cells4'] at g1 g2
   rw [Tryz.cells9'] at g3
   obtain ⟨z0,e0,q0,_⟩:=DataW.trod_int Tryz.underlying3 g0
   obtain ⟨b1,e1,q1⟩:=DataW.trod_bool Tryz.underlying4 g1
   obtain ⟨b2,e2,q2⟩:=DataW.trod_bool Tryz.underlying4 g2
   obtain ⟨s3,e3,q3,_⟩:=DataW.trod_string Tryz.underlying9 g3
   obtain ⟨z4,e4,q4,w4⟩:=DataW.trod_int Tryz.underlying3 g4
   simp [Value.cells] at e0 e1 e2 e3 e4
   subst e0 e1 e2 e3 e4
   refine ⟨⟨z0,b1,b2,s3.data.toList,z4⟩,bounds_i64 w4,?_,?_⟩
   ·show _=PV _ _ _ _ _
    unfold PV
    dsimp only
    rw [B_of]
   ·have hp:=congrArg Prod.snd hx
    simp only [List.flatMap_cons,List.flatMap_nil] at hp
    rw [show p=_ from hp]
    rw [q0,q1,q2,q3,q4]
    rfl
end
end Go.Proofs.YtpabnhlfbjkmaaaGreatDoor
