/-
  Texts that the proof leans on.
-/
import Derived.Test.YtpabnhlfbjkmaaaGreatDoorR14
import Derived.Test.YtpabnhlfbjkmaaaGreatDoorR1
import Derived.Lib.AppendStr
import Derived.Lib.Builder
import Derived.Deep.AppendLies
set_option maxHeartbeats 8000000
set_option linter.unusedVariables false
set_option linter.unusedSimpArgs false
set_option linter.unusedSectionVars false
set_option maxRecDepth 20000
namespace Go.Proofs.YtpabnhlfbjkmaaaGreatDoor
open Go.RowKit
theorem zIx (l:List UInt8)(w:World)(hl:l.length<=4000)(z:Bool)(R T:List UInt8)(x:UInt8)(xs:List UInt8)(hX:xs.length+1<4001)(c:UInt8)(r:List UInt8)(hr:r.length<4001)(hc46:(c.toNat:Int)≠46)(hc1:(c.toNat:Int)≠101)(hc2:(c.toNat:Int)≠69)
  (c19:∀ w,CB 75 #[.string (B l)] w (.tuple #[.bool z,.string (B R)]))
  (c20:∀ w,CB 76 #[.string (B R)] w (.tuple #[.agg #[.int .i64 0,.bool false,.bool false,.string ⟨#[]⟩,.int .i64 0],.bool false]))
  (c21:∀ w,CB 77 #[.string (B R)] w (.tuple #[.string (B (x::xs)),.string (B (c::r))])) :
  CB 36 #[.string (B l)] w (.tuple #[.agg #[.int .i64 0,.bool false,.bool false,.string ⟨#[]⟩,.int .i64 0],.int .i64 2]):=by
 have hsz:=zCa l
 have hi:(l.length:Int)<=4000:=by omega
 have htl:=zDa
 have hsm:=zBa
 have hszQ:(B (c::r)).size=r.length+1:=rfl
 have hfs:=zNa c r (by omega)
 have htq:(B (c::r)).extract 1 (r.length+1)=B r:=zJb c r
 have hcb:=c.toNat_lt
 have h46:((c.toNat:Int)==46)=false:=beq_eq_false_iff_ne.2 hc46
 have g1:((c.toNat:Int) != 101)=true:=by simpa using hc1
 have g2:((c.toNat:Int) != 69)=true:=by simpa using hc2
 go_enter Tryz.func36,Tryz.ntmps36
 go_wp2_with (first|(go_at_call 75;refine wk w (c19 _) ?_;intro w1 hb1 _ _ _ _ hA1 _;clear hb1)|(go_at_call 76;refine wk w (c20 _) ?_;intro w2 hb2 _ _ _ _ hA2 _;clear hb2)|(go_at_call 77;refine wk w (c21 _) ?_;intro w3 hb3 _ _ _ _ hA3 _;clear hb3))
 exact bodyPost_ret (v:=.tuple #[.agg #[.int .i64 0,.bool false,.bool false,.string ⟨#[]⟩,.int .i64 0],.int .i64 2]) (by simp only [results,Tryz.results36];go_simp) rfl ⟨rfl,bgo⟩
theorem zHx (l:List UInt8)(w:World)(hl:l.length<=4000)(z:Bool)(R T:List UInt8)(Q:List UInt8)(c:UInt8)(r:List UInt8)(hQ:Q=c::r)(hc46:(c.toNat:Int)≠46)
  (c19:∀ w,CB 75 #[.string (B l)] w (.tuple #[.bool z,.string (B R)]))
  (c20:∀ w,CB 76 #[.string (B R)] w (.tuple #[.agg #[.int .i64 0,.bool false,.bool false,.string ⟨#[]⟩,.int .i64 0],.bool false]))
  (c21:∀ w,CB 77 #[.string (B R)] w (.tuple #[.string (B []),.string (B Q)])) :
  CB 36 #[.string (B l)] w (.tuple #[.agg #[.int .i64 0,.bool false,.bool false,.string ⟨#[]⟩,.int .i64 0],.int .i64 2]):=by
 have hsz:=zCa l
 have hi:(l.length:Int)<=4000:=by omega
 have htl:=zDa
 have hsm:=zBa
 have h46:((c.toNat:Int)==46)=false:=beq_eq_false_iff_ne.2 hc46
 subst hQ
 have hszQ:(B (c::r)).size=r.length+1:=rfl
 have hfs:=zNa c r (by omega)
 have hcb:=c.toNat_lt
 go_enter Tryz.func36,Tryz.ntmps36
 go_wp2_with (first|(go_at_call 75;refine wk w (c19 _) ?_;intro w1 hb1 _ _ _ _ hA1 _;clear hb1)|(go_at_call 76;refine wk w (c20 _) ?_;intro w2 hb2 _ _ _ _ hA2 _;clear hb2)|(go_at_call 77;refine wk w (c21 _) ?_;intro w3 hb3 _ _ _ _ hA3 _;clear hb3))
 exact bodyPost_ret (v:=.tuple #[.agg #[.int .i64 0,.bool false,.bool false,.string ⟨#[]⟩,.int .i64 0],.int .i64 2]) (by simp only [results,Tryz.results36];go_simp) rfl ⟨rfl,bgo⟩
theorem zGx (l:List UInt8)(w:World)(hl:l.length<=4000)(z:Bool)(R T:List UInt8)(x:UInt8)(xs:List UInt8)(hX:xs.length+1<4001)(c:UInt8)(r:List UInt8)(hr:r.length<4001)(hc46:(c.toNat:Int)≠46)(hc:(c.toNat:Int)=101∨(c.toNat:Int)=69)(E:Int)
  (c19:∀ w,CB 75 #[.string (B l)] w (.tuple #[.bool z,.string (B R)]))
  (c20:∀ w,CB 76 #[.string (B R)] w (.tuple #[.agg #[.int .i64 0,.bool false,.bool false,.string ⟨#[]⟩,.int .i64 0],.bool false]))
  (c21:∀ w,CB 77 #[.string (B R)] w (.tuple #[.string (B (x::xs)),.string (B (c::r))]))
  (c22:∀ w,CB 78 #[.string (B r)] w (.tuple #[.int .i64 E,.bool false])) :
  CB 36 #[.string (B l)] w (.tuple #[.agg #[.int .i64 0,.bool false,.bool false,.string ⟨#[]⟩,.int .i64 0],.int .i64 2]):=by
 have hsz:=zCa l
 have hi:(l.length:Int)<=4000:=by omega
 have htl:=zDa
 have hsm:=zBa
 have hszQ:(B (c::r)).size=r.length+1:=rfl
 have hfs:=zNa c r (by omega)
 have htq:(B (c::r)).extract 1 (r.length+1)=B r:=zJb c r
 have hcb:=c.toNat_lt
 have h46:((c.toNat:Int)==46)=false:=beq_eq_false_iff_ne.2 hc46
 rcases hc with h|h
 all_goals
  go_enter Tryz.func36,Tryz.ntmps36
  go_wp2_with (first|(go_at_call 75;refine wk w (c19 _) ?_;intro w1 hb1 _ _ _ _ hA1 _;clear hb1)|(go_at_call 76;refine wk w (c20 _) ?_;intro w2 hb2 _ _ _ _ hA2 _;clear hb2)|(go_at_call 77;refine wk w (c21 _) ?_;intro w3 hb3 _ _ _ _ hA3 _;clear hb3)|(go_at_call 78;refine wk w (c22 _) ?_;intro w5 hb5 _ _ _ _ hA5 _;clear hb5))
  exact bodyPost_ret (v:=.tuple #[.agg #[.int .i64 0,.bool false,.bool false,.string ⟨#[]⟩,.int .i64 0],.int .i64 2]) (by simp only [results,Tryz.results36];go_simp) rfl ⟨rfl,bgo⟩
theorem zFx (l:List UInt8)(w:World)(hl:l.length<=4000)(z:Bool)(R T:List UInt8)(x:UInt8)(xs:List UInt8)(hX:xs.length+1<4001)(c:UInt8)(r:List UInt8)(hr:r.length<4001)(hc46:(c.toNat:Int)≠46)(hc:(c.toNat:Int)=101∨(c.toNat:Int)=69)(E:Int)(D:List UInt8)
  (c19:∀ w,CB 75 #[.string (B l)] w (.tuple #[.bool z,.string (B R)]))
  (c20:∀ w,CB 76 #[.string (B R)] w (.tuple #[.agg #[.int .i64 0,.bool false,.bool false,.string ⟨#[]⟩,.int .i64 0],.bool false]))
  (c21:∀ w,CB 77 #[.string (B R)] w (.tuple #[.string (B (x::xs)),.string (B (c::r))]))
  (c22:∀ w,CB 78 #[.string (B r)] w (.tuple #[.int .i64 E,.bool true])) (hE:-2000000000<=E/\E<=2000000000)
  (c23:∀ w,CB 79 #[.string (B ((x::xs)))] w (.string (B D))) :
  CB 36 #[.string (B l)] w (.tuple #[.agg #[.int .i64 1,.bool z,.bool false,.string (B D),.int .i64 (min (max E (-1000000000)) 1000000000)],.int .i64 0]):=by
 have hsz:=zCa l
 have hi:(l.length:Int)<=4000:=by omega
 have htl:=zDa
 have hsm:=zBa
 have hszQ:(B (c::r)).size=r.length+1:=rfl
 have hfs:=zNa c r (by omega)
 have htq:(B (c::r)).extract 1 (r.length+1)=B r:=zJb c r
 have hcb:=c.toNat_lt
 have h46:((c.toNat:Int)==46)=false:=beq_eq_false_iff_ne.2 hc46
 have hap:=zTa (x::xs) []
 rw [List.append_nil] at hap
 have hXs:(B (x::xs)).size<4001:=hX
 have hFs:(B []).size=0:=rfl
 have hn0:(⟨#[]⟩:ByteArray).size=0:=rfl
 change B (x::xs)++⟨#[]⟩=_ at hap
 rcases hc with h|h
 all_goals
  go_enter Tryz.func36,Tryz.ntmps36
  go_wp2_with (first|(go_at_call 75;refine wk w (c19 _) ?_;intro w1 hb1 _ _ _ _ hA1 _;clear hb1)|(go_at_call 76;refine wk w (c20 _) ?_;intro w2 hb2 _ _ _ _ hA2 _;clear hb2)|(go_at_call 77;refine wk w (c21 _) ?_;intro w3 hb3 _ _ _ _ hA3 _;clear hb3)|(go_at_call 78;refine wk w (c22 _) ?_;intro w5 hb5 _ _ _ _ hA5 _;clear hb5)|(go_at_call 79;refine wk w (c23 _) ?_;intro w6 hb6 _ _ _ _ hA6 _;clear hb6))
  exact bodyPost_ret (v:=.tuple #[.agg #[.int .i64 1,.bool z,.bool false,.string (B D),.int .i64 (min (max E (-1000000000)) 1000000000)],.int .i64 0]) (by simp only [results,Tryz.results36];go_simp) rfl ⟨rfl,bgo⟩
theorem zDx (l:List UInt8)(w:World)(hl:l.length<=4000)(z:Bool)(R T:List UInt8)(x:UInt8)(xs:List UInt8)(hX:xs.length+1<4001)(D:List UInt8)
  (c19:∀ w,CB 75 #[.string (B l)] w (.tuple #[.bool z,.string (B R)]))
  (c20:∀ w,CB 76 #[.string (B R)] w (.tuple #[.agg #[.int .i64 0,.bool false,.bool false,.string ⟨#[]⟩,.int .i64 0],.bool false]))
  (c21:∀ w,CB 77 #[.string (B R)] w (.tuple #[.string (B (x::xs)),.string (B [])]))
  (c23:∀ w,CB 79 #[.string (B ((x::xs)))] w (.string (B D))) :
  CB 36 #[.string (B l)] w (.tuple #[.agg #[.int .i64 1,.bool z,.bool false,.string (B D),.int .i64 (min (max 0 (-1000000000)) 1000000000)],.int .i64 0]):=by
 have hsz:=zCa l
 have hi:(l.length:Int)<=4000:=by omega
 have htl:=zDa
 have hsm:=zBa
 have hszQ:(B []).size=0:=rfl
 have hap:=zTa (x::xs) []
 rw [List.append_nil] at hap
 have hXs:(B (x::xs)).size<4001:=hX
 have hFs:(B []).size=0:=rfl
 have hn0:(⟨#[]⟩:ByteArray).size=0:=rfl
 change B (x::xs)++⟨#[]⟩=_ at hap
 go_enter Tryz.func36,Tryz.ntmps36
 go_wp2_with (first|(go_at_call 75;refine wk w (c19 _) ?_;intro w1 hb1 _ _ _ _ hA1 _;clear hb1)|(go_at_call 76;refine wk w (c20 _) ?_;intro w2 hb2 _ _ _ _ hA2 _;clear hb2)|(go_at_call 77;refine wk w (c21 _) ?_;intro w3 hb3 _ _ _ _ hA3 _;clear hb3)|(go_at_call 79;refine wk w (c23 _) ?_;intro w6 hb6 _ _ _ _ hA6 _;clear hb6))
 exact bodyPost_ret (v:=.tuple #[.agg #[.int .i64 1,.bool z,.bool false,.string (B D),.int .i64 (min (max 0 (-1000000000)) 1000000000)],.int .i64 0]) (by simp only [results,Tryz.results36];go_simp) rfl ⟨rfl,bgo⟩
theorem zCx (l:List UInt8)(w:World)(hl:l.length<=4000)(z:Bool)(R T:List UInt8)
  (c19:∀ w,CB 75 #[.string (B l)] w (.tuple #[.bool z,.string (B R)]))
  (c20:∀ w,CB 76 #[.string (B R)] w (.tuple #[.agg #[.int .i64 0,.bool false,.bool false,.string ⟨#[]⟩,.int .i64 0],.bool false]))
  (c21:∀ w,CB 77 #[.string (B R)] w (.tuple #[.string (B []),.string (B [])])) :
  CB 36 #[.string (B l)] w (.tuple #[.agg #[.int .i64 0,.bool false,.bool false,.string ⟨#[]⟩,.int .i64 0],.int .i64 2]):=by
 have hsz:=zCa l
 have hi:(l.length:Int)<=4000:=by omega
 have htl:=zDa
 have hsm:=zBa
 have hszQ:(B []).size=0:=rfl
 go_enter Tryz.func36,Tryz.ntmps36
 go_wp2_with (first|(go_at_call 75;refine wk w (c19 _) ?_;intro w1 hb1 _ _ _ _ hA1 _;clear hb1)|(go_at_call 76;refine wk w (c20 _) ?_;intro w2 hb2 _ _ _ _ hA2 _;clear hb2)|(go_at_call 77;refine wk w (c21 _) ?_;intro w3 hb3 _ _ _ _ hA3 _;clear hb3))
 exact bodyPost_ret (v:=.tuple #[.agg #[.int .i64 0,.bool false,.bool false,.string ⟨#[]⟩,.int .i64 0],.int .i64 2]) (by simp only [results,Tryz.results36];go_simp) rfl ⟨rfl,bgo⟩
theorem zPu {s:List UInt8}(h:woB s=false):woV s=PV 0 false false [] 0:=by
 unfold woB at h
 rw [Bool.or_eq_false_iff] at h
 unfold woV;rw [h.1,h.2];rfl
theorem zS4 {r:List UInt8}(h:zEg r=true):∃ c t,r=c::t/\((c.toNat:Int)=46∨(48<=(c.toNat:Int)/\(c.toNat:Int)<=57)):=by
 unfold zEg at h
 rw [Bool.and_eq_true] at h
 cases r with
 | nil=>exact absurd h.2 (by decide)
 | cons c t =>
  refine ⟨c,t,rfl,?_⟩
  by_cases hd:dg c=true
  ·unfold dg at hd;simp at hd;right;omega
  ·have e1:dgs (c::t)=[]:=by unfold dgs;rw [List.takeWhile_cons,if_neg hd]
   have e2:rst (c::t)=c::t:=by unfold rst;rw [List.dropWhile_cons,if_neg hd]
   rw [e1] at h
   have h2:=h.2
   unfold zWh at h2
   rw [e2,zKh] at h2
   by_cases e:(46==c)=true
   ·have:(46:UInt8)=c:=by simpa using e
    subst this;left;rfl
   ·rw [if_neg e] at h2;exact absurd h2 (by decide)
theorem zEu {r:List UInt8}(h:zEg r=true):woB r=false:=by
 obtain ⟨c,t,rfl,hc⟩:=zS4 h
 have e:sml (c::t)=c::sml t:=by
  show sm c::sml t=_
  congr 1
  unfold sm;rw [if_neg (by omega)]
 unfold woB
 rw [e]
 have h1:zVm (c::sml t)=false:=zTy (by intro h;rw [(List.cons.inj h).1] at hc;revert hc;decide) (by intro h;rw [(List.cons.inj h).1] at hc;revert hc;decide)
 have hp:Lib.hasPrefix (c::sml t) [115]=false:=by rw [zKh];exact zSo (n:=115) (by omega) (by decide)
 have h2:zTo (c::sml t)=false:=zHy (tp_no hp) (by rw [zWm,show (110==c)=false from zSo (n:=110) (by omega) (by decide)];rfl)
 rw [h1,h2];rfl
theorem zAn (c:UInt8)(r:List UInt8):exB (c::r)=(decide ((c.toNat:Int)=101∨(c.toNat:Int)=69)&&isd (sgR r)):=rfl
theorem zFs (c:UInt8)(r:List UInt8):exI (c::r)=if exB (c::r) then exS r else 0:=rfl
def FV (z:Bool)(R:List UInt8):Value:=if zEg R then PV 1 z false (finD R) (finE R) else PV 0 false false [] 0
def FE (R:List UInt8):Int:=if zEg R then 0 else 2
def zZ7 (l:List UInt8)(v:Value)(e:Int)(w:World):Prop:=CB 36 #[.string (B l)] w (.tuple #[v,.int .i64 e])
theorem zL1 {l R:List UInt8}{z:Bool}{w:World}(h:zEg R=false)(c:zZ7 l (PV 0 false false [] 0) 2 w):zZ7 l (FV z R) (FE R) w:=by
 unfold FV FE;rw [h];exact c
theorem zGu {l R D:List UInt8}{z:Bool}{w:World}{e:Int}(h:zEg R=true)(hD:finD R=D)(he:finE R=e)(c:zZ7 l (PV 1 z false D e) 0 w):zZ7 l (FV z R) (FE R) w:=by
 unfold FV FE;rw [h,hD,he];exact c
theorem yJa (l T:List UInt8)(w:World)(hl:l.length<=4000)(hw:woB (sgR l)=false)(hR:rst (sgR l)=46::T):zZ7 l (FV (gsgB l) (sgR l)) (FE (sgR l)) w:=by
 have hsl:=zDf l
 have c19:=fun w=>zSe l w (by omega)
 have c20:=fun w=>zTj (sgR l) w (by omega)
 rw [zPu hw,hw] at c20
 have c21:=fun w=>zYp (sgR l) w (by omega)
 rw [hR] at c21
 have hTl:T.length<4001:=by
  have h1:=zUj (sgR l)
  rw [hR,List.length_cons] at h1;omega
 have c21b:=fun w=>zYp T w (by omega)
 have hp:Lib.hasPrefix (rst (sgR l)) [46]=true:=by rw [hR];exact zVy [46] T
 have htp:Lib.trimPrefix (rst (sgR l)) [46]=T:=by rw [hR];exact zDl 46 T
 have eB:zEg (sgR l)=(exB (rst T)&&!((dgs (sgR l)).isEmpty&&(dgs T).isEmpty)):=by unfold zEg zWh zFc;rw [if_pos hp,if_pos hp,htp]
 have eD:finD (sgR l)=bar (dgs (sgR l)++dgs T):=by unfold finD zWh;rw [if_pos hp,htp]
 have eE:finE (sgR l)=zNe (exI (rst T)-(dgs T).length):=by unfold finE zWh zFc;rw [if_pos hp,if_pos hp,htp]
 have hXl:=zLe (sgR l)
 have hFl:=zLe T
 have hQl:=zUj T
 have c23:=fun w=>zTd (dgs (sgR l)++dgs T) w (by rw [List.length_append];omega)
 rw [← eD] at c23
 generalize dgs (sgR l)=X at *
 generalize dgs T=F at *
 generalize rst T=Q at *
 clear hR hp htp hw
 cases Q with
 | nil =>
  cases X with
  | nil =>
   cases F with
   | nil=>exact zL1 (by rw [eB];rfl) (zZw l w hl _ _ T hTl c19 c20 c21 c21b)
   | cons f fs=>exact zGu (by rw [eB];rfl) rfl eE (zBx l w hl _ _ T f fs (by rw [List.length_cons] at hFl;omega) hTl _ c19 c20 c21 c21b c23)
  | cons x xs=>exact zGu (by rw [eB];rfl) rfl eE (zAx l w hl _ _ T x xs (by rw [List.length_cons] at hXl;omega) F (by omega) hTl _ c19 c20 c21 c21b c23)
 | cons c r =>
  have hr:r.length<4001:=by rw [List.length_cons] at hQl;omega
  by_cases hz:X=[]/\F=[]
  ·obtain ⟨rfl,rfl⟩:=hz
   exact zL1 (by rw [eB];simp) (zWw l w hl _ _ T (c::r) hTl c19 c20 c21 c21b)
  ·have hzz:(!(X.isEmpty&&F.isEmpty))=true:=by
    cases X
    ·cases F
     ·exact absurd ⟨rfl,rfl⟩ hz
     ·rfl
    ·rfl
   rw [hzz,Bool.and_true,zAn] at eB
   by_cases hc:(c.toNat:Int)=101∨(c.toNat:Int)=69
   ·rw [decide_eq_true hc,Bool.true_and] at eB
    have c22:=fun w=>zJr r w (by omega)
    by_cases hi:isd (sgR r)=true
    ·rw [hi] at eB c22
     simp only [if_true] at c22
     have hbd:=zNz r hi
     have eI:exI (c::r)=exS r:=by rw [zFs,zAn,decide_eq_true hc,hi];rfl
     rw [eI] at eE
     cases X with
     | nil =>
      cases F with
      | nil=>exact absurd ⟨rfl,rfl⟩ hz
      | cons f fs=>exact zGu eB rfl eE (zTw l w hl _ _ T f fs (by rw [List.length_cons] at hFl;omega) c r hr hc _ hTl _ c19 c20 c21 c21b c22 hbd c23)
     | cons x xs=>exact zGu eB rfl eE (zSw l w hl _ _ T x xs (by rw [List.length_cons] at hXl;omega) F (by omega) c r hr hc _ hTl _ c19 c20 c21 c21b c22 hbd c23)
    ·have hi':isd (sgR r)=false:=by simpa using hi
     rw [hi'] at eB c22
     simp only [Bool.false_eq_true,if_false] at c22
     cases X with
     | nil =>
      cases F with
      | nil=>exact absurd ⟨rfl,rfl⟩ hz
      | cons f fs=>exact zL1 eB (zVw l w hl _ _ T f fs (by rw [List.length_cons] at hFl;omega) c r hr hc _ hTl c19 c20 c21 c21b c22)
     | cons x xs=>exact zL1 eB (zUw l w hl _ _ T x xs (by rw [List.length_cons] at hXl;omega) F (by omega) c r hr hc _ hTl c19 c20 c21 c21b c22)
   ·rw [decide_eq_false hc,Bool.false_and] at eB
    have h1:(c.toNat:Int)≠101:=fun h=>hc (Or.inl h)
    have h2:(c.toNat:Int)≠69:=fun h=>hc (Or.inr h)
    cases X with
    | nil =>
     cases F with
     | nil=>exact absurd ⟨rfl,rfl⟩ hz
     | cons f fs=>exact zL1 eB (zYw l w hl _ _ T f fs (by rw [List.length_cons] at hFl;omega) c r hr h1 h2 hTl c19 c20 c21 c21b)
    | cons x xs=>exact zL1 eB (zXw l w hl _ _ T x xs (by rw [List.length_cons] at hXl;omega) F (by omega) c r hr h1 h2 hTl c19 c20 c21 c21b)
theorem zEx (l:List UInt8)(w:World)(hl:l.length<=4000)(hw:woB (sgR l)=false)(hp:Lib.hasPrefix (rst (sgR l)) [46]=false):zZ7 l (FV (gsgB l) (sgR l)) (FE (sgR l)) w:=by
 have hsl:=zDf l
 have c19:=fun w=>zSe l w (by omega)
 have c20:=fun w=>zTj (sgR l) w (by omega)
 rw [zPu hw,hw] at c20
 have c21:=fun w=>zYp (sgR l) w (by omega)
 have hp':¬ Lib.hasPrefix (rst (sgR l)) [46]=true:=by rw [hp];decide
 have eB:zEg (sgR l)=(exB (rst (sgR l))&&!((dgs (sgR l)).isEmpty)):=by unfold zEg zWh zFc;rw [if_neg hp',if_neg hp'];simp
 have eD:finD (sgR l)=bar (dgs (sgR l)):=by unfold finD zWh;rw [if_neg hp',List.append_nil]
 have eE:finE (sgR l)=zNe (exI (rst (sgR l))):=by unfold finE zWh zFc;rw [if_neg hp',if_neg hp'];simp
 have hXl:=zLe (sgR l)
 have hQl:=zUj (sgR l)
 have c23:=fun w=>zTd (dgs (sgR l)) w (by omega)
 rw [← eD] at c23
 generalize dgs (sgR l)=X at *
 generalize rst (sgR l)=Q at *
 clear hp' hw
 cases Q with
 | nil =>
  cases X with
  | nil=>exact zL1 (by rw [eB];rfl) (zCx l w hl _ _ [] c19 c20 c21)
  | cons x xs=>exact zGu (by rw [eB];rfl) rfl eE (zDx l w hl _ _ [] x xs (by rw [List.length_cons] at hXl;omega) _ c19 c20 c21 c23)
 | cons c r =>
  have hr:r.length<4001:=by rw [List.length_cons] at hQl;omega
  have hc46:(c.toNat:Int)≠46:=by
   intro e
   rw [zZj (n:=46) e (by decide)] at hp
   rw [zKh] at hp
   exact absurd hp (by decide)
  cases X with
  | nil=>exact zL1 (by rw [eB];simp) (zHx l w hl _ _ [] (c::r) c r rfl hc46 c19 c20 c21)
  | cons x xs =>
   rw [List.isEmpty_cons,Bool.not_false,Bool.and_true,zAn] at eB
   by_cases hc:(c.toNat:Int)=101∨(c.toNat:Int)=69
   ·rw [decide_eq_true hc,Bool.true_and] at eB
    have c22:=fun w=>zJr r w (by omega)
    by_cases hi:isd (sgR r)=true
    ·rw [hi] at eB c22
     simp only [if_true] at c22
     have hbd:=zNz r hi
     have eI:exI (c::r)=exS r:=by rw [zFs,zAn,decide_eq_true hc,hi];rfl
     rw [eI] at eE
     exact zGu eB rfl eE (zFx l w hl _ _ [] x xs (by rw [List.length_cons] at hXl;omega) c r hr hc46 hc _ _ c19 c20 c21 c22 hbd c23)
    ·have hi':isd (sgR r)=false:=by simpa using hi
     rw [hi'] at eB c22
     simp only [Bool.false_eq_true,if_false] at c22
     exact zL1 eB (zGx l w hl _ _ [] x xs (by rw [List.length_cons] at hXl;omega) c r hr hc46 hc _ c19 c20 c21 c22)
   ·rw [decide_eq_false hc,Bool.false_and] at eB
    have h1:(c.toNat:Int)≠101:=fun h=>hc (Or.inl h)
    have h2:(c.toNat:Int)≠69:=fun h=>hc (Or.inr h)
    exact zL1 eB (zIx l w hl _ _ [] x xs (by rw [List.length_cons] at hXl;omega) c r hr hc46 h1 h2 c19 c20 c21)
theorem zJ3 (l:List UInt8)(w:World)(hs:l.length<10001) :
  CB 36 #[.string (B l)] w (.tuple #[(cutV l).v,.int .i64 (zRq l)]):=by
 unfold cutV zRq zOk
 by_cases hl:4000<l.length
 ·rw [if_pos hl,if_pos hl]
  exact zJx l w hs hl
 ·rw [if_neg hl,if_neg hl]
  by_cases hw:woB (sgR l)=true
  ·have hf:zEg (sgR l)=false:=by
    cases e:zEg (sgR l)
    ·rfl
    ·rw [zEu e] at hw;cases hw
   unfold zNu
   rw [hf]
   simp only [Bool.false_eq_true,if_false]
   by_cases h1:zVm (sml (sgR l))=true
   ·rw [if_pos h1]
    exact zRw l w (by omega) 2 false [] (by unfold woV;rw [if_pos h1]) hw
   ·rw [if_neg h1]
    have h2:zTo (sml (sgR l))=true:=by
     unfold woB at hw
     rw [Bool.or_eq_true] at hw
     exact hw.resolve_left h1
    rw [if_pos h2]
    exact zRw l w (by omega) 3 _ _ (by unfold woV;rw [if_neg h1,if_pos h2];rfl) hw
  ·have hw':woB (sgR l)=false:=by simpa using hw
   have hh:=hw'
   unfold woB at hh
   rw [Bool.or_eq_false_iff] at hh
   have key:zZ7 l (FV (gsgB l) (sgR l)) (FE (sgR l)) w:=by
    cases e:rst (sgR l) with
    | nil=>exact zEx l w (by omega) hw' (by rw [e];rfl)
    | cons c T =>
     by_cases hc:(c.toNat:Int)=46
     ·rw [zZj (n:=46) hc (by decide)] at e
      exact yJa l T w (by omega) hw' e
     ·exact zEx l w (by omega) hw' (by rw [e,zKh];exact zSo (n:=46) hc (by decide))
   unfold zNu
   rw [hh.1,hh.2]
   simp only [Bool.false_eq_true,if_false]
   unfold zZ7 FV FE at key
   by_cases hf:zEg (sgR l)=true
   ·rw [if_pos hf] at key ⊢
    rw [if_pos hf] at key
    exact key
   ·rw [if_neg hf] at key ⊢
    rw [if_neg hf] at key
    exact key
structure Ap (Bs H:Nat) (cs:Array Value) (v:Value) (l:List UInt8) (w0 w:World):Prop where
 own:w.ownsRow Bs 5 1 v l.length (Lib.byteCells l)
 box:w.heap[H]?=some (.cells cs 35)
 bel:Below Bs w0 w
 bs:Bs<=w.heap.size
theorem Ap.lt {Bs H:Nat}{cs:Array Value}{v:Value}{l:List UInt8}{w0 w:World}(h:Ap Bs H cs v l w0 w):H<w.heap.size:=by
 rcases Nat.lt_or_ge H w.heap.size with h'|h'
 ·exact h'
 ·have:=h.box;rw [Array.getElem?_eq_none h'] at this;cases this
theorem Ap.cell {Bs H:Nat}{cs:Array Value}{v:Value}{l:List UInt8}{w0 w:World}(h:Ap Bs H cs v l w0 w)(i:Nat):w.cell? ⟨H,i,none⟩=cs[i]?:=by
 unfold World.cell?
 have hh:=h.box
 simp [hh]
theorem Ap.alloc {Bs H:Nat}{cs:Array Value}{v:Value}{l:List UInt8}{w0 w:World}(h:Ap Bs H cs v l w0 w)(o:Obj):Ap Bs H cs v l w0 (w.alloc o) :=
 ⟨h.own.alloc o,by
  have:=h.lt
  rw [show (w.alloc o).heap[H]?=(w.heap.push o)[H]? from rfl,Array.getElem?_push_lt this,← Array.getElem?_eq_getElem this]
  exact h.box,h.bel.alloc h.bs _,by simp;have:=h.bs;omega⟩
theorem Ap.far {Bs H:Nat}{cs:Array Value}{v:Value}{l:List UInt8}{w0 w:World}(h:Ap Bs H cs v l w0 w):v.ownBlock≠some H:=Lib.ownBlock_ne h.own h.box (by decide)
theorem Ap.app {Bs H:Nat}{cs:Array Value}{v v':Value}{l m:List UInt8}{w0 w w1:World}{n:Nat}{xs:List Value}(h:Ap Bs H cs v l w0 w)(hg:w.grownBy w1 v.ownBlock)(ho:w1.ownsRow Bs 5 1 v' n xs)(hn:n=(l++m).length)(hx:xs=Lib.byteCells (l++m)):Ap Bs H cs v' (l++m) w0 w1:=by
 subst hn hx
 refine ⟨ho,?_,h.bel.grown hg h.bs fun k hk=>(h.own.lt k hk).1,Nat.le_trans h.bs hg.size⟩
 rw [hg.block H h.lt (fun e=>h.far e.symm)]
 exact h.box
theorem zOe (l:List UInt8)(b:UInt8):Lib.byteCells l++[.int .u8 b.toNat]=Lib.byteCells (l++[b]):=by simp [Lib.byteCells]
theorem zEf (l m:List UInt8):Lib.byteCells l++Lib.strCells (B m)=Lib.byteCells (l++m):=by
 simp [Lib.byteCells,Lib.strCells,B]
theorem zHi (W:World)(b:Int)(H':Nat)(h:W.heap.size=H'):∀ j u,[Value.int .u8 b][j]?=some u->(W.alloc (.cells #[.int .u8 b] 5)).cell? ((⟨H',0,none⟩:Addr).add j)=some u:=by
 subst h
 exact World.news_of_block (w:=W.alloc (.cells #[.int .u8 b] 5)) (cs:=#[.int .u8 b]) (t:=5) (fr:=(0,0)) (by
  show (W.heap.push _)[W.heap.size]?=_
  simp)
theorem zQt (b:Int):∀ u ∈ [Value.int .u8 b],u.oneCell'=true:=by simp [Value.oneCell']
theorem Tryz.info5:(Tryz.prog.info? 5).map (fun i=>(i.zero,i.size,i.bytes))=some (some (.int .u8 0),1,1):=by kernel_rfl
def exT (e:Int):List UInt8:=if e=0 then [] else 101::Lib.itoa e
def dgT (d:List UInt8):List UInt8:=if d=[] then [48] else d
abbrev PC (c:Int)(s g:Bool)(d:List UInt8)(e:Int):Array Value:=#[.int .i64 c,.bool s,.bool g,.string (B d),.int .i64 e]
theorem Ap.start {Bs:Nat}{cs:Array Value}{v:Value}{l:List UInt8}{w:World}(hown:w.ownsRow Bs 5 1 v l.length (Lib.byteCells l))(hb:Bs<=w.heap.size):Ap Bs w.heap.size cs v l w (w.alloc (.cells cs 35)) :=
 ⟨hown.alloc _,by show (w.heap.push _)[w.heap.size]?=_;simp,(Below.refl _ _).alloc hb _,by simp;omega⟩
theorem zE1 (Bs:Nat)(c:Int)(s g:Bool)(v:Value)(l:List UInt8)(w:World)(hl:l.length<100000)(hown:w.ownsRow Bs 5 1 v l.length (Lib.byteCells l))(hb:Bs<=w.heap.size) :
  Calls Tryz.prog 125 #[v,PV c s g [] 0] w fun x w'=>∃ v',x=.returned v'/\w'.ownsRow Bs 5 1 v' (l++[48]).length (Lib.byteCells (l++[48]))/\Below Bs w w':=by
 have htl:=zDa
 obtain ⟨i0,hi,hz0,hz1,hz2⟩:=info_parts Tryz.info5
 unfold PV
 have A0:Ap Bs w.heap.size (PC c s g [] 0) v l w (w.alloc (.cells (PC c s g [] 0) 35)):=Ap.start hown hb
 clear hown
 go_enter Tryz.func125,Tryz.ntmps125
 go_wp2_with (first|(at_builtin;refine wpList_append_lies _ rfl (.tmp 8) (.tmp 9) 79 rfl Bs 5 i0 (.int .u8 0) 1 1 Tryz.underlying79 hi hz0 hz1 hz2 rfl (by decide) v (l).length (Lib.byteCells (l)) rfl (A0.alloc (.cells #[.int .u8 48] 5)).own ⟨w.heap.size+1,0,none⟩ 1 1 [.int .u8 48] rfl rfl (zHi _ _ _ (by simp)) (zQt _) (by decide) (by unfold maxLen;omega) (by omega) (A0.alloc (.cells #[.int .u8 48] 5)).bs _ rfl ?_;intro g1 cap1 w1 hown hgrow hat hlt;have A1:=(A0.alloc (.cells #[.int .u8 48] 5)).app (m:=[48]) hgrow hown (by simp only [List.length_append,List.length_cons,List.length_nil];try omega) (zOe _ 48);clear hown hgrow hat hlt;generalize (Value.slice (some ⟨g1,0,none⟩) ((l).length+1) cap1)=v1 at *;have k1_0:w1.cell? ⟨w.heap.size,0,none⟩=some (.int .i64 c):=A1.cell 0;have k1_1:w1.cell? ⟨w.heap.size,1,none⟩=some (.bool s):=A1.cell 1;have k1_2:w1.cell? ⟨w.heap.size,2,none⟩=some (.bool g):=A1.cell 2;have k1_3:w1.cell? ⟨w.heap.size,3,none⟩=some (.string (B [])):=A1.cell 3;have k1_4:w1.cell? ⟨w.heap.size,4,none⟩=some (.int .i64 0):=A1.cell 4)|(at_builtin;refine Lib.wpList_append_own_string _ rfl (.tmp 11) (.tmp 13) 79 9 rfl Bs 5 i0 Tryz.underlying79 Tryz.underlying9 hi hz0 hz1 hz2 v1 (l++[48]).length (Lib.byteCells (l++[48])) rfl A1.own (B []) rfl (by rw [zCa];unfold maxLen;simp only [List.length_append,List.length_cons,List.length_nil];omega) (by rw [zCa];simp only [List.length_append,List.length_cons,List.length_nil];omega) A1.bs ?_;intro v2 w2 hown hgrow hq;have A2:=A1.app (m:=[]) hgrow hown (by simp only [zCa,List.length_append,List.length_cons,List.length_nil];try omega) (zEf _ _);clear hown hgrow hq;have k2_0:w2.cell? ⟨w.heap.size,0,none⟩=some (.int .i64 c):=A2.cell 0;have k2_1:w2.cell? ⟨w.heap.size,1,none⟩=some (.bool s):=A2.cell 1;have k2_2:w2.cell? ⟨w.heap.size,2,none⟩=some (.bool g):=A2.cell 2;have k2_3:w2.cell? ⟨w.heap.size,3,none⟩=some (.string (B [])):=A2.cell 3;have k2_4:w2.cell? ⟨w.heap.size,4,none⟩=some (.int .i64 0):=A2.cell 4))
 rw [List.append_nil] at A2
 go_ret
 exact ⟨v2,rfl,A2.own,A2.bel⟩
theorem zD1 (Bs:Nat)(c:Int)(s g:Bool)(e:Int)(v:Value)(l:List UInt8)(w:World)(hl:l.length<100000)(hown:w.ownsRow Bs 5 1 v l.length (Lib.byteCells l))(hb:Bs<=w.heap.size)(he:(e != 0)=true)(he1:-9223372036854775808<=e/\e<=9223372036854775807)(htab:Lib.TabBelow Tryz.prog Bs w "internal/strconv.uint64pow10" .u64 Lib.pow10Tab) :
  Calls Tryz.prog 125 #[v,PV c s g [] e] w fun x w'=>∃ v',x=.returned v'/\w'.ownsRow Bs 5 1 v' (l++([48]++101::Lib.itoa e)).length (Lib.byteCells (l++([48]++101::Lib.itoa e)))/\Below Bs w w':=by
 have htl:=zDa
 obtain ⟨i0,hi,hz0,hz1,hz2⟩:=info_parts Tryz.info5
 unfold PV
 have A0:Ap Bs w.heap.size (PC c s g [] e) v l w (w.alloc (.cells (PC c s g [] e) 35)):=Ap.start hown hb
 clear hown
 go_enter Tryz.func125,Tryz.ntmps125
 go_wp2_with (first|(at_builtin;refine wpList_append_lies _ rfl (.tmp 8) (.tmp 9) 79 rfl Bs 5 i0 (.int .u8 0) 1 1 Tryz.underlying79 hi hz0 hz1 hz2 rfl (by decide) v (l).length (Lib.byteCells (l)) rfl (A0.alloc (.cells #[.int .u8 48] 5)).own ⟨w.heap.size+1,0,none⟩ 1 1 [.int .u8 48] rfl rfl (zHi _ _ _ (by simp)) (zQt _) (by decide) (by unfold maxLen;omega) (by omega) (A0.alloc (.cells #[.int .u8 48] 5)).bs _ rfl ?_;intro g1 cap1 w1 hown hgrow hat hlt;have A1:=(A0.alloc (.cells #[.int .u8 48] 5)).app (m:=[48]) hgrow hown (by simp only [List.length_append,List.length_cons,List.length_nil];try omega) (zOe _ 48);clear hown hgrow hat hlt;generalize (Value.slice (some ⟨g1,0,none⟩) ((l).length+1) cap1)=v1 at *;have k1_0:w1.cell? ⟨w.heap.size,0,none⟩=some (.int .i64 c):=A1.cell 0;have k1_1:w1.cell? ⟨w.heap.size,1,none⟩=some (.bool s):=A1.cell 1;have k1_2:w1.cell? ⟨w.heap.size,2,none⟩=some (.bool g):=A1.cell 2;have k1_3:w1.cell? ⟨w.heap.size,3,none⟩=some (.string (B [])):=A1.cell 3;have k1_4:w1.cell? ⟨w.heap.size,4,none⟩=some (.int .i64 e):=A1.cell 4)|(at_builtin;refine Lib.wpList_append_own_string _ rfl (.tmp 11) (.tmp 13) 79 9 rfl Bs 5 i0 Tryz.underlying79 Tryz.underlying9 hi hz0 hz1 hz2 v1 (l++[48]).length (Lib.byteCells (l++[48])) rfl A1.own (B []) rfl (by rw [zCa];unfold maxLen;simp only [List.length_append,List.length_cons,List.length_nil];omega) (by rw [zCa];simp only [List.length_append,List.length_cons,List.length_nil];omega) A1.bs ?_;intro v2 w2 hown hgrow hq;have A2:=A1.app (m:=[]) hgrow hown (by simp only [zCa,List.length_append,List.length_cons,List.length_nil];try omega) (zEf _ _);clear hown hgrow hq;have k2_0:w2.cell? ⟨w.heap.size,0,none⟩=some (.int .i64 c):=A2.cell 0;have k2_1:w2.cell? ⟨w.heap.size,1,none⟩=some (.bool s):=A2.cell 1;have k2_2:w2.cell? ⟨w.heap.size,2,none⟩=some (.bool g):=A2.cell 2;have k2_3:w2.cell? ⟨w.heap.size,3,none⟩=some (.string (B [])):=A2.cell 3;have k2_4:w2.cell? ⟨w.heap.size,4,none⟩=some (.int .i64 e):=A2.cell 4)|(at_builtin;refine wpList_append_lies _ rfl (.tmp 18) (.tmp 19) 79 rfl Bs 5 i0 (.int .u8 0) 1 1 Tryz.underlying79 hi hz0 hz1 hz2 rfl (by decide) v2 (l++[48]++[]).length (Lib.byteCells (l++[48]++[])) rfl (A2.alloc (.cells #[.int .u8 101] 5)).own ⟨w2.heap.size,0,none⟩ 1 1 [.int .u8 101] rfl rfl (zHi _ _ _ rfl) (zQt _) (by decide) (by unfold maxLen;simp only [List.length_append,List.length_cons,List.length_nil];omega) (by simp only [List.length_append,List.length_cons,List.length_nil];omega) (A2.alloc (.cells #[.int .u8 101] 5)).bs _ rfl ?_;intro g3 cap3 w3 hown hgrow hat hlt;have A3:=(A2.alloc (.cells #[.int .u8 101] 5)).app (m:=[101]) hgrow hown (by simp only [List.length_append,List.length_cons,List.length_nil];try omega) (zOe _ 101);clear hown hgrow hat hlt;generalize (Value.slice (some ⟨g3,0,none⟩) ((l++[48]++[]).length+1) cap3)=v3 at *;have k3_0:w3.cell? ⟨w.heap.size,0,none⟩=some (.int .i64 c):=A3.cell 0;have k3_1:w3.cell? ⟨w.heap.size,1,none⟩=some (.bool s):=A3.cell 1;have k3_2:w3.cell? ⟨w.heap.size,2,none⟩=some (.bool g):=A3.cell 2;have k3_3:w3.cell? ⟨w.heap.size,3,none⟩=some (.string (B [])):=A3.cell 3;have k3_4:w3.cell? ⟨w.heap.size,4,none⟩=some (.int .i64 e):=A3.cell 4)|(go_at_call 157;refine (Tryz.strconv_AppendInt_10 Bs (l++[48]++[]++[101]).length e he1.1 he1.2 v3 (Lib.byteCells (l++[48]++[]++[101])) w3 A3.own A3.bs (by simp only [List.length_append,List.length_cons,List.length_nil];omega) (htab.on A3.bel)).mono ?_;rintro x w4 ⟨v4,rfl,hown4,hb4,_⟩))
 go_ret
 refine ⟨v4,rfl,?_,A3.bel.trans hb4⟩
 have e1:Lib.byteCells (l++[48]++[]++[101])++Lib.byteCells (Lib.itoa e)=Lib.byteCells (l++([48]++101::Lib.itoa e)):=by simp [Lib.byteCells]
 have e2:(l++[48]++[]++[101]).length+(Lib.itoa e).length=(l++([48]++101::Lib.itoa e)).length:=by simp [List.length_append];try omega
 rw [e1,e2] at hown4
 exact hown4
theorem zG1 (Bs:Nat)(c:Int)(s g:Bool)(d:UInt8)(ds:List UInt8)(v:Value)(l:List UInt8)(w:World)(hl:l.length<100000)(hown:w.ownsRow Bs 5 1 v l.length (Lib.byteCells l))(hb:Bs<=w.heap.size)(hd:ds.length+1<100000) :
  Calls Tryz.prog 125 #[v,PV c s g (d::ds) 0] w fun x w'=>∃ v',x=.returned v'/\w'.ownsRow Bs 5 1 v' (l++(d::ds)).length (Lib.byteCells (l++(d::ds)))/\Below Bs w w':=by
 have htl:=zDa
 obtain ⟨i0,hi,hz0,hz1,hz2⟩:=info_parts Tryz.info5
 unfold PV
 have A0:Ap Bs w.heap.size (PC c s g (d::ds) 0) v l w (w.alloc (.cells (PC c s g (d::ds) 0) 35)):=Ap.start hown hb
 clear hown
 have k0_3:(w.alloc (.cells (PC c s g (d::ds) 0) 35)).cell? ⟨w.heap.size,3,none⟩=some (.string (B (d::ds))):=A0.cell 3
 go_enter Tryz.func125,Tryz.ntmps125
 go_wp2_with (first|(at_builtin;refine Lib.wpList_append_own_string _ rfl (.tmp 11) (.tmp 13) 79 9 rfl Bs 5 i0 Tryz.underlying79 Tryz.underlying9 hi hz0 hz1 hz2 v (l).length (Lib.byteCells (l)) rfl A0.own (B (d::ds)) rfl (by rw [zCa];unfold maxLen;simp only [List.length_append,List.length_cons,List.length_nil];omega) (by rw [zCa];simp only [List.length_append,List.length_cons,List.length_nil];omega) A0.bs ?_;intro v2 w2 hown hgrow hq;have A2:=A0.app (m:=(d::ds)) hgrow hown (by simp only [zCa,List.length_append,List.length_cons,List.length_nil];try omega) (zEf _ _);clear hown hgrow hq;have k2_0:w2.cell? ⟨w.heap.size,0,none⟩=some (.int .i64 c):=A2.cell 0;have k2_1:w2.cell? ⟨w.heap.size,1,none⟩=some (.bool s):=A2.cell 1;have k2_2:w2.cell? ⟨w.heap.size,2,none⟩=some (.bool g):=A2.cell 2;have k2_3:w2.cell? ⟨w.heap.size,3,none⟩=some (.string (B (d::ds))):=A2.cell 3;have k2_4:w2.cell? ⟨w.heap.size,4,none⟩=some (.int .i64 0):=A2.cell 4))
 go_ret
 exact ⟨v2,rfl,A2.own,A2.bel⟩
theorem zF1 (Bs:Nat)(c:Int)(s g:Bool)(d:UInt8)(ds:List UInt8)(e:Int)(v:Value)(l:List UInt8)(w:World)(hl:l.length<100000)(hown:w.ownsRow Bs 5 1 v l.length (Lib.byteCells l))(hb:Bs<=w.heap.size)(hd:ds.length+1<100000)(he:(e != 0)=true)(he1:-9223372036854775808<=e/\e<=9223372036854775807)(htab:Lib.TabBelow Tryz.prog Bs w "internal/strconv.uint64pow10" .u64 Lib.pow10Tab) :
  Calls Tryz.prog 125 #[v,PV c s g (d::ds) e] w fun x w'=>∃ v',x=.returned v'/\w'.ownsRow Bs 5 1 v' (l++(d::ds++101::Lib.itoa e)).length (Lib.byteCells (l++(d::ds++101::Lib.itoa e)))/\Below Bs w w':=by
 have htl:=zDa
 obtain ⟨i0,hi,hz0,hz1,hz2⟩:=info_parts Tryz.info5
 unfold PV
 have A0:Ap Bs w.heap.size (PC c s g (d::ds) e) v l w (w.alloc (.cells (PC c s g (d::ds) e) 35)):=Ap.start hown hb
 clear hown
 have k0_3:(w.alloc (.cells (PC c s g (d::ds) e) 35)).cell? ⟨w.heap.size,3,none⟩=some (.string (B (d::ds))):=A0.cell 3
 go_enter Tryz.func125,Tryz.ntmps125
 go_wp2_with (first|(at_builtin;refine Lib.wpList_append_own_string _ rfl (.tmp 11) (.tmp 13) 79 9 rfl Bs 5 i0 Tryz.underlying79 Tryz.underlying9 hi hz0 hz1 hz2 v (l).length (Lib.byteCells (l)) rfl A0.own (B (d::ds)) rfl (by rw [zCa];unfold maxLen;simp only [List.length_append,List.length_cons,List.length_nil];omega) (by rw [zCa];simp only [List.length_append,List.length_cons,List.length_nil];omega) A0.bs ?_;intro v2 w2 hown hgrow hq;have A2:=A0.app (m:=(d::ds)) hgrow hown (by simp only [zCa,List.length_append,List.length_cons,List.length_nil];try omega) (zEf _ _);clear hown hgrow hq;have k2_0:w2.cell? ⟨w.heap.size,0,none⟩=some (.int .i64 c):=A2.cell 0;have k2_1:w2.cell? ⟨w.heap.size,1,none⟩=some (.bool s):=A2.cell 1;have k2_2:w2.cell? ⟨w.heap.size,2,none⟩=some (.bool g):=A2.cell 2;have k2_3:w2.cell? ⟨w.heap.size,3,none⟩=some (.string (B (d::ds))):=A2.cell 3;have k2_4:w2.cell? ⟨w.heap.size,4,none⟩=some (.int .i64 e):=A2.cell 4)|(at_builtin;refine wpList_append_lies _ rfl (.tmp 18) (.tmp 19) 79 rfl Bs 5 i0 (.int .u8 0) 1 1 Tryz.underlying79 hi hz0 hz1 hz2 rfl (by decide) v2 (l++(d::ds)).length (Lib.byteCells (l++(d::ds))) rfl (A2.alloc (.cells #[.int .u8 101] 5)).own ⟨w2.heap.size,0,none⟩ 1 1 [.int .u8 101] rfl rfl (zHi _ _ _ rfl) (zQt _) (by decide) (by unfold maxLen;simp only [List.length_append,List.length_cons,List.length_nil];omega) (by simp only [List.length_append,List.length_cons,List.length_nil];omega) (A2.alloc (.cells #[.int .u8 101] 5)).bs _ rfl ?_;intro g3 cap3 w3 hown hgrow hat hlt;have A3:=(A2.alloc (.cells #[.int .u8 101] 5)).app (m:=[101]) hgrow hown (by simp only [List.length_append,List.length_cons,List.length_nil];try omega) (zOe _ 101);clear hown hgrow hat hlt;generalize (Value.slice (some ⟨g3,0,none⟩) ((l++(d::ds)).length+1) cap3)=v3 at *;have k3_0:w3.cell? ⟨w.heap.size,0,none⟩=some (.int .i64 c):=A3.cell 0;have k3_1:w3.cell? ⟨w.heap.size,1,none⟩=some (.bool s):=A3.cell 1;have k3_2:w3.cell? ⟨w.heap.size,2,none⟩=some (.bool g):=A3.cell 2;have k3_3:w3.cell? ⟨w.heap.size,3,none⟩=some (.string (B (d::ds))):=A3.cell 3;have k3_4:w3.cell? ⟨w.heap.size,4,none⟩=some (.int .i64 e):=A3.cell 4)|(go_at_call 157;refine (Tryz.strconv_AppendInt_10 Bs (l++(d::ds)++[101]).length e he1.1 he1.2 v3 (Lib.byteCells (l++(d::ds)++[101])) w3 A3.own A3.bs (by simp only [List.length_append,List.length_cons,List.length_nil];omega) (htab.on A3.bel)).mono ?_;rintro x w4 ⟨v4,rfl,hown4,hb4,_⟩))
 go_ret
 refine ⟨v4,rfl,?_,A3.bel.trans hb4⟩
 have e1:Lib.byteCells (l++(d::ds)++[101])++Lib.byteCells (Lib.itoa e)=Lib.byteCells (l++(d::ds++101::Lib.itoa e)):=by simp [Lib.byteCells]
 have e2:(l++(d::ds)++[101]).length+(Lib.itoa e).length=(l++(d::ds++101::Lib.itoa e)).length:=by simp [List.length_append];try omega
 rw [e1,e2] at hown4
 exact hown4
theorem zB1 (Bs:Nat)(c:Int)(s:Bool)(e:Int)(v:Value)(l:List UInt8)(w:World)(hl:l.length<100000)(hown:w.ownsRow Bs 5 1 v l.length (Lib.byteCells l))(hb:Bs<=w.heap.size) :
  Calls Tryz.prog 124 #[v,PV c s false [] e] w fun x w'=>∃ v',x=.returned v'/\w'.ownsRow Bs 5 1 v' (l++([110,97,110])).length (Lib.byteCells (l++([110,97,110])))/\Below Bs w w':=by
 have htl:=zDa
 obtain ⟨i0,hi,hz0,hz1,hz2⟩:=info_parts Tryz.info5
 unfold PV
 have A0:Ap Bs w.heap.size (PC c s false [] e) v l w (w.alloc (.cells (PC c s false [] e) 35)):=Ap.start hown hb
 clear hown
 have k0_2:(w.alloc (.cells (PC c s false [] e) 35)).cell? ⟨w.heap.size,2,none⟩=some (.bool false):=A0.cell 2
 go_enter Tryz.func124,Tryz.ntmps124
 go_wp2_with (first|(at_builtin;refine Lib.wpList_append_own_string _ rfl (.tmp 10) (.const (.string ⟨#[110,97,110]⟩)) 79 9 rfl Bs 5 i0 Tryz.underlying79 Tryz.underlying9 hi hz0 hz1 hz2 v (l).length (Lib.byteCells (l)) rfl A0.own (B [110,97,110]) rfl (by rw [zCa];unfold maxLen;simp only [List.length_append,List.length_cons,List.length_nil];omega) (by rw [zCa];simp only [List.length_append,List.length_cons,List.length_nil];omega) A0.bs ?_;intro v2 w2 hown hgrow hq;have A2:=A0.app (m:=[110,97,110]) hgrow hown (by simp only [zCa,List.length_append,List.length_cons,List.length_nil];try omega) (zEf _ _);clear hown hgrow hq;have k2_0:w2.cell? ⟨w.heap.size,0,none⟩=some (.int .i64 c):=A2.cell 0;have k2_1:w2.cell? ⟨w.heap.size,1,none⟩=some (.bool s):=A2.cell 1;have k2_2:w2.cell? ⟨w.heap.size,2,none⟩=some (.bool false):=A2.cell 2;have k2_3:w2.cell? ⟨w.heap.size,3,none⟩=some (.string (B [])):=A2.cell 3;have k2_4:w2.cell? ⟨w.heap.size,4,none⟩=some (.int .i64 e):=A2.cell 4))
 go_ret
 exact ⟨v2,rfl,A2.own,A2.bel⟩
theorem zC1 (Bs:Nat)(c:Int)(s:Bool)(d:UInt8)(ds:List UInt8)(e:Int)(v:Value)(l:List UInt8)(w:World)(hl:l.length<100000)(hown:w.ownsRow Bs 5 1 v l.length (Lib.byteCells l))(hb:Bs<=w.heap.size)(hd:ds.length+1<100000) :
  Calls Tryz.prog 124 #[v,PV c s false (d::ds) e] w fun x w'=>∃ v',x=.returned v'/\w'.ownsRow Bs 5 1 v' (l++([110,97,110]++40::(d::ds++[41]))).length (Lib.byteCells (l++([110,97,110]++40::(d::ds++[41]))))/\Below Bs w w':=by
 have htl:=zDa
 obtain ⟨i0,hi,hz0,hz1,hz2⟩:=info_parts Tryz.info5
 unfold PV
 have A0:Ap Bs w.heap.size (PC c s false (d::ds) e) v l w (w.alloc (.cells (PC c s false (d::ds) e) 35)):=Ap.start hown hb
 clear hown
 have k0_2:(w.alloc (.cells (PC c s false (d::ds) e) 35)).cell? ⟨w.heap.size,2,none⟩=some (.bool false):=A0.cell 2
 go_enter Tryz.func124,Tryz.ntmps124
 go_wp2_with (first|(at_builtin;refine Lib.wpList_append_own_string _ rfl (.tmp 10) (.const (.string ⟨#[110,97,110]⟩)) 79 9 rfl Bs 5 i0 Tryz.underlying79 Tryz.underlying9 hi hz0 hz1 hz2 v (l).length (Lib.byteCells (l)) rfl A0.own (B [110,97,110]) rfl (by rw [zCa];unfold maxLen;simp only [List.length_append,List.length_cons,List.length_nil];omega) (by rw [zCa];simp only [List.length_append,List.length_cons,List.length_nil];omega) A0.bs ?_;intro v2 w2 hown hgrow hq;have A2:=A0.app (m:=[110,97,110]) hgrow hown (by simp only [zCa,List.length_append,List.length_cons,List.length_nil];try omega) (zEf _ _);clear hown hgrow hq;have k2_0:w2.cell? ⟨w.heap.size,0,none⟩=some (.int .i64 c):=A2.cell 0;have k2_1:w2.cell? ⟨w.heap.size,1,none⟩=some (.bool s):=A2.cell 1;have k2_2:w2.cell? ⟨w.heap.size,2,none⟩=some (.bool false):=A2.cell 2;have k2_3:w2.cell? ⟨w.heap.size,3,none⟩=some (.string (B (d::ds))):=A2.cell 3;have k2_4:w2.cell? ⟨w.heap.size,4,none⟩=some (.int .i64 e):=A2.cell 4)|(at_builtin;refine wpList_append_lies _ rfl (.tmp 15) (.tmp 16) 79 rfl Bs 5 i0 (.int .u8 0) 1 1 Tryz.underlying79 hi hz0 hz1 hz2 rfl (by decide) v2 (l++[110,97,110]).length (Lib.byteCells (l++[110,97,110])) rfl (A2.alloc (.cells #[.int .u8 40] 5)).own ⟨w2.heap.size,0,none⟩ 1 1 [.int .u8 40] rfl rfl (zHi _ _ _ rfl) (zQt _) (by decide) (by unfold maxLen;simp only [List.length_append,List.length_cons,List.length_nil];omega) (by simp only [List.length_append,List.length_cons,List.length_nil];omega) (A2.alloc (.cells #[.int .u8 40] 5)).bs _ rfl ?_;intro g3 cap3 w3 hown hgrow hat hlt;have A3:=(A2.alloc (.cells #[.int .u8 40] 5)).app (m:=[40]) hgrow hown (by simp only [List.length_append,List.length_cons,List.length_nil];try omega) (zOe _ 40);clear hown hgrow hat hlt;generalize (Value.slice (some ⟨g3,0,none⟩) ((l++[110,97,110]).length+1) cap3)=v3 at *;have k3_0:w3.cell? ⟨w.heap.size,0,none⟩=some (.int .i64 c):=A3.cell 0;have k3_1:w3.cell? ⟨w.heap.size,1,none⟩=some (.bool s):=A3.cell 1;have k3_2:w3.cell? ⟨w.heap.size,2,none⟩=some (.bool false):=A3.cell 2;have k3_3:w3.cell? ⟨w.heap.size,3,none⟩=some (.string (B (d::ds))):=A3.cell 3;have k3_4:w3.cell? ⟨w.heap.size,4,none⟩=some (.int .i64 e):=A3.cell 4)|(at_builtin;refine Lib.wpList_append_own_string _ rfl (.tmp 18) (.tmp 20) 79 9 rfl Bs 5 i0 Tryz.underlying79 Tryz.underlying9 hi hz0 hz1 hz2 v3 (l++[110,97,110]++[40]).length (Lib.byteCells (l++[110,97,110]++[40])) rfl A3.own (B (d::ds)) rfl (by rw [zCa];unfold maxLen;simp only [List.length_append,List.length_cons,List.length_nil];omega) (by rw [zCa];simp only [List.length_append,List.length_cons,List.length_nil];omega) A3.bs ?_;intro v4 w4 hown hgrow hq;have A4:=A3.app (m:=(d::ds)) hgrow hown (by simp only [zCa,List.length_append,List.length_cons,List.length_nil];try omega) (zEf _ _);clear hown hgrow hq;have k4_0:w4.cell? ⟨w.heap.size,0,none⟩=some (.int .i64 c):=A4.cell 0;have k4_1:w4.cell? ⟨w.heap.size,1,none⟩=some (.bool s):=A4.cell 1;have k4_2:w4.cell? ⟨w.heap.size,2,none⟩=some (.bool false):=A4.cell 2;have k4_3:w4.cell? ⟨w.heap.size,3,none⟩=some (.string (B (d::ds))):=A4.cell 3;have k4_4:w4.cell? ⟨w.heap.size,4,none⟩=some (.int .i64 e):=A4.cell 4)|(at_builtin;refine wpList_append_lies _ rfl (.tmp 22) (.tmp 23) 79 rfl Bs 5 i0 (.int .u8 0) 1 1 Tryz.underlying79 hi hz0 hz1 hz2 rfl (by decide) v4 (l++[110,97,110]++[40]++(d::ds)).length (Lib.byteCells (l++[110,97,110]++[40]++(d::ds))) rfl (A4.alloc (.cells #[.int .u8 41] 5)).own ⟨w4.heap.size,0,none⟩ 1 1 [.int .u8 41] rfl rfl (zHi _ _ _ rfl) (zQt _) (by decide) (by unfold maxLen;simp only [List.length_append,List.length_cons,List.length_nil];omega) (by simp only [List.length_append,List.length_cons,List.length_nil];omega) (A4.alloc (.cells #[.int .u8 41] 5)).bs _ rfl ?_;intro g5 cap5 w5 hown hgrow hat hlt;have A5:=(A4.alloc (.cells #[.int .u8 41] 5)).app (m:=[41]) hgrow hown (by simp only [List.length_append,List.length_cons,List.length_nil];try omega) (zOe _ 41);clear hown hgrow hat hlt;generalize (Value.slice (some ⟨g5,0,none⟩) ((l++[110,97,110]++[40]++(d::ds)).length+1) cap5)=v5 at *;have k5_0:w5.cell? ⟨w.heap.size,0,none⟩=some (.int .i64 c):=A5.cell 0;have k5_1:w5.cell? ⟨w.heap.size,1,none⟩=some (.bool s):=A5.cell 1;have k5_2:w5.cell? ⟨w.heap.size,2,none⟩=some (.bool false):=A5.cell 2;have k5_3:w5.cell? ⟨w.heap.size,3,none⟩=some (.string (B (d::ds))):=A5.cell 3;have k5_4:w5.cell? ⟨w.heap.size,4,none⟩=some (.int .i64 e):=A5.cell 4))
 go_ret
 have e1:l++[110,97,110]++[40]++(d::ds)++[41]=l++([110,97,110]++40::(d::ds++[41])):=by simp
 rw [e1] at A5
 exact ⟨_,rfl,A5.own,A5.bel⟩
theorem zZ0 (Bs:Nat)(c:Int)(s:Bool)(e:Int)(v:Value)(l:List UInt8)(w:World)(hl:l.length<100000)(hown:w.ownsRow Bs 5 1 v l.length (Lib.byteCells l))(hb:Bs<=w.heap.size) :
  Calls Tryz.prog 124 #[v,PV c s true [] e] w fun x w'=>∃ v',x=.returned v'/\w'.ownsRow Bs 5 1 v' (l++(115::[110,97,110])).length (Lib.byteCells (l++(115::[110,97,110])))/\Below Bs w w':=by
 have htl:=zDa
 obtain ⟨i0,hi,hz0,hz1,hz2⟩:=info_parts Tryz.info5
 unfold PV
 have A0:Ap Bs w.heap.size (PC c s true [] e) v l w (w.alloc (.cells (PC c s true [] e) 35)):=Ap.start hown hb
 clear hown
 have k0_2:(w.alloc (.cells (PC c s true [] e) 35)).cell? ⟨w.heap.size,2,none⟩=some (.bool true):=A0.cell 2
 go_enter Tryz.func124,Tryz.ntmps124
 go_wp2_with (first|(at_builtin;refine wpList_append_lies _ rfl (.tmp 7) (.tmp 8) 79 rfl Bs 5 i0 (.int .u8 0) 1 1 Tryz.underlying79 hi hz0 hz1 hz2 rfl (by decide) v (l).length (Lib.byteCells (l)) rfl (A0.alloc (.cells #[.int .u8 115] 5)).own ⟨w.heap.size+1,0,none⟩ 1 1 [.int .u8 115] rfl rfl (zHi _ _ _ (by simp)) (zQt _) (by decide) (by unfold maxLen;omega) (by omega) (A0.alloc (.cells #[.int .u8 115] 5)).bs _ rfl ?_;intro g1 cap1 w1 hown hgrow hat hlt;have A1:=(A0.alloc (.cells #[.int .u8 115] 5)).app (m:=[115]) hgrow hown (by simp only [List.length_append,List.length_cons,List.length_nil];try omega) (zOe _ 115);clear hown hgrow hat hlt;generalize (Value.slice (some ⟨g1,0,none⟩) ((l).length+1) cap1)=v1 at *;have k1_0:w1.cell? ⟨w.heap.size,0,none⟩=some (.int .i64 c):=A1.cell 0;have k1_1:w1.cell? ⟨w.heap.size,1,none⟩=some (.bool s):=A1.cell 1;have k1_2:w1.cell? ⟨w.heap.size,2,none⟩=some (.bool true):=A1.cell 2;have k1_3:w1.cell? ⟨w.heap.size,3,none⟩=some (.string (B [])):=A1.cell 3;have k1_4:w1.cell? ⟨w.heap.size,4,none⟩=some (.int .i64 e):=A1.cell 4)|(at_builtin;refine Lib.wpList_append_own_string _ rfl (.tmp 10) (.const (.string ⟨#[110,97,110]⟩)) 79 9 rfl Bs 5 i0 Tryz.underlying79 Tryz.underlying9 hi hz0 hz1 hz2 v1 (l++[115]).length (Lib.byteCells (l++[115])) rfl A1.own (B [110,97,110]) rfl (by rw [zCa];unfold maxLen;simp only [List.length_append,List.length_cons,List.length_nil];omega) (by rw [zCa];simp only [List.length_append,List.length_cons,List.length_nil];omega) A1.bs ?_;intro v2 w2 hown hgrow hq;have A2:=A1.app (m:=[110,97,110]) hgrow hown (by simp only [zCa,List.length_append,List.length_cons,List.length_nil];try omega) (zEf _ _);clear hown hgrow hq;have k2_0:w2.cell? ⟨w.heap.size,0,none⟩=some (.int .i64 c):=A2.cell 0;have k2_1:w2.cell? ⟨w.heap.size,1,none⟩=some (.bool s):=A2.cell 1;have k2_2:w2.cell? ⟨w.heap.size,2,none⟩=some (.bool true):=A2.cell 2;have k2_3:w2.cell? ⟨w.heap.size,3,none⟩=some (.string (B [])):=A2.cell 3;have k2_4:w2.cell? ⟨w.heap.size,4,none⟩=some (.int .i64 e):=A2.cell 4))
 go_ret
 have e1:l++[115]++[110,97,110]=l++(115::[110,97,110]):=by simp
 rw [e1] at A2
 exact ⟨v2,rfl,A2.own,A2.bel⟩
theorem zA1 (Bs:Nat)(c:Int)(s:Bool)(d:UInt8)(ds:List UInt8)(e:Int)(v:Value)(l:List UInt8)(w:World)(hl:l.length<100000)(hown:w.ownsRow Bs 5 1 v l.length (Lib.byteCells l))(hb:Bs<=w.heap.size)(hd:ds.length+1<100000) :
  Calls Tryz.prog 124 #[v,PV c s true (d::ds) e] w fun x w'=>∃ v',x=.returned v'/\w'.ownsRow Bs 5 1 v' (l++(115::[110,97,110]++40::(d::ds++[41]))).length (Lib.byteCells (l++(115::[110,97,110]++40::(d::ds++[41]))))/\Below Bs w w':=by
 have htl:=zDa
 obtain ⟨i0,hi,hz0,hz1,hz2⟩:=info_parts Tryz.info5
 unfold PV
 have A0:Ap Bs w.heap.size (PC c s true (d::ds) e) v l w (w.alloc (.cells (PC c s true (d::ds) e) 35)):=Ap.start hown hb
 clear hown
 have k0_2:(w.alloc (.cells (PC c s true (d::ds) e) 35)).cell? ⟨w.heap.size,2,none⟩=some (.bool true):=A0.cell 2
 go_enter Tryz.func124,Tryz.ntmps124
 go_wp2_with (first|(at_builtin;refine wpList_append_lies _ rfl (.tmp 7) (.tmp 8) 79 rfl Bs 5 i0 (.int .u8 0) 1 1 Tryz.underlying79 hi hz0 hz1 hz2 rfl (by decide) v (l).length (Lib.byteCells (l)) rfl (A0.alloc (.cells #[.int .u8 115] 5)).own ⟨w.heap.size+1,0,none⟩ 1 1 [.int .u8 115] rfl rfl (zHi _ _ _ (by simp)) (zQt _) (by decide) (by unfold maxLen;omega) (by omega) (A0.alloc (.cells #[.int .u8 115] 5)).bs _ rfl ?_;intro g1 cap1 w1 hown hgrow hat hlt;have A1:=(A0.alloc (.cells #[.int .u8 115] 5)).app (m:=[115]) hgrow hown (by simp only [List.length_append,List.length_cons,List.length_nil];try omega) (zOe _ 115);clear hown hgrow hat hlt;generalize (Value.slice (some ⟨g1,0,none⟩) ((l).length+1) cap1)=v1 at *;have k1_0:w1.cell? ⟨w.heap.size,0,none⟩=some (.int .i64 c):=A1.cell 0;have k1_1:w1.cell? ⟨w.heap.size,1,none⟩=some (.bool s):=A1.cell 1;have k1_2:w1.cell? ⟨w.heap.size,2,none⟩=some (.bool true):=A1.cell 2;have k1_3:w1.cell? ⟨w.heap.size,3,none⟩=some (.string (B (d::ds))):=A1.cell 3;have k1_4:w1.cell? ⟨w.heap.size,4,none⟩=some (.int .i64 e):=A1.cell 4)|(at_builtin;refine Lib.wpList_append_own_string _ rfl (.tmp 10) (.const (.string ⟨#[110,97,110]⟩)) 79 9 rfl Bs 5 i0 Tryz.underlying79 Tryz.underlying9 hi hz0 hz1 hz2 v1 (l++[115]).length (Lib.byteCells (l++[115])) rfl A1.own (B [110,97,110]) rfl (by rw [zCa];unfold maxLen;simp only [List.length_append,List.length_cons,List.length_nil];omega) (by rw [zCa];simp only [List.length_append,List.length_cons,List.length_nil];omega) A1.bs ?_;intro v2 w2 hown hgrow hq;have A2:=A1.app (m:=[110,97,110]) hgrow hown (by simp only [zCa,List.length_append,List.length_cons,List.length_nil];try omega) (zEf _ _);clear hown hgrow hq;have k2_0:w2.cell? ⟨w.heap.size,0,none⟩=some (.int .i64 c):=A2.cell 0;have k2_1:w2.cell? ⟨w.heap.size,1,none⟩=some (.bool s):=A2.cell 1;have k2_2:w2.cell? ⟨w.heap.size,2,none⟩=some (.bool true):=A2.cell 2;have k2_3:w2.cell? ⟨w.heap.size,3,none⟩=some (.string (B (d::ds))):=A2.cell 3;have k2_4:w2.cell? ⟨w.heap.size,4,none⟩=some (.int .i64 e):=A2.cell 4)|(at_builtin;refine wpList_append_lies _ rfl (.tmp 15) (.tmp 16) 79 rfl Bs 5 i0 (.int .u8 0) 1 1 Tryz.underlying79 hi hz0 hz1 hz2 rfl (by decide) v2 (l++[115]++[110,97,110]).length (Lib.byteCells (l++[115]++[110,97,110])) rfl (A2.alloc (.cells #[.int .u8 40] 5)).own ⟨w2.heap.size,0,none⟩ 1 1 [.int .u8 40] rfl rfl (zHi _ _ _ rfl) (zQt _) (by decide) (by unfold maxLen;simp only [List.length_append,List.length_cons,List.length_nil];omega) (by simp only [List.length_append,List.length_cons,List.length_nil];omega) (A2.alloc (.cells #[.int .u8 40] 5)).bs _ rfl ?_;intro g3 cap3 w3 hown hgrow hat hlt;have A3:=(A2.alloc (.cells #[.int .u8 40] 5)).app (m:=[40]) hgrow hown (by simp only [List.length_append,List.length_cons,List.length_nil];try omega) (zOe _ 40);clear hown hgrow hat hlt;generalize (Value.slice (some ⟨g3,0,none⟩) ((l++[115]++[110,97,110]).length+1) cap3)=v3 at *;have k3_0:w3.cell? ⟨w.heap.size,0,none⟩=some (.int .i64 c):=A3.cell 0;have k3_1:w3.cell? ⟨w.heap.size,1,none⟩=some (.bool s):=A3.cell 1;have k3_2:w3.cell? ⟨w.heap.size,2,none⟩=some (.bool true):=A3.cell 2;have k3_3:w3.cell? ⟨w.heap.size,3,none⟩=some (.string (B (d::ds))):=A3.cell 3;have k3_4:w3.cell? ⟨w.heap.size,4,none⟩=some (.int .i64 e):=A3.cell 4)|(at_builtin;refine Lib.wpList_append_own_string _ rfl (.tmp 18) (.tmp 20) 79 9 rfl Bs 5 i0 Tryz.underlying79 Tryz.underlying9 hi hz0 hz1 hz2 v3 (l++[115]++[110,97,110]++[40]).length (Lib.byteCells (l++[115]++[110,97,110]++[40])) rfl A3.own (B (d::ds)) rfl (by rw [zCa];unfold maxLen;simp only [List.length_append,List.length_cons,List.length_nil];omega) (by rw [zCa];simp only [List.length_append,List.length_cons,List.length_nil];omega) A3.bs ?_;intro v4 w4 hown hgrow hq;have A4:=A3.app (m:=(d::ds)) hgrow hown (by simp only [zCa,List.length_append,List.length_cons,List.length_nil];try omega) (zEf _ _);clear hown hgrow hq;have k4_0:w4.cell? ⟨w.heap.size,0,none⟩=some (.int .i64 c):=A4.cell 0;have k4_1:w4.cell? ⟨w.heap.size,1,none⟩=some (.bool s):=A4.cell 1;have k4_2:w4.cell? ⟨w.heap.size,2,none⟩=some (.bool true):=A4.cell 2;have k4_3:w4.cell? ⟨w.heap.size,3,none⟩=some (.string (B (d::ds))):=A4.cell 3;have k4_4:w4.cell? ⟨w.heap.size,4,none⟩=some (.int .i64 e):=A4.cell 4)|(at_builtin;refine wpList_append_lies _ rfl (.tmp 22) (.tmp 23) 79 rfl Bs 5 i0 (.int .u8 0) 1 1 Tryz.underlying79 hi hz0 hz1 hz2 rfl (by decide) v4 (l++[115]++[110,97,110]++[40]++(d::ds)).length (Lib.byteCells (l++[115]++[110,97,110]++[40]++(d::ds))) rfl (A4.alloc (.cells #[.int .u8 41] 5)).own ⟨w4.heap.size,0,none⟩ 1 1 [.int .u8 41] rfl rfl (zHi _ _ _ rfl) (zQt _) (by decide) (by unfold maxLen;simp only [List.length_append,List.length_cons,List.length_nil];omega) (by simp only [List.length_append,List.length_cons,List.length_nil];omega) (A4.alloc (.cells #[.int .u8 41] 5)).bs _ rfl ?_;intro g5 cap5 w5 hown hgrow hat hlt;have A5:=(A4.alloc (.cells #[.int .u8 41] 5)).app (m:=[41]) hgrow hown (by simp only [List.length_append,List.length_cons,List.length_nil];try omega) (zOe _ 41);clear hown hgrow hat hlt;generalize (Value.slice (some ⟨g5,0,none⟩) ((l++[115]++[110,97,110]++[40]++(d::ds)).length+1) cap5)=v5 at *;have k5_0:w5.cell? ⟨w.heap.size,0,none⟩=some (.int .i64 c):=A5.cell 0;have k5_1:w5.cell? ⟨w.heap.size,1,none⟩=some (.bool s):=A5.cell 1;have k5_2:w5.cell? ⟨w.heap.size,2,none⟩=some (.bool true):=A5.cell 2;have k5_3:w5.cell? ⟨w.heap.size,3,none⟩=some (.string (B (d::ds))):=A5.cell 3;have k5_4:w5.cell? ⟨w.heap.size,4,none⟩=some (.int .i64 e):=A5.cell 4))
 go_ret
 have e1:l++[115]++[110,97,110]++[40]++(d::ds)++[41]=l++(115::[110,97,110]++40::(d::ds++[41])):=by simp
 rw [e1] at A5
 exact ⟨_,rfl,A5.own,A5.bel⟩
end Go.Proofs.YtpabnhlfbjkmaaaGreatDoor
