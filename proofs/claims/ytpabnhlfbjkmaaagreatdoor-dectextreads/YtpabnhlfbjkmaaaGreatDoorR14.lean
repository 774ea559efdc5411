/-
  Texts that the proof leans on.
-/
import Derived.Test.YtpabnhlfbjkmaaaGreatDoorR7
import Derived.Test.YtpabnhlfbjkmaaaGreatDoorR1
set_option maxHeartbeats 8000000
set_option linter.unusedVariables false
set_option linter.unusedSimpArgs false
set_option linter.unusedSectionVars false
set_option maxRecDepth 20000
namespace Go.Proofs.YtpabnhlfbjkmaaaGreatDoor
open Go.RowKit
theorem zWm (c d:UInt8)(r p:List UInt8):Lib.hasPrefix (c::r) (d::p)=((d==c)&&Lib.hasPrefix r p):=rfl
theorem zC7 (r:List UInt8):Lib.hasPrefix r []=true:=by unfold Lib.hasPrefix;cases r<;>rfl
theorem zVy (p N:List UInt8):Lib.hasPrefix (p++N) p=true:=by
 induction p with
 | nil=>exact zC7 _
 | cons c r ih=>rw [List.cons_append,zWm,ih];simp
theorem zK6 (p N:List UInt8):Lib.trimPrefix (p++N) p=N:=by
 unfold Lib.trimPrefix
 rw [if_pos (zVy p N)];simp
theorem tp_no {l p:List UInt8}(h:Lib.hasPrefix l p=false):Lib.trimPrefix l p=l:=by
 unfold Lib.trimPrefix;rw [h];rfl
theorem zUy:∀ {l p:List UInt8},Lib.hasPrefix l p=true->l=p++l.drop p.length
 | l,[],_=>by simp
 | [],d::p,h=>by cases h
 | c::r,d::p,h=>by
  rw [zWm,Bool.and_eq_true] at h
  have e:d=c:=by simpa using h.1
  have ih:=zUy h.2
  subst e
  rw [List.length_cons,List.drop_succ_cons,List.cons_append,← ih]
theorem zKh (c d:UInt8)(r:List UInt8):Lib.hasPrefix (c::r) [d]=(d==c):=by rw [zWm,zC7,Bool.and_true]
theorem zDl (c:UInt8)(r:List UInt8):Lib.trimPrefix (c::r) [c]=r:=zK6 [c] r
theorem zSo {c:UInt8}{n:Nat}(h:(c.toNat:Int)≠n)(hn:n<256):(UInt8.ofNat n==c)=false:=by
 rw [beq_eq_false_iff_ne]
 intro e
 apply h
 rw [← e]
 simp
 omega
theorem zZj {c:UInt8}{n:Nat}(h:(c.toNat:Int)=n)(hn:n<256):c=UInt8.ofNat n:=by
 apply UInt8.toNat_inj.1
 simp
 omega
/-! a payload, as the document cuts it -/
theorem yXc {m:List UInt8}(h:m.all dg=true)(q:UInt8)(hq:dg q=false):dgs (m++[q])=m/\rst (m++[q])=[q]:=by
 have h1:dgs (m++[q])=m:=by
  unfold dgs
  rw [List.takeWhile_append_of_pos (List.all_eq_true.1 h),List.takeWhile_cons,hq]
  simp
 refine ⟨h1,?_⟩
 have:=zUd (m++[q])
 rw [h1] at this
 simpa using this
theorem zMr {c:UInt8}{r:List UInt8}(h:r.length<2):paB (c::r)=false:=by
 unfold paB
 rw [List.isEmpty_cons,Bool.false_or,zKh]
 by_cases e:(40==c)=true
 ·have e':(40:UInt8)=c:=by simpa using e
  subst e'
  rw [zDl]
  by_cases hr:rst r=[41]
  ·have h2:=congrArg List.length (zUd r)
   rw [List.length_append,hr] at h2
   simp at h2
   have:dgs r=[]:=List.eq_nil_of_length_eq_zero (by omega)
   rw [this];simp
  ·rw [beq_eq_false_iff_ne.2 hr];simp
 ·rw [show (40==c)=false by simpa using e];rfl
theorem pa_c {c:UInt8}{r:List UInt8}(h:(c.toNat:Int)≠40):paB (c::r)=false:=by
 unfold paB
 rw [List.isEmpty_cons,Bool.false_or,zKh,show (40==c)=false from zSo (n:=40) h (by decide)]
 rfl
theorem zQy {α:Type}{a b:List α}{x y:α}(h:a++[x]=b++[y]):a=b/\x=y:=by
 have:=List.append_inj_right' h rfl
 have h2:=List.append_inj_left' h rfl
 exact ⟨h2,by simpa using this⟩
theorem pa_q {q:UInt8}{m:List UInt8}(h:(q.toNat:Int)≠41):paB (40::(m++[q]))=false:=by
 unfold paB
 rw [List.isEmpty_cons,Bool.false_or,zDl]
 by_cases hr:rst (m++[q])=[41]
 ·have h2:=zUd (m++[q])
  rw [hr] at h2
  have:=(zQy h2).2
  rw [← this] at h
  exact absurd rfl h
 ·rw [beq_eq_false_iff_ne.2 hr];simp
theorem dg_41:dg 41=false:=by decide
theorem pa_d {m:List UInt8}(h:isd m=false):paB (40::(m++[41]))=false:=by
 unfold paB
 rw [List.isEmpty_cons,Bool.false_or,zDl]
 by_cases hr:rst (m++[41])=[41]
 ·have h2:=zUd (m++[41])
  rw [hr] at h2
  have h3:=(zQy h2).1
  by_cases hm:m=[]
  ·rw [h3,hm];simp
  ·have:isd m=true:=by
    unfold isd
    rw [← h3,zWg,h3]
    simpa using hm
   rw [this] at h;cases h
 ·rw [beq_eq_false_iff_ne.2 hr];simp
theorem pa_y {m:List UInt8}(h:isd m=true):paB (40::(m++[41]))=true/\paD (40::(m++[41]))=m:=by
 obtain ⟨h1,h2⟩:=yXc (zKi h) 41 dg_41
 have hne:m.isEmpty=false:=by
  unfold isd at h;rw [Bool.and_eq_true] at h;simpa using h.2
 unfold paB paD
 rw [List.isEmpty_cons,Bool.false_or,zDl,h1,h2,hne,zKh]
 exact ⟨rfl,rfl⟩
/-! the whole -/
def WB (x:List UInt8):Bool:=zVm x||zTo x
def WV (x:List UInt8):Value:=if zVm x then PV 2 false false [] 0 else if zTo x then PV 3 false (Lib.hasPrefix x [115]) (bar (paD (nanR x))) 0 else PV 0 false false [] 0
theorem zLu {x:List UInt8}(hi:zVm x=false)(hn:zTo x=false):WB x=false/\WV x=PV 0 false false [] 0:=by
 unfold WB WV;rw [hi,hn];exact ⟨rfl,rfl⟩
theorem zS1 {x:List UInt8}{g:Bool}{D:List UInt8}(hi:zVm x=false)(hn:zTo x=true)(hg:Lib.hasPrefix x [115]=g)(hD:bar (paD (nanR x))=D):WB x=true/\WV x=PV 3 false g D 0:=by
 unfold WB WV;rw [hi,hn,hg,hD];exact ⟨rfl,rfl⟩
theorem zHy {x T:List UInt8}(hT:Lib.trimPrefix x [115]=T)(h:Lib.hasPrefix T [110,97,110]=false):zTo x=false:=by
 unfold zTo;rw [hT,h];rfl
theorem nan_N {x T N:List UInt8}(hT:Lib.trimPrefix x [115]=T)(h:T=110::97::110::N):zTo x=paB N/\nanR x=N:=by
 have e:nanR x=N:=by unfold nanR;rw [hT,h];exact zK6 [110,97,110] N
 unfold zTo;rw [e,hT,h]
 exact ⟨by rw [show Lib.hasPrefix (110::97::110::N) [110,97,110]=true from zVy [110,97,110] N,Bool.true_and],rfl⟩
theorem zGv (N:List UInt8):N=[]∨(∃ c r,N=c::r/\r.length<2)∨∃ c m q,N=c::(m++[q])/\1<=m.length:=by
 cases N with
 | nil=>exact Or.inl rfl
 | cons c r =>
  rcases Nat.lt_or_ge r.length 2 with h|h
  ·exact Or.inr (Or.inl ⟨c,r,rfl,h⟩)
  ·refine Or.inr (Or.inr ⟨c,r.dropLast,r.getLast (by intro e;rw [e] at h;simp at h),?_,by simp;omega⟩)
   rw [List.dropLast_concat_getLast]
theorem zFv (T:List UInt8):T.length<3∨(3<=T.length/\T.take 3≠[110,97,110])∨∃ N,T=110::97::110::N:=by
 rcases Nat.lt_or_ge T.length 3 with h|h
 ·exact Or.inl h
 ·by_cases e:T.take 3=[110,97,110]
  ·refine Or.inr (Or.inr ⟨T.drop 3,?_⟩)
   rw [← List.take_append_drop 3 T,e]
   simp
  ·exact Or.inr (Or.inl ⟨h,e⟩)
theorem zLh {T:List UInt8}(h:T.length<3∨T.take 3≠[110,97,110]):Lib.hasPrefix T [110,97,110]=false:=by
 cases e:Lib.hasPrefix T [110,97,110]
 ·rfl
 ·have:=zUy e
  rcases h with h|h
  ·have h2:=congrArg List.length this
   simp at h2;omega
  ·exact absurd (by rw [this];rfl) h
def Res (s x:List UInt8)(w:World):Prop:=CB 76 #[.string (B s)] w (.tuple #[WV x,.bool (WB x)])
def Sma (s x:List UInt8):Prop:=∀ w,CB 122 #[.string (B s)] w (.string (B x))
theorem zZ9 (s:List UInt8)(w:World)(c33:Sma s [105,110,102]):Res s [105,110,102] w:=by
 have htl:=zDa
 unfold Sma at c33
 show CB 76 #[.string (B s)] w (.tuple #[PV 2 false false [] 0,.bool true])
 unfold PV
 go_enter Tryz.func76,Tryz.ntmps76
 go_wp2_with (first|(go_at_call 122;refine wk w (c33 _) ?_;intro w1 hb1 _ _ _ _ hA1 _;clear hb1))
 exact bodyPost_ret (v:=.tuple #[.agg #[.int .i64 2,.bool false,.bool false,.string ⟨#[]⟩,.int .i64 0],.bool true]) (by simp only [results,Tryz.results76];go_simp) rfl ⟨rfl,bgo⟩
theorem zY9 (s:List UInt8)(w:World)(c33:Sma s [105,110,102,105,110,105,116,121]):Res s [105,110,102,105,110,105,116,121] w:=by
 have htl:=zDa
 unfold Sma at c33
 show CB 76 #[.string (B s)] w (.tuple #[PV 2 false false [] 0,.bool true])
 unfold PV
 go_enter Tryz.func76,Tryz.ntmps76
 go_wp2_with (first|(go_at_call 122;refine wk w (c33 _) ?_;intro w1 hb1 _ _ _ _ hA1 _;clear hb1))
 exact bodyPost_ret (v:=.tuple #[.agg #[.int .i64 2,.bool false,.bool false,.string ⟨#[]⟩,.int .i64 0],.bool true]) (by simp only [results,Tryz.results76];go_simp) rfl ⟨rfl,bgo⟩
theorem yAa (s:List UInt8)(w:World)(c33:Sma s []):Res s [] w:=by
 have htl:=zDa
 have hsz:(B []).size=0:=rfl
 unfold Sma at c33
 have hsm:=zBa
 show CB 76 #[.string (B s)] w (.tuple #[PV 0 false false [] 0,.bool false])
 unfold PV
 go_enter Tryz.func76,Tryz.ntmps76
 go_wp2_with (first|(go_at_call 122;refine wk w (c33 _) ?_;intro w1 hb1 _ _ _ _ hA1 _;clear hb1))
 exact bodyPost_ret (v:=.tuple #[.agg #[.int .i64 0,.bool false,.bool false,.string ⟨#[]⟩,.int .i64 0],.bool false]) (by simp only [results,Tryz.results76];go_simp) rfl ⟨rfl,bgo⟩
theorem zMd {s x:List UInt8}{w:World}{v:Value}{b:Bool}(h:WB x=b/\WV x=v)(c:CB 76 #[.string (B s)] w (.tuple #[v,.bool b])):Res s x w:=by
 unfold Res;rw [h.1,h.2];exact c
theorem zTy {x:List UInt8}(h1:x≠[105,110,102])(h2:x≠[105,110,102,105,110,105,116,121]):zVm x=false:=by
 unfold zVm;rw [beq_eq_false_iff_ne.2 h1,beq_eq_false_iff_ne.2 h2];rfl
theorem zW9 (s T:List UInt8)(w:World)(hT:T.length<10001)(c33:Sma s (115::T)):Res s (115::T) w:=by
 have h1:(115::T)≠[105,110,102]:=by intro h;cases h
 have h2:(115::T)≠[105,110,102,105,110,105,116,121]:=by intro h;cases h
 have hi:=zTy h1 h2
 have hTT:Lib.trimPrefix (115::T) [115]=T:=zDl 115 T
 have hg:Lib.hasPrefix (115::T) [115]=true:=zKh 115 115 T
 rcases zFv T with h|⟨h,h'⟩|⟨N,rfl⟩
 ·exact zMd (zLu hi (zHy hTT (zLh (Or.inl h)))) (zZv s T h w h1 h2 c33)
 ·exact zMd (zLu hi (zHy hTT (zLh (Or.inr h')))) (zYv s T h hT h' w h1 h2 c33)
 ·obtain ⟨e1,e2⟩:=nan_N hTT rfl
  rcases zGv N with rfl|⟨c,r,rfl,hr⟩|⟨c,m,q,rfl,hm⟩
  ·exact zMd (zS1 hi (by rw [e1];rfl) hg (by rw [e2];rfl)) (zXv s w (by decide) (by decide) c33)
  ·exact zMd (zLu hi (by rw [e1];exact zMr hr)) (zWv s c r hr w h1 h2 c33)
  ·have hml:m.length<10001:=by simp at hT;omega
   by_cases hc:(c.toNat:Int)=40
   ·obtain rfl:c=40:=zZj (n:=40) hc (by decide)
    by_cases hq:(q.toNat:Int)=41
    ·obtain rfl:q=41:=zZj (n:=41) hq (by decide)
     by_cases hd:isd m=true
     ·exact zMd (zS1 hi (by rw [e1];exact (pa_y hd).1) hg (by rw [e2,(pa_y hd).2])) (zSv s m hm hml hd w h1 h2 c33)
     ·exact zMd (zLu hi (by rw [e1];exact pa_d (by simpa using hd))) (zTv s m hm hml (by simpa using hd) w h1 h2 c33)
    ·exact zMd (zLu hi (by rw [e1];exact pa_q hq)) (zUv s q m hm hml hq w h1 h2 c33)
   ·exact zMd (zLu hi (by rw [e1];exact pa_c hc)) (zVv s c q m hm hml hc w h1 h2 c33)
theorem zX9 (s:List UInt8)(c0:UInt8)(r0:List UInt8)(w:World)(hT:(c0::r0).length<10001)(hc0:(c0.toNat:Int)≠115)(h1:(c0::r0)≠[105,110,102])(h2:(c0::r0)≠[105,110,102,105,110,105,116,121])(c33:Sma s (c0::r0)):Res s (c0::r0) w:=by
 have hi:=zTy h1 h2
 have hg:Lib.hasPrefix (c0::r0) [115]=false:=by rw [zKh];exact zSo (n:=115) hc0 (by decide)
 have hTT:Lib.trimPrefix (c0::r0) [115]=c0::r0:=tp_no hg
 generalize hTe:c0::r0=T at *
 rcases zFv T with h|⟨h,h'⟩|⟨N,rfl⟩
 ·exact zMd (zLu hi (zHy hTT (zLh (Or.inl h)))) (zHw s T h c0 r0 hTe.symm hc0 w h1 h2 c33)
 ·exact zMd (zLu hi (zHy hTT (zLh (Or.inr h')))) (zGw s T h hT h' c0 r0 hTe.symm hc0 w h1 h2 c33)
 ·obtain ⟨e1,e2⟩:=nan_N hTT rfl
  clear hTe
  rcases zGv N with rfl|⟨c,r,rfl,hr⟩|⟨c,m,q,rfl,hm⟩
  ·exact zMd (zS1 hi (by rw [e1];rfl) hg (by rw [e2];rfl)) (zFw s w (by decide) (by decide) c33)
  ·exact zMd (zLu hi (by rw [e1];exact zMr hr)) (zEw s c r hr w h1 h2 c33)
  ·have hml:m.length<10001:=by simp at hT;omega
   by_cases hc:(c.toNat:Int)=40
   ·obtain rfl:c=40:=zZj (n:=40) hc (by decide)
    by_cases hq:(q.toNat:Int)=41
    ·obtain rfl:q=41:=zZj (n:=41) hq (by decide)
     by_cases hd:isd m=true
     ·exact zMd (zS1 hi (by rw [e1];exact (pa_y hd).1) hg (by rw [e2,(pa_y hd).2])) (zAw s m hm hml hd w h1 h2 c33)
     ·exact zMd (zLu hi (by rw [e1];exact pa_d (by simpa using hd))) (zBw s m hm hml (by simpa using hd) w h1 h2 c33)
    ·exact zMd (zLu hi (by rw [e1];exact pa_q hq)) (zCw s q m hm hml hq w h1 h2 c33)
   ·exact zMd (zLu hi (by rw [e1];exact pa_c hc)) (zDw s c q m hm hml hc w h1 h2 c33)
theorem zTj (s:List UInt8)(w:World)(hs:s.length<10001) :
  CB 76 #[.string (B s)] w (.tuple #[woV s,.bool (woB s)]):=by
 have c33:Sma s (sml s):=fun w=>zJt s w hs
 show Res s (sml s) w
 have hl:=zBi s
 generalize sml s=x at *
 by_cases h1:x=[105,110,102]
 ·subst h1;exact zZ9 s w c33
 ·by_cases h2:x=[105,110,102,105,110,105,116,121]
  ·subst h2;exact zY9 s w c33
  ·cases x with
   | nil=>exact yAa s w c33
   | cons c r =>
    by_cases hc:(c.toNat:Int)=115
    ·obtain rfl:c=115:=zZj (n:=115) hc (by decide)
     exact zW9 s r w (by simp at hl;omega) c33
    ·exact zX9 s c r w (by omega) hc h1 h2 c33
theorem zJx (l:List UInt8)(w:World)(hs:l.length<10001)(hl:4000<l.length) :
  CB 36 #[.string (B l)] w (.tuple #[PV 0 false false [] 0,.int .i64 4]):=by
 have hsz:=zCa l
 have hi:(4000:Int)<l.length:=by omega
 unfold PV
 go_enter Tryz.func36,Tryz.ntmps36
 go_wp2
 exact bodyPost_ret (v:=.tuple #[.agg #[.int .i64 0,.bool false,.bool false,.string ⟨#[]⟩,.int .i64 0],.int .i64 4]) (by simp only [results,Tryz.results36];go_simp) rfl ⟨rfl,bgo⟩
theorem zRw (l:List UInt8)(w:World)(hl:l.length<=4000)(C:Int)(G:Bool)(D:List UInt8)(hv:woV (sgR l)=PV C false G D 0)(hb:woB (sgR l)=true) :
  CB 36 #[.string (B l)] w (.tuple #[PV C (gsgB l) G D 0,.int .i64 0]):=by
 have hsz:=zCa l
 have hi:(l.length:Int)<=4000:=by omega
 have hsl:=zDf l
 have c19:=fun w=>zSe l w (by omega)
 have c20:=fun w=>zTj (sgR l) w (by omega)
 rw [hv,hb] at c20
 unfold PV at c20 ⊢
 clear hv hb
 generalize gsgB l=z at *
 generalize sgR l=R at *
 have hsm:=zBa
 go_enter Tryz.func36,Tryz.ntmps36
 go_wp2_with (first|(go_at_call 75;refine wk w (c19 _) ?_;intro w1 hb1 _ _ _ _ hA1 _;clear hb1)|(go_at_call 76;refine wk w (c20 _) ?_;intro w2 hb2 _ _ _ _ hA2 _;clear hb2))
 exact bodyPost_ret (v:=.tuple #[.agg #[.int .i64 C,.bool z,.bool G,.string (B D),.int .i64 0],.int .i64 0]) (by simp only [results,Tryz.results36];go_simp) rfl ⟨rfl,bgo⟩
/-! finite numbers, way by way -/
theorem zAx (l:List UInt8)(w:World)(hl:l.length<=4000)(z:Bool)(R T:List UInt8)(x:UInt8)(xs:List UInt8)(hX:xs.length+1<4001)(F:List UInt8)(hF:F.length<4001)(hTl:T.length<4001)(D:List UInt8)
  (c19:∀ w,CB 75 #[.string (B l)] w (.tuple #[.bool z,.string (B R)]))
  (c20:∀ w,CB 76 #[.string (B R)] w (.tuple #[.agg #[.int .i64 0,.bool false,.bool false,.string ⟨#[]⟩,.int .i64 0],.bool false]))
  (c21:∀ w,CB 77 #[.string (B R)] w (.tuple #[.string (B (x::xs)),.string (B (46::T))]))
  (c21b:∀ w,CB 77 #[.string (B T)] w (.tuple #[.string (B F),.string (B [])]))
  (c23:∀ w,CB 79 #[.string (B ((x::xs)++F))] w (.string (B D))) :
  CB 36 #[.string (B l)] w (.tuple #[.agg #[.int .i64 1,.bool z,.bool false,.string (B D),.int .i64 (min (max ((0:Int)-(F.length:Int)) (-1000000000)) 1000000000)],.int .i64 0]):=by
 have hsz:=zCa l
 have hi:(l.length:Int)<=4000:=by omega
 have htl:=zDa
 have hsm:=zBa
 have hszQ:(B []).size=0:=rfl
 have hszT:(B (46::T)).size=T.length+1:=rfl
 have hfT:=zNa 46 T (by omega)
 have htT:(B (46::T)).extract 1 (T.length+1)=B T:=zJb 46 T
 have hap:=zTa (x::xs) F
 have hXs:(B (x::xs)).size<4001:=hX
 have hFs:=zCa F
 have hF9:(B F).size<4001:=by rw [hFs];exact hF
 go_enter Tryz.func36,Tryz.ntmps36
 go_wp2_with (first|(go_at_call 75;refine wk w (c19 _) ?_;intro w1 hb1 _ _ _ _ hA1 _;clear hb1)|(go_at_call 76;refine wk w (c20 _) ?_;intro w2 hb2 _ _ _ _ hA2 _;clear hb2)|(go_at_call 77;refine (c21 _).mono ?_;rintro x w3 ⟨rfl,hb3⟩;clear c21;obtain ⟨_,_,_,_,hA3,_⟩:=wz w hb3;clear hb3))
 go_wp2_with (first|(go_at_call 77;refine wk w (c21b _) ?_;intro w4 hb4 _ _ _ _ hA4 _;clear hb4)|(go_at_call 79;refine wk w (c23 _) ?_;intro w6 hb6 _ _ _ _ hA6 _;clear hb6))
 exact bodyPost_ret (v:=.tuple #[.agg #[.int .i64 1,.bool z,.bool false,.string (B D),.int .i64 (min (max ((0:Int)-(F.length:Int)) (-1000000000)) 1000000000)],.int .i64 0]) (by simp only [results,Tryz.results36];go_simp) rfl ⟨rfl,bgo⟩
theorem zBx (l:List UInt8)(w:World)(hl:l.length<=4000)(z:Bool)(R T:List UInt8)(f:UInt8)(fs:List UInt8)(hF:fs.length+1<4001)(hTl:T.length<4001)(D:List UInt8)
  (c19:∀ w,CB 75 #[.string (B l)] w (.tuple #[.bool z,.string (B R)]))
  (c20:∀ w,CB 76 #[.string (B R)] w (.tuple #[.agg #[.int .i64 0,.bool false,.bool false,.string ⟨#[]⟩,.int .i64 0],.bool false]))
  (c21:∀ w,CB 77 #[.string (B R)] w (.tuple #[.string (B []),.string (B (46::T))]))
  (c21b:∀ w,CB 77 #[.string (B T)] w (.tuple #[.string (B (f::fs)),.string (B [])]))
  (c23:∀ w,CB 79 #[.string (B ([]++(f::fs)))] w (.string (B D))) :
  CB 36 #[.string (B l)] w (.tuple #[.agg #[.int .i64 1,.bool z,.bool false,.string (B D),.int .i64 (min (max ((0:Int)-((fs.length:Int)+1)) (-1000000000)) 1000000000)],.int .i64 0]):=by
 have hsz:=zCa l
 have hi:(l.length:Int)<=4000:=by omega
 have htl:=zDa
 have hsm:=zBa
 have hszQ:(B []).size=0:=rfl
 have hszT:(B (46::T)).size=T.length+1:=rfl
 have hfT:=zNa 46 T (by omega)
 have htT:(B (46::T)).extract 1 (T.length+1)=B T:=zJb 46 T
 have hap:=zTa [] (f::fs)
 have hXs:(B []).size=0:=rfl
 have hFs:(B (f::fs)).size=fs.length+1:=rfl
 have hF9:(B (f::fs)).size<4001:=hF
 go_enter Tryz.func36,Tryz.ntmps36
 go_wp2_with (first|(go_at_call 75;refine wk w (c19 _) ?_;intro w1 hb1 _ _ _ _ hA1 _;clear hb1)|(go_at_call 76;refine wk w (c20 _) ?_;intro w2 hb2 _ _ _ _ hA2 _;clear hb2)|(go_at_call 77;refine (c21 _).mono ?_;rintro x w3 ⟨rfl,hb3⟩;clear c21;obtain ⟨_,_,_,_,hA3,_⟩:=wz w hb3;clear hb3))
 go_wp2_with (first|(go_at_call 77;refine wk w (c21b _) ?_;intro w4 hb4 _ _ _ _ hA4 _;clear hb4)|(go_at_call 79;refine wk w (c23 _) ?_;intro w6 hb6 _ _ _ _ hA6 _;clear hb6))
 exact bodyPost_ret (v:=.tuple #[.agg #[.int .i64 1,.bool z,.bool false,.string (B D),.int .i64 (min (max ((0:Int)-((fs.length:Int)+1)) (-1000000000)) 1000000000)],.int .i64 0]) (by simp only [results,Tryz.results36];go_simp) rfl ⟨rfl,bgo⟩
theorem zZw (l:List UInt8)(w:World)(hl:l.length<=4000)(z:Bool)(R T:List UInt8)(hTl:T.length<4001)
  (c19:∀ w,CB 75 #[.string (B l)] w (.tuple #[.bool z,.string (B R)]))
  (c20:∀ w,CB 76 #[.string (B R)] w (.tuple #[.agg #[.int .i64 0,.bool false,.bool false,.string ⟨#[]⟩,.int .i64 0],.bool false]))
  (c21:∀ w,CB 77 #[.string (B R)] w (.tuple #[.string (B []),.string (B (46::T))]))
  (c21b:∀ w,CB 77 #[.string (B T)] w (.tuple #[.string (B []),.string (B [])])) :
  CB 36 #[.string (B l)] w (.tuple #[.agg #[.int .i64 0,.bool false,.bool false,.string ⟨#[]⟩,.int .i64 0],.int .i64 2]):=by
 have hsz:=zCa l
 have hi:(l.length:Int)<=4000:=by omega
 have htl:=zDa
 have hsm:=zBa
 have hszQ:(B []).size=0:=rfl
 have hszT:(B (46::T)).size=T.length+1:=rfl
 have hfT:=zNa 46 T (by omega)
 have htT:(B (46::T)).extract 1 (T.length+1)=B T:=zJb 46 T
 go_enter Tryz.func36,Tryz.ntmps36
 go_wp2_with (first|(go_at_call 75;refine wk w (c19 _) ?_;intro w1 hb1 _ _ _ _ hA1 _;clear hb1)|(go_at_call 76;refine wk w (c20 _) ?_;intro w2 hb2 _ _ _ _ hA2 _;clear hb2)|(go_at_call 77;refine (c21 _).mono ?_;rintro x w3 ⟨rfl,hb3⟩;clear c21;obtain ⟨_,_,_,_,hA3,_⟩:=wz w hb3;clear hb3))
 go_wp2_with (first|(go_at_call 77;refine wk w (c21b _) ?_;intro w4 hb4 _ _ _ _ hA4 _;clear hb4))
 exact bodyPost_ret (v:=.tuple #[.agg #[.int .i64 0,.bool false,.bool false,.string ⟨#[]⟩,.int .i64 0],.int .i64 2]) (by simp only [results,Tryz.results36];go_simp) rfl ⟨rfl,bgo⟩
theorem zXw (l:List UInt8)(w:World)(hl:l.length<=4000)(z:Bool)(R T:List UInt8)(x:UInt8)(xs:List UInt8)(hX:xs.length+1<4001)(F:List UInt8)(hF:F.length<4001)(c:UInt8)(r:List UInt8)(hr:r.length<4001)(hc1:(c.toNat:Int)≠101)(hc2:(c.toNat:Int)≠69)(hTl:T.length<4001)
  (c19:∀ w,CB 75 #[.string (B l)] w (.tuple #[.bool z,.string (B R)]))
  (c20:∀ w,CB 76 #[.string (B R)] w (.tuple #[.agg #[.int .i64 0,.bool false,.bool false,.string ⟨#[]⟩,.int .i64 0],.bool false]))
  (c21:∀ w,CB 77 #[.string (B R)] w (.tuple #[.string (B (x::xs)),.string (B (46::T))]))
  (c21b:∀ w,CB 77 #[.string (B T)] w (.tuple #[.string (B F),.string (B (c::r))])) :
  CB 36 #[.string (B l)] w (.tuple #[.agg #[.int .i64 0,.bool false,.bool false,.string ⟨#[]⟩,.int .i64 0],.int .i64 2]):=by
 have hsz:=zCa l
 have hi:(l.length:Int)<=4000:=by omega
 have htl:=zDa
 have hsm:=zBa
 have hszQ:(B (c::r)).size=r.length+1:=rfl
 have hfs:=zNa c r (by omega)
 have htq:(B (c::r)).extract 1 (r.length+1)=B r:=zJb c r
 have hcb:=c.toNat_lt
 have g1:((c.toNat:Int) != 101)=true:=by simpa using hc1
 have g2:((c.toNat:Int) != 69)=true:=by simpa using hc2
 have hszT:(B (46::T)).size=T.length+1:=rfl
 have hfT:=zNa 46 T (by omega)
 have htT:(B (46::T)).extract 1 (T.length+1)=B T:=zJb 46 T
 go_enter Tryz.func36,Tryz.ntmps36
 go_wp2_with (first|(go_at_call 75;refine wk w (c19 _) ?_;intro w1 hb1 _ _ _ _ hA1 _;clear hb1)|(go_at_call 76;refine wk w (c20 _) ?_;intro w2 hb2 _ _ _ _ hA2 _;clear hb2)|(go_at_call 77;refine (c21 _).mono ?_;rintro x w3 ⟨rfl,hb3⟩;clear c21;obtain ⟨_,_,_,_,hA3,_⟩:=wz w hb3;clear hb3))
 go_wp2_with (first|(go_at_call 77;refine wk w (c21b _) ?_;intro w4 hb4 _ _ _ _ hA4 _;clear hb4))
 exact bodyPost_ret (v:=.tuple #[.agg #[.int .i64 0,.bool false,.bool false,.string ⟨#[]⟩,.int .i64 0],.int .i64 2]) (by simp only [results,Tryz.results36];go_simp) rfl ⟨rfl,bgo⟩
theorem zYw (l:List UInt8)(w:World)(hl:l.length<=4000)(z:Bool)(R T:List UInt8)(f:UInt8)(fs:List UInt8)(hF:fs.length+1<4001)(c:UInt8)(r:List UInt8)(hr:r.length<4001)(hc1:(c.toNat:Int)≠101)(hc2:(c.toNat:Int)≠69)(hTl:T.length<4001)
  (c19:∀ w,CB 75 #[.string (B l)] w (.tuple #[.bool z,.string (B R)]))
  (c20:∀ w,CB 76 #[.string (B R)] w (.tuple #[.agg #[.int .i64 0,.bool false,.bool false,.string ⟨#[]⟩,.int .i64 0],.bool false]))
  (c21:∀ w,CB 77 #[.string (B R)] w (.tuple #[.string (B []),.string (B (46::T))]))
  (c21b:∀ w,CB 77 #[.string (B T)] w (.tuple #[.string (B (f::fs)),.string (B (c::r))])) :
  CB 36 #[.string (B l)] w (.tuple #[.agg #[.int .i64 0,.bool false,.bool false,.string ⟨#[]⟩,.int .i64 0],.int .i64 2]):=by
 have hsz:=zCa l
 have hi:(l.length:Int)<=4000:=by omega
 have htl:=zDa
 have hsm:=zBa
 have hszQ:(B (c::r)).size=r.length+1:=rfl
 have hfs:=zNa c r (by omega)
 have htq:(B (c::r)).extract 1 (r.length+1)=B r:=zJb c r
 have hcb:=c.toNat_lt
 have g1:((c.toNat:Int) != 101)=true:=by simpa using hc1
 have g2:((c.toNat:Int) != 69)=true:=by simpa using hc2
 have hszT:(B (46::T)).size=T.length+1:=rfl
 have hfT:=zNa 46 T (by omega)
 have htT:(B (46::T)).extract 1 (T.length+1)=B T:=zJb 46 T
 go_enter Tryz.func36,Tryz.ntmps36
 go_wp2_with (first|(go_at_call 75;refine wk w (c19 _) ?_;intro w1 hb1 _ _ _ _ hA1 _;clear hb1)|(go_at_call 76;refine wk w (c20 _) ?_;intro w2 hb2 _ _ _ _ hA2 _;clear hb2)|(go_at_call 77;refine (c21 _).mono ?_;rintro x w3 ⟨rfl,hb3⟩;clear c21;obtain ⟨_,_,_,_,hA3,_⟩:=wz w hb3;clear hb3))
 go_wp2_with (first|(go_at_call 77;refine wk w (c21b _) ?_;intro w4 hb4 _ _ _ _ hA4 _;clear hb4))
 exact bodyPost_ret (v:=.tuple #[.agg #[.int .i64 0,.bool false,.bool false,.string ⟨#[]⟩,.int .i64 0],.int .i64 2]) (by simp only [results,Tryz.results36];go_simp) rfl ⟨rfl,bgo⟩
theorem zWw (l:List UInt8)(w:World)(hl:l.length<=4000)(z:Bool)(R T:List UInt8)(Q:List UInt8)(hTl:T.length<4001)
  (c19:∀ w,CB 75 #[.string (B l)] w (.tuple #[.bool z,.string (B R)]))
  (c20:∀ w,CB 76 #[.string (B R)] w (.tuple #[.agg #[.int .i64 0,.bool false,.bool false,.string ⟨#[]⟩,.int .i64 0],.bool false]))
  (c21:∀ w,CB 77 #[.string (B R)] w (.tuple #[.string (B []),.string (B (46::T))]))
  (c21b:∀ w,CB 77 #[.string (B T)] w (.tuple #[.string (B []),.string (B Q)])) :
  CB 36 #[.string (B l)] w (.tuple #[.agg #[.int .i64 0,.bool false,.bool false,.string ⟨#[]⟩,.int .i64 0],.int .i64 2]):=by
 have hsz:=zCa l
 have hi:(l.length:Int)<=4000:=by omega
 have htl:=zDa
 have hsm:=zBa
 have hszT:(B (46::T)).size=T.length+1:=rfl
 have hfT:=zNa 46 T (by omega)
 have htT:(B (46::T)).extract 1 (T.length+1)=B T:=zJb 46 T
 go_enter Tryz.func36,Tryz.ntmps36
 go_wp2_with (first|(go_at_call 75;refine wk w (c19 _) ?_;intro w1 hb1 _ _ _ _ hA1 _;clear hb1)|(go_at_call 76;refine wk w (c20 _) ?_;intro w2 hb2 _ _ _ _ hA2 _;clear hb2)|(go_at_call 77;refine (c21 _).mono ?_;rintro x w3 ⟨rfl,hb3⟩;clear c21;obtain ⟨_,_,_,_,hA3,_⟩:=wz w hb3;clear hb3))
 go_wp2_with (first|(go_at_call 77;refine wk w (c21b _) ?_;intro w4 hb4 _ _ _ _ hA4 _;clear hb4))
 exact bodyPost_ret (v:=.tuple #[.agg #[.int .i64 0,.bool false,.bool false,.string ⟨#[]⟩,.int .i64 0],.int .i64 2]) (by simp only [results,Tryz.results36];go_simp) rfl ⟨rfl,bgo⟩
theorem zUw (l:List UInt8)(w:World)(hl:l.length<=4000)(z:Bool)(R T:List UInt8)(x:UInt8)(xs:List UInt8)(hX:xs.length+1<4001)(F:List UInt8)(hF:F.length<4001)(c:UInt8)(r:List UInt8)(hr:r.length<4001)(hc:(c.toNat:Int)=101∨(c.toNat:Int)=69)(E:Int)(hTl:T.length<4001)
  (c19:∀ w,CB 75 #[.string (B l)] w (.tuple #[.bool z,.string (B R)]))
  (c20:∀ w,CB 76 #[.string (B R)] w (.tuple #[.agg #[.int .i64 0,.bool false,.bool false,.string ⟨#[]⟩,.int .i64 0],.bool false]))
  (c21:∀ w,CB 77 #[.string (B R)] w (.tuple #[.string (B (x::xs)),.string (B (46::T))]))
  (c21b:∀ w,CB 77 #[.string (B T)] w (.tuple #[.string (B F),.string (B (c::r))]))
  (c22:∀ w,CB 78 #[.string (B r)] w (.tuple #[.int .i64 E,.bool false])) :
  CB 36 #[.string (B l)] w (.tuple #[.agg #[.int .i64 0,.bool false,.bool false,.string ⟨#[]⟩,.int .i64 0],.int .i64 2]):=by
 have hsz:=zCa l
 have hi:(l.length:Int)<=4000:=by omega
 have htl:=zDa
 have hsm:=zBa
 have hszQ:(B (c::r)).size=r.length+1:=rfl
 have hfs:=zNa c r (by omega)
 have htq:(B (c::r)).extract 1 (r.length+1)=B r:=zJb c r
 have hcb:=c.toNat_lt
 have hszT:(B (46::T)).size=T.length+1:=rfl
 have hfT:=zNa 46 T (by omega)
 have htT:(B (46::T)).extract 1 (T.length+1)=B T:=zJb 46 T
 rcases hc with h|h
 all_goals
  go_enter Tryz.func36,Tryz.ntmps36
  go_wp2_with (first|(go_at_call 75;refine wk w (c19 _) ?_;intro w1 hb1 _ _ _ _ hA1 _;clear hb1)|(go_at_call 76;refine wk w (c20 _) ?_;intro w2 hb2 _ _ _ _ hA2 _;clear hb2)|(go_at_call 77;refine (c21 _).mono ?_;rintro x w3 ⟨rfl,hb3⟩;clear c21;obtain ⟨_,_,_,_,hA3,_⟩:=wz w hb3;clear hb3))
  go_wp2_with (first|(go_at_call 77;refine wk w (c21b _) ?_;intro w4 hb4 _ _ _ _ hA4 _;clear hb4)|(go_at_call 78;refine wk w (c22 _) ?_;intro w5 hb5 _ _ _ _ hA5 _;clear hb5))
  exact bodyPost_ret (v:=.tuple #[.agg #[.int .i64 0,.bool false,.bool false,.string ⟨#[]⟩,.int .i64 0],.int .i64 2]) (by simp only [results,Tryz.results36];go_simp) rfl ⟨rfl,bgo⟩
theorem zVw (l:List UInt8)(w:World)(hl:l.length<=4000)(z:Bool)(R T:List UInt8)(f:UInt8)(fs:List UInt8)(hF:fs.length+1<4001)(c:UInt8)(r:List UInt8)(hr:r.length<4001)(hc:(c.toNat:Int)=101∨(c.toNat:Int)=69)(E:Int)(hTl:T.length<4001)
  (c19:∀ w,CB 75 #[.string (B l)] w (.tuple #[.bool z,.string (B R)]))
  (c20:∀ w,CB 76 #[.string (B R)] w (.tuple #[.agg #[.int .i64 0,.bool false,.bool false,.string ⟨#[]⟩,.int .i64 0],.bool false]))
  (c21:∀ w,CB 77 #[.string (B R)] w (.tuple #[.string (B []),.string (B (46::T))]))
  (c21b:∀ w,CB 77 #[.string (B T)] w (.tuple #[.string (B (f::fs)),.string (B (c::r))]))
  (c22:∀ w,CB 78 #[.string (B r)] w (.tuple #[.int .i64 E,.bool false])) :
  CB 36 #[.string (B l)] w (.tuple #[.agg #[.int .i64 0,.bool false,.bool false,.string ⟨#[]⟩,.int .i64 0],.int .i64 2]):=by
 have hsz:=zCa l
 have hi:(l.length:Int)<=4000:=by omega
 have htl:=zDa
 have hsm:=zBa
 have hszQ:(B (c::r)).size=r.length+1:=rfl
 have hfs:=zNa c r (by omega)
 have htq:(B (c::r)).extract 1 (r.length+1)=B r:=zJb c r
 have hcb:=c.toNat_lt
 have hszT:(B (46::T)).size=T.length+1:=rfl
 have hfT:=zNa 46 T (by omega)
 have htT:(B (46::T)).extract 1 (T.length+1)=B T:=zJb 46 T
 rcases hc with h|h
 all_goals
  go_enter Tryz.func36,Tryz.ntmps36
  go_wp2_with (first|(go_at_call 75;refine wk w (c19 _) ?_;intro w1 hb1 _ _ _ _ hA1 _;clear hb1)|(go_at_call 76;refine wk w (c20 _) ?_;intro w2 hb2 _ _ _ _ hA2 _;clear hb2)|(go_at_call 77;refine (c21 _).mono ?_;rintro x w3 ⟨rfl,hb3⟩;clear c21;obtain ⟨_,_,_,_,hA3,_⟩:=wz w hb3;clear hb3))
  go_wp2_with (first|(go_at_call 77;refine wk w (c21b _) ?_;intro w4 hb4 _ _ _ _ hA4 _;clear hb4)|(go_at_call 78;refine wk w (c22 _) ?_;intro w5 hb5 _ _ _ _ hA5 _;clear hb5))
  exact bodyPost_ret (v:=.tuple #[.agg #[.int .i64 0,.bool false,.bool false,.string ⟨#[]⟩,.int .i64 0],.int .i64 2]) (by simp only [results,Tryz.results36];go_simp) rfl ⟨rfl,bgo⟩
theorem zSw (l:List UInt8)(w:World)(hl:l.length<=4000)(z:Bool)(R T:List UInt8)(x:UInt8)(xs:List UInt8)(hX:xs.length+1<4001)(F:List UInt8)(hF:F.length<4001)(c:UInt8)(r:List UInt8)(hr:r.length<4001)(hc:(c.toNat:Int)=101∨(c.toNat:Int)=69)(E:Int)(hTl:T.length<4001)(D:List UInt8)
  (c19:∀ w,CB 75 #[.string (B l)] w (.tuple #[.bool z,.string (B R)]))
  (c20:∀ w,CB 76 #[.string (B R)] w (.tuple #[.agg #[.int .i64 0,.bool false,.bool false,.string ⟨#[]⟩,.int .i64 0],.bool false]))
  (c21:∀ w,CB 77 #[.string (B R)] w (.tuple #[.string (B (x::xs)),.string (B (46::T))]))
  (c21b:∀ w,CB 77 #[.string (B T)] w (.tuple #[.string (B F),.string (B (c::r))]))
  (c22:∀ w,CB 78 #[.string (B r)] w (.tuple #[.int .i64 E,.bool true])) (hE:-2000000000<=E/\E<=2000000000)
  (c23:∀ w,CB 79 #[.string (B ((x::xs)++F))] w (.string (B D))) :
  CB 36 #[.string (B l)] w (.tuple #[.agg #[.int .i64 1,.bool z,.bool false,.string (B D),.int .i64 (min (max (E-(F.length:Int)) (-1000000000)) 1000000000)],.int .i64 0]):=by
 have hsz:=zCa l
 have hi:(l.length:Int)<=4000:=by omega
 have htl:=zDa
 have hsm:=zBa
 have hszQ:(B (c::r)).size=r.length+1:=rfl
 have hfs:=zNa c r (by omega)
 have htq:(B (c::r)).extract 1 (r.length+1)=B r:=zJb c r
 have hcb:=c.toNat_lt
 have hszT:(B (46::T)).size=T.length+1:=rfl
 have hfT:=zNa 46 T (by omega)
 have htT:(B (46::T)).extract 1 (T.length+1)=B T:=zJb 46 T
 have hap:=zTa (x::xs) F
 have hXs:(B (x::xs)).size<4001:=hX
 have hFs:=zCa F
 have hF9:(B F).size<4001:=by rw [hFs];exact hF
 rcases hc with h|h
 all_goals
  go_enter Tryz.func36,Tryz.ntmps36
  go_wp2_with (first|(go_at_call 75;refine wk w (c19 _) ?_;intro w1 hb1 _ _ _ _ hA1 _;clear hb1)|(go_at_call 76;refine wk w (c20 _) ?_;intro w2 hb2 _ _ _ _ hA2 _;clear hb2)|(go_at_call 77;refine (c21 _).mono ?_;rintro x w3 ⟨rfl,hb3⟩;clear c21;obtain ⟨_,_,_,_,hA3,_⟩:=wz w hb3;clear hb3))
  go_wp2_with (first|(go_at_call 77;refine wk w (c21b _) ?_;intro w4 hb4 _ _ _ _ hA4 _;clear hb4)|(go_at_call 78;refine wk w (c22 _) ?_;intro w5 hb5 _ _ _ _ hA5 _;clear hb5)|(go_at_call 79;refine wk w (c23 _) ?_;intro w6 hb6 _ _ _ _ hA6 _;clear hb6))
  exact bodyPost_ret (v:=.tuple #[.agg #[.int .i64 1,.bool z,.bool false,.string (B D),.int .i64 (min (max (E-(F.length:Int)) (-1000000000)) 1000000000)],.int .i64 0]) (by simp only [results,Tryz.results36];go_simp) rfl ⟨rfl,bgo⟩
theorem zTw (l:List UInt8)(w:World)(hl:l.length<=4000)(z:Bool)(R T:List UInt8)(f:UInt8)(fs:List UInt8)(hF:fs.length+1<4001)(c:UInt8)(r:List UInt8)(hr:r.length<4001)(hc:(c.toNat:Int)=101∨(c.toNat:Int)=69)(E:Int)(hTl:T.length<4001)(D:List UInt8)
  (c19:∀ w,CB 75 #[.string (B l)] w (.tuple #[.bool z,.string (B R)]))
  (c20:∀ w,CB 76 #[.string (B R)] w (.tuple #[.agg #[.int .i64 0,.bool false,.bool false,.string ⟨#[]⟩,.int .i64 0],.bool false]))
  (c21:∀ w,CB 77 #[.string (B R)] w (.tuple #[.string (B []),.string (B (46::T))]))
  (c21b:∀ w,CB 77 #[.string (B T)] w (.tuple #[.string (B (f::fs)),.string (B (c::r))]))
  (c22:∀ w,CB 78 #[.string (B r)] w (.tuple #[.int .i64 E,.bool true])) (hE:-2000000000<=E/\E<=2000000000)
  (c23:∀ w,CB 79 #[.string (B ([]++(f::fs)))] w (.string (B D))) :
  CB 36 #[.string (B l)] w (.tuple #[.agg #[.int .i64 1,.bool z,.bool false,.string (B D),.int .i64 (min (max (E-((fs.length:Int)+1)) (-1000000000)) 1000000000)],.int .i64 0]):=by
 have hsz:=zCa l
 have hi:(l.length:Int)<=4000:=by omega
 have htl:=zDa
 have hsm:=zBa
 have hszQ:(B (c::r)).size=r.length+1:=rfl
 have hfs:=zNa c r (by omega)
 have htq:(B (c::r)).extract 1 (r.length+1)=B r:=zJb c r
 have hcb:=c.toNat_lt
 have hszT:(B (46::T)).size=T.length+1:=rfl
 have hfT:=zNa 46 T (by omega)
 have htT:(B (46::T)).extract 1 (T.length+1)=B T:=zJb 46 T
 have hap:=zTa [] (f::fs)
 have hXs:(B []).size=0:=rfl
 have hFs:(B (f::fs)).size=fs.length+1:=rfl
 have hF9:(B (f::fs)).size<4001:=hF
 rcases hc with h|h
 all_goals
  go_enter Tryz.func36,Tryz.ntmps36
  go_wp2_with (first|(go_at_call 75;refine wk w (c19 _) ?_;intro w1 hb1 _ _ _ _ hA1 _;clear hb1)|(go_at_call 76;refine wk w (c20 _) ?_;intro w2 hb2 _ _ _ _ hA2 _;clear hb2)|(go_at_call 77;refine (c21 _).mono ?_;rintro x w3 ⟨rfl,hb3⟩;clear c21;obtain ⟨_,_,_,_,hA3,_⟩:=wz w hb3;clear hb3))
  go_wp2_with (first|(go_at_call 77;refine wk w (c21b _) ?_;intro w4 hb4 _ _ _ _ hA4 _;clear hb4)|(go_at_call 78;refine wk w (c22 _) ?_;intro w5 hb5 _ _ _ _ hA5 _;clear hb5)|(go_at_call 79;refine wk w (c23 _) ?_;intro w6 hb6 _ _ _ _ hA6 _;clear hb6))
  exact bodyPost_ret (v:=.tuple #[.agg #[.int .i64 1,.bool z,.bool false,.string (B D),.int .i64 (min (max (E-((fs.length:Int)+1)) (-1000000000)) 1000000000)],.int .i64 0]) (by simp only [results,Tryz.results36];go_simp) rfl ⟨rfl,bgo⟩
end Go.Proofs.YtpabnhlfbjkmaaaGreatDoor
