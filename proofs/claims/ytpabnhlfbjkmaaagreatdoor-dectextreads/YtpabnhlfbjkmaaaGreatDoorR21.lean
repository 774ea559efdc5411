/-
  Texts that the proof leans on.
-/
import Derived.Test.YtpabnhlfbjkmaaaGreatDoorR1
import Derived.Test.YtpabnhlfbjkmaaaGreatDoorR17
import Derived.Test.YtpabnhlfbjkmaaaGreatDoorR16
import Derived.Deep.Cut
set_option linter.unusedVariables false
set_option linter.unusedSectionVars false
set_option linter.unusedSimpArgs false
set_option maxHeartbeats 8000000
set_option maxRecDepth 20000
namespace Go.Proofs.YtpabnhlfbjkmaaaGreatDoor
open Go.RowKit
theorem bnx {w0 W W':World}(h:Below w0.heap.size w0 W)(hb:Below W.heap.size W W'):Below w0.heap.size w0 W':=h.trans (hb.mono h.size)
def bl (V:Nat):Nat:=if V=0 then 0 else Nat.log2 V+1
theorem bl_le {V k:Nat}:bl V<=k↔V<2^k:=by
 unfold bl
 by_cases h:V=0
 ·subst h;simp;exact Nat.two_pow_pos k
 ·rw [if_neg h]
  have:=Nat.log2_lt h (k:=k)
  omega
theorem bl_ge {V k:Nat}:k<bl V↔2^k<=V:=by
 have:=bl_le (V:=V) (k:=k)
 omega
theorem bl_zero {V:Nat}:bl V=0↔V=0:=by
 unfold bl;by_cases h:V=0<;>simp [h]
theorem bl_eq {V L:Nat}(h1:2^(L-1)<=V)(h2:V<2^L):bl V=L:=by
 have a:=bl_le.2 h2
 by_cases h:L=0
 ·omega
 ·have b:=bl_ge.2 h1
  omega
def Nt (K V:Nat)(v:Value)(w:World):Prop:=∃ a k cap z,v=.slice a k cap/\k<=K/\Num w a k cap z/\val z k=(V:Int)
theorem Nt.next {K V:Nat}{v:Value}{w w':World}(h:Nt K V v w)(hb:Below w.heap.size w w'):Nt K V v w':=by
 obtain ⟨a,k,cap,z,h1,h2,h3,h4⟩:=h
 exact ⟨a,k,cap,z,h1,h2,h3.next hb,h4⟩
theorem Nt.more {K K' V:Nat}{v:Value}{w:World}(h:Nt K V v w)(hk:K<=K'):Nt K' V v w:=by
 obtain ⟨a,k,cap,z,h1,h2,h3,h4⟩:=h
 exact ⟨a,k,cap,z,h1,by omega,h3,h4⟩
def Nz (K V:Nat)(v:Value)(w:World):Prop:=∃ a k cap z,v=.slice a k cap/\k<=K/\Num w a k cap z/\val z k=(V:Int)/\sizeL z k=k
theorem Nz.next {K V:Nat}{v:Value}{w w':World}(h:Nz K V v w)(hb:Below w.heap.size w w'):Nz K V v w':=by
 obtain ⟨a,k,cap,z,h1,h2,h3,h4,h5⟩:=h
 exact ⟨a,k,cap,z,h1,h2,h3.next hb,h4,h5⟩
theorem Nz.nt {K V:Nat}{v:Value}{w:World}(h:Nz K V v w):Nt K V v w:=by
 obtain ⟨a,k,cap,z,h1,h2,h3,h4,h5⟩:=h
 exact ⟨a,k,cap,z,h1,h2,h3,h4⟩
theorem zBo {z:Nat->Int}{k V:Nat}(hz:zFa z)(hv:val z k=(V:Int)):sizeL z k=0↔V=0:=by
 constructor
 ·intro h
  have:=zOa (x:=z) k
  rw [h] at this
  have h0:val z 0=0:=rfl
  omega
 ·intro h
  subst h
  rcases Nat.eq_zero_or_pos (sizeL z k) with h|h
  ·exact h
  ·exfalso
   have:=zQc (x:=z) (y:=z) hz hz (n:=0) (m:=sizeL z k) h (zHa z k)
   rw [zOa] at this
   have h0:val z 0=0:=rfl
   omega
theorem zNy {z:Nat->Int}{k V:Nat}(hz:zFa z)(hv:val z k=(V:Int)):lenL z k=(bl V:Int):=by
 rcases Nat.eq_zero_or_pos (sizeL z k) with h|h
 ·have h0:=(zBo hz hv).1 h
  unfold lenL;rw [if_pos h,h0];rfl
 ·obtain ⟨L,h1,h2,h3⟩:=zKg hz h
  rw [hv] at h2 h3
  have e:bl V=L+1:=by
   have e1:((2:Int)^L)=((2^L:Nat):Int):=by simp
   have e2:((2:Int)^(L+1))=((2^(L+1):Nat):Int):=by simp
   rw [e1] at h2
   rw [e2] at h3
   exact bl_eq (by rw [Nat.add_sub_cancel];omega) (by omega)
  rw [e,h1];omega
theorem zId {z:Nat->Int}{k V m:Nat}(hz:zFa z)(hv:val z k=(V:Int)):sizeL z k<=m↔bl V<=64*m:=by
 have hl:=zNy hz hv
 unfold lenL at hl
 rcases Nat.eq_zero_or_pos (sizeL z k) with h|h
 ·rw [if_pos h] at hl;omega
 ·rw [if_neg (by omega)] at hl
  have ht:=zJc k h
  have hw:=hz (sizeL z k-1)
  have hb:=zTc (z (sizeL z k-1)).toNat (by omega) (by omega)
  omega
theorem zUi {K V:Nat}{v:Value}{w:World}(hK:K<100000000)(h:Nt K V v w) :
  CQ 138 #[v] w (.int .i64 (bl V:Int)):=by
 obtain ⟨a,k,cap,z,rfl,hk,hN,hv⟩:=h
 refine (zSr a k cap z w (by omega) hN).mono fun e w' ⟨h1,h2⟩=>⟨?_,h2⟩
 rw [h1,zNy hN.2.2.1 hv]
theorem zGy {K K' V V':Nat}{v v':Value}{w:World}(hK:K<100000000)(hK':K'<100000000)(h:Nt K V v w)(h':Nt K' V' v' w) :
  CB 164 #[v,v'] w (.int .i64 (sgn (V:Int) (V':Int))):=by
 obtain ⟨a,k,cap,z,rfl,hk,hN,hv⟩:=h
 obtain ⟨a',k',cap',z',rfl,hk',hN',hv'⟩:=h'
 have:=ncmp_b a a' k cap k' cap' z z' w (by omega) (by omega) hN hN'
 rw [hv,hv'] at this
 exact this
theorem zX6 {K K' V V':Nat}{v v':Value}{w:World}(hK:K<100000000)(hK':K'<100000000)(h:Nt K V v w)(h':Nt K' V' v' w) :
  CE 192 #[v,v'] w (Nz (K+K'+1) (V+V')):=by
 obtain ⟨a,k,cap,z,rfl,hk,hN,hv⟩:=h
 obtain ⟨a',k',cap',z',rfl,hk',hN',hv'⟩:=h'
 have s1:=zGa z k
 have s2:=zGa z' k'
 refine (zD4 a a' k cap k' cap' z z' w (by omega) (by omega) hN hN').mono fun e w' ⟨g,k2,cap2,z2,h1,h2,h3,h4,h5,h6⟩=>⟨_,h1,⟨_,k2,cap2,z2,rfl,by omega,h3,?_,h5⟩,h6⟩
 rw [h4,hv,hv'];omega
theorem zV6 {K K' V V':Nat}{v v':Value}{w:World}(hK:K<100000000)(hK':K'<100000000)(h:Nt K V v w)(h':Nt K' V' v' w)(hb:bl V<=128000)(hb':bl V'<=128000)(h0:V'≠0) :
  Calls Tryz.prog 190 #[v,v'] w fun e w'=>∃ q r,e=.returned (.tuple #[q,r,.int .i64 0])/\Nz 2001 (V/V') q w'/\Nz 2001 (V%V') r w'/\Below w.heap.size w w':=by
 obtain ⟨a,k,cap,z,rfl,hk,hN,hv⟩:=h
 obtain ⟨a',k',cap',z',rfl,hk',hN',hv'⟩:=h'
 have s1:=(zId (m:=2000) hN.2.2.1 hv).2 (by omega)
 have s2:=(zId (m:=2000) hN'.2.2.1 hv').2 (by omega)
 have s3:0<sizeL z' k':=Nat.pos_of_ne_zero fun e=>h0 ((zBo hN'.2.2.1 hv').1 e)
 refine (zC4 a a' k cap k' cap' z z' w (by omega) (by omega) hN hN' s1 s2 s3).mono fun e w' ⟨o,k2,cap2,z2,o',k3,cap3,z3,h1,h2,h3,h4,h5,h6,h7,h8,h9,h10⟩=>⟨_,_,h1,⟨_,_,_,_,rfl,h2,h4,?_,h8⟩,⟨_,_,_,_,rfl,h3,h5,?_,h9⟩,h10⟩
 ·rw [h6,hv,hv'];simp
 ·rw [h7,hv,hv'];simp
section
def knB (d:Int):Prop:=0<=d/\d<=4
instance (d:Int):Decidable (knB d):=inferInstanceAs (Decidable (_/\_))
theorem zSd (d:Int)(w:World):CQ 71 #[.int .i64 d] w (.bool (decide (knB d))):=by
 by_cases h1:0<=d
 ·by_cases h2:d<=4
  ·rw [decide_eq_true (show knB d from ⟨h1,h2⟩)]
   go_enter Tryz.func71,Tryz.ntmps71
   go_wp2
   go_ret
   exact ⟨rfl,rfl⟩
  ·rw [decide_eq_false (show ¬ knB d from fun h=>h2 h.2)]
   go_enter Tryz.func71,Tryz.ntmps71
   go_wp2
   go_ret
   exact ⟨rfl,rfl⟩
 ·rw [decide_eq_false (show ¬ knB d from fun h=>h1 h.1)]
  go_enter Tryz.func71,Tryz.ntmps71
  go_wp2
  go_ret
  exact ⟨rfl,rfl⟩
def inB (d:Int)(s:Bool):Bool:=if d=0∨d=1 then true else if d=3 then !s else if d=4 then s else false
theorem zVb (d:Int)(s:Bool)(w:World):CQ 196 #[.int .i64 d,.bool s] w (.bool (inB d s)):=by
 by_cases h0:d=0
 ·subst h0
  go_enter Tryz.func196,Tryz.ntmps196
  go_wp2
  go_ret
  exact ⟨rfl,rfl⟩
 ·by_cases h1:d=1
  ·subst h1
   go_enter Tryz.func196,Tryz.ntmps196
   go_wp2
   go_ret
   exact ⟨rfl,rfl⟩
  ·by_cases h3:d=3
   ·subst h3
    go_enter Tryz.func196,Tryz.ntmps196
    go_wp2
    go_ret
    exact ⟨rfl,rfl⟩
   ·by_cases h4:d=4
    ·subst h4
     go_enter Tryz.func196,Tryz.ntmps196
     go_wp2
     go_ret
     exact ⟨rfl,rfl⟩
    ·have e:inB d s=false:=by unfold inB;simp [h0,h1,h3,h4]
     have b0:(d==0)=false:=by simpa using h0
     have b1:(d==1)=false:=by simpa using h1
     have b3:(d==3)=false:=by simpa using h3
     have b4:(d==4)=false:=by simpa using h4
     rw [e]
     go_enter Tryz.func196,Tryz.ntmps196
     go_wp2
     go_ret
     exact ⟨rfl,rfl⟩
def faB (d:Int)(s odd:Bool)(R D:Nat):Bool:=if R=0 then false else if d=0 then decide (D<R+R)||(decide (R+R=D)&&odd) else if d=1 then decide (D<=R+R) else inB d s
theorem zUc (a b:Int):(a<b/\sgn a b=-1)∨(a=b/\sgn a b=0)∨(b<a/\sgn a b=1):=by
 unfold sgn
 by_cases h:a<b
 ·exact Or.inl ⟨h,if_pos h⟩
 ·by_cases h':b<a
  ·exact Or.inr (Or.inr ⟨h',by rw [if_neg h,if_pos h']⟩)
  ·exact Or.inr (Or.inl ⟨by omega,by rw [if_neg h,if_neg h']⟩)
section
variable (d:Int)(s odd:Bool)(R D:Nat)(vr vd:Value)(w:World)
 (c26:∀ W,Below w.heap.size w W->CQ 138 #[vr] W (.int .i64 (bl R:Int)))
include c26
theorem zC5 (h:R=0):CB 191 #[.int .i64 d,.bool s,.bool odd,vr,vd] w (.bool false):=by
 have hb:(((bl R:Nat):Int)==0)=true:=by rw [h];decide
 go_enter Tryz.func191,Tryz.ntmps191
 go_wp2_with (go_at_call 138;refine (c26 _ bgo).mono ?_;rintro e w1 ⟨rfl,rfl⟩)
 go_ret
 exact ⟨rfl,bgo⟩
variable (hv:Int)(hR:(((bl R:Nat):Int)==0)=false)
 (c61:∀ W,Below w.heap.size w W->Calls Tryz.prog 192 #[vr,vr] W fun e w'=>∃ r,e=.returned r/\(∀ W',Below w'.heap.size w' W'->Calls Tryz.prog 164 #[r,vd] W' fun e w''=>e=.returned (.int .i64 hv)/\Below W'.heap.size W' w'')/\Below W.heap.size W w')
include hR c61
theorem far_0g (h:0<hv):CB 191 #[.int .i64 0,.bool s,.bool odd,vr,vd] w (.bool true):=by
 go_enter Tryz.func191,Tryz.ntmps191
 go_wp2_with (first
  | (go_at_call 138;refine (c26 _ bgo).mono ?_;rintro e w1 ⟨rfl,rfl⟩)
  | (go_at_call 192;refine (c61 _ bgo).mono ?_;rintro e w2 ⟨v2,rfl,c58,hb2⟩;have hA2:=bnx (w0:=w) bgo hb2)
  | (go_at_call 164;refine (c58 _ (Below.refl _ _)).mono ?_;rintro e w3 ⟨rfl,hb3⟩;have hA3:=bnx (w0:=w) hA2 hb3)
  | (go_at_call 196;refine (zVb _ _ _).mono ?_;rintro e w4 ⟨rfl,rfl⟩))
 go_ret
 exact ⟨by first|rfl|(simp;omega),bgo⟩
theorem far_0e (h:hv=0):CB 191 #[.int .i64 0,.bool s,.bool odd,vr,vd] w (.bool odd):=by
 subst h
 go_enter Tryz.func191,Tryz.ntmps191
 go_wp2_with (first
  | (go_at_call 138;refine (c26 _ bgo).mono ?_;rintro e w1 ⟨rfl,rfl⟩)
  | (go_at_call 192;refine (c61 _ bgo).mono ?_;rintro e w2 ⟨v2,rfl,c58,hb2⟩;have hA2:=bnx (w0:=w) bgo hb2)
  | (go_at_call 164;refine (c58 _ (Below.refl _ _)).mono ?_;rintro e w3 ⟨rfl,hb3⟩;have hA3:=bnx (w0:=w) hA2 hb3)
  | (go_at_call 196;refine (zVb _ _ _).mono ?_;rintro e w4 ⟨rfl,rfl⟩))
 go_ret
 exact ⟨by first|rfl|(simp;omega),bgo⟩
theorem far_0l (h:¬ 0<hv)(h1:(hv==0)=false):CB 191 #[.int .i64 0,.bool s,.bool odd,vr,vd] w (.bool false):=by
 go_enter Tryz.func191,Tryz.ntmps191
 go_wp2_with (first
  | (go_at_call 138;refine (c26 _ bgo).mono ?_;rintro e w1 ⟨rfl,rfl⟩)
  | (go_at_call 192;refine (c61 _ bgo).mono ?_;rintro e w2 ⟨v2,rfl,c58,hb2⟩;have hA2:=bnx (w0:=w) bgo hb2)
  | (go_at_call 164;refine (c58 _ (Below.refl _ _)).mono ?_;rintro e w3 ⟨rfl,hb3⟩;have hA3:=bnx (w0:=w) hA2 hb3)
  | (go_at_call 196;refine (zVb _ _ _).mono ?_;rintro e w4 ⟨rfl,rfl⟩))
 go_ret
 exact ⟨by first|rfl|(simp;omega),bgo⟩
theorem zG7 (h:0<=hv):CB 191 #[.int .i64 1,.bool s,.bool odd,vr,vd] w (.bool true):=by
 go_enter Tryz.func191,Tryz.ntmps191
 go_wp2_with (first
  | (go_at_call 138;refine (c26 _ bgo).mono ?_;rintro e w1 ⟨rfl,rfl⟩)
  | (go_at_call 192;refine (c61 _ bgo).mono ?_;rintro e w2 ⟨v2,rfl,c58,hb2⟩;have hA2:=bnx (w0:=w) bgo hb2)
  | (go_at_call 164;refine (c58 _ (Below.refl _ _)).mono ?_;rintro e w3 ⟨rfl,hb3⟩;have hA3:=bnx (w0:=w) hA2 hb3)
  | (go_at_call 196;refine (zVb _ _ _).mono ?_;rintro e w4 ⟨rfl,rfl⟩))
 go_ret
 exact ⟨by first|rfl|(simp;omega),bgo⟩
theorem far_1l (h:¬ 0<=hv):CB 191 #[.int .i64 1,.bool s,.bool odd,vr,vd] w (.bool false):=by
 go_enter Tryz.func191,Tryz.ntmps191
 go_wp2_with (first
  | (go_at_call 138;refine (c26 _ bgo).mono ?_;rintro e w1 ⟨rfl,rfl⟩)
  | (go_at_call 192;refine (c61 _ bgo).mono ?_;rintro e w2 ⟨v2,rfl,c58,hb2⟩;have hA2:=bnx (w0:=w) bgo hb2)
  | (go_at_call 164;refine (c58 _ (Below.refl _ _)).mono ?_;rintro e w3 ⟨rfl,hb3⟩;have hA3:=bnx (w0:=w) hA2 hb3)
  | (go_at_call 196;refine (zVb _ _ _).mono ?_;rintro e w4 ⟨rfl,rfl⟩))
 go_ret
 exact ⟨by first|rfl|(simp;omega),bgo⟩
theorem far_d (h0:(d==0)=false)(h1:(d==1)=false):CB 191 #[.int .i64 d,.bool s,.bool odd,vr,vd] w (.bool (inB d s)):=by
 go_enter Tryz.func191,Tryz.ntmps191
 go_wp2_with (first
  | (go_at_call 138;refine (c26 _ bgo).mono ?_;rintro e w1 ⟨rfl,rfl⟩)
  | (go_at_call 192;refine (c61 _ bgo).mono ?_;rintro e w2 ⟨v2,rfl,c58,hb2⟩;have hA2:=bnx (w0:=w) bgo hb2)
  | (go_at_call 164;refine (c58 _ (Below.refl _ _)).mono ?_;rintro e w3 ⟨rfl,hb3⟩;have hA3:=bnx (w0:=w) hA2 hb3)
  | (go_at_call 196;refine (zVb _ _ _).mono ?_;rintro e w4 ⟨rfl,rfl⟩))
 go_ret
 exact ⟨by first|rfl|(simp;omega),bgo⟩
end
theorem zLz (d:Int)(s odd:Bool){K K' R D:Nat}{vr vd:Value}{w:World}(hK:K<1000000)(hK':K'<1000000)(h:Nt K R vr w)(h':Nt K' D vd w) :
  CB 191 #[.int .i64 d,.bool s,.bool odd,vr,vd] w (.bool (faB d s odd R D)):=by
 have c26:=fun W (hb:Below w.heap.size w W)=>zUi (by omega) (h.next hb)
 unfold faB
 by_cases hz:R=0
 ·rw [if_pos hz];exact zC5 d s odd R vr vd w c26 hz
 ·rw [if_neg hz]
  have hR:(((bl R:Nat):Int)==0)=false:=by
   have:bl R≠0:=fun e=>hz (bl_zero.1 e)
   rw [beq_eq_false_iff_ne];omega
  have c61:∀ W,Below w.heap.size w W->Calls Tryz.prog 192 #[vr,vr] W fun e w'=>∃ r,e=.returned r/\(∀ W',Below w'.heap.size w' W'->Calls Tryz.prog 164 #[r,vd] W' fun e w''=>e=.returned (.int .i64 (sgn ((R+R:Nat):Int) (D:Int)))/\Below W'.heap.size W' w'')/\Below W.heap.size W w':=fun W hb =>
   (zX6 (by omega) (by omega) (h.next hb) (h.next hb)).mono fun e w' ⟨r,h1,h2,h3⟩=>⟨r,h1,fun W' hb'=>zGy (by omega) (by omega) (h2.nt.next hb') (h'.next (bnx (bnx hb h3) hb')),h3⟩
  by_cases h0:d=0
  ·subst h0
   rw [if_pos rfl]
   rcases zUc ((R+R:Nat):Int) (D:Int) with ⟨a,e⟩|⟨a,e⟩|⟨a,e⟩
   ·rw [e] at c61
    rw [decide_eq_false (show ¬ D<R+R by omega),decide_eq_false (show ¬ R+R=D by omega)]
    exact far_0l s odd R vr vd w c26 (-1) hR c61 (by decide) (by decide)
   ·rw [e] at c61
    rw [decide_eq_false (show ¬ D<R+R by omega),decide_eq_true (show R+R=D by omega),Bool.false_or,Bool.true_and]
    exact far_0e s odd R vr vd w c26 0 hR c61 rfl
   ·rw [e] at c61
    rw [decide_eq_true (show D<R+R by omega),Bool.true_or]
    exact far_0g s odd R vr vd w c26 1 hR c61 (by decide)
  ·rw [if_neg h0]
   by_cases h1:d=1
   ·subst h1
    rw [if_pos rfl]
    rcases zUc ((R+R:Nat):Int) (D:Int) with ⟨a,e⟩|⟨a,e⟩|⟨a,e⟩
    ·rw [e] at c61
     rw [decide_eq_false (show ¬ D<=R+R by omega)]
     exact far_1l s odd R vr vd w c26 (-1) hR c61 (by decide)
    ·rw [e] at c61
     rw [decide_eq_true (show D<=R+R by omega)]
     exact zG7 s odd R vr vd w c26 0 hR c61 (by decide)
    ·rw [e] at c61
     rw [decide_eq_true (show D<=R+R by omega)]
     exact zG7 s odd R vr vd w c26 1 hR c61 (by decide)
   ·rw [if_neg h1]
    exact far_d d s odd R vr vd w c26 _ hR c61 (by simpa using h0) (by simpa using h1)
theorem zMt (x s:Bool)(w:World):CQ 168 #[.bool x,.bool s] w (.int .i64 (if x then 0 else if s then 12 else 8)):=by
 cases x<;>cases s
 all_goals (
  go_enter Tryz.func168,Tryz.ntmps168
  go_wp2
  go_ret
  exact ⟨rfl,rfl⟩)
end
section
theorem zV3 {K V:Nat}{v:Value}{w w':World}(h:Nz K V v w)(hb:Below w.heap.size w w'):Nz (K+2) V v w':=by
 obtain ⟨a,k,cap,z,rfl,hk,hN,hv,hs⟩:=h
 exact ⟨a,k,cap,z,rfl,by omega,hN.next hb,hv,hs⟩
theorem zAy {W:World}{g V:Nat}{vi:Int}(hg:g=W.heap.size)(hv:vi=(V:Int))(hb:V<18446744073709551616):Nt 1 V (.slice (some ⟨g,0,none⟩) 1 1) (W.alloc (.cells #[.int .u64 vi] 22)):=by
 subst hg hv
 exact ⟨_,1,1,zOc V,rfl,Nat.le_refl _,zLc W V (by omega),zUf V⟩
section
variable (d:Int)(s odd far:Bool)(vn vd:Value)(Q R D:Nat)(w:World)(hvb:Nt 2001 D vd w)
 (c59:Calls Tryz.prog 190 #[vn,vd] w fun e w'=>∃ q r,e=.returned (.tuple #[q,r,.int .i64 0])/\Nz 2001 Q q w'/\Nz 2001 R r w'/\Below w.heap.size w w')
 (c60:∀ W vr vb,Nt 2001 R vr W->Nt 2001 D vb W->CB 191 #[.int .i64 d,.bool s,.bool odd,vr,vb] W (.bool far))
 (c26:∀ W vr,Nt 2001 R vr W->CQ 138 #[vr] W (.int .i64 (bl R:Int)))
 (c61:∀ W q v,Nt 2001 Q q W->Nt 1 1 v W->CE 192 #[q,v] W (Nz 2003 (Q+1)))
 (hodd:∀ k z,zFa z->val z k=(Q:Int)->0<k->(bits BinOp.and IntKind.u64 (z 0) 1==1)=odd)
 (hodd0:Q=0->odd=false)
include hvb c59 c60 c26 c61 hodd hodd0
theorem zQ1:Calls Tryz.prog 163 #[.int .i64 d,.bool s,vn,vd] w fun e w'=>∃ v,e=.returned (.tuple #[v,.bool (((bl R:Nat):Int)==0)])/\Nz 2003 (if far then Q+1 else Q) v w'/\Below w.heap.size w w':=by
 go_enter Tryz.func163,Tryz.ntmps163
 go_upto_region 2 with (go_at_call 190;refine c59.mono ?_;rintro e w2 ⟨q,r,rfl,hq,hr,hb2⟩)
 replace hvb:=hvb.next hb2
 have hq':=hq
 obtain ⟨aq,kq,cq,zq,rfl,hkq,hNq,hvq,hsq⟩:=hq
 go_cut [12] from 13 (fun o wc=>o=.bool odd/\wc=w2)
 case first =>
  rcases Nat.eq_zero_or_pos kq with hk0|hk0
  ·have h0:Q=0:=by
    subst hk0
    have:val zq 0=0:=rfl
    omega
   have ho:=hodd0 h0
   subst ho hk0
   clear hodd hodd0 c59 c60 c61 c26
   go_wp2
   go_meet
   exact ⟨rfl,rfl⟩
  ·have ho:=hodd kq zq hNq.2.2.1 hvq hk0
   have hki:(0:Int)<kq:=by omega
   have hz0:=hNq.2.2.1 0
   obtain ⟨n1,n2,n3,n4,n5⟩:=hNq
   rcases n5 with ⟨_,n6⟩|⟨b,off,rfl,n7,n8⟩
   ·omega
   ·have hc0:=n8 0 hk0
    rw [Nat.add_zero] at hc0
    subst ho
    clear hodd hodd0 c59 c60 c61 c26
    go_wp2
    go_meet
    exact ⟨rfl,rfl⟩
 case rest =>
  obtain ⟨rfl,rfl⟩:=hcut
  clear hNq hvq hsq hodd hodd0 c59
  cases far with
  | false =>
   go_wp2_with (first
    | (go_at_call 191;refine (c60 _ _ _ hr.nt hvb).mono ?_;rintro e w3 ⟨rfl,hb3⟩)
    | (go_at_call 138;refine (c26 _ _ (hr.nt.next hb3)).mono ?_;rintro e w4 ⟨rfl,rfl⟩))
   exact bodyPost_ret (v:=.tuple #[_,_]) (by simp only [results,Tryz.results163];go_simp) rfl ⟨_,rfl,zV3 hq' hb3,bnx hb2 hb3⟩
  | true =>
   go_wp2_with (first
    | (go_at_call 191;refine (c60 _ _ _ hr.nt hvb).mono ?_;rintro e w3 ⟨rfl,hb3⟩)
    | (go_at_call 192;refine (c61 _ _ _ (hq'.nt.next (bnx hb3 bgo)) (zAy (by simp) rfl (by decide))).mono ?_;rintro e w4 ⟨v4,rfl,h4,hb4⟩;have hA4:Below wc.heap.size wc w4:=bnx (bnx hb3 bgo) hb4)
    | (go_at_call 138;refine (c26 _ _ (hr.nt.next hA4)).mono ?_;rintro e w5 ⟨rfl,rfl⟩))
   exact bodyPost_ret (v:=.tuple #[v4,_]) (by simp only [results,Tryz.results163];go_simp) rfl ⟨_,rfl,h4,bnx hb2 hA4⟩
end
theorem yRa {k Q:Nat}{z:Nat->Int}(hz:zFa z)(hv:val z k=(Q:Int))(hk:0<k):(bits BinOp.and IntKind.u64 (z 0) 1==1)=decide (Q%2=1):=by
 have hb:=hz 0
 rw [show (1:Int)=2^1-1 by decide,zUh hb (by decide)]
 obtain ⟨k',rfl⟩:∃ k',k=1+k':=⟨k-1,by omega⟩
 have hs:=zBc z 1 k'
 rw [hv] at hs
 have h10:val z 1=z 0:=by show val z 0+z 0*18446744073709551616^0=z 0;simp [val]
 rw [h10,Int.pow_one] at hs
 rcases Nat.mod_two_eq_zero_or_one Q with e|e
 ·rw [decide_eq_false (by omega)]
  rw [beq_eq_false_iff_ne];omega
 ·rw [decide_eq_true e]
  rw [beq_iff_eq];omega
theorem zTh (R:Nat):(((bl R:Nat):Int)==0)=decide (R=0):=by
 by_cases hz:R=0
 ·rw [hz];rfl
 ·rw [decide_eq_false hz,beq_eq_false_iff_ne]
  have:=mt bl_zero.1 hz
  omega
theorem zR1 (d:Int)(s:Bool){N D:Nat}{vn vd:Value}{w:World}(h:Nt 2001 N vn w)(h':Nt 2001 D vd w)(hD:D≠0)(h1:bl N<=128000)(h2:bl D<=128000) :
  Calls Tryz.prog 163 #[.int .i64 d,.bool s,vn,vd] w fun e w'=>∃ v,e=.returned (.tuple #[v,.bool (decide (N%D=0))])/\Nz 2003 (if faB d s (decide (N/D%2=1)) (N%D) D then N/D+1 else N/D) v w'/\Below w.heap.size w w':=by
 refine (zQ1 d s (decide (N/D%2=1)) (faB d s (decide (N/D%2=1)) (N%D) D) vn vd (N/D) (N%D) D w h' (zV6 (by decide) (by decide) h h' h1 h2 hD) (fun W vr vb a b=>zLz d s _ (by decide) (by decide) a b) (fun W vr a=>zUi (by decide) a) (fun W q v a b=>zX6 (by decide) (by decide) a b) (fun k z hz hv hk=>yRa hz hv hk) ?_).mono ?_
 ·intro h0
  rw [h0];rfl
 ·rintro e w' ⟨v,e1,e2,e3⟩
  rw [zTh] at e1
  exact ⟨v,e1,e2,e3⟩
end
end Go.Proofs.YtpabnhlfbjkmaaaGreatDoor
