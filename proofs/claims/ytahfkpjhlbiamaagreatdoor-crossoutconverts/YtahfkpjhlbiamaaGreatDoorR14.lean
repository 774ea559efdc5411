/-
  Texts that the proof leans on.
-/
import Derived.Test.YtahfkpjhlbiamaaGreatDoorR4
import Derived.Test.YtahfkpjhlbiamaaGreatDoorR12
import Derived.Test.YtahfkpjhlbiamaaGreatDoorR7
import Derived.BigQuiet
import Derived.Test.YtahfkpjhlbiamaaGreatDoorR1
import Derived.Test.YtahfkpjhlbiamaaGreatDoorR2
set_option linter.unusedVariables false
set_option linter.unusedSectionVars false
set_option linter.unusedSimpArgs false
set_option maxHeartbeats 8000000
set_option maxRecDepth 20000
namespace Go.Proofs.YtahfkpjhlbiamaaGreatDoor
open Go.RowKit
structure DF where
 t:Nat
 w:Nat
 j:Nat
 l:Int
 dn:Bool
def DF.ok (f:DF):Prop:=(f.t=20/\f.w=6/\f.j=2/\f.l=-101)∨(f.t=50/\f.w=8/\f.j=5/\f.l=-398)∨(f.t=110/\f.w=12/\f.j=11/\f.l=-6176)
def vR (f:DF)(B:Nat):Nat:=B%2^f.t
def vG (f:DF)(B:Nat):Nat:=B/2^f.t%2^(f.w+5)
def vS (f:DF)(B:Nat):Bool:=decide (B/2^(f.t+(f.w+5))%2=1)
def vV (w G:Nat):Nat:=G/2^w
def vF (dn:Bool)(w G:Nat):Nat :=
 if dn then (if vV w G<24 then vV w G/8*2^w+G%2^w else vV w G/2%4*2^w+G%2^w)
 else (if vV w G<24 then G/8 else G/2%2^(w+2))
def vL (dn:Bool)(w G:Nat):Nat :=
 if dn then (if vV w G<24 then vV w G%8 else 8+vV w G%2) else (if vV w G<24 then G%8 else 8+G%2)
def vT (f:DF)(R:Nat):Nat:=if f.dn then dlU f.j R else R
def vQ (f:DF):Nat:=if f.dn then 10^(3*f.j) else 2^f.t
def vD (f:DF)(s:Bool)(G R:Nat):Dat :=
 if vV f.w G=30 then ⟨2,s,false,0,0⟩
 else if vV f.w G=31 then ⟨3,s,decide (G/2^(f.w-1)%2=1),0,if vT f R<10^(3*f.j) then vT f R else 0⟩
 else ⟨1,s,false,(vF f.dn f.w G:Int)+f.l,if vL f.dn f.w G*vQ f+vT f R<10^(3*f.j+1) then vL f.dn f.w G*vQ f+vT f R else 0⟩
def vM (f:DF)(B:Nat):Dat:=vD f (vS f B) (vG f B) (vR f B)
def vI (f:DF)(d:Dat):Prop :=
 (d.c=1/\d.g=false/\d.k<10^(3*f.j+1)/\f.l<=d.x/\d.x<=f.l+3*2^f.w-1)∨(d.c=2/\d.g=false/\d.k=0/\d.x=0)∨(d.c=3/\d.x=0/\d.k<10^(3*f.j))
def vN (dn:Bool)(w E a:Nat):Nat :=
 if dn then (if 8<=a then 24+E/2^w*2+a%2 else E/2^w*8+a)*2^w+E%2^w
 else (if 8<=a then 3*2^(w+3)+E*2+a%2 else E*8+a)
def vPG (f:DF)(d:Dat):Nat :=
 if d.c=2 then 30*2^f.w else if d.c=3 then 31*2^f.w+(if d.g then 2^(f.w-1) else 0)
 else vN f.dn f.w (d.x-f.l).toNat (d.k/vQ f)
def vPR (f:DF)(d:Dat):Nat :=
 if d.c=2 then 0 else if d.c=3 then (if f.dn then dlP f.j d.k else d.k)
 else if f.dn then dlP f.j (d.k%10^(3*f.j)) else d.k%2^f.t
def vP (f:DF)(d:Dat):Nat:=(if d.s then 2^(f.t+(f.w+5)) else 0)+vPG f d*2^f.t+vPR f d
theorem ten3 (j:Nat):(10:Nat)^(3*j)=1000^j:=by rw [Nat.pow_mul]
theorem DF.ok.t10 {f:DF}(h:f.ok):f.t=10*f.j:=by
 rcases h with ⟨h1,h2,h3,h4⟩|⟨h1,h2,h3,h4⟩|⟨h1,h2,h3,h4⟩<;>omega
theorem DF.ok.pt {f:DF}(h:f.ok):2^f.t=1024^f.j:=by rw [h.t10,Nat.pow_mul]
theorem vG_lt (f:DF)(B:Nat):vG f B<2^(f.w+5):=Nat.mod_lt _ (Nat.two_pow_pos _)
theorem vR_lt (f:DF)(B:Nat):vR f B<2^f.t:=Nat.mod_lt _ (Nat.two_pow_pos _)
theorem vT_lt {f:DF}(h:f.ok)(hd:f.dn=true)(R:Nat):vT f R<10^(3*f.j):=by
 unfold vT
 rw [hd,if_pos rfl,ten3]
 exact zRx _ _
theorem vD_is {f:DF}(h:f.ok)(s:Bool){G R:Nat}(hG:G<2^(f.w+5))(hR:R<2^f.t):vI f (vD f s G R):=by
 have hp:0<(10:Nat)^(3*f.j):=Nat.pow_pos (by decide)
 have hp':0<(10:Nat)^(3*f.j+1):=Nat.pow_pos (by decide)
 unfold vD
 by_cases h30:vV f.w G=30
 ·rw [if_pos h30];exact Or.inr (Or.inl ⟨rfl,rfl,rfl,rfl⟩)
 ·rw [if_neg h30]
  by_cases h31:vV f.w G=31
  ·rw [if_pos h31]
   refine Or.inr (Or.inr ⟨rfl,rfl,?_⟩)
   show (if vT f R<10^(3*f.j) then vT f R else 0)<10^(3*f.j)
   split<;>omega
  ·rw [if_neg h31]
   refine Or.inl ⟨rfl,rfl,?_,?_,?_⟩
   ·show (if vL f.dn f.w G*vQ f+vT f R<10^(3*f.j+1) then vL f.dn f.w G*vQ f+vT f R else 0)<10^(3*f.j+1)
    split<;>omega
   ·show f.l<=(vF f.dn f.w G:Int)+f.l
    omega
   ·show (vF f.dn f.w G:Int)+f.l<=f.l+3*2^f.w-1
    have:vF f.dn f.w G<3*2^f.w:=by
     unfold vF
     unfold vV at *
     rcases h with ⟨h1,h2,h3,h4⟩|⟨h1,h2,h3,h4⟩|⟨h1,h2,h3,h4⟩<;>rw [h2] at hG h30 h31 ⊢<;>cases f.dn<;>simp only [Bool.false_eq_true,if_false,if_true]<;>simp only [Nat.reducePow,Nat.reduceAdd] at*<;> split<;>omega
    have e:((3*2^f.w:Nat):Int)=3*2^f.w:=by simp
    omega
theorem zFu {f:DF}(h:f.ok)(B:Nat):vI f (vM f B):=vD_is h _ (vG_lt f B) (vR_lt f B)
theorem zSm {f:DF}(h:f.ok){d:Dat}(hd:vI f d):vPG f d<2^(f.w+5):=by
 have hq:d.c=1->d.k/vQ f<=9:=fun h1=>by
  rcases hd with ⟨_,_,hk,_,_⟩|⟨h2,_⟩|⟨h2,_⟩
  ·unfold vQ
   rcases h with ⟨h1,h2,h3,h4⟩|⟨h1,h2,h3,h4⟩|⟨h1,h2,h3,h4⟩<;>rw [h3] at hk ⊢<;>rw [h1]<;>cases f.dn<;>simp only [Bool.false_eq_true,if_false,if_true]<;>simp only [Nat.reducePow,Nat.reduceAdd,Nat.reduceMul] at*<;> omega
  ·omega
  ·omega
 unfold vPG
 rcases hd with ⟨c1,g1,hk,hx,hx'⟩|⟨c1,g1,hk,hx⟩|⟨c1,hx,hk⟩
 ·have h9:=hq c1
  rw [if_neg (by omega),if_neg (by omega)]
  generalize d.k/vQ f=a at *
  have hE:(d.x-f.l).toNat<3*2^f.w:=by
   have e:((3*2^f.w:Nat):Int)=3*2^f.w:=by simp
   omega
  generalize (d.x-f.l).toNat=E at *
  unfold vN
  rcases h with ⟨h1,h2,h3,h4⟩|⟨h1,h2,h3,h4⟩|⟨h1,h2,h3,h4⟩<;>rw [h2] at hE ⊢<;>cases f.dn<;>simp only [Bool.false_eq_true,if_false,if_true]<;>simp only [Nat.reducePow,Nat.reduceAdd,Nat.reduceMul] at*<;> split<;>omega
 ·rw [if_pos c1]
  rcases h with ⟨h1,h2,h3,h4⟩|⟨h1,h2,h3,h4⟩|⟨h1,h2,h3,h4⟩<;>rw [h2]<;>decide
 ·rw [if_neg (by omega),if_pos c1]
  rcases h with ⟨h1,h2,h3,h4⟩|⟨h1,h2,h3,h4⟩|⟨h1,h2,h3,h4⟩<;>rw [h2]<;>cases d.g<;>decide
theorem zEu {f:DF}(h:f.ok){d:Dat}(hd:vI f d):vPR f d<2^f.t:=by
 unfold vPR
 rcases hd with ⟨c1,g1,hk,hx,hx'⟩|⟨c1,g1,hk,hx⟩|⟨c1,hx,hk⟩
 ·rw [if_neg (by omega),if_neg (by omega)]
  split
  ·rw [h.pt];exact zTk _ _
  ·exact Nat.mod_lt _ (Nat.two_pow_pos _)
 ·rw [if_pos c1];exact Nat.two_pow_pos _
 ·rw [if_neg (by omega),if_pos c1]
  split
  ·rw [h.pt];exact zTk _ _
  ·refine Nat.lt_of_lt_of_le hk ?_
   rcases h with ⟨h1,h2,h3,h4⟩|⟨h1,h2,h3,h4⟩|⟨h1,h2,h3,h4⟩<;>rw [h1,h3]<;>decide
theorem vP_lt {f:DF}(h:f.ok){d:Dat}(hd:vI f d):vP f d<2^(f.t+(f.w+6)):=by
 have h1:=zSm h hd
 have h2:=zEu h hd
 unfold vP
 have e5:2^(f.t+(f.w+5))=2^(f.w+5)*2^f.t:=by rw [← Nat.pow_add,Nat.add_comm]
 have e6:2^(f.t+(f.w+6))=2*(2^(f.w+5)*2^f.t):=by rw [← Nat.pow_add,← Nat.pow_succ'];congr 1;omega
 have h3:(if d.s then 2^(f.t+(f.w+5)) else 0)<=2^(f.w+5)*2^f.t:=by split<;>omega
 have h4:(vPG f d+1)*2^f.t<=2^(f.w+5)*2^f.t:=Nat.mul_le_mul_right _ h1
 rw [Nat.add_mul,Nat.one_mul] at h4
 rw [e6]
 omega
theorem vP_256 {f:DF}(h:f.ok){d:Dat}(hd:vI f d):vP f d<2^256:=by
 refine Nat.lt_of_lt_of_le (vP_lt h hd) (Nat.pow_le_pow_right (by decide) ?_)
 rcases h with ⟨h1,h2,h3,h4⟩|⟨h1,h2,h3,h4⟩|⟨h1,h2,h3,h4⟩<;>omega
theorem zR3 {f:DF}(h:f.ok)(B:Nat):(vM f B).k<2^256:=by
 have hi:=zFu h B
 have e:(10:Nat)^(3*f.j+1)<=10^34:=Nat.pow_le_pow_right (by decide) (by rcases h with ⟨h1,h2,h3,h4⟩|⟨h1,h2,h3,h4⟩|⟨h1,h2,h3,h4⟩<;>omega)
 have e':(10:Nat)^(3*f.j)<=10^34:=Nat.pow_le_pow_right (by decide) (by rcases h with ⟨h1,h2,h3,h4⟩|⟨h1,h2,h3,h4⟩|⟨h1,h2,h3,h4⟩<;>omega)
 have e2:(10:Nat)^34<2^256:=by decide
 rcases hi with ⟨_,_,hk,_⟩|⟨_,_,hk,_⟩|⟨_,_,hk⟩<;>omega
section
section
attribute [local go_sem] zPa zAb
theorem zPj (w:World)(o1 o2:Obj)(m:Nat):Below w.heap.size w ((((w.alloc o1).alloc o2).drewN m)):=by
 have h:=((Below.refl w.heap.size w).alloc (Nat.le_refl _) o1).alloc (by simp) o2
 exact ⟨h.os,h.tape,h.output,h.size,h.block⟩
theorem zKm {b:Nat}{w w':World}(h:Below b w w')(m:Nat):Below b w (w'.drewN m):=⟨h.os,h.tape,h.output,h.size,h.block⟩
theorem zC8 (x y:Nat->Int)(w:World)(hx:zDa x)(hy:zDa y) :
  CB 181 #[.agg (arrOf x 4),.agg (arrOf y 4)] w (.int .i64 (zLg x y 4)):=by
 have sx:(arrOf x 4).size=4:=arrOf_size x 4
 have sy:(arrOf y 4).size=4:=arrOf_size y 4
 have gx:=fun i h=>zJa? x 4 i h
 have gy:=fun i h=>zJa? y 4 i h
 have hx0:=zJa x 4
 have hy0:=zJa y 4
 generalize arrOf x 4=ax at *
 generalize arrOf y 4=ay at *
 go_enter Tryz.func181,Tryz.ntmps181
 go_wp2
 go_loopw [5] (fun t wr=>∃ k m:Nat,k<=4/\zLg x y k=zLg x y 4/\t=.int .i64 ((k:Int)-1)/\wr=(((w.alloc (.cells ax 23)).alloc (.cells ay 23)).drewN m)) (fun t _=>(intOf t+1).toNat)
 case atStart=>exact ⟨4,0,Nat.le_refl _,rfl,rfl,rfl⟩
 case round =>
  obtain ⟨k,m,hk,hs,rfl,rfl⟩:=hrel
  by_cases h0:k=0
  ·subst h0
   have HS:Hid (zLg x y 4=0):=hs.symm
   clear hs
   go_wp2
   go_ret
   exact ⟨zTa HS.out.symm,zPj _ _ _ _⟩
  ·obtain ⟨j,rfl⟩:∃ j,k=j+1:=⟨k-1,by omega⟩
   have ej:((j+1:Nat):Int)-1=j:=by omega
   have hj8:(j:Int)<4:=by omega
   rw [ej]
   have hcx:=gx j (by omega)
   have hcy:=gy j (by omega)
   have hgx:=hx0 j
   have hgy:=hy0 j
   have HS:Hid ((if x j<y j then -1 else if y j<x j then 1 else zLg x y j)=zLg x y 4):=hs
   have hkm:j<=4:=by omega
   clear hs ej hk gx gy hx0 hy0 hx hy
   by_cases hlt:x j<y j
   ·have HR:Hid (zLg x y 4=-1):=by rw [← HS.out,if_pos hlt];rfl
    clear HS
    go_wp2
    go_quiet (fail)
    go_wp2
    go_ret
    exact ⟨zTa HR.out.symm,zKm (zPj _ _ _ _) _⟩
   ·by_cases hgt:y j<x j
    ·have HR:Hid (zLg x y 4=1):=by rw [← HS.out,if_neg hlt,if_pos hgt];rfl
     clear HS
     go_wp2
     go_quiet (fail)
     go_wp2
     go_quiet (fail)
     go_wp2
     go_ret
     exact ⟨zTa HR.out.symm,zKm (zKm (zPj _ _ _ _) _) _⟩
    ·have HR:Hid (zLg x y j=zLg x y 4):=by rw [← HS.out,if_neg hlt,if_neg hgt];rfl
     clear HS
     go_wp2
     go_quiet (fail)
     go_wp2
     go_quiet (fail)
     go_wp2
     go_roundw
     case rel=>exact ⟨j,_,hkm,HR.out,by go_num,rfl⟩
     case measure=>simp [intOf]
end
theorem cmp4 (A B:Nat)(w:World)(hA:A<2^256)(hB:B<2^256) :
  CB 181 #[A4 A,A4 B] w (.int .i64 (sgn (A:Int) (B:Int))):=by
 have h:=zC8 (W4 A) (W4 B) w (zHa A) (zHa B)
 rw [zPi (zHa A) (zHa B),zOb hA,zOb hB] at h
 exact h
theorem zQr (x:Int)(c:Nat)(hx:0<=x/\x<=18446744073709551615)(hc:c<=62)(w:World) :
  CQ 187 #[.int .u64 x,.int .i64 (c:Int)] w (.int .u64 (x%2^c)):=by
 have hm:=zXf (y:=x) (r:=c) hx (by omega)
 have hp:(1:Int)<=2^c/\(2:Int)^c<=4611686018427387904:=by
  have a:(2:Nat)^0<=2^c:=Nat.pow_le_pow_right (by decide) (by omega)
  have b:(2:Nat)^c<=2^62:=Nat.pow_le_pow_right (by decide) hc
  have e:((2:Int)^c)=((2^c:Nat):Int):=by simp
  rw [e];omega
 go_enter Tryz.func187,Tryz.ntmps187
 go_wp2
 go_ret
 exact ⟨rfl,rfl⟩
abbrev LD (dn:Bool)(g t bl:Int)(wo co pa:Nat)(le mo:Int):Value:=.agg #[.bool dn,.int .i64 g,.int .i64 t,.int .i64 bl,.int .u64 (W4 wo 0),.int .u64 (W4 wo 1),.int .u64 (W4 wo 2),.int .u64 (W4 wo 3),.int .u64 (W4 co 0),.int .u64 (W4 co 1),.int .u64 (W4 co 2),.int .u64 (W4 co 3),.int .u64 (W4 pa 0),.int .u64 (W4 pa 1),.int .u64 (W4 pa 2),.int .u64 (W4 pa 3),.int .i64 le,.int .i64 mo]
attribute [local irreducible] W4
section
variable (dn:Bool)(g t bl:Int)(wo co pa:Nat)(le mo:Int)(w:World)
theorem kind_v (x V:Int)(n:Nat)(hx:0<=x/\x<=18446744073709551615)(hg:g-5=(n:Int))(hg0:5<=g)(hg1:g<=60)(hV:x/2^n=V) :
  CB 138 #[LD dn g t bl wo co pa le mo,.int .u64 x] w (.int .u64 V):=by
 go_enter Tryz.func138,Tryz.ntmps138
 go_wp2
 go_ret
 exact ⟨rfl,bgo⟩
theorem zWu (x V:Int)(n:Nat)(hx:0<=x/\x<=18446744073709551615)(hg:g-5-1=(n:Int))(hg0:6<=g)(hg1:g<=60)(hV:bits .and .u64 (x/2^n) 1=V) :
  CB 139 #[LD dn g t bl wo co pa le mo,.int .u64 x] w (.bool (V==1)):=by
 go_enter Tryz.func139,Tryz.ntmps139
 go_wp2
 go_ret
 exact ⟨rfl,bgo⟩
theorem zUu (k R:Int)(s:Bool)(n:Nat)(hk0:0<=k)(hk1:k<=31)(hg:g-5-1=(n:Int))(hg0:6<=g)(hg1:g<=30)(H:Int)(hH:(2:Int)^n=H)(hH0:1<=H)(hH1:H<=16777216)(ho:bits .or .u64 (k*2) 1=k*2+1)(hR:(k*2+if s then 1 else 0)*H=R)(hR1:R<=4611686018427387904) :
  CB 185 #[LD dn g t bl wo co pa le mo,.int .u64 k,.bool s] w (.int .u64 R):=by
 cases s
 ·simp only [Bool.false_eq_true,if_false,Int.add_zero] at hR
  have hR0:0<=R:=by rw [← hR];exact Int.mul_nonneg (by omega) (by omega)
  go_enter Tryz.func185,Tryz.ntmps185
  go_wp2
  go_ret
  exact ⟨rfl,bgo⟩
 ·simp only [if_true] at hR
  have hR0:0<=R:=by rw [← hR];exact Int.mul_nonneg (by omega) (by omega)
  go_enter Tryz.func185,Tryz.ntmps185
  go_wp2
  go_ret
  exact ⟨rfl,bgo⟩
end
end
section
theorem zDm (x:Int)(c:Nat)(hx:0<=x/\x<=18446744073709551615)(hc:c<=62)(w:World) :
  CB 187 #[.int .u64 x,.int .i64 (c:Int)] w (.int .u64 (x%2^c)):=by
 refine (zQr x c hx hc w).mono ?_
 rintro r w' ⟨rfl,rfl⟩
 exact ⟨rfl,Below.refl _ _⟩
attribute [local irreducible] W4
section
variable (dn:Bool)(g t:Int)(wo co pa:Nat)(le mo:Int)(w:World)(x A M F FS X R L:Int)(b m:Nat)
 (hx:0<=x/\x<=1073741824) (hb:b<=30) (hg0:6<=g) (hg1:g<=30) (hm:g-2=(m:Int)) (hA:x/2^b=A) (hA0:0<=A) (hA1:A<=1073741824) (hM:x/2^m=M)
 (hF0:0<=F) (hF1:F<=1073741824) (hFS:F*2^b=FS) (hS0:0<=FS) (hS1:FS<=1152921504606846976)
 (cl:∀ W,CB 187 #[.int .u64 x,.int .i64 (b:Int)] W (.int .u64 X))
 (ho:bits .or .u64 FS X=R)
include hx hb hg0 hg1 hm hA hA0 hA1 hM hF0 hF1 hFS hS0 hS1 cl ho
theorem part_s (hM3:(M==3)=false)(hF:A/8=F)
  (c3:∀ W,CQ 187 #[.int .u64 A,.int .i64 3] W (.int .u64 L)) :
  CB 142 #[LD dn g t (b:Int) wo co pa le mo,.int .u64 x] w (.tuple #[.int .u64 R,.int .u64 L]):=by
 have hb0:(0:Int)<=(b:Int):=by omega
 have hb1:(b:Int)<=30:=by omega
 go_enter Tryz.func142,Tryz.ntmps142
 go_wp2_with (go_at_call 187;refine (c3 _).mono ?_;rintro r w1 ⟨rfl,rfl⟩)
 refine zGb 11 (by kernel_rfl) (by kernel_rfl) (by kernel_rfl) (fun _ _ d _ _ h=>by cases d<;>exact h) fun hne hcell=>?_
 simp only [List.take_succ_cons,List.take_zero,List.drop_succ_cons,List.drop_zero]
 repeat go_big_quiet_step (fail)
 go_big_quiet_step ((go_at_call 187;exact zEa _ zMa (cl _)))
 repeat go_big_quiet_step (fail)
 refine wpQuiet_nil fun w2 hb2=>?_
 obtain ⟨_,_,_,_,hA2,_⟩:=wz w hb2;clear hb2
 go_wp2
 exact bodyPost_ret (by simp only [results,Tryz.results142];go_simp) rfl ⟨rfl,bgo⟩
theorem part_g (A' L0:Int)(k:Nat)(hM3:(M==3)=true)(hk:(m:Int)-(b:Int)=(k:Int))(hA'0:0<=A')(hA'1:A'<=1073741824)(hF:A'/2=F)(hL0:0<=L0)(hL1:L0<=1)(hL:8+L0=L)
  (c3:∀ W,CQ 187 #[.int .u64 A,.int .i64 (k:Int)] W (.int .u64 A'))
  (c4:∀ W,CQ 187 #[.int .u64 A',.int .i64 1] W (.int .u64 L0)) :
  CB 142 #[LD dn g t (b:Int) wo co pa le mo,.int .u64 x] w (.tuple #[.int .u64 R,.int .u64 L]):=by
 have hb0:(0:Int)<=(b:Int):=by omega
 have hb1:(b:Int)<=30:=by omega
 go_enter Tryz.func142,Tryz.ntmps142
 go_wp2_with (go_at_call 187;first|(refine (c3 _).mono ?_;rintro r w1 ⟨rfl,rfl⟩;clear c3)|(refine (c4 _).mono ?_;rintro r w1 ⟨rfl,rfl⟩;clear c4))
 refine zGb 11 (by kernel_rfl) (by kernel_rfl) (by kernel_rfl) (fun _ _ d _ _ h=>by cases d<;>exact h) fun hne hcell=>?_
 simp only [List.take_succ_cons,List.take_zero,List.drop_succ_cons,List.drop_zero]
 repeat go_big_quiet_step (fail)
 go_big_quiet_step ((go_at_call 187;exact zEa _ zMa (cl _)))
 repeat go_big_quiet_step (fail)
 refine wpQuiet_nil fun w2 hb2=>?_
 obtain ⟨_,_,_,_,hA2,_⟩:=wz w hb2;clear hb2
 go_wp2
 exact bodyPost_ret (by simp only [results,Tryz.results142];go_simp) rfl ⟨rfl,bgo⟩
end
section
variable (dn:Bool)(g t:Int)(wo co pa:Nat)(le mo:Int)(w:World)(E a A Y YS X R:Int)(b:Nat)
 (hE:0<=E/\E<=1073741824) (ha:0<=a/\a<=9) (hb:b<=30) (hg0:6<=g) (hg1:g<=30) (hA:E/2^b=A) (hA0:0<=A) (hA1:A<=1073741824)
 (hY0:0<=Y) (hY1:Y<=1073741824) (hYS:Y*2^b=YS) (hS0:0<=YS) (hS1:YS<=1152921504606846976)
 (cl:∀ W,CB 187 #[.int .u64 E,.int .i64 (b:Int)] W (.int .u64 X))
 (ho:bits .or .u64 YS X=R)
include hE ha hb hg0 hg1 hA hA0 hA1 hY0 hY1 hYS hS0 hS1 cl ho
theorem zS5 (h8:¬ 8<=a)(hY:bits .or .u64 (A*8) a=Y) :
  CB 183 #[LD dn g t (b:Int) wo co pa le mo,.int .u64 E,.int .u64 a] w (.int .u64 R):=by
 have hb0:(0:Int)<=(b:Int):=by omega
 have hb1:(b:Int)<=30:=by omega
 go_enter Tryz.func183,Tryz.ntmps183
 go_wp2
 refine zGb 9 (by kernel_rfl) (by kernel_rfl) (by kernel_rfl) (fun _ _ d _ _ h=>by cases d<;>exact h) fun hne hcell=>?_
 simp only [List.take_succ_cons,List.take_zero,List.drop_succ_cons,List.drop_zero]
 repeat go_big_quiet_step (fail)
 go_big_quiet_step ((go_at_call 187;exact zEa _ zMa (cl _)))
 repeat go_big_quiet_step (fail)
 refine wpQuiet_nil fun w2 hb2=>?_
 obtain ⟨_,_,_,_,hA2,_⟩:=wz w hb2;clear hb2
 go_wp2
 exact bodyPost_ret (by simp only [results,Tryz.results183];go_simp) rfl ⟨rfl,bgo⟩
theorem zT5 (k:Nat)(H U L0:Int)(h8:8<=a)(hk:g-2-(b:Int)=(k:Int))(hH:(2:Int)^k=H)(hH0:1<=H)(hH1:H<=1073741824)(hU:bits .or .u64 (3*H) (A*2)=U)(hY:bits .or .u64 U L0=Y)
  (c1:∀ W,CB 187 #[.int .u64 a,.int .i64 1] W (.int .u64 L0)) :
  CB 183 #[LD dn g t (b:Int) wo co pa le mo,.int .u64 E,.int .u64 a] w (.int .u64 R):=by
 have hb0:(0:Int)<=(b:Int):=by omega
 have hb1:(b:Int)<=30:=by omega
 have hk0:0<=g-2-(b:Int):=by omega
 go_enter Tryz.func183,Tryz.ntmps183
 go_wp2
 refine zGb 13 (by kernel_rfl) (by kernel_rfl) (by kernel_rfl) (fun _ _ d _ _ h=>by cases d<;>exact h) fun hne hcell=>?_
 simp only [List.take_succ_cons,List.take_zero,List.drop_succ_cons,List.drop_zero]
 repeat go_big_quiet_step (fail)
 go_big_quiet_step ((go_at_call 187;exact zEa _ zMa (c1 _)))
 repeat go_big_quiet_step (fail)
 refine wpQuiet_nil fun w1 hb1'=>?_
 have hb1:=hb1'
 obtain ⟨_,_,_,_,hA1,_⟩:=wz w hb1;clear hb1
 go_wp2
 refine zGb 9 (by kernel_rfl) (by kernel_rfl) (by kernel_rfl) (fun _ _ d _ _ h=>by cases d<;>exact h) fun hne hcell=>?_
 simp only [List.take_succ_cons,List.take_zero,List.drop_succ_cons,List.drop_zero]
 repeat go_big_quiet_step (fail)
 go_big_quiet_step ((go_at_call 187;exact zEa _ zMa (cl _)))
 repeat go_big_quiet_step (fail)
 refine wpQuiet_nil fun w2 hb2=>?_
 obtain ⟨_,_,_,_,hA2,_⟩:=wz w hb2;clear hb2
 go_wp2
 exact bodyPost_ret (by simp only [results,Tryz.results183];go_simp) rfl ⟨rfl,bgo⟩
end
end
end Go.Proofs.YtahfkpjhlbiamaaGreatDoor
