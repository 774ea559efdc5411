/-
  Texts that the proof leans on.
-/
import Derived.Test.YtgknbdehlmlipaaGreatDoorJ8
import Derived.BigQuiet
import Derived.Deep.AppendLies
import Derived.Test.YtgknbdehlmlipaaGreatDoorJ2
import Derived.Test.YtgknbdehlmlipaaGreatDoorJ3
import Derived.Deep.Cut
import Derived.Deep.CutRange
set_option maxHeartbeats 8000000
set_option linter.unusedVariables false
set_option linter.unusedSectionVars false
set_option linter.unusedSimpArgs false
set_option maxRecDepth 20000
namespace Go.Proofs.YtgknbdehlmlipaaGreatDoor
open Go.RowKit
section
attribute [local go_sem] setCell_drewN alloc_drewN
theorem div64_0 (lo y:Int)(w:World)(hl:0<=lo/\lo<=18446744073709551615)(hy:0<y/\y<=18446744073709551615) :
  Calls Tryz.prog 117 #[.int .u64 0,.int .u64 lo,.int .u64 y] w fun e w'=>e=.returned (.tuple #[.int .u64 (lo/y),.int .u64 (lo%y)])/\∃ m,w'=w.drewN m:=by
 have hy0:¬ y=0:=by omega
 go_enter Tryz.func117,Tryz.ntmps117
 go_wp2
 go_quiet (fail)
 go_wp2
 go_ret2
 exact ⟨rfl,_,rfl⟩
def remJ (x:Nat->Int)(d:Int)(n:Nat):Nat->Int
 | 0=>0
 | j+1=>(remJ x d n j*18446744073709551616+x (n-1-j))%d
def quoW (x:Nat->Int)(d:Int)(n j:Nat):Int:=(remJ x d n (n-1-j)*18446744073709551616+x j)/d
theorem remJ_bd (x:Nat->Int)(d:Int)(n j:Nat)(hd:0<d):0<=remJ x d n j/\remJ x d n j<d:=by
 cases j with
 | zero=>exact ⟨Int.le_refl _,hd⟩
 | succ j=>exact ⟨Int.emod_nonneg _ (by omega),Int.emod_lt_of_pos _ hd⟩
theorem set_prev {ss:Array Value}{k:Nat}{f:Nat->Int}(hss:∀ j h,ss[j]'h=Value.int .u64 (if k+1<=j then f j else 0))(j:Nat)(h:j<(ss.setIfInBounds k (.int .u64 (f k))).size):(ss.setIfInBounds k (.int .u64 (f k)))[j]'h=Value.int .u64 (if k<=j then f j else 0):=by
 have h':j<ss.size:=by simpa using h
 rw [Array.getElem_setIfInBounds]
 by_cases e:k=j
 ·subst e;simp
 ·rw [if_neg e,hss j h']
  by_cases e2:k<=j
  ·simp [e2,show k+1<=j by omega]
  ·simp [e2,show ¬ k+1<=j by omega]
 exact h'
theorem bcell {W w1:World}(hb:Below W.heap.size W w1):(∀ b o,b<W.heap.size->w1.cell? ⟨b,o,none⟩=W.cell? ⟨b,o,none⟩)/\(∀ b o,b<W.heap.size->w1.frozen? ⟨b,o,none⟩=W.frozen? ⟨b,o,none⟩) :=
 ⟨fun b o h=>hb.cell (p:=⟨b,o,none⟩) h,fun b o h=>hb.frozen (p:=⟨b,o,none⟩) h⟩
end
def Num (w:World)(a:Option Addr)(n c:Nat)(x:Nat->Int):Prop :=
 n<=c/\c<=maxLen/\Words x/\(∀ i,n<=i->x i=0)/\((a=none/\c=0)∨∃ b off,a=some ⟨b,off,none⟩/\b<w.heap.size/\∀ i,i<n->w.cell? ⟨b,off+i,none⟩=some (.int .u64 (x i)))
theorem Num.next {w w':World}{a:Option Addr}{n c:Nat}{x:Nat->Int}(h:Num w a n c x)(hb:Below w.heap.size w w'):Num w' a n c x:=by
 obtain ⟨h1,h2,h3,h4,h5⟩:=h
 refine ⟨h1,h2,h3,h4,?_⟩
 rcases h5 with h5|⟨b,off,h6,h7,h8⟩
 ·exact Or.inl h5
 ·exact Or.inr ⟨b,off,h6,Nat.lt_of_lt_of_le h7 hb.size,fun i hi=>(hb.cell (p:=⟨b,off+i,none⟩) h7).trans (h8 i hi)⟩
theorem Num.drewN {w:World}{a:Option Addr}{n c:Nat}{x:Nat->Int}(h:Num w a n c x)(m:Nat):Num (w.drewN m) a n c x:=h
theorem word_any (a:Option Addr)(n c i:Nat)(x:Nat->Int)(w:World)(h:Num w a n c x) :
  Calls Tryz.prog 55 #[.slice a n c,.int .i64 i] w fun e w'=>e=.returned (.int .u64 (x i))/\w'=w:=by
 obtain ⟨h1,h2,h3,h4,h5⟩:=h
 by_cases hi:i<n
 ·rcases h5 with ⟨rfl,rfl⟩|⟨b,off,rfl,hbs,hc⟩
  ·omega
  ·have hci:=hc i hi
   have hi':(i:Int)<n:=by omega
   clear hc h4 h3
   go_enter Tryz.func55,Tryz.ntmps55
   go_wp2
   go_ret
   exact ⟨rfl,rfl⟩
 ·have hz:=h4 i (by omega)
  have HZ:Hid (x i=0):=hz
  clear hz h4 h3 h5
  go_enter Tryz.func55,Tryz.ntmps55
  go_wp2
  go_ret
  exact ⟨ret_int HZ.out.symm,rfl⟩
def cmpL (x y:Nat->Int):Nat->Int
 | 0=>0
 | n+1=>if x n<y n then -1 else if y n<x n then 1 else cmpL x y n
theorem cmp_any (a a':Option Addr)(n c n' c':Nat)(x y:Nat->Int)(w:World)(hn:n<4294967296)(hn':n'<4294967296)(h:Num w a n c x)(h':Num w a' n' c' y) :
  Calls Tryz.prog 25 #[.slice a n c,.slice a' n' c'] w fun e w'=>e=.returned (.int .i64 (cmpL x y (max n n')))/\w'=w:=by
 have hw1:=fun i=>word_any a n c i x w h
 have hw2:=fun i=>word_any a' n' c' i y w h'
 clear h h'
 go_enter Tryz.func25,Tryz.ntmps25
 go_wp2
 go_loop [5,6,7] (fun t u6 u7=>∃ k:Nat,k<=max n n'/\cmpL x y k=cmpL x y (max n n')/\t=.int .i64 ((k:Int)-1)) (fun t _ _=>(intOf t+1).toNat)
 case atStart=>exact ⟨max n n',Nat.le_refl _,rfl,by go_num⟩
 case round =>
  obtain ⟨k,hk,hs,rfl⟩:=hrel
  by_cases h0:k=0
  ·subst h0
   have HS:Hid (cmpL x y (max n n')=0):=hs.symm
   clear hs
   go_wp2
   go_ret
   exact ⟨ret_int HS.out.symm,rfl⟩
  ·obtain ⟨j,rfl⟩:∃ j,k=j+1:=⟨k-1,by omega⟩
   have ej:((j+1:Nat):Int)-1=j:=by omega
   have hj:j<4294967296:=by omega
   rw [ej]
   have HS:Hid ((if x j<y j then -1 else if y j<x j then 1 else cmpL x y j)=cmpL x y (max n n')):=hs
   have hkm:j<=max n n':=by omega
   clear hs ej hk
   have hwa:=hw1 j
   have hwb:=hw2 j
   by_cases hlt:x j<y j
   ·have HR:Hid (cmpL x y (max n n')=-1):=by rw [← HS.out,if_pos hlt];rfl
    clear HS
    go_wp2_with (first|(go_at_call_of 55 (Value.slice a n c);refine hwa.mono ?_;rintro e w' ⟨rfl,rfl⟩)|(go_at_call_of 55 (Value.slice a' n' c');refine hwb.mono ?_;rintro e w' ⟨rfl,rfl⟩))
    go_ret
    exact ⟨ret_int HR.out.symm,rfl⟩
   ·by_cases hgt:y j<x j
    ·have HR:Hid (cmpL x y (max n n')=1):=by rw [← HS.out,if_neg hlt,if_pos hgt];rfl
     clear HS
     go_wp2_with (first|(go_at_call_of 55 (Value.slice a n c);refine hwa.mono ?_;rintro e w' ⟨rfl,rfl⟩)|(go_at_call_of 55 (Value.slice a' n' c');refine hwb.mono ?_;rintro e w' ⟨rfl,rfl⟩))
     go_ret
     exact ⟨ret_int HR.out.symm,rfl⟩
    ·have HR:Hid (cmpL x y j=cmpL x y (max n n')):=by rw [← HS.out,if_neg hlt,if_neg hgt];rfl
     clear HS
     go_wp2_with (first|(go_at_call_of 55 (Value.slice a n c);refine hwa.mono ?_;rintro e w' ⟨rfl,rfl⟩)|(go_at_call_of 55 (Value.slice a' n' c');refine hwb.mono ?_;rintro e w' ⟨rfl,rfl⟩))
     go_round
     case rel=>exact ⟨j,hkm,HR.out,by go_num⟩
     case measure=>simp [intOf]
theorem Tryz.info22:(Tryz.prog.info? 22).map (fun i=>(i.zero,i.size,i.bytes))=some (some (.int .u64 0),1,8):=by kernel_rfl
theorem num_of_owns {w w':World}{g k cap base:Nat}{x:Nat->Int}(hx:Words x)(hz:∀ i,k<=i->x i=0)(h:w'.ownsRow base 22 1 (.slice (some ⟨g,0,none⟩) k cap) k ((List.range k).map fun i=>Value.int .u64 (x i)))(hg:g<w'.heap.size):Num w' (some ⟨g,0,none⟩) k cap x:=by
 obtain ⟨hl,h⟩:=h
 rcases h with ⟨h,_⟩|⟨g',cap',cur,he,hb,hh,h1,h2,h3,h4⟩
 ·cases h
 ·cases he
  refine ⟨h1,h2,hx,hz,Or.inr ⟨g,0,rfl,hg,fun i hi=>?_⟩⟩
  rw [Nat.zero_add]
  have hcur:cur[i]?=some (.int .u64 (x i)):=by
   have:(cur.toList.take (k*1))[i]?=some (.int .u64 (x i)):=by rw [h4];simp [hi]
   rw [List.getElem?_take] at this
   simpa [hi] using this
  unfold World.cell?
  simp [hh,hcur]
theorem trim_some (b off n c:Nat)(x:Nat->Int)(w:World)(hn:n<4294967296)(h:Num w (some ⟨b,off,none⟩) n c x) :
  Calls Tryz.prog 56 #[.slice (some ⟨b,off,none⟩) n c] w fun e w'=>∃ g cap,e=.returned (.slice (some ⟨g,0,none⟩) (sizeL x n) cap)/\Num w' (some ⟨g,0,none⟩) (sizeL x n) cap x/\Below w.heap.size w w':=by
 obtain ⟨h1,h2,h3,h4,h5⟩:=h
 have hc:b<w.heap.size/\∀ i,i<n->w.cell? ⟨b,off+i,none⟩=some (.int .u64 (x i)):=by
  rcases h5 with ⟨h,_⟩|⟨b',off',h,hbs,hc⟩
  ·cases h
  ·cases h;exact ⟨hbs,hc⟩
 obtain ⟨hbs,hc⟩:=hc
 clear h5
 obtain ⟨i0,hi,hz0,hz1,hz2⟩:=info_parts Tryz.info22
 unfold maxLen at h2
 go_enter Tryz.func56,Tryz.ntmps56
 go_wp2
 go_loop [3] (fun t=>∃ k:Nat,k<=n/\sizeL x k=sizeL x n/\(∀ i,k<=i->x i=0)/\t=.int .i64 k) (fun t=>(intOf t).toNat)
 case atStart=>exact ⟨n,Nat.le_refl _,rfl,h4,rfl⟩
 case round =>
  obtain ⟨k,hk,hs,hz,rfl⟩:=hrel
  clear h4
  by_cases h0:k=0
  ·subst h0
   have HS:Hid (sizeL x n=0):=hs.symm
   have HN:Hid (Num (w.alloc (.cells #[] 22)) (some ⟨w.heap.size,0,none⟩) 0 0 x):=⟨Nat.le_refl _,by unfold maxLen;omega,h3,hz,Or.inr ⟨w.heap.size,0,rfl,by simp,fun i hi=>by omega⟩⟩
   clear hs hz hc h3
   go_wp2
   go_ret
   refine ⟨w.heap.size,0,?_,?_,(Below.refl _ _).alloc (Nat.le_refl _) _⟩
   ·rw [HS.out];rfl
   ·rw [HS.out];exact HN.out
  ·obtain ⟨j,rfl⟩:∃ j,k=j+1:=⟨k-1,by omega⟩
   have hcj:=hc j (by omega)
   by_cases hzj:x j=0
   ·have HS:Hid (sizeL x j=sizeL x n):=by
     have:sizeL x (j+1)=sizeL x j:=by simp [sizeL,hzj]
     exact this.symm.trans hs
    have HZ:Hid (∀ i,j<=i->x i=0):=fun i hji=>by
     by_cases e:i=j
     ·rw [e];exact hzj
     ·exact hz i (by omega)
    clear hs hz hc
    go_wp2
    go_round
    case rel=>exact ⟨j,by omega,HS.out,HZ.out,by go_num⟩
    case measure=>simp [intOf]
   ·have HS:Hid (sizeL x n=j+1):=by
     have:sizeL x (j+1)=j+1:=by simp [sizeL,hzj]
     exact hs.symm.trans this
    have HZ:Hid (∀ i,j+1<=i->x i=0):=hz
    have HC:Hid (∀ i,i<n->w.cell? ⟨b,off+i,none⟩=some (.int .u64 (x i))):=hc
    clear hs hz hc
    have HOWN:(w.alloc (.cells #[] 22)).ownsRow w.heap.size 22 1 (.slice (some ⟨w.heap.size,0,none⟩) 0 0) 0 [] :=
     ⟨rfl,Or.inr ⟨w.heap.size,0,#[],rfl,Nat.le_refl _,(MapKept.heap_alloc w _).1,Nat.le_refl _,by unfold maxLen;omega,rfl,rfl⟩⟩
    have HNEWS:∀ (q:Nat) (u:Value),((List.range (j+1)).map fun i=>Value.int .u64 (x i))[q]?=some u->(w.alloc (.cells #[] 22)).cell? ((⟨b,off,none⟩:Addr).add q)=some u:=by
     intro q u hq
     have hql:q<j+1:=by
      rcases Nat.lt_or_ge q (j+1) with h|h
      ·exact h
      ·rw [List.getElem?_eq_none (by simpa using h)] at hq;cases hq
     have e2:u=.int .u64 (x q):=by simpa [hql] using hq.symm
     rw [e2]
     have ea:(⟨b,off,none⟩:Addr).add q=⟨b,off+q,none⟩:=by simp [Addr.add]
     rw [ea]
     exact (((Below.refl w.heap.size w).alloc (Nat.le_refl _) _).cell (p:=⟨b,off+q,none⟩) hbs).trans (HC.out q (by omega))
    have HONE:∀ u ∈ ((List.range (j+1)).map fun i=>Value.int .u64 (x i)),u.oneCell'=true:=by
     intro u hu
     obtain ⟨q,_,rfl⟩:=List.mem_map.1 hu
     rfl
    go_wp2_with (at_builtin;refine wpList_append_lies _ rfl (.tmp 18) (.tmp 21) 48 rfl w.heap.size 22 i0 (.int .u64 0) 1 8 Tryz.underlying48 hi hz0 hz1 hz2 rfl (by decide) (.slice (some ⟨w.heap.size,0,none⟩) 0 0) 0 [] rfl HOWN ⟨b,off,none⟩ (j+1) c ((List.range (j+1)).map fun i=>Value.int .u64 (x i)) rfl (by simp) HNEWS HONE (by omega) (by unfold maxLen;omega) (by omega) (by simp) (w.heap.size+1) (by simp) ?_;intro g cap w1 hown hgrow hat hlt;clear HOWN HNEWS HONE)
    have hown':w1.ownsRow w.heap.size 22 1 (.slice (some ⟨g,0,none⟩) (j+1) cap) (j+1) ((List.range (j+1)).map fun i=>Value.int .u64 (x i)):=by
     have e0:0+(j+1)=j+1:=by omega
     rw [e0] at hown
     simpa using hown
    have HN:=num_of_owns (w:=w) h3 HZ.out hown' hlt
    have HB:Below w.heap.size w w1:=((Below.refl _ _).alloc (Nat.le_refl _) _).grown hgrow (by simp) (by intro k hk;cases hk;exact Nat.le_refl _)
    clear hown hown' hgrow
    go_wp2
    go_ret
    refine ⟨g,cap,?_,?_,HB⟩
    ·rw [HS.out];simp
    ·rw [HS.out];exact HN
theorem trim_nil (x:Nat->Int)(w:World)(hx:∀ i,x i=0) :
  Calls Tryz.prog 56 #[.slice none 0 0] w fun e w'=>∃ g cap,e=.returned (.slice (some ⟨g,0,none⟩) 0 cap)/\Num w' (some ⟨g,0,none⟩) 0 cap x/\Below w.heap.size w w':=by
 go_enter Tryz.func56,Tryz.ntmps56
 go_wp2
 go_loop [3] (fun t=>t=.int .i64 0) (fun t=>(intOf t).toNat)
 case atStart=>rfl
 case round =>
  subst hrel
  go_wp2
  go_ret
  refine ⟨w.heap.size,0,rfl,?_,(Below.refl _ _).alloc (Nat.le_refl _) _⟩
  exact ⟨Nat.le_refl _,by unfold maxLen;omega,fun i=>by rw [hx i];decide,fun i _=>hx i,Or.inr ⟨w.heap.size,0,rfl,by simp,fun i hi=>by omega⟩⟩
theorem trim_any (a:Option Addr)(n c:Nat)(x:Nat->Int)(w:World)(hn:n<4294967296)(h:Num w a n c x) :
  Calls Tryz.prog 56 #[.slice a n c] w fun e w'=>∃ g cap,e=.returned (.slice (some ⟨g,0,none⟩) (sizeL x n) cap)/\Num w' (some ⟨g,0,none⟩) (sizeL x n) cap x/\Below w.heap.size w w':=by
 have h':=h
 obtain ⟨h1,h2,h3,h4,h5⟩:=h'
 rcases h5 with ⟨rfl,rfl⟩|⟨b,off,rfl,_,_⟩
 ·obtain rfl:n=0:=by omega
  exact trim_nil x w (fun i=>h4 i (Nat.zero_le _))
 ·exact trim_some b off n c x w hn h
theorem wrap3 {a e b R:Int}(h:a*4294967296+e-b=R)(h0:0<=R)(h1:R<=18446744073709551615):IntKind.u64.wrap (IntKind.u64.wrap (IntKind.u64.wrap (a*4294967296)+e)-IntKind.u64.wrap b)=R:=by
 simp only [IntKind.wrap,IntKind.bits,IntKind.signed]
 simp
 omega
theorem div64_core (hi lo y Y d1 d0 u v e1 e0 Q1 R1 Q0 R0:Int)(S:Nat)(w:World)(hh:0<hi)(hl:0<=lo/\lo<=18446744073709551615)(hy:hi<y/\y<=18446744073709551615)(hS:S<64)
  (hlz:CQ 151 #[.int .u64 y] w (.int .i64 (S:Int)))
  (hY:IntKind.u64.wrap (y*2^S)=Y) (hd1:Y/4294967296=d1) (hd0:bits BinOp.and IntKind.u64 Y 4294967295=d0)
  (hu:bits BinOp.or IntKind.u64 (IntKind.u64.wrap (hi*2^S)) (lo/2^(64-S))=u) (hv:IntKind.u64.wrap (lo*2^S)=v) (he1:v/4294967296=e1) (he0:bits BinOp.and IntKind.u64 v 4294967295=e0)
  (D1:Dg u d1 d0 e1) (D0:Dg R1 d1 d0 e0) (hYe:Y=d1*4294967296+d0) (hY64:Y<=18446744073709551615)
  (hQ1:(u*4294967296+e1)/(d1*4294967296+d0)=Q1) (hR1:u*4294967296+e1-Q1*Y=R1) (hQ0:(R1*4294967296+e0)/(d1*4294967296+d0)=Q0) (hR0:R1*4294967296+e0-Q0*Y=R0) (hR0b:0<=R0/\R0<=18446744073709551615) :
  Calls Tryz.prog 117 #[.int .u64 hi,.int .u64 lo,.int .u64 y] w fun e w'=>e=.returned (.tuple #[.int .u64 (Q1*4294967296+Q0),.int .u64 (R0/2^S)])/\∃ m,w'=w.drewN m:=by
 have hy0:(y==0)=false:=by simp;omega
 have hh0:(hi==0)=false:=by simp;omega
 have f1:=D1.first
 have f0:=D0.first
 rw [hQ1] at f1
 rw [hQ0] at f0
 have d1p:=D1.a1
 have d1q:=D1.a2
 have d0p:=D1.b1
 have d0q:=D1.b2
 have e1p:=D1.e1
 have e1q:=D1.e2
 have e0p:=D0.e1
 have e0q:=D0.e2
 have up:=D1.u1
 have uq:u<=18446744073709551615:=by have:=D1.u2;omega
 have vp:=D0.u1
 have vq:R1<=18446744073709551615:=by have:=D0.u2;omega
 have hW1:IntKind.u64.wrap (IntKind.u64.wrap (IntKind.u64.wrap (u*4294967296)+e1)-IntKind.u64.wrap (Q1*Y))=R1:=wrap3 hR1 vp vq
 have hW0:IntKind.u64.wrap (IntKind.u64.wrap (IntKind.u64.wrap (R1*4294967296)+e0)-IntKind.u64.wrap (Q0*Y))=R0:=wrap3 hR0 hR0b.1 hR0b.2
 have HQ1:Hid ((u*4294967296+e1)/(d1*4294967296+d0)=Q1):=hQ1
 have HQ0:Hid ((R1*4294967296+e0)/(d1*4294967296+d0)=Q0):=hQ0
 have k1:Q1<4294967296:=by rw [← hQ1];exact D1.lt
 have k0:Q0<4294967296:=by rw [← hQ0];exact D0.lt
 have hq10:0<=Q1:=by rw [← hQ1];exact D1.nonneg
 have hq00:0<=Q0:=by rw [← hQ0];exact D0.nonneg
 clear hQ1 hYe hR1 hQ0 hR0
 obtain ⟨q,hq⟩:∃ q,u/d1=q:=⟨_,rfl⟩
 obtain ⟨r,hr⟩:∃ r,u%d1=r:=⟨_,rfl⟩
 rw [hq,hr] at f1
 obtain ⟨p2,hp2⟩:∃ q,R1/d1=q:=⟨_,rfl⟩
 obtain ⟨s2,hs2⟩:∃ r,R1%d1=r:=⟨_,rfl⟩
 rw [hp2,hs2] at f0
 obtain ⟨f1a,f1b,f1c,f1d,f1e⟩:=f1
 obtain ⟨f0a,f0b,f0c,f0d,f0e⟩:=f0
 have hqd0:0<=q*d1:=Int.mul_nonneg (by omega) (by omega)
 have hqd1:q*d1<=18446744073709551615:=by omega
 have hqr:u-q*d1=r:=by omega
 have hpd0:0<=p2*d1:=Int.mul_nonneg (by omega) (by omega)
 have hpd1:p2*d1<=18446744073709551615:=by omega
 have hpr:R1-p2*d1=s2:=by omega
 have F1A:Hid (q*d1+r=u):=f1a
 have F0A:Hid (p2*d1+s2=R1):=f0a
 have D1H:Hid (Dg u d1 d0 e1):=D1
 have D0H:Hid (Dg R1 d1 d0 e0):=D0
 clear f1a hr f0a hs2 D1 D0
 go_enter Tryz.func117,Tryz.ntmps117
 go_wp2_with (first|(go_at_call 151;refine hlz.mono ?_;rintro e w' ⟨rfl,rfl⟩))
 go_loop [15,16] (fun a b=>∃ q r,a=.int .u64 q/\b=.int .u64 r/\Hid (q*d1+r=u)/\Q1<=q/\q<=4294967297/\0<=r/\r<4294967296) (fun a _=>(intOf a).toNat)
 case atStart=>exact ⟨q,r,by first|rfl|rw [hq],rfl,F1A,f1b,f1c,f1d,f1e⟩
 case round =>
  clear f1b f1c f1d f1e hqd0 hqd1 F1A hqr
  obtain ⟨q1,r1,rfl,rfl,hqr,hge,hle,hr0,hr1⟩:=hrel
  have hm0:0<=q1*d0:=Int.mul_nonneg (by omega) d0p
  by_cases hbig:4294967296<=q1
  ·have hg1:Q1<=q1-1:=by have:=D1H.out.big' hbig;rw [HQ1.out] at this;exact this
   by_cases hb:r1+d1<4294967296
   ·go_wp2
    go_round
    case rel=>exact ⟨q1-1,r1+d1,rfl,rfl,by show _=_;rw [Int.sub_mul];have:=hqr.out;omega,hg1,by omega,by omega,hb⟩
    case measure=>simp [intOf];omega
   ·have hqq:q1-1=Q1:=by
     have:=D1H.out.right' (q:=q1-1) (r:=r1+d1) (by rw [Int.sub_mul];have:=hqr.out;omega) (by rw [HQ1.out];exact hg1) (by omega) (by omega)
     rw [HQ1.out] at this;exact this.symm
    go_wp2
    clear hqr hge hle hr0 hr1 hm0
    go_loop [18,16] (fun a b=>∃ q r,a=.int .u64 q/\b=.int .u64 r/\Hid (q*d1+r=R1)/\Q0<=q/\q<=4294967297/\0<=r/\r<4294967296) (fun a _=>(intOf a).toNat)
    case atStart=>exact ⟨p2,s2,by first|rfl|rw [hp2],rfl,F0A,f0b,f0c,f0d,f0e⟩
    case round =>
     clear f0b f0c f0d f0e hpd0 hpd1 F0A hpr
     obtain ⟨q3,r3,rfl,rfl,hqr,hge,hle,hr0,hr1⟩:=hrel
     have hm0:0<=q3*d0:=Int.mul_nonneg (by omega) d0p
     by_cases hbig:4294967296<=q3
     ·have hg1:Q0<=q3-1:=by have:=D0H.out.big' hbig;rw [HQ0.out] at this;exact this
      by_cases hb:r3+d1<4294967296
      ·go_wp2
       go_round
       case rel=>exact ⟨q3-1,r3+d1,rfl,rfl,by show _=_;rw [Int.sub_mul];have:=hqr.out;omega,hg1,by omega,by omega,hb⟩
       case measure=>simp [intOf];omega
      ·have hqq:q3-1=Q0:=by
        have:=D0H.out.right' (q:=q3-1) (r:=r3+d1) (by rw [Int.sub_mul];have:=hqr.out;omega) (by rw [HQ0.out];exact hg1) (by omega) (by omega)
        rw [HQ0.out] at this;exact this.symm
       go_wp2
       go_ret2
       exact ⟨rfl,0,rfl⟩
     ·have hsm:q3<4294967296:=by omega
      have hm1:q3*d0<=4294967295*4294967295:=Int.mul_le_mul (by omega) (by omega) d0p (by decide)
      by_cases ht:4294967296*r3+e0<q3*d0
      ·have hg1:Q0<=q3-1:=by have:=D0H.out.big hqr.out ht;rw [HQ0.out] at this;exact this
       by_cases hb:r3+d1<4294967296
       ·go_wp2
        go_round
        case rel=>exact ⟨q3-1,r3+d1,rfl,rfl,by show _=_;rw [Int.sub_mul];have:=hqr.out;omega,hg1,by omega,by omega,hb⟩
        case measure=>simp [intOf];omega
       ·have hqq:q3-1=Q0:=by
         have:=D0H.out.right' (q:=q3-1) (r:=r3+d1) (by rw [Int.sub_mul];have:=hqr.out;omega) (by rw [HQ0.out];exact hg1) (by omega) (by omega)
         rw [HQ0.out] at this;exact this.symm
        go_wp2
        go_ret2
        exact ⟨rfl,0,rfl⟩
      ·obtain rfl:Q0=q3:=by
        have:=D0H.out.right hqr.out (by rw [HQ0.out];exact hge) (by omega)
        rw [HQ0.out] at this;exact this
       go_wp2
       go_ret2
       exact ⟨rfl,0,rfl⟩
  ·have hsm:q1<4294967296:=by omega
   have hm1:q1*d0<=4294967295*4294967295:=Int.mul_le_mul (by omega) (by omega) d0p (by decide)
   by_cases ht:4294967296*r1+e1<q1*d0
   ·have hg1:Q1<=q1-1:=by have:=D1H.out.big hqr.out ht;rw [HQ1.out] at this;exact this
    by_cases hb:r1+d1<4294967296
    ·go_wp2
     go_round
     case rel=>exact ⟨q1-1,r1+d1,rfl,rfl,by show _=_;rw [Int.sub_mul];have:=hqr.out;omega,hg1,by omega,by omega,hb⟩
     case measure=>simp [intOf];omega
    ·have hqq:q1-1=Q1:=by
      have:=D1H.out.right' (q:=q1-1) (r:=r1+d1) (by rw [Int.sub_mul];have:=hqr.out;omega) (by rw [HQ1.out];exact hg1) (by omega) (by omega)
      rw [HQ1.out] at this;exact this.symm
     go_wp2
     clear hqr hge hle hr0 hr1 hm0
     go_loop [18,16] (fun a b=>∃ q r,a=.int .u64 q/\b=.int .u64 r/\Hid (q*d1+r=R1)/\Q0<=q/\q<=4294967297/\0<=r/\r<4294967296) (fun a _=>(intOf a).toNat)
     case atStart=>exact ⟨p2,s2,by first|rfl|rw [hp2],rfl,F0A,f0b,f0c,f0d,f0e⟩
     case round =>
      clear f0b f0c f0d f0e hpd0 hpd1 F0A hpr
      obtain ⟨q3,r3,rfl,rfl,hqr,hge,hle,hr0,hr1⟩:=hrel
      have hm0:0<=q3*d0:=Int.mul_nonneg (by omega) d0p
      by_cases hbig:4294967296<=q3
      ·have hg1:Q0<=q3-1:=by have:=D0H.out.big' hbig;rw [HQ0.out] at this;exact this
       by_cases hb:r3+d1<4294967296
       ·go_wp2
        go_round
        case rel=>exact ⟨q3-1,r3+d1,rfl,rfl,by show _=_;rw [Int.sub_mul];have:=hqr.out;omega,hg1,by omega,by omega,hb⟩
        case measure=>simp [intOf];omega
       ·have hqq:q3-1=Q0:=by
         have:=D0H.out.right' (q:=q3-1) (r:=r3+d1) (by rw [Int.sub_mul];have:=hqr.out;omega) (by rw [HQ0.out];exact hg1) (by omega) (by omega)
         rw [HQ0.out] at this;exact this.symm
        go_wp2
        go_ret2
        exact ⟨rfl,0,rfl⟩
      ·have hsm:q3<4294967296:=by omega
       have hm1:q3*d0<=4294967295*4294967295:=Int.mul_le_mul (by omega) (by omega) d0p (by decide)
       by_cases ht:4294967296*r3+e0<q3*d0
       ·have hg1:Q0<=q3-1:=by have:=D0H.out.big hqr.out ht;rw [HQ0.out] at this;exact this
        by_cases hb:r3+d1<4294967296
        ·go_wp2
         go_round
         case rel=>exact ⟨q3-1,r3+d1,rfl,rfl,by show _=_;rw [Int.sub_mul];have:=hqr.out;omega,hg1,by omega,by omega,hb⟩
         case measure=>simp [intOf];omega
        ·have hqq:q3-1=Q0:=by
          have:=D0H.out.right' (q:=q3-1) (r:=r3+d1) (by rw [Int.sub_mul];have:=hqr.out;omega) (by rw [HQ0.out];exact hg1) (by omega) (by omega)
          rw [HQ0.out] at this;exact this.symm
         go_wp2
         go_ret2
         exact ⟨rfl,0,rfl⟩
       ·obtain rfl:Q0=q3:=by
         have:=D0H.out.right hqr.out (by rw [HQ0.out];exact hge) (by omega)
         rw [HQ0.out] at this;exact this
        go_wp2
        go_ret2
        exact ⟨rfl,0,rfl⟩
   ·obtain rfl:Q1=q1:=by
     have:=D1H.out.right hqr.out (by rw [HQ1.out];exact hge) (by omega)
     rw [HQ1.out] at this;exact this
    go_wp2
    clear hqr hge hle hr0 hr1 hm0
    go_loop [18,16] (fun a b=>∃ q r,a=.int .u64 q/\b=.int .u64 r/\Hid (q*d1+r=R1)/\Q0<=q/\q<=4294967297/\0<=r/\r<4294967296) (fun a _=>(intOf a).toNat)
    case atStart=>exact ⟨p2,s2,by first|rfl|rw [hp2],rfl,F0A,f0b,f0c,f0d,f0e⟩
    case round =>
     clear f0b f0c f0d f0e hpd0 hpd1 F0A hpr
     obtain ⟨q3,r3,rfl,rfl,hqr,hge,hle,hr0,hr1⟩:=hrel
     have hm0:0<=q3*d0:=Int.mul_nonneg (by omega) d0p
     by_cases hbig:4294967296<=q3
     ·have hg1:Q0<=q3-1:=by have:=D0H.out.big' hbig;rw [HQ0.out] at this;exact this
      by_cases hb:r3+d1<4294967296
      ·go_wp2
       go_round
       case rel=>exact ⟨q3-1,r3+d1,rfl,rfl,by show _=_;rw [Int.sub_mul];have:=hqr.out;omega,hg1,by omega,by omega,hb⟩
       case measure=>simp [intOf];omega
      ·have hqq:q3-1=Q0:=by
        have:=D0H.out.right' (q:=q3-1) (r:=r3+d1) (by rw [Int.sub_mul];have:=hqr.out;omega) (by rw [HQ0.out];exact hg1) (by omega) (by omega)
        rw [HQ0.out] at this;exact this.symm
       go_wp2
       go_ret2
       exact ⟨rfl,0,rfl⟩
     ·have hsm:q3<4294967296:=by omega
      have hm1:q3*d0<=4294967295*4294967295:=Int.mul_le_mul (by omega) (by omega) d0p (by decide)
      by_cases ht:4294967296*r3+e0<q3*d0
      ·have hg1:Q0<=q3-1:=by have:=D0H.out.big hqr.out ht;rw [HQ0.out] at this;exact this
       by_cases hb:r3+d1<4294967296
       ·go_wp2
        go_round
        case rel=>exact ⟨q3-1,r3+d1,rfl,rfl,by show _=_;rw [Int.sub_mul];have:=hqr.out;omega,hg1,by omega,by omega,hb⟩
        case measure=>simp [intOf];omega
       ·have hqq:q3-1=Q0:=by
         have:=D0H.out.right' (q:=q3-1) (r:=r3+d1) (by rw [Int.sub_mul];have:=hqr.out;omega) (by rw [HQ0.out];exact hg1) (by omega) (by omega)
         rw [HQ0.out] at this;exact this.symm
        go_wp2
        go_ret2
        exact ⟨rfl,0,rfl⟩
      ·obtain rfl:Q0=q3:=by
        have:=D0H.out.right hqr.out (by rw [HQ0.out];exact hge) (by omega)
        rw [HQ0.out] at this;exact this
       go_wp2
       go_ret2
       exact ⟨rfl,0,rfl⟩
end Go.Proofs.YtgknbdehlmlipaaGreatDoor
