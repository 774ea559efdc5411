/-
  Texts that the proof leans on.
-/
import Derived.Test.YtgknbdehlmlipaaGreatDoorL1
import Derived.Deep.RegionHeld3
import Derived.Deep.DrawnRows
import Derived.BigQuiet
import Derived.Deep.AppendLies
import Derived.Test.YtgknbdehlmlipaaGreatDoorL4
set_option linter.unusedVariables false
set_option linter.unusedSectionVars false
set_option linter.unusedSimpArgs false
set_option maxHeartbeats 8000000
set_option maxRecDepth 20000
namespace Go.Proofs.YtgknbdehlmlipaaGreatDoor
open Go.RowKit
section
attribute [local go_sem ↓] Go.wp_at_zero Go.wp_at_succ
theorem setCell_drewN (w:World)(n:Nat)(a:Addr)(v:Value):(w.drewN n).setCell a v=(w.setCell a v).drewN n:=rfl
theorem alloc_drewN (w:World)(n:Nat)(o:Obj):(w.drewN n).alloc o=(w.alloc o).drewN n:=rfl
attribute [local go_sem] setCell_drewN alloc_drewN
def carryW (x y:Nat->Int):Nat->Int
 | 0=>0
 | k+1=>(x k+y k+carryW x y k)/18446744073709551616
def sumW (x y:Nat->Int)(k:Nat):Int:=(x k+y k+carryW x y k)%18446744073709551616
def Words (x:Nat->Int):Prop:=∀ i,0<=x i/\x i<=18446744073709551615
theorem carryW_01 {x y:Nat->Int}(hx:Words x)(hy:Words y)(k:Nat):0<=carryW x y k/\carryW x y k<=1:=by
 induction k with
 | zero=>simp [carryW]
 | succ k ih=>have:=hx k;have:=hy k;simp only [carryW];omega
def borW (x y:Nat->Int):Nat->Int
 | 0=>0
 | k+1=>bor (x k) (y k) (borW x y k)
def difW (x y:Nat->Int)(k:Nat):Int:=(x k-y k-borW x y k)%18446744073709551616
theorem bor_01 (x y b:Int):0<=bor x y b/\bor x y b<=1:=by unfold bor;split<;>omega
theorem borW_01 (x y:Nat->Int)(k:Nat):0<=borW x y k/\borW x y k<=1:=by
 cases k with
 | zero=>simp [borW]
 | succ k=>exact bor_01 _ _ _
theorem below_alloc4 (w:World)(o1 o2 o3 o4:Obj)(m:Nat):Below w.heap.size w ((((((w.alloc o1).alloc o2).alloc o3).alloc o4).drewN m)):=by
 have h:=((((Below.refl w.heap.size w).alloc (Nat.le_refl _) o1).alloc (by simp) o2).alloc (by simp;omega) o3).alloc (by simp;omega) o4
 exact ⟨h.os,h.tape,h.output,h.size,h.block⟩
theorem below_alloc3 (w:World)(o1 o2 o3:Obj)(m:Nat):Below w.heap.size w (((((w.alloc o1).alloc o2).alloc o3).drewN m)):=by
 have h:=(((Below.refl w.heap.size w).alloc (Nat.le_refl _) o1).alloc (by simp) o2).alloc (by simp;omega) o3
 exact ⟨h.os,h.tape,h.output,h.size,h.block⟩
theorem set_next {ss:Array Value}{k:Nat}{f:Nat->Int}(hss:∀ j h,ss[j]'h=Value.int .u64 (if j<k then f j else 0))(j:Nat)(h:j<(ss.setIfInBounds k (.int .u64 (f k))).size):(ss.setIfInBounds k (.int .u64 (f k)))[j]'h=Value.int .u64 (if j<k+1 then f j else 0):=by
 have h':j<ss.size:=by simpa using h
 rw [Array.getElem_setIfInBounds]
 by_cases e:k=j
 ·subst e;simp
 ·rw [if_neg e,hss j h']
  by_cases e2:j<k
  ·simp [e2,Nat.lt_succ_of_lt e2]
  ·simp [e2,show ¬ j<k+1 by omega]
 exact h'
end
section
attribute [local go_sem] setCell_drewN alloc_drewN
theorem div64_0 (lo y:Int)(w:World)(hl:0<=lo/\lo<=18446744073709551615)(hy:0<y/\y<=18446744073709551615) :
  Calls Tryz.prog 117 #[.int .u64 0,.int .u64 lo,.int .u64 y] w fun e w'=>e=.returned (.tuple #[.int .u64 (lo/y),.int .u64 (lo%y)])/\∃ m,w'=w.drewN m:=by
 have hy0:¬ y=0:=by omega
 go_enter Tryz.func117,Tryz.ntmps117
 go_wp2
 go_quiet (fail)
 go_wp2
 go_ret2
 exact ⟨rfl,_,rfl⟩
def remJ (x:Nat->Int)(d:Int)(n:Nat):Nat->Int
 | 0=>0
 | j+1=>(remJ x d n j*18446744073709551616+x (n-1-j))%d
def quoW (x:Nat->Int)(d:Int)(n j:Nat):Int:=(remJ x d n (n-1-j)*18446744073709551616+x j)/d
theorem remJ_bd (x:Nat->Int)(d:Int)(n j:Nat)(hd:0<d):0<=remJ x d n j/\remJ x d n j<d:=by
 cases j with
 | zero=>exact ⟨Int.le_refl _,hd⟩
 | succ j=>exact ⟨Int.emod_nonneg _ (by omega),Int.emod_lt_of_pos _ hd⟩
theorem set_prev {ss:Array Value}{k:Nat}{f:Nat->Int}(hss:∀ j h,ss[j]'h=Value.int .u64 (if k+1<=j then f j else 0))(j:Nat)(h:j<(ss.setIfInBounds k (.int .u64 (f k))).size):(ss.setIfInBounds k (.int .u64 (f k)))[j]'h=Value.int .u64 (if k<=j then f j else 0):=by
 have h':j<ss.size:=by simpa using h
 rw [Array.getElem_setIfInBounds]
 by_cases e:k=j
 ·subst e;simp
 ·rw [if_neg e,hss j h']
  by_cases e2:k<=j
  ·simp [e2,show k+1<=j by omega]
  ·simp [e2,show ¬ k+1<=j by omega]
 exact h'
theorem bcell {W w1:World}(hb:Below W.heap.size W w1):(∀ b o,b<W.heap.size->w1.cell? ⟨b,o,none⟩=W.cell? ⟨b,o,none⟩)/\(∀ b o,b<W.heap.size->w1.frozen? ⟨b,o,none⟩=W.frozen? ⟨b,o,none⟩) :=
 ⟨fun b o h=>hb.cell (p:=⟨b,o,none⟩) h,fun b o h=>hb.frozen (p:=⟨b,o,none⟩) h⟩
end
def Num (w:World)(a:Option Addr)(n c:Nat)(x:Nat->Int):Prop :=
 n<=c/\c<=maxLen/\Words x/\(∀ i,n<=i->x i=0)/\((a=none/\c=0)∨∃ b off,a=some ⟨b,off,none⟩/\b<w.heap.size/\∀ i,i<n->w.cell? ⟨b,off+i,none⟩=some (.int .u64 (x i)))
theorem Num.next {w w':World}{a:Option Addr}{n c:Nat}{x:Nat->Int}(h:Num w a n c x)(hb:Below w.heap.size w w'):Num w' a n c x:=by
 obtain ⟨h1,h2,h3,h4,h5⟩:=h
 refine ⟨h1,h2,h3,h4,?_⟩
 rcases h5 with h5|⟨b,off,h6,h7,h8⟩
 ·exact Or.inl h5
 ·exact Or.inr ⟨b,off,h6,Nat.lt_of_lt_of_le h7 hb.size,fun i hi=>(hb.cell (p:=⟨b,off+i,none⟩) h7).trans (h8 i hi)⟩
theorem Num.drewN {w:World}{a:Option Addr}{n c:Nat}{x:Nat->Int}(h:Num w a n c x)(m:Nat):Num (w.drewN m) a n c x:=h
theorem word_any (a:Option Addr)(n c i:Nat)(x:Nat->Int)(w:World)(h:Num w a n c x) :
  Calls Tryz.prog 55 #[.slice a n c,.int .i64 i] w fun e w'=>e=.returned (.int .u64 (x i))/\w'=w:=by
 obtain ⟨h1,h2,h3,h4,h5⟩:=h
 by_cases hi:i<n
 ·rcases h5 with ⟨rfl,rfl⟩|⟨b,off,rfl,hbs,hc⟩
  ·omega
  ·have hci:=hc i hi
   have hi':(i:Int)<n:=by omega
   clear hc h4 h3
   go_enter Tryz.func55,Tryz.ntmps55
   go_wp2
   go_ret
   exact ⟨rfl,rfl⟩
 ·have hz:=h4 i (by omega)
  have HZ:Hid (x i=0):=hz
  clear hz h4 h3 h5
  go_enter Tryz.func55,Tryz.ntmps55
  go_wp2
  go_ret
  exact ⟨ret_int HZ.out.symm,rfl⟩
def cmpL (x y:Nat->Int):Nat->Int
 | 0=>0
 | n+1=>if x n<y n then -1 else if y n<x n then 1 else cmpL x y n
theorem cmp_any (a a':Option Addr)(n c n' c':Nat)(x y:Nat->Int)(w:World)(hn:n<4294967296)(hn':n'<4294967296)(h:Num w a n c x)(h':Num w a' n' c' y) :
  Calls Tryz.prog 25 #[.slice a n c,.slice a' n' c'] w fun e w'=>e=.returned (.int .i64 (cmpL x y (max n n')))/\w'=w:=by
 have hw1:=fun i=>word_any a n c i x w h
 have hw2:=fun i=>word_any a' n' c' i y w h'
 clear h h'
 go_enter Tryz.func25,Tryz.ntmps25
 go_wp2
 go_loop [5,6,7] (fun t u6 u7=>∃ k:Nat,k<=max n n'/\cmpL x y k=cmpL x y (max n n')/\t=.int .i64 ((k:Int)-1)) (fun t _ _=>(intOf t+1).toNat)
 case atStart=>exact ⟨max n n',Nat.le_refl _,rfl,by go_num⟩
 case round =>
  obtain ⟨k,hk,hs,rfl⟩:=hrel
  by_cases h0:k=0
  ·subst h0
   have HS:Hid (cmpL x y (max n n')=0):=hs.symm
   clear hs
   go_wp2
   go_ret
   exact ⟨ret_int HS.out.symm,rfl⟩
  ·obtain ⟨j,rfl⟩:∃ j,k=j+1:=⟨k-1,by omega⟩
   have ej:((j+1:Nat):Int)-1=j:=by omega
   have hj:j<4294967296:=by omega
   rw [ej]
   have HS:Hid ((if x j<y j then -1 else if y j<x j then 1 else cmpL x y j)=cmpL x y (max n n')):=hs
   have hkm:j<=max n n':=by omega
   clear hs ej hk
   have hwa:=hw1 j
   have hwb:=hw2 j
   by_cases hlt:x j<y j
   ·have HR:Hid (cmpL x y (max n n')=-1):=by rw [← HS.out,if_pos hlt];rfl
    clear HS
    go_wp2_with (first|(go_at_call_of 55 (Value.slice a n c);refine hwa.mono ?_;rintro e w' ⟨rfl,rfl⟩)|(go_at_call_of 55 (Value.slice a' n' c');refine hwb.mono ?_;rintro e w' ⟨rfl,rfl⟩))
    go_ret
    exact ⟨ret_int HR.out.symm,rfl⟩
   ·by_cases hgt:y j<x j
    ·have HR:Hid (cmpL x y (max n n')=1):=by rw [← HS.out,if_neg hlt,if_pos hgt];rfl
     clear HS
     go_wp2_with (first|(go_at_call_of 55 (Value.slice a n c);refine hwa.mono ?_;rintro e w' ⟨rfl,rfl⟩)|(go_at_call_of 55 (Value.slice a' n' c');refine hwb.mono ?_;rintro e w' ⟨rfl,rfl⟩))
     go_ret
     exact ⟨ret_int HR.out.symm,rfl⟩
    ·have HR:Hid (cmpL x y j=cmpL x y (max n n')):=by rw [← HS.out,if_neg hlt,if_neg hgt];rfl
     clear HS
     go_wp2_with (first|(go_at_call_of 55 (Value.slice a n c);refine hwa.mono ?_;rintro e w' ⟨rfl,rfl⟩)|(go_at_call_of 55 (Value.slice a' n' c');refine hwb.mono ?_;rintro e w' ⟨rfl,rfl⟩))
     go_round
     case rel=>exact ⟨j,hkm,HR.out,by go_num⟩
     case measure=>simp [intOf]
theorem Tryz.info22:(Tryz.prog.info? 22).map (fun i=>(i.zero,i.size,i.bytes))=some (some (.int .u64 0),1,8):=by kernel_rfl
theorem num_of_owns {w w':World}{g k cap base:Nat}{x:Nat->Int}(hx:Words x)(hz:∀ i,k<=i->x i=0)(h:w'.ownsRow base 22 1 (.slice (some ⟨g,0,none⟩) k cap) k ((List.range k).map fun i=>Value.int .u64 (x i)))(hg:g<w'.heap.size):Num w' (some ⟨g,0,none⟩) k cap x:=by
 obtain ⟨hl,h⟩:=h
 rcases h with ⟨h,_⟩|⟨g',cap',cur,he,hb,hh,h1,h2,h3,h4⟩
 ·cases h
 ·cases he
  refine ⟨h1,h2,hx,hz,Or.inr ⟨g,0,rfl,hg,fun i hi=>?_⟩⟩
  rw [Nat.zero_add]
  have hcur:cur[i]?=some (.int .u64 (x i)):=by
   have:(cur.toList.take (k*1))[i]?=some (.int .u64 (x i)):=by rw [h4];simp [hi]
   rw [List.getElem?_take] at this
   simpa [hi] using this
  unfold World.cell?
  simp [hh,hcur]
theorem trim_some (b off n c:Nat)(x:Nat->Int)(w:World)(hn:n<4294967296)(h:Num w (some ⟨b,off,none⟩) n c x) :
  Calls Tryz.prog 56 #[.slice (some ⟨b,off,none⟩) n c] w fun e w'=>∃ g cap,e=.returned (.slice (some ⟨g,0,none⟩) (sizeL x n) cap)/\Num w' (some ⟨g,0,none⟩) (sizeL x n) cap x/\Below w.heap.size w w':=by
 obtain ⟨h1,h2,h3,h4,h5⟩:=h
 have hc:b<w.heap.size/\∀ i,i<n->w.cell? ⟨b,off+i,none⟩=some (.int .u64 (x i)):=by
  rcases h5 with ⟨h,_⟩|⟨b',off',h,hbs,hc⟩
  ·cases h
  ·cases h;exact ⟨hbs,hc⟩
 obtain ⟨hbs,hc⟩:=hc
 clear h5
 obtain ⟨i0,hi,hz0,hz1,hz2⟩:=info_parts Tryz.info22
 unfold maxLen at h2
 go_enter Tryz.func56,Tryz.ntmps56
 go_wp2
 go_loop [3] (fun t=>∃ k:Nat,k<=n/\sizeL x k=sizeL x n/\(∀ i,k<=i->x i=0)/\t=.int .i64 k) (fun t=>(intOf t).toNat)
 case atStart=>exact ⟨n,Nat.le_refl _,rfl,h4,rfl⟩
 case round =>
  obtain ⟨k,hk,hs,hz,rfl⟩:=hrel
  clear h4
  by_cases h0:k=0
  ·subst h0
   have HS:Hid (sizeL x n=0):=hs.symm
   have HN:Hid (Num (w.alloc (.cells #[] 22)) (some ⟨w.heap.size,0,none⟩) 0 0 x):=⟨Nat.le_refl _,by unfold maxLen;omega,h3,hz,Or.inr ⟨w.heap.size,0,rfl,by simp,fun i hi=>by omega⟩⟩
   clear hs hz hc h3
   go_wp2
   go_ret
   refine ⟨w.heap.size,0,?_,?_,(Below.refl _ _).alloc (Nat.le_refl _) _⟩
   ·rw [HS.out];rfl
   ·rw [HS.out];exact HN.out
  ·obtain ⟨j,rfl⟩:∃ j,k=j+1:=⟨k-1,by omega⟩
   have hcj:=hc j (by omega)
   by_cases hzj:x j=0
   ·have HS:Hid (sizeL x j=sizeL x n):=by
     have:sizeL x (j+1)=sizeL x j:=by simp [sizeL,hzj]
     exact this.symm.trans hs
    have HZ:Hid (∀ i,j<=i->x i=0):=fun i hji=>by
     by_cases e:i=j
     ·rw [e];exact hzj
     ·exact hz i (by omega)
    clear hs hz hc
    go_wp2
    go_round
    case rel=>exact ⟨j,by omega,HS.out,HZ.out,by go_num⟩
    case measure=>simp [intOf]
   ·have HS:Hid (sizeL x n=j+1):=by
     have:sizeL x (j+1)=j+1:=by simp [sizeL,hzj]
     exact hs.symm.trans this
    have HZ:Hid (∀ i,j+1<=i->x i=0):=hz
    have HC:Hid (∀ i,i<n->w.cell? ⟨b,off+i,none⟩=some (.int .u64 (x i))):=hc
    clear hs hz hc
    have HOWN:(w.alloc (.cells #[] 22)).ownsRow w.heap.size 22 1 (.slice (some ⟨w.heap.size,0,none⟩) 0 0) 0 [] :=
     ⟨rfl,Or.inr ⟨w.heap.size,0,#[],rfl,Nat.le_refl _,(MapKept.heap_alloc w _).1,Nat.le_refl _,by unfold maxLen;omega,rfl,rfl⟩⟩
    have HNEWS:∀ (q:Nat) (u:Value),((List.range (j+1)).map fun i=>Value.int .u64 (x i))[q]?=some u->(w.alloc (.cells #[] 22)).cell? ((⟨b,off,none⟩:Addr).add q)=some u:=by
     intro q u hq
     have hql:q<j+1:=by
      rcases Nat.lt_or_ge q (j+1) with h|h
      ·exact h
      ·rw [List.getElem?_eq_none (by simpa using h)] at hq;cases hq
     have e2:u=.int .u64 (x q):=by simpa [hql] using hq.symm
     rw [e2]
     have ea:(⟨b,off,none⟩:Addr).add q=⟨b,off+q,none⟩:=by simp [Addr.add]
     rw [ea]
     exact (((Below.refl w.heap.size w).alloc (Nat.le_refl _) _).cell (p:=⟨b,off+q,none⟩) hbs).trans (HC.out q (by omega))
    have HONE:∀ u ∈ ((List.range (j+1)).map fun i=>Value.int .u64 (x i)),u.oneCell'=true:=by
     intro u hu
     obtain ⟨q,_,rfl⟩:=List.mem_map.1 hu
     rfl
    go_wp2_with (at_builtin;refine wpList_append_lies _ rfl (.tmp 18) (.tmp 21) 48 rfl w.heap.size 22 i0 (.int .u64 0) 1 8 Tryz.underlying48 hi hz0 hz1 hz2 rfl (by decide) (.slice (some ⟨w.heap.size,0,none⟩) 0 0) 0 [] rfl HOWN ⟨b,off,none⟩ (j+1) c ((List.range (j+1)).map fun i=>Value.int .u64 (x i)) rfl (by simp) HNEWS HONE (by omega) (by unfold maxLen;omega) (by omega) (by simp) (w.heap.size+1) (by simp) ?_;intro g cap w1 hown hgrow hat hlt;clear HOWN HNEWS HONE)
    have hown':w1.ownsRow w.heap.size 22 1 (.slice (some ⟨g,0,none⟩) (j+1) cap) (j+1) ((List.range (j+1)).map fun i=>Value.int .u64 (x i)):=by
     have e0:0+(j+1)=j+1:=by omega
     rw [e0] at hown
     simpa using hown
    have HN:=num_of_owns (w:=w) h3 HZ.out hown' hlt
    have HB:Below w.heap.size w w1:=((Below.refl _ _).alloc (Nat.le_refl _) _).grown hgrow (by simp) (by intro k hk;cases hk;exact Nat.le_refl _)
    clear hown hown' hgrow
    go_wp2
    go_ret
    refine ⟨g,cap,?_,?_,HB⟩
    ·rw [HS.out];simp
    ·rw [HS.out];exact HN
theorem trim_nil (x:Nat->Int)(w:World)(hx:∀ i,x i=0) :
  Calls Tryz.prog 56 #[.slice none 0 0] w fun e w'=>∃ g cap,e=.returned (.slice (some ⟨g,0,none⟩) 0 cap)/\Num w' (some ⟨g,0,none⟩) 0 cap x/\Below w.heap.size w w':=by
 go_enter Tryz.func56,Tryz.ntmps56
 go_wp2
 go_loop [3] (fun t=>t=.int .i64 0) (fun t=>(intOf t).toNat)
 case atStart=>rfl
 case round =>
  subst hrel
  go_wp2
  go_ret
  refine ⟨w.heap.size,0,rfl,?_,(Below.refl _ _).alloc (Nat.le_refl _) _⟩
  exact ⟨Nat.le_refl _,by unfold maxLen;omega,fun i=>by rw [hx i];decide,fun i _=>hx i,Or.inr ⟨w.heap.size,0,rfl,by simp,fun i hi=>by omega⟩⟩
theorem trim_any (a:Option Addr)(n c:Nat)(x:Nat->Int)(w:World)(hn:n<4294967296)(h:Num w a n c x) :
  Calls Tryz.prog 56 #[.slice a n c] w fun e w'=>∃ g cap,e=.returned (.slice (some ⟨g,0,none⟩) (sizeL x n) cap)/\Num w' (some ⟨g,0,none⟩) (sizeL x n) cap x/\Below w.heap.size w w':=by
 have h':=h
 obtain ⟨h1,h2,h3,h4,h5⟩:=h'
 rcases h5 with ⟨rfl,rfl⟩|⟨b,off,rfl,_,_⟩
 ·obtain rfl:n=0:=by omega
  exact trim_nil x w (fun i=>h4 i (Nat.zero_le _))
 ·exact trim_some b off n c x w hn h
section
attribute [local go_sem] setCell_drewN alloc_drewN
theorem mul64 (x y:Int)(hx:0<=x/\x<=18446744073709551615)(hy:0<=y/\y<=18446744073709551615)(w:World) :
  Calls Tryz.prog 59 #[.int .u64 x,.int .u64 y] w fun e w'=>e=.returned (.tuple #[.int .u64 (x*y/18446744073709551616),.int .u64 (x*y%18446744073709551616)])/\w'=w:=by
 obtain ⟨a,rfl⟩:=Int.eq_ofNat_of_zero_le hx.1
 obtain ⟨b,rfl⟩:=Int.eq_ofNat_of_zero_le hy.1
 have h:=Tryz.bits_Mul64 a b (by omega) (by omega) w
 rw [Int.natCast_ediv,Int.natCast_emod,Int.natCast_mul] at h
 exact h
theorem add64z (x y:Int)(hx:0<=x)(hy:0<=y)(w:World):(callFunc 54 #[.int .u64 x,.int .u64 y,.int .u64 0]).run Tryz.prog w =
  .ok (.value (.tuple #[.int .u64 ((x+y)%18446744073709551616),.int .u64 ((x+y)/18446744073709551616)])) w:=by
 simpa using add64 x y 0 hx hy (Int.le_refl 0) (by decide) w
def mulC (x:Nat->Int)(n:Int):Nat->Int
 | 0=>0
 | k+1=>x k*n/18446744073709551616+(x k*n%18446744073709551616+mulC x n k)/18446744073709551616
def mulP (x:Nat->Int)(n:Int)(k:Nat):Int:=(x k*n%18446744073709551616+mulC x n k)%18446744073709551616
theorem mul_bd (a b c:Int)(ha:0<=a/\a<=18446744073709551615)(hb:0<=b/\b<=18446744073709551615)(hc:0<=c/\c<=18446744073709551615):0<=a*b/18446744073709551616+(a*b%18446744073709551616+c)/18446744073709551616/\a*b/18446744073709551616+(a*b%18446744073709551616+c)/18446744073709551616<=18446744073709551615:=by
 have h1:0<=a*b:=Int.mul_nonneg ha.1 hb.1
 have h2:a*b<=18446744073709551615*18446744073709551615:=Int.mul_le_mul ha.2 hb.2 hb.1 (by decide)
 generalize a*b=P at *
 omega
theorem mulC_word {x:Nat->Int}{n:Int}(hx:Words x)(hn:0<=n/\n<=18446744073709551615):∀ k,0<=mulC x n k/\mulC x n k<=18446744073709551615
 | 0=>by simp [mulC]
 | k+1=>mul_bd _ _ _ (hx k) hn (mulC_word hx hn k)
theorem mulP_words (x:Nat->Int)(n:Int):Words (mulP x n):=fun i=>⟨Int.emod_nonneg _ (by decide),by have:=Int.emod_lt_of_pos (x i*n%18446744073709551616+mulC x n i) (b:=18446744073709551616) (by decide);unfold mulP;omega⟩
theorem mul_val (x:Nat->Int)(n:Int):∀ k,val (mulP x n) k+mulC x n k*18446744073709551616^k=val x k*n
 | 0=>by simp [val,mulC]
 | k+1=>by
  have ih:=mul_val x n k
  have e1:mulP x n k+mulC x n (k+1)*18446744073709551616=x k*n+mulC x n k:=by
   simp only [mulP,mulC];generalize x k*n=P;omega
  simp only [val]
  rw [Int.pow_succ]
  generalize (18446744073709551616:Int)^k=p at *
  generalize mulC x n (k+1)=c' at *
  generalize mulP x n k=d at *
  have e2:d=x k*n+mulC x n k-c'*18446744073709551616:=by omega
  rw [e2]
  grind
end
end Go.Proofs.YtgknbdehlmlipaaGreatDoor
