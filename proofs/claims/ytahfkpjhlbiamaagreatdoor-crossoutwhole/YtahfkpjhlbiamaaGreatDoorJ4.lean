/-
  Texts that the proof leans on.
-/
import Derived.Test.YtahfkpjhlbiamaaGreatDoorJ2
import Derived.Deep.RegionHeld3
import Derived.Deep.DrawnRows
import Derived.BigQuiet
import Derived.Deep.AppendLies
import Derived.BigRegion
import Derived.Test.YtahfkpjhlbiamaaGreatDoorJ1
import Derived.Test.YtahfkpjhlbiamaaGreatDoorJ3
import Derived.Deep.Cut
import Derived.Deep.CutRange
set_option linter.unusedVariables false
set_option linter.unusedSectionVars false
set_option linter.unusedSimpArgs false
set_option maxHeartbeats 8000000
set_option maxRecDepth 20000
namespace Go.Proofs.YtahfkpjhlbiamaaGreatDoor
open Go.RowKit
section
attribute [local go_sem ↓] Go.wp_at_zero Go.wp_at_succ
theorem zPa (w:World)(n:Nat)(a:Addr)(v:Value):(w.drewN n).setCell a v=(w.setCell a v).drewN n:=rfl
theorem zDb (w:World)(n:Nat)(o:Obj):(w.drewN n).alloc o=(w.alloc o).drewN n:=rfl
attribute [local go_sem] zPa zDb
def carryW (x y:Nat->Int):Nat->Int
 | 0=>0
 | k+1=>(x k+y k+carryW x y k)/18446744073709551616
def zNb (x y:Nat->Int)(k:Nat):Int:=(x k+y k+carryW x y k)%18446744073709551616
def zDa (x:Nat->Int):Prop:=∀ i,0<=x i/\x i<=18446744073709551615
theorem zXc {x y:Nat->Int}(hx:zDa x)(hy:zDa y)(k:Nat):0<=carryW x y k/\carryW x y k<=1:=by
 induction k with
 | zero=>simp [carryW]
 | succ k ih=>have:=hx k;have:=hy k;simp only [carryW];omega
def zXe (x y:Nat->Int):Nat->Int
 | 0=>0
 | k+1=>bor (x k) (y k) (zXe x y k)
def zZc (x y:Nat->Int)(k:Nat):Int:=(x k-y k-zXe x y k)%18446744073709551616
theorem zE0 (x y b:Int):0<=bor x y b/\bor x y b<=1:=by unfold bor;split<;>omega
theorem zIf (x y:Nat->Int)(k:Nat):0<=zXe x y k/\zXe x y k<=1:=by
 cases k with
 | zero=>simp [zXe]
 | succ k=>exact zE0 _ _ _
theorem zZi (w:World)(o1 o2 o3 o4:Obj)(m:Nat):Below w.heap.size w ((((((w.alloc o1).alloc o2).alloc o3).alloc o4).drewN m)):=by
 have h:=((((Below.refl w.heap.size w).alloc (Nat.le_refl _) o1).alloc (by simp) o2).alloc (by simp;omega) o3).alloc (by simp;omega) o4
 exact ⟨h.os,h.tape,h.output,h.size,h.block⟩
theorem zYd (w:World)(o1 o2 o3:Obj)(m:Nat):Below w.heap.size w (((((w.alloc o1).alloc o2).alloc o3).drewN m)):=by
 have h:=(((Below.refl w.heap.size w).alloc (Nat.le_refl _) o1).alloc (by simp) o2).alloc (by simp;omega) o3
 exact ⟨h.os,h.tape,h.output,h.size,h.block⟩
theorem zIc {ss:Array Value}{k:Nat}{f:Nat->Int}(hss:∀ j h,ss[j]'h=Value.int .u64 (if j<k then f j else 0))(j:Nat)(h:j<(ss.setIfInBounds k (.int .u64 (f k))).size):(ss.setIfInBounds k (.int .u64 (f k)))[j]'h=Value.int .u64 (if j<k+1 then f j else 0):=by
 have h':j<ss.size:=by simpa using h
 rw [Array.getElem_setIfInBounds]
 by_cases e:k=j
 ·subst e;simp
 ·rw [if_neg e,hss j h']
  by_cases e2:j<k
  ·simp [e2,Nat.lt_succ_of_lt e2]
  ·simp [e2,show ¬ j<k+1 by omega]
 exact h'
end
section
attribute [local go_sem] zPa zDb
theorem yPb (lo y:Int)(w:World)(hl:0<=lo/\lo<=18446744073709551615)(hy:0<y/\y<=18446744073709551615) :
  Calls Tryz.prog 170 #[.int .u64 0,.int .u64 lo,.int .u64 y] w fun e w'=>e=.returned (.tuple #[.int .u64 (lo/y),.int .u64 (lo%y)])/\∃ m,w'=w.drewN m:=by
 have hy0:¬ y=0:=by omega
 go_enter Tryz.func170,Tryz.ntmps170
 go_wp2
 go_quiet (fail)
 go_wp2
 go_ret2
 exact ⟨rfl,_,rfl⟩
def remJ (x:Nat->Int)(d:Int)(n:Nat):Nat->Int
 | 0=>0
 | j+1=>(remJ x d n j*18446744073709551616+x (n-1-j))%d
def quoW (x:Nat->Int)(d:Int)(n j:Nat):Int:=(remJ x d n (n-1-j)*18446744073709551616+x j)/d
theorem zFg (x:Nat->Int)(d:Int)(n j:Nat)(hd:0<d):0<=remJ x d n j/\remJ x d n j<d:=by
 cases j with
 | zero=>exact ⟨Int.le_refl _,hd⟩
 | succ j=>exact ⟨Int.emod_nonneg _ (by omega),Int.emod_lt_of_pos _ hd⟩
theorem zI2 {ss:Array Value}{k:Nat}{f:Nat->Int}(hss:∀ j h,ss[j]'h=Value.int .u64 (if k+1<=j then f j else 0))(j:Nat)(h:j<(ss.setIfInBounds k (.int .u64 (f k))).size):(ss.setIfInBounds k (.int .u64 (f k)))[j]'h=Value.int .u64 (if k<=j then f j else 0):=by
 have h':j<ss.size:=by simpa using h
 rw [Array.getElem_setIfInBounds]
 by_cases e:k=j
 ·subst e;simp
 ·rw [if_neg e,hss j h']
  by_cases e2:k<=j
  ·simp [e2,show k+1<=j by omega]
  ·simp [e2,show ¬ k+1<=j by omega]
 exact h'
theorem yIc {W w1:World}(hb:Below W.heap.size W w1):(∀ b o,b<W.heap.size->w1.cell? ⟨b,o,none⟩=W.cell? ⟨b,o,none⟩)/\(∀ b o,b<W.heap.size->w1.frozen? ⟨b,o,none⟩=W.frozen? ⟨b,o,none⟩) :=
 ⟨fun b o h=>hb.cell (p:=⟨b,o,none⟩) h,fun b o h=>hb.frozen (p:=⟨b,o,none⟩) h⟩
end
def Num (w:World)(a:Option Addr)(n c:Nat)(x:Nat->Int):Prop :=
 n<=c/\c<=maxLen/\zDa x/\(∀ i,n<=i->x i=0)/\((a=none/\c=0)∨∃ b off,a=some ⟨b,off,none⟩/\b<w.heap.size/\∀ i,i<n->w.cell? ⟨b,off+i,none⟩=some (.int .u64 (x i)))
theorem Num.next {w w':World}{a:Option Addr}{n c:Nat}{x:Nat->Int}(h:Num w a n c x)(hb:Below w.heap.size w w'):Num w' a n c x:=by
 obtain ⟨h1,h2,h3,h4,h5⟩:=h
 refine ⟨h1,h2,h3,h4,?_⟩
 rcases h5 with h5|⟨b,off,h6,h7,h8⟩
 ·exact Or.inl h5
 ·exact Or.inr ⟨b,off,h6,Nat.lt_of_lt_of_le h7 hb.size,fun i hi=>(hb.cell (p:=⟨b,off+i,none⟩) h7).trans (h8 i hi)⟩
theorem Num.drewN {w:World}{a:Option Addr}{n c:Nat}{x:Nat->Int}(h:Num w a n c x)(m:Nat):Num (w.drewN m) a n c x:=h
theorem zJb (a:Option Addr)(n c i:Nat)(x:Nat->Int)(w:World)(h:Num w a n c x) :
  Calls Tryz.prog 127 #[.slice a n c,.int .i64 i] w fun e w'=>e=.returned (.int .u64 (x i))/\w'=w:=by
 obtain ⟨h1,h2,h3,h4,h5⟩:=h
 by_cases hi:i<n
 ·rcases h5 with ⟨rfl,rfl⟩|⟨b,off,rfl,hbs,hc⟩
  ·omega
  ·have hci:=hc i hi
   have hi':(i:Int)<n:=by omega
   clear hc h4 h3
   go_enter Tryz.func127,Tryz.ntmps127
   go_wp2
   go_ret
   exact ⟨rfl,rfl⟩
 ·have hz:=h4 i (by omega)
  have HZ:Hid (x i=0):=hz
  clear hz h4 h3 h5
  go_enter Tryz.func127,Tryz.ntmps127
  go_wp2
  go_ret
  exact ⟨zWa HZ.out.symm,rfl⟩
def zMg (x y:Nat->Int):Nat->Int
 | 0=>0
 | n+1=>if x n<y n then -1 else if y n<x n then 1 else zMg x y n
theorem yDc (a a':Option Addr)(n c n' c':Nat)(x y:Nat->Int)(w:World)(hn:n<4294967296)(hn':n'<4294967296)(h:Num w a n c x)(h':Num w a' n' c' y) :
  Calls Tryz.prog 88 #[.slice a n c,.slice a' n' c'] w fun e w'=>e=.returned (.int .i64 (zMg x y (max n n')))/\w'=w:=by
 have hw1:=fun i=>zJb a n c i x w h
 have hw2:=fun i=>zJb a' n' c' i y w h'
 clear h h'
 go_enter Tryz.func88,Tryz.ntmps88
 go_wp2
 go_loop [5,6,7] (fun t u6 u7=>∃ k:Nat,k<=max n n'/\zMg x y k=zMg x y (max n n')/\t=.int .i64 ((k:Int)-1)) (fun t _ _=>(intOf t+1).toNat)
 case atStart=>exact ⟨max n n',Nat.le_refl _,rfl,by go_num⟩
 case round =>
  obtain ⟨k,hk,hs,rfl⟩:=hrel
  by_cases h0:k=0
  ·subst h0
   have HS:Hid (zMg x y (max n n')=0):=hs.symm
   clear hs
   go_wp2
   go_ret
   exact ⟨zWa HS.out.symm,rfl⟩
  ·obtain ⟨j,rfl⟩:∃ j,k=j+1:=⟨k-1,by omega⟩
   have ej:((j+1:Nat):Int)-1=j:=by omega
   have hj:j<4294967296:=by omega
   rw [ej]
   have HS:Hid ((if x j<y j then -1 else if y j<x j then 1 else zMg x y j)=zMg x y (max n n')):=hs
   have hkm:j<=max n n':=by omega
   clear hs ej hk
   have hwa:=hw1 j
   have hwb:=hw2 j
   by_cases hlt:x j<y j
   ·have HR:Hid (zMg x y (max n n')=-1):=by rw [← HS.out,if_pos hlt];rfl
    clear HS
    go_wp2_with (first|(go_at_call_of 127 (Value.slice a n c);refine hwa.mono ?_;rintro e w' ⟨rfl,rfl⟩)|(go_at_call_of 127 (Value.slice a' n' c');refine hwb.mono ?_;rintro e w' ⟨rfl,rfl⟩))
    go_ret
    exact ⟨zWa HR.out.symm,rfl⟩
   ·by_cases hgt:y j<x j
    ·have HR:Hid (zMg x y (max n n')=1):=by rw [← HS.out,if_neg hlt,if_pos hgt];rfl
     clear HS
     go_wp2_with (first|(go_at_call_of 127 (Value.slice a n c);refine hwa.mono ?_;rintro e w' ⟨rfl,rfl⟩)|(go_at_call_of 127 (Value.slice a' n' c');refine hwb.mono ?_;rintro e w' ⟨rfl,rfl⟩))
     go_ret
     exact ⟨zWa HR.out.symm,rfl⟩
    ·have HR:Hid (zMg x y j=zMg x y (max n n')):=by rw [← HS.out,if_neg hlt,if_neg hgt];rfl
     clear HS
     go_wp2_with (first|(go_at_call_of 127 (Value.slice a n c);refine hwa.mono ?_;rintro e w' ⟨rfl,rfl⟩)|(go_at_call_of 127 (Value.slice a' n' c');refine hwb.mono ?_;rintro e w' ⟨rfl,rfl⟩))
     go_round
     case rel=>exact ⟨j,hkm,HR.out,by go_num⟩
     case measure=>simp [intOf]
theorem Tryz.info22:(Tryz.prog.info? 22).map (fun i=>(i.zero,i.size,i.bytes))=some (some (.int .u64 0),1,8):=by kernel_rfl
theorem zRe {w w':World}{g k cap base:Nat}{x:Nat->Int}(hx:zDa x)(hz:∀ i,k<=i->x i=0)(h:w'.ownsRow base 22 1 (.slice (some ⟨g,0,none⟩) k cap) k ((List.range k).map fun i=>Value.int .u64 (x i)))(hg:g<w'.heap.size):Num w' (some ⟨g,0,none⟩) k cap x:=by
 obtain ⟨hl,h⟩:=h
 rcases h with ⟨h,_⟩|⟨g',cap',cur,he,hb,hh,h1,h2,h3,h4⟩
 ·cases h
 ·cases he
  refine ⟨h1,h2,hx,hz,Or.inr ⟨g,0,rfl,hg,fun i hi=>?_⟩⟩
  rw [Nat.zero_add]
  have hcur:cur[i]?=some (.int .u64 (x i)):=by
   have:(cur.toList.take (k*1))[i]?=some (.int .u64 (x i)):=by rw [h4];simp [hi]
   rw [List.getElem?_take] at this
   simpa [hi] using this
  unfold World.cell?
  simp [hh,hcur]
theorem zVv (b off n c:Nat)(x:Nat->Int)(w:World)(hn:n<4294967296)(h:Num w (some ⟨b,off,none⟩) n c x) :
  Calls Tryz.prog 128 #[.slice (some ⟨b,off,none⟩) n c] w fun e w'=>∃ g cap,e=.returned (.slice (some ⟨g,0,none⟩) (sizeL x n) cap)/\Num w' (some ⟨g,0,none⟩) (sizeL x n) cap x/\Below w.heap.size w w':=by
 obtain ⟨h1,h2,h3,h4,h5⟩:=h
 have hc:b<w.heap.size/\∀ i,i<n->w.cell? ⟨b,off+i,none⟩=some (.int .u64 (x i)):=by
  rcases h5 with ⟨h,_⟩|⟨b',off',h,hbs,hc⟩
  ·cases h
  ·cases h;exact ⟨hbs,hc⟩
 obtain ⟨hbs,hc⟩:=hc
 clear h5
 obtain ⟨i0,hi,hz0,hz1,hz2⟩:=info_parts Tryz.info22
 unfold maxLen at h2
 go_enter Tryz.func128,Tryz.ntmps128
 go_wp2
 go_loop [3] (fun t=>∃ k:Nat,k<=n/\sizeL x k=sizeL x n/\(∀ i,k<=i->x i=0)/\t=.int .i64 k) (fun t=>(intOf t).toNat)
 case atStart=>exact ⟨n,Nat.le_refl _,rfl,h4,rfl⟩
 case round =>
  obtain ⟨k,hk,hs,hz,rfl⟩:=hrel
  clear h4
  by_cases h0:k=0
  ·subst h0
   have HS:Hid (sizeL x n=0):=hs.symm
   have HN:Hid (Num (w.alloc (.cells #[] 22)) (some ⟨w.heap.size,0,none⟩) 0 0 x):=⟨Nat.le_refl _,by unfold maxLen;omega,h3,hz,Or.inr ⟨w.heap.size,0,rfl,by simp,fun i hi=>by omega⟩⟩
   clear hs hz hc h3
   go_wp2
   go_ret
   refine ⟨w.heap.size,0,?_,?_,(Below.refl _ _).alloc (Nat.le_refl _) _⟩
   ·rw [HS.out];rfl
   ·rw [HS.out];exact HN.out
  ·obtain ⟨j,rfl⟩:∃ j,k=j+1:=⟨k-1,by omega⟩
   have hcj:=hc j (by omega)
   by_cases hzj:x j=0
   ·have HS:Hid (sizeL x j=sizeL x n):=by
     have:sizeL x (j+1)=sizeL x j:=by simp [sizeL,hzj]
     exact this.symm.trans hs
    have HZ:Hid (∀ i,j<=i->x i=0):=fun i hji=>by
     by_cases e:i=j
     ·rw [e];exact hzj
     ·exact hz i (by omega)
    clear hs hz hc
    go_wp2
    go_round
    case rel=>exact ⟨j,by omega,HS.out,HZ.out,by go_num⟩
    case measure=>simp [intOf]
   ·have HS:Hid (sizeL x n=j+1):=by
     have:sizeL x (j+1)=j+1:=by simp [sizeL,hzj]
     exact hs.symm.trans this
    have HZ:Hid (∀ i,j+1<=i->x i=0):=hz
    have HC:Hid (∀ i,i<n->w.cell? ⟨b,off+i,none⟩=some (.int .u64 (x i))):=hc
    clear hs hz hc
    have HOWN:(w.alloc (.cells #[] 22)).ownsRow w.heap.size 22 1 (.slice (some ⟨w.heap.size,0,none⟩) 0 0) 0 [] :=
     ⟨rfl,Or.inr ⟨w.heap.size,0,#[],rfl,Nat.le_refl _,(MapKept.heap_alloc w _).1,Nat.le_refl _,by unfold maxLen;omega,rfl,rfl⟩⟩
    have HNEWS:∀ (q:Nat) (u:Value),((List.range (j+1)).map fun i=>Value.int .u64 (x i))[q]?=some u->(w.alloc (.cells #[] 22)).cell? ((⟨b,off,none⟩:Addr).add q)=some u:=by
     intro q u hq
     have hql:q<j+1:=by
      rcases Nat.lt_or_ge q (j+1) with h|h
      ·exact h
      ·rw [List.getElem?_eq_none (by simpa using h)] at hq;cases hq
     have e2:u=.int .u64 (x q):=by simpa [hql] using hq.symm
     rw [e2]
     have ea:(⟨b,off,none⟩:Addr).add q=⟨b,off+q,none⟩:=by simp [Addr.add]
     rw [ea]
     exact (((Below.refl w.heap.size w).alloc (Nat.le_refl _) _).cell (p:=⟨b,off+q,none⟩) hbs).trans (HC.out q (by omega))
    have HONE:∀ u ∈ ((List.range (j+1)).map fun i=>Value.int .u64 (x i)),u.oneCell'=true:=by
     intro u hu
     obtain ⟨q,_,rfl⟩:=List.mem_map.1 hu
     rfl
    go_wp2_with (at_builtin;refine wpList_append_lies _ rfl (.tmp 18) (.tmp 21) 61 rfl w.heap.size 22 i0 (.int .u64 0) 1 8 Tryz.underlying61 hi hz0 hz1 hz2 rfl (by decide) (.slice (some ⟨w.heap.size,0,none⟩) 0 0) 0 [] rfl HOWN ⟨b,off,none⟩ (j+1) c ((List.range (j+1)).map fun i=>Value.int .u64 (x i)) rfl (by simp) HNEWS HONE (by omega) (by unfold maxLen;omega) (by omega) (by simp) (w.heap.size+1) (by simp) ?_;intro g cap w1 hown hgrow hat hlt;clear HOWN HNEWS HONE)
    have hown':w1.ownsRow w.heap.size 22 1 (.slice (some ⟨g,0,none⟩) (j+1) cap) (j+1) ((List.range (j+1)).map fun i=>Value.int .u64 (x i)):=by
     have e0:0+(j+1)=j+1:=by omega
     rw [e0] at hown
     simpa using hown
    have HN:=zRe (w:=w) h3 HZ.out hown' hlt
    have HB:Below w.heap.size w w1:=((Below.refl _ _).alloc (Nat.le_refl _) _).grown hgrow (by simp) (by intro k hk;cases hk;exact Nat.le_refl _)
    clear hown hown' hgrow
    go_wp2
    go_ret
    refine ⟨g,cap,?_,?_,HB⟩
    ·rw [HS.out];simp
    ·rw [HS.out];exact HN
theorem zY1 (x:Nat->Int)(w:World)(hx:∀ i,x i=0) :
  Calls Tryz.prog 128 #[.slice none 0 0] w fun e w'=>∃ g cap,e=.returned (.slice (some ⟨g,0,none⟩) 0 cap)/\Num w' (some ⟨g,0,none⟩) 0 cap x/\Below w.heap.size w w':=by
 go_enter Tryz.func128,Tryz.ntmps128
 go_wp2
 go_loop [3] (fun t=>t=.int .i64 0) (fun t=>(intOf t).toNat)
 case atStart=>rfl
 case round =>
  subst hrel
  go_wp2
  go_ret
  refine ⟨w.heap.size,0,rfl,?_,(Below.refl _ _).alloc (Nat.le_refl _) _⟩
  exact ⟨Nat.le_refl _,by unfold maxLen;omega,fun i=>by rw [hx i];decide,fun i _=>hx i,Or.inr ⟨w.heap.size,0,rfl,by simp,fun i hi=>by omega⟩⟩
theorem zHc (a:Option Addr)(n c:Nat)(x:Nat->Int)(w:World)(hn:n<4294967296)(h:Num w a n c x) :
  Calls Tryz.prog 128 #[.slice a n c] w fun e w'=>∃ g cap,e=.returned (.slice (some ⟨g,0,none⟩) (sizeL x n) cap)/\Num w' (some ⟨g,0,none⟩) (sizeL x n) cap x/\Below w.heap.size w w':=by
 have h':=h
 obtain ⟨h1,h2,h3,h4,h5⟩:=h'
 rcases h5 with ⟨rfl,rfl⟩|⟨b,off,rfl,_,_⟩
 ·obtain rfl:n=0:=by omega
  exact zY1 x w (fun i=>h4 i (Nat.zero_le _))
 ·exact zVv b off n c x w hn h
theorem zAy (k:Nat):madeCells (Value.int .u64 0).cells k=arrOf (fun _=>0) k:=by
 apply Array.ext
 ·simp [madeCells]
 ·intro i h1 h2
  rw [zIa]
  simp [madeCells,Value.cells,Nat.mod_one]
theorem zAb (L:Int)(k:Nat)(hL:L=k)(hk:k<8589934592)(w:World):(Instr.makeSlice 61 (.int .i64 L) (.int .i64 L)).run Tryz.prog w=.ok (.slice (some ⟨w.heap.size,0,none⟩) k k) (w.alloc (.cells (arrOf (fun _=>0) k) 22)):=by
 obtain ⟨i0,hi,hz0,hz1,hz2⟩:=info_parts Tryz.info22
 rw [run_make w 61 22 i0 (.int .u64 0) Tryz.underlying61 hi hz0 .i64 .i64 L L (by omega) (by omega) (by rw [hz2];omega) (by omega)]
 have e1:L.toNat=k:=by omega
 rw [e1,hz1,Nat.mul_one,zAy]
theorem zQa {w:World}{k:Nat}{x:Nat->Int}{ss:Array Value}(hk:k<8589934592)(hx:zDa x)(hz:∀ i,k<=i->x i=0)(hsz:ss.size=k)(hss:∀ j h,ss[j]'h=Value.int .u64 (x j)):Num (w.alloc (.cells ss 22)) (some ⟨w.heap.size,0,none⟩) k k x:=by
 refine ⟨Nat.le_refl _,by unfold maxLen;omega,hx,hz,Or.inr ⟨w.heap.size,0,rfl,by simp,fun i hi=>?_⟩⟩
 rw [Nat.zero_add,World.cell?_alloc_new,Array.getElem?_eq_getElem (by omega),hss i (by omega)]
theorem zEa (w:World)(o:Obj):Below w.heap.size w (w.alloc o):=(Below.refl _ _).alloc (Nat.le_refl _) _
theorem zKd (x y:Nat->Int):zDa (zNb x y):=fun i=>⟨Int.emod_nonneg _ (by decide),by have:=Int.emod_lt_of_pos (x i+y i+carryW x y i) (b:=18446744073709551616) (by decide);unfold zNb;omega⟩
theorem zMn {x y:Nat->Int}{n:Nat}(hx:zDa x)(hy:zDa y)(zx:∀ i,n<=i->x i=0)(zy:∀ i,n<=i->y i=0):∀ i,n+1<=i->zNb x y i=0:=by
 have hc:∀ j,n+1<=j->carryW x y j=0:=by
  intro j hj
  obtain ⟨q,rfl⟩:∃ q,j=q+1:=⟨j-1,by omega⟩
  have:=zXc hx hy q
  simp only [carryW];rw [zx q (by omega),zy q (by omega)];omega
 intro i hi
 unfold zNb
 rw [zx i (by omega),zy i (by omega),hc i hi];rfl
theorem zIe (x y:Nat->Int):zDa (zZc x y):=fun i=>⟨Int.emod_nonneg _ (by decide),by have:=Int.emod_lt_of_pos (x i-y i-zXe x y i) (b:=18446744073709551616) (by decide);unfold zZc;omega⟩
def zFp (x y:Nat->Int)(M i:Nat):Int:=if i<M then zZc x y i else 0
theorem zOl (x y:Nat->Int)(M:Nat):zDa (zFp x y M):=fun i=>by unfold zFp;split;exact zIe x y i;decide
theorem zV2 (a a':Option Addr)(n c n' c':Nat)(x y:Nat->Int)(w:World)(hn:n<4294967290)(hn':n'<4294967290)(h:Num w a n c x)(h':Num w a' n' c' y) :
  Calls Tryz.prog 63 #[.slice a n c,.slice a' n' c'] w fun e w'=>∃ g k cap,e=.returned (.slice (some ⟨g,0,none⟩) k cap)/\k<=max n n'+1/\Num w' (some ⟨g,0,none⟩) k cap (zNb x y)/\Below w.heap.size w w':=by
 have hx:=h.2.2.1
 have hy:=h'.2.2.1
 have zx:=h.2.2.2.1
 have zy:=h'.2.2.2.1
 obtain ⟨M,hM⟩:∃ M,max n n'+1=M:=⟨_,rfl⟩
 have hMi:max (n:Int) n'+1=(M:Int):=by omega
 have hMb:M<4294967292:=by omega
 have hmk:=fun w=>zAb (max (n:Int) n'+1) M hMi (by omega) w
 have hfin:∀ (ss:Array Value),ss.size=M->(∀ j h,ss[j]'h=Value.int .u64 (zNb x y j))->Num (w.alloc (.cells ss 22)) (some ⟨w.heap.size,0,none⟩) M M (zNb x y):=fun ss h1 h2=>zQa (by omega) (zKd x y) (fun i hi=>zMn (n:=max n n') hx hy (fun i hi=>zx i (by omega)) (fun i hi=>zy i (by omega)) i (by omega)) h1 (fun j hj=>by rw [h2 j hj])
 have hw1:=fun (i:Nat) (ss:Array Value)=>zJb a n c i x (w.alloc (.cells ss 22)) (h.next (zEa w _))
 have hw2:=fun (i:Nat) (ss:Array Value)=>zJb a' n' c' i y (w.alloc (.cells ss 22)) (h'.next (zEa w _))
 have HM:Hid (max n n'+1=M):=hM
 have HZ:Hid ((arrOf (fun _=>0) M).size=M/\∀ j h,(arrOf (fun _=>0) M)[j]'h=Value.int .u64 0):=⟨arrOf_size _ _,fun j h=>zIa _ _ _ _⟩
 clear h h' zx zy hM hMi
 generalize arrOf (fun _=>0) M=zz at *
 go_enter Tryz.func63,Tryz.ntmps63
 go_wp2
 go_loopw [6,7,17,20] (fun c u7 i u20 wr=>∃ (k:Nat) (ss:Array Value),k<=M/\i=.int .i64 k/\c=.int .u64 (carryW x y k)/\ss.size=M/\(∀ j h,ss[j]'h=Value.int .u64 (if j<k then zNb x y j else 0))/\wr=w.alloc (.cells ss 22)) (fun _ _ i _ _=>M-(intOf i).toNat)
 case atStart=>exact ⟨0,zz,Nat.zero_le _,rfl,rfl,HZ.out.1,fun j h=>by rw [HZ.out.2 j h];simp,rfl⟩
 case round =>
  obtain ⟨k,ss,hk,rfl,rfl,hsz,hss,rfl⟩:=hrel
  have hcar:=zXc hx hy k
  by_cases h8:k<M
  ·have h8i:(k:Int)<M:=by omega
   have h8s:k<ss.size:=by omega
   have bx:=hx k
   have b_y:=hy k
   have hsk:ss[k]?=some (.int .u64 0):=by rw [Array.getElem?_eq_getElem h8s,hss k h8s,if_neg (by omega)]
   have hadd:=fun w=>zZu (x k) (y k) (carryW x y k) bx.1 b_y.1 hcar.1 hcar.2 w
   have hwa:=hw1 k ss
   have hwb:=hw2 k ss
   have HR:Hid (∀ (i:Nat) (h:i<(ss.setIfInBounds k (.int .u64 (zNb x y k))).size),(ss.setIfInBounds k (.int .u64 (zNb x y k)))[i]'h=Value.int .u64 (if i<k+1 then zNb x y i else 0)):=zIc hss
   clear hss hw1 hw2 hfin hmk hx hy
   go_wp2_with (first|(go_at_call_of 127 (Value.slice a n c);refine hwa.mono ?_;rintro e w' ⟨rfl,rfl⟩)|(go_at_call_of 127 (Value.slice a' n' c');refine hwb.mono ?_;rintro e w' ⟨rfl,rfl⟩))
   go_roundw
   case rel=>exact ⟨k+1,ss.setIfInBounds k (.int .u64 (zNb x y k)),by omega,by go_num,rfl,by simp [hsz],HR.out,rfl⟩
   case measure=>simp [intOf];omega
  ·obtain rfl:k=M:=by omega
   have hss':∀ j h,ss[j]'h=Value.int .u64 (zNb x y j):=by
    intro j h;rw [hss j h,if_pos (by omega)]
   have hT:=zHc _ _ _ _ _ (by omega) (hfin ss hsz hss')
   have hle:=zCa (zNb x y) k
   clear hss hss' hw1 hw2 hfin hmk hx hy
   go_wp2_with (go_at_call 128;refine hT.mono ?_;rintro e w1 ⟨g,cap,rfl,hN,hB⟩)
   go_ret
   exact ⟨g,_,cap,rfl,Nat.le_trans hle (Nat.le_of_eq HM.out.symm),hN,(zEa w _).trans (hB.mono (by simp))⟩
section
attribute [local go_sem ↓] Go.wp_at_zero Go.wp_at_succ
attribute [local go_sem] zPa zDb
def orW (a b:Int):Int:=bits BinOp.or IntKind.u64 a b
theorem zYf (a b:Int)(ha:0<=a/\a<=18446744073709551615)(hb:0<=b/\b<=18446744073709551615):orW a b=((a.toNat ||| b.toNat:Nat):Int):=u64_or a b ha.1 (by omega) hb.1 (by omega)
theorem zRr (a b:Int)(ha:0<=a/\a<=18446744073709551615)(hb:0<=b/\b<=18446744073709551615):orW a b=orW b a:=by
 rw [zYf a b ha hb,zYf b a hb ha,Nat.or_comm]
theorem zPe (a:Int)(ha:0<=a/\a<=18446744073709551615):orW a 0=a:=by
 rw [zYf a 0 ha (by decide)];simp;omega
theorem zA1 (a:Int)(ha:0<=a/\a<=18446744073709551615):orW 0 a=a:=by
 rw [zYf 0 a (by decide) ha];simp;omega
theorem zVg (a b:Int)(ha:0<=a/\a<=18446744073709551615)(hb:0<=b/\b<=18446744073709551615):0<=orW a b/\orW a b<=18446744073709551615:=by
 rw [zYf a b ha hb]
 have:a.toNat ||| b.toNat<2^64:=Nat.or_lt_two_pow (by omega) (by omega)
 omega
theorem zUb (a:Int):0<=IntKind.u64.wrap a/\IntKind.u64.wrap a<=18446744073709551615:=by
 simp only [IntKind.wrap,IntKind.bits,IntKind.signed]
 have h1:=Int.emod_nonneg a (b:=18446744073709551616) (by decide)
 have h2:=Int.emod_lt_of_pos a (b:=18446744073709551616) (by decide)
 simp;omega
theorem zKh (a:Int)(ha:0<=a/\a<=18446744073709551615):IntKind.u64.wrap a=a:=by
 simp only [IntKind.wrap,IntKind.bits,IntKind.signed]
 simp;omega
theorem zTc (a:Int)(e:Nat)(ha:0<=a/\a<=18446744073709551615):0<=a/2^e/\a/2^e<=18446744073709551615:=by
 have hp:(0:Int)<2^e:=Int.pow_pos (by decide)
 have h1:=Int.ediv_nonneg ha.1 (Int.le_of_lt hp)
 have h2:=Int.ediv_le_self (2^e) ha.1
 omega
def zEf (x:Nat->Int)(q r j:Nat):Int:=if q+1<=j/\0<r then x (j-q-1)/2^(64-r) else 0
def zMc (x:Nat->Int)(q r j:Nat):Int:=if q<=j then orW (zEf x q r j) (IntKind.u64.wrap (x (j-q)*2^r)) else 0
def stL (x:Nat->Int)(q r k j:Nat):Int:=if j<q+k then zMc x q r j else if j=q+k then zEf x q r j else 0
theorem zFe {x:Nat->Int}(hx:zDa x)(q r j:Nat):0<=zEf x q r j/\zEf x q r j<=18446744073709551615:=by
 unfold zEf;split
 ·exact zTc _ _ (hx _)
 ·decide
theorem zHe {x:Nat->Int}(hx:zDa x)(q r:Nat):zDa (zMc x q r):=fun j=>by
 unfold zMc;split
 ·exact zVg _ _ (zFe hx q r j) (zUb _)
 ·decide
theorem zBh {x:Nat->Int}{n:Nat}(hx:zDa x)(zx:∀ i,n<=i->x i=0)(q r:Nat)(hr:r<64):∀ j,n+q+1<=j->zMc x q r j=0:=by
 intro j hj
 unfold zMc
 rw [if_pos (by omega),zx (j-q) (by omega)]
 have:zEf x q r j=0:=by
  unfold zEf;split
  ·rw [zx (j-q-1) (by omega)];simp
  ·rfl
 rw [this,Int.zero_mul,zKh 0 (by decide),zPe 0 (by decide)]
theorem zDm {x:Nat->Int}{n:Nat}(hx:zDa x)(zx:∀ i,n<=i->x i=0)(q r j:Nat)(hj:j<n+q+1):stL x q r n j=zMc x q r j:=by
 unfold stL
 by_cases h:j<q+n
 ·rw [if_pos h]
 ·obtain rfl:j=q+n:=by omega
  rw [if_neg h,if_pos rfl]
  unfold zMc
  rw [if_pos (by omega),zx (q+n-q) (by omega),Int.zero_mul,zKh 0 (by decide),zPe _ (zFe hx q r _)]
theorem zPn {x:Nat->Int}{q k:Nat}{ss:Array Value}(hss:∀ j h,ss[j]'h=Value.int .u64 (stL x q 0 k j))(j:Nat)(h:j<(ss.setIfInBounds (k+q) (.int .u64 (zMc x q 0 (q+k)))).size):(ss.setIfInBounds (k+q) (.int .u64 (zMc x q 0 (q+k))))[j]'h=Value.int .u64 (stL x q 0 (k+1) j):=by
 have h':j<ss.size:=by simpa using h
 rw [Array.getElem_setIfInBounds]
 by_cases e:k+q=j
 ·subst e;rw [if_pos rfl];unfold stL;rw [if_pos (by omega),Nat.add_comm]
 ·rw [if_neg e,hss j h']
  unfold stL
  by_cases e2:j<q+k
  ·rw [if_pos e2,if_pos (by omega)]
  ·rw [if_neg e2,if_neg (by omega),if_neg (by omega)]
   have:zEf x q 0 j=0:=by unfold zEf;rw [if_neg (by omega)]
   rw [this];split<;>rfl
 exact h'
theorem zOn {x:Nat->Int}{q r k:Nat}(hr:0<r){ss:Array Value}(hss:∀ j h,ss[j]'h=Value.int .u64 (stL x q r k j))(j:Nat)(h:j<((ss.setIfInBounds (k+q) (.int .u64 (zMc x q r (q+k)))).setIfInBounds (k+q+1) (.int .u64 (x k/2^(64-r)))).size):((ss.setIfInBounds (k+q) (.int .u64 (zMc x q r (q+k)))).setIfInBounds (k+q+1) (.int .u64 (x k/2^(64-r))))[j]'h=Value.int .u64 (stL x q r (k+1) j):=by
 have h':j<ss.size:=by simpa using h
 rw [Array.getElem_setIfInBounds (by simpa using h')]
 by_cases e0:k+q+1=j
 ·subst e0;rw [if_pos rfl];unfold stL;rw [if_neg (by omega),if_pos (by omega)];unfold zEf;rw [if_pos ⟨by omega,hr⟩,show k+q+1-q-1=k by omega]
 ·rw [if_neg e0,Array.getElem_setIfInBounds h']
  by_cases e:k+q=j
  ·subst e;rw [if_pos rfl];unfold stL;rw [if_pos (by omega),Nat.add_comm]
  ·rw [if_neg e,hss j h']
   unfold stL
   by_cases e2:j<q+k
   ·rw [if_pos e2,if_pos (by omega)]
   ·rw [if_neg e2,if_neg (by omega),if_neg (by omega),if_neg (by omega)]
theorem left_z (b off n c q:Nat)(s:Int)(x:Nat->Int)(w:World)(hn:n<4000000000)(hq0:q<100000)(hq:s/64=q)(hr:s%64=0)(hs:0<=s)(h:Num w (some ⟨b,off,none⟩) n c x) :
  Calls Tryz.prog 87 #[.slice (some ⟨b,off,none⟩) n c,.int .i64 s] w fun e w'=>∃ g k cap,e=.returned (.slice (some ⟨g,0,none⟩) k cap)/\k<=n+q+1/\Num w' (some ⟨g,0,none⟩) k cap (zMc x q 0)/\Below w.heap.size w w':=by
 have hx:=h.2.2.1
 have zx:=h.2.2.2.1
 have hc:b<w.heap.size/\∀ i,i<n->w.cell? ⟨b,off+i,none⟩=some (.int .u64 (x i)):=by
  rcases h.2.2.2.2 with ⟨h,_⟩|⟨b',off',h,hbs,hc⟩
  ·cases h
  ·cases h;exact ⟨hbs,hc⟩
 obtain ⟨hbs,hc⟩:=hc
 have hcap:=h.1
 have hs6:s<6400064:=by omega
 obtain ⟨M,hM⟩:∃ M,n+q+1=M:=⟨_,rfl⟩
 have hMi:(n:Int)+q+1=(M:Int):=by omega
 have hmk:=fun w=>zAb ((n:Int)+q+1) M hMi (by omega) w
 have hfin:∀ (ss:Array Value) (m:Nat),ss.size=M->(∀ j h,ss[j]'h=Value.int .u64 (stL x q 0 n j))->Num ((w.alloc (.cells ss 22)).drewN m) (some ⟨w.heap.size,0,none⟩) M M (zMc x q 0):=fun ss m h1 h2=>(zQa (by omega) (zHe hx q 0) (fun i hi=>zBh hx zx q 0 (by omega) i (by omega)) h1 (fun j hj=>by rw [h2 j hj,zDm hx zx q 0 j (by omega)])).drewN m
 have HM:Hid (n+q+1=M):=hM
 have HZ:Hid ((arrOf (fun _=>0) M).size=M/\∀ j h,(arrOf (fun _=>0) M)[j]'h=Value.int .u64 0):=⟨arrOf_size _ _,fun j h=>zIa _ _ _ _⟩
 have hcw:∀ (ss:Array Value) i,i<n->(w.alloc (.cells ss 22)).cell? ⟨b,off+i,none⟩=some (.int .u64 (x i)):=fun ss i hi=>((zEa w _).cell (p:=⟨b,off+i,none⟩) hbs).trans (hc i hi)
 clear h zx hMi hc
 generalize arrOf (fun _=>0) M=zz at *
 go_enter Tryz.func87,Tryz.ntmps87
 go_wp2
 go_loopw [6,16] (fun u6 i wr=>∃ (k m:Nat) (ss:Array Value),k<=n/\i=.int .i64 k/\ss.size=M/\(∀ j h,ss[j]'h=Value.int .u64 (stL x q 0 k j))/\wr=(w.alloc (.cells ss 22)).drewN m) (fun _ i _=>n-(intOf i).toNat)
 case atStart=>exact ⟨0,0,zz,Nat.zero_le _,rfl,HZ.out.1,fun j h=>by rw [HZ.out.2 j h];unfold stL;(by_cases e:j<q+0);(rw [if_pos e];unfold zMc;rw [if_neg (by omega)]);(rw [if_neg e];split;(unfold zEf;rw [if_neg (by omega)]);rfl),rfl⟩
 case round =>
  obtain ⟨k,m,ss,hk,rfl,hsz,hss,rfl⟩:=hrel
  by_cases h8:k<n
  ·have h8i:(k:Int)<n:=by omega
   have h8s:k+q<ss.size:=by omega
   have h8t:(k:Int)+q<M:=by omega
   have h8u:(k:Int)+q+1<M:=by omega
   have bx:=hx k
   have hcx:=hcw ss k h8
   have hsk:ss[k+q]?=some (.int .u64 (zEf x q 0 (q+k))):=by rw [Array.getElem?_eq_getElem h8s,hss _ h8s];unfold stL;rw [if_neg (by omega),if_pos (by omega),Nat.add_comm]
   have hgo:∀ h,ss[k+q]'h=.int .u64 (zEf x q 0 (q+k)):=fun h=>by rw [hss _ h];unfold stL;rw [if_neg (by omega),if_pos (by omega),Nat.add_comm]
   have hlow:=zFe hx q 0 (q+k)
   have e1:((k:Int)+q).toNat=k+q:=by omega
   have e2:((k:Int)+q+1).toNat=k+q+1:=by omega
   have HF:Hid (zMc x q 0 (q+k)=bits BinOp.or IntKind.u64 (zEf x q 0 (q+k)) (x k)):=by
    show _=_;unfold zMc;rw [if_pos (by omega),show q+k-q=k by omega];simp [orW,zKh _ bx]
   have HR:Hid (∀ (i:Nat) (h:i<(ss.setIfInBounds (k+q) (.int .u64 (zMc x q 0 (q+k)))).size),(ss.setIfInBounds (k+q) (.int .u64 (zMc x q 0 (q+k))))[i]'h=Value.int .u64 (stL x q 0 (k+1) i)):=zPn hss
   clear hss hfin hmk hx
   generalize hlo:zEf x q 0 (q+k)=lo at *
   clear hcw
   go_wp2
   go_region
   go_wp2
   go_roundw
   case rel=>refine ⟨k+1,m+1,ss.setIfInBounds (k+q) (.int .u64 (zMc x q 0 (q+k))),by omega,by go_num,by simp [hsz],HR.out,?_⟩;rw [HF.out]
   case measure=>simp [intOf];omega
  ·obtain rfl:k=n:=by omega
   have hT:=zHc _ _ _ _ _ (by omega) (hfin ss m hsz hss)
   have hle:=zCa (zMc x q 0) M
   clear hss hfin hmk hx hcw
   go_wp2_with (go_at_call 128;refine hT.mono ?_;rintro e w1 ⟨g,cap,rfl,hN,hB⟩)
   go_ret
   exact ⟨g,_,cap,rfl,Nat.le_trans hle (Nat.le_of_eq HM.out.symm),hN,(below_drewN (zEa w _) m).trans (hB.mono (by simp))⟩
theorem left_p (b off n c q r:Nat)(s:Int)(x:Nat->Int)(w:World)(hn:n<4000000000)(hq0:q<100000)(hr0:r<64)(hrp:0<r)(hq:s/64=q)(hr:s%64=r)(hs:0<=s)(h:Num w (some ⟨b,off,none⟩) n c x) :
  Calls Tryz.prog 87 #[.slice (some ⟨b,off,none⟩) n c,.int .i64 s] w fun e w'=>∃ g k cap,e=.returned (.slice (some ⟨g,0,none⟩) k cap)/\k<=n+q+1/\Num w' (some ⟨g,0,none⟩) k cap (zMc x q r)/\Below w.heap.size w w':=by
 have hx:=h.2.2.1
 have zx:=h.2.2.2.1
 have hc:b<w.heap.size/\∀ i,i<n->w.cell? ⟨b,off+i,none⟩=some (.int .u64 (x i)):=by
  rcases h.2.2.2.2 with ⟨h,_⟩|⟨b',off',h,hbs,hc⟩
  ·cases h
  ·cases h;exact ⟨hbs,hc⟩
 obtain ⟨hbs,hc⟩:=hc
 have hcap:=h.1
 have hs6:s<6400064:=by omega
 obtain ⟨M,hM⟩:∃ M,n+q+1=M:=⟨_,rfl⟩
 have hMi:(n:Int)+q+1=(M:Int):=by omega
 have hmk:=fun w=>zAb ((n:Int)+q+1) M hMi (by omega) w
 have hfin:∀ (ss:Array Value) (m:Nat),ss.size=M->(∀ j h,ss[j]'h=Value.int .u64 (stL x q r n j))->Num ((w.alloc (.cells ss 22)).drewN m) (some ⟨w.heap.size,0,none⟩) M M (zMc x q r):=fun ss m h1 h2=>(zQa (by omega) (zHe hx q r) (fun i hi=>zBh hx zx q r (by omega) i (by omega)) h1 (fun j hj=>by rw [h2 j hj,zDm hx zx q r j (by omega)])).drewN m
 have HM:Hid (n+q+1=M):=hM
 have HZ:Hid ((arrOf (fun _=>0) M).size=M/\∀ j h,(arrOf (fun _=>0) M)[j]'h=Value.int .u64 0):=⟨arrOf_size _ _,fun j h=>zIa _ _ _ _⟩
 have hcw:∀ (ss:Array Value) i,i<n->(w.alloc (.cells ss 22)).cell? ⟨b,off+i,none⟩=some (.int .u64 (x i)):=fun ss i hi=>((zEa w _).cell (p:=⟨b,off+i,none⟩) hbs).trans (hc i hi)
 clear h zx hMi hc
 generalize arrOf (fun _=>0) M=zz at *
 go_enter Tryz.func87,Tryz.ntmps87
 go_wp2
 go_loopw [6,16] (fun u6 i wr=>∃ (k m:Nat) (ss:Array Value),k<=n/\i=.int .i64 k/\ss.size=M/\(∀ j h,ss[j]'h=Value.int .u64 (stL x q r k j))/\wr=(w.alloc (.cells ss 22)).drewN m) (fun _ i _=>n-(intOf i).toNat)
 case atStart=>exact ⟨0,0,zz,Nat.zero_le _,rfl,HZ.out.1,fun j h=>by rw [HZ.out.2 j h];unfold stL;(by_cases e:j<q+0);(rw [if_pos e];unfold zMc;rw [if_neg (by omega)]);(rw [if_neg e];split;(unfold zEf;rw [if_neg (by omega)]);rfl),rfl⟩
 case round =>
  obtain ⟨k,m,ss,hk,rfl,hsz,hss,rfl⟩:=hrel
  by_cases h8:k<n
  ·have h8i:(k:Int)<n:=by omega
   have h8s:k+q<ss.size:=by omega
   have h8t:(k:Int)+q<M:=by omega
   have h8u:(k:Int)+q+1<M:=by omega
   have bx:=hx k
   have hcx:=hcw ss k h8
   have hsk:ss[k+q]?=some (.int .u64 (zEf x q r (q+k))):=by rw [Array.getElem?_eq_getElem h8s,hss _ h8s];unfold stL;rw [if_neg (by omega),if_pos (by omega),Nat.add_comm]
   have hgo:∀ h,ss[k+q]'h=.int .u64 (zEf x q r (q+k)):=fun h=>by rw [hss _ h];unfold stL;rw [if_neg (by omega),if_pos (by omega),Nat.add_comm]
   have h8v:k+q+1<ss.size:=by omega
   have hsl:ss[k+q+1]?=some (.int .u64 0):=by rw [Array.getElem?_eq_getElem h8v,hss _ h8v];unfold stL;rw [if_neg (by omega),if_neg (by omega)]
   have hlow:=zFe hx q r (q+k)
   have e1:((k:Int)+q).toNat=k+q:=by omega
   have e2:((k:Int)+q+1).toNat=k+q+1:=by omega
   have HF:Hid (zMc x q r (q+k)=bits BinOp.or IntKind.u64 (zEf x q r (q+k)) (IntKind.u64.wrap (x k*2^r))):=by
    show _=_;unfold zMc;rw [if_pos (by omega),show q+k-q=k by omega];rfl
   have HR:Hid (∀ (i:Nat) (h:i<((ss.setIfInBounds (k+q) (.int .u64 (zMc x q r (q+k)))).setIfInBounds (k+q+1) (.int .u64 (x k/2^(64-r)))).size),((ss.setIfInBounds (k+q) (.int .u64 (zMc x q r (q+k)))).setIfInBounds (k+q+1) (.int .u64 (x k/2^(64-r))))[i]'h=Value.int .u64 (stL x q r (k+1) i)):=zOn hrp hss
   clear hss hfin hmk hx
   generalize hlo:zEf x q r (q+k)=lo at *
   have hcx':=hcw (ss.setIfInBounds (k+q) (.int .u64 (bits BinOp.or IntKind.u64 lo (IntKind.u64.wrap (x k*2^r))))) k h8
   clear hcw
   go_wp2
   go_region
   go_wp2
   go_roundw
   case rel=>refine ⟨k+1,m+1,(ss.setIfInBounds (k+q) (.int .u64 (zMc x q r (q+k)))).setIfInBounds (k+q+1) (.int .u64 (x k/2^(64-r))),by omega,by go_num,by simp [hsz],HR.out,?_⟩;rw [HF.out]
   case measure=>simp [intOf];omega
  ·obtain rfl:k=n:=by omega
   have hT:=zHc _ _ _ _ _ (by omega) (hfin ss m hsz hss)
   have hle:=zCa (zMc x q r) M
   clear hss hfin hmk hx hcw
   go_wp2_with (go_at_call 128;refine hT.mono ?_;rintro e w1 ⟨g,cap,rfl,hN,hB⟩)
   go_ret
   exact ⟨g,_,cap,rfl,Nat.le_trans hle (Nat.le_of_eq HM.out.symm),hN,(below_drewN (zEa w _) m).trans (hB.mono (by simp))⟩
end
def zAc (x:Nat->Int)(q r j:Nat):Int:=if r=0 then x (q+j) else orW (x (q+j)/2^r) (IntKind.u64.wrap (x (q+j+1)*2^(64-r)))
theorem zLd {x:Nat->Int}(hx:zDa x)(q r:Nat):zDa (zAc x q r):=fun j=>by
 unfold zAc;split
 ·exact hx _
 ·exact zVg _ _ (zTc _ _ (hx _)) (zUb _)
theorem zDe {x:Nat->Int}{n:Nat}(zx:∀ i,n<=i->x i=0)(q r j:Nat)(hj:n<=q+j):zAc x q r j=0:=by
 unfold zAc;split
 ·exact zx _ hj
 ·rw [zx _ hj,zx (q+j+1) (by omega),Int.zero_mul,Int.zero_ediv,zKh 0 (by decide),zPe 0 (by decide)]
def wl (f:Nat->Int)(k:Nat):List Value:=(List.range k).map fun i=>Value.int .u64 (f i)
theorem zYl (f:Nat->Int)(k:Nat):wl f k++[Value.int .u64 (f k)]=wl f (k+1):=by simp [wl,List.range_succ]
theorem zVd {w':World}{ao:Option Addr}{k cap base:Nat}{x:Nat->Int}(hx:zDa x)(hz:∀ i,k<=i->x i=0)(h:w'.ownsRow base 22 1 (.slice ao k cap) k (wl x k)):Num w' ao k cap x:=by
 have h0:=h
 obtain ⟨hl,h1⟩:=h0
 rcases h1 with ⟨h1,h2⟩|⟨g,cap',cur,he,hb,hh,_⟩
 ·cases h1
  exact ⟨Nat.le_refl _,by unfold maxLen;omega,hx,hz,Or.inl ⟨rfl,rfl⟩⟩
 ·cases he
  exact zRe (w:=w') hx hz h (by
   rcases Nat.lt_or_ge g w'.heap.size with h3|h3
   ·exact h3
   ·rw [Array.getElem?_eq_none h3] at hh;cases hh)
theorem zB9 (b off n c q:Nat)(s:Int)(x:Nat->Int)(w:World)(hn:n<4000000000)(hq0:q<100000)(hq:s/64=q)(hr:s%64=0)(hs:0<=s)(h:Num w (some ⟨b,off,none⟩) n c x) :
  Calls Tryz.prog 93 #[.slice (some ⟨b,off,none⟩) n c,.int .i64 s] w fun e w'=>∃ g k cap z,e=.returned (.tuple #[.slice (some ⟨g,0,none⟩) k cap,.bool z])/\k<=n/\Num w' (some ⟨g,0,none⟩) k cap (zAc x q 0)/\Below w.heap.size w w':=by
 have hx:=h.2.2.1
 have zx:=h.2.2.2.1
 have hc:b<w.heap.size/\∀ i,i<n->w.cell? ⟨b,off+i,none⟩=some (.int .u64 (x i)):=by
  rcases h.2.2.2.2 with ⟨h,_⟩|⟨b',off',h,hbs,hc⟩
  ·cases h
  ·cases h;exact ⟨hbs,hc⟩
 obtain ⟨hbs,hc⟩:=hc
 have hcap:=h.1
 have hs6:s<6400064:=by omega
 obtain ⟨i0,hi,hz0,hz1,hz2⟩:=info_parts Tryz.info22
 have HX:Hid (Num w (some ⟨b,off,none⟩) n c x):=h
 clear h
 go_enter Tryz.func93,Tryz.ntmps93
 go_wp2
 go_loop [6,7,13] (fun g u7 i=>∃ (k:Nat) (z:Bool),k<=n/\i=.int .i64 k/\g=.bool z) (fun _ _ i=>n-(intOf i).toNat)
 case atStart=>exact ⟨0,false,Nat.zero_le _,rfl,rfl⟩
 case round =>
  obtain ⟨k,z,hk,rfl,rfl⟩:=hrel
  by_cases h8:k<n
  ·have h8i:(k:Int)<n:=by omega
   by_cases hkq:k<q
   ·have bx:=hx k
    have hcx:=hc k h8
    clear hc hx zx hi hz0 hz1 hz2
    have hkq':(k:Int)<q:=by omega
    by_cases hz:x k=0
    ·have hz':(x k != 0)=false:=by simp [hz]
     have hne:((k:Int)==q)=false:=by simp;omega
     go_wp2
     go_round
     case rel=>exact ⟨k+1,z,by omega,by go_num,rfl⟩
     case measure=>simp [intOf];omega
    ·have hz':(x k != 0)=true:=by simp [hz]
     go_wp2
     go_round
     case rel=>exact ⟨k+1,true,by omega,by go_num,rfl⟩
     case measure=>simp [intOf];omega
   ·have hkq':¬ (k:Int)<q:=by omega
    by_cases hke:k=q
    ·subst hke
     have bx:=hx k
     have hcx:=hc k h8
     clear hc hx zx hi hz0 hz1 hz2
     go_wp2
     all_goals
      go_round
      case rel=>first|exact ⟨k+1,true,by omega,by go_num,rfl⟩|exact ⟨k+1,z,by omega,by go_num,rfl⟩
      case measure=>simp [intOf];omega
    ·have hcx:=hc k h8
     clear hc hx zx hi hz0 hz1 hz2
     have hne:((k:Int)==q)=false:=by simp;omega
     go_wp2
     go_round
     case rel=>exact ⟨k+1,z,by omega,by go_num,rfl⟩
     case measure=>simp [intOf];omega
  ·obtain rfl:k=n:=by omega
   go_wp2
   go_loopw [8,9,10] (fun v i u10 wr=>∃ (j:Nat) (ao:Option Addr) (cp:Nat),j<=k-q/\i=.int .i64 ((q:Int)+j)/\v=.slice ao j cp/\wr.ownsRow w.heap.size 22 1 (.slice ao j cp) j (wl (zAc x q 0) j)/\Below w.heap.size w wr) (fun _ i _ _=>k+1-(intOf i).toNat)
   case atStart=>exact ⟨0,none,0,Nat.zero_le _,by go_num,rfl,World.ownsRow_nil _ _ _ _,Below.refl _ _⟩
   case round =>
    obtain ⟨j,ao,cp,hj,rfl,rfl,hown,hB⟩:=hrel
    by_cases hlt:q+j<k
    ·have hlt':(q:Int)+j<k:=by omega
     have bx:=hx (q+j)
     have b_y:=hx (q+j+1)
     have e1:((q:Int)+j).toNat=q+j:=by omega
     have hcx:wr.cell? ⟨b,off+(q+j),none⟩=some (.int .u64 (x (q+j))):=(hB.cell (p:=⟨b,off+(q+j),none⟩) hbs).trans (hc (q+j) hlt)
     have HW:Hid (CQ 127 #[.slice (some ⟨b,off,none⟩) k c,.int .i64 ((q:Int)+j+1)] wr (.int .u64 (x (q+j+1)))):=by
      have:=zJb (some ⟨b,off,none⟩) k c (q+j+1) x wr (HX.out.next hB)
      rw [show ((q+j+1:Nat):Int)=(q:Int)+j+1 by omega] at this
      exact this.mono fun _ _ h=>⟨h.1,h.2.symm⟩
     have hbw:=hB.size
     have HO:Hid (wr.ownsRow w.heap.size 22 1 (.slice ao j cp) j (wl (zAc x q 0) j)):=hown
     have HVAL:Hid (zAc x q 0 j=x (q+j)):=by show _=_;simp [zAc]
     have HOWN:(wr.alloc (.cells #[.int .u64 (x (q+j))] 22)).ownsRow w.heap.size 22 1 (.slice ao j cp) j (wl (zAc x q 0) j):=hown.alloc _
     have HNEWS:∀ (p:Nat) (u:Value),[Value.int .u64 (x (q+j))][p]?=some u->(wr.alloc (.cells #[.int .u64 (x (q+j))] 22)).cell? ((⟨wr.heap.size,0,none⟩:Addr).add p)=some u:=by
      intro p u hp
      match p,hp with
      | 0,hp=>simp at hp;subst hp;simp [Addr.add]
     have HONE:∀ u ∈ [Value.int .u64 (x (q+j))],u.oneCell'=true:=by
      intro u hu;simp at hu;subst hu;rfl
     clear hc hx zx hown
     go_wp2_with (first|(at_builtin;refine wpList_append_lies _ rfl (.tmp 77) (.tmp 79) 61 rfl w.heap.size 22 i0 (.int .u64 0) 1 8 Tryz.underlying61 hi hz0 hz1 hz2 rfl (by decide) (.slice ao j cp) j (wl (zAc x q 0) j) rfl HOWN ⟨wr.heap.size,0,none⟩ 1 1 [Value.int .u64 (x (q+j))] rfl rfl HNEWS HONE (by omega) (by unfold maxLen;omega) (by omega) (by simp;omega) (wr.heap.size+1) (by simp) ?_;intro g cap w1 hown1 hgrow hat hlt1;clear HOWN HNEWS HONE)|(go_at_call 127;refine HW.out.mono ?_;rintro e w' ⟨rfl,rfl⟩))
     have hown2:w1.ownsRow w.heap.size 22 1 (.slice (some ⟨g,0,none⟩) (j+1) cap) (j+1) (wl (zAc x q 0) (j+1)):=by
      rw [← HVAL.out,zYl] at hown1;exact hown1
     have HB2:Below w.heap.size w w1:=(hB.alloc hbw _).grown hgrow (by simp;omega) (by
      intro p hp
      rcases ao with _|⟨bb,oo,sp⟩
      ·cases hp
      ·cases hp
       obtain ⟨_,h1⟩:=HO.out
       rcases h1 with ⟨h1,_⟩|⟨g',_,_,h1,h2,_⟩
       ·cases h1
       ·cases h1;exact h2)
     clear hown1 hgrow
     go_wp2
     go_roundw
     case rel=>exact ⟨j+1,some ⟨g,0,none⟩,cap,by omega,by go_num,rfl,hown2,HB2⟩
     case measure=>simp [intOf];omega
    ·have HZ:∀ i,j<=i->zAc x q 0 i=0:=fun i hi=>zDe zx q 0 i (by omega)
     have hT:=zHc ao j cp _ wr (by omega) (zVd (zLd hx q 0) HZ hown)
     have hle:=zCa (zAc x q 0) j
     have hlt':¬ (q:Int)+j<k:=by omega
     clear hc hx zx hown HZ
     go_wp2_with (go_at_call 128;refine hT.mono ?_;rintro e w1 ⟨g,cap,rfl,hN,hB1⟩)
     go_ret2
     exact ⟨g,_,cap,_,rfl,by omega,hN,hB.trans (hB1.mono hB.size)⟩
theorem zC9 (b off n c q r:Nat)(s:Int)(x:Nat->Int)(w:World)(hn:n<4000000000)(hq0:q<100000)(hr0:r<64)(hrp:0<r)(hq:s/64=q)(hr:s%64=r)(hs:0<=s)(h:Num w (some ⟨b,off,none⟩) n c x) :
  Calls Tryz.prog 93 #[.slice (some ⟨b,off,none⟩) n c,.int .i64 s] w fun e w'=>∃ g k cap z,e=.returned (.tuple #[.slice (some ⟨g,0,none⟩) k cap,.bool z])/\k<=n/\Num w' (some ⟨g,0,none⟩) k cap (zAc x q r)/\Below w.heap.size w w':=by
 have hx:=h.2.2.1
 have zx:=h.2.2.2.1
 have hc:b<w.heap.size/\∀ i,i<n->w.cell? ⟨b,off+i,none⟩=some (.int .u64 (x i)):=by
  rcases h.2.2.2.2 with ⟨h,_⟩|⟨b',off',h,hbs,hc⟩
  ·cases h
  ·cases h;exact ⟨hbs,hc⟩
 obtain ⟨hbs,hc⟩:=hc
 have hcap:=h.1
 have hs6:s<6400064:=by omega
 obtain ⟨i0,hi,hz0,hz1,hz2⟩:=info_parts Tryz.info22
 have HX:Hid (Num w (some ⟨b,off,none⟩) n c x):=h
 clear h
 go_enter Tryz.func93,Tryz.ntmps93
 go_wp2
 go_loop [6,7,13] (fun g u7 i=>∃ (k:Nat) (z:Bool),k<=n/\i=.int .i64 k/\g=.bool z) (fun _ _ i=>n-(intOf i).toNat)
 case atStart=>exact ⟨0,false,Nat.zero_le _,rfl,rfl⟩
 case round =>
  obtain ⟨k,z,hk,rfl,rfl⟩:=hrel
  by_cases h8:k<n
  ·have h8i:(k:Int)<n:=by omega
   by_cases hkq:k<q
   ·have bx:=hx k
    have hcx:=hc k h8
    clear hc hx zx hi hz0 hz1 hz2
    have hkq':(k:Int)<q:=by omega
    by_cases hz:x k=0
    ·have hz':(x k != 0)=false:=by simp [hz]
     have hne:((k:Int)==q)=false:=by simp;omega
     go_wp2
     go_round
     case rel=>exact ⟨k+1,z,by omega,by go_num,rfl⟩
     case measure=>simp [intOf];omega
    ·have hz':(x k != 0)=true:=by simp [hz]
     go_wp2
     go_round
     case rel=>exact ⟨k+1,true,by omega,by go_num,rfl⟩
     case measure=>simp [intOf];omega
   ·have hkq':¬ (k:Int)<q:=by omega
    by_cases hke:k=q
    ·subst hke
     have bx:=hx k
     have hcx:=hc k h8
     clear hc hx zx hi hz0 hz1 hz2
     go_wp2
     all_goals
      go_round
      case rel=>first|exact ⟨k+1,true,by omega,by go_num,rfl⟩|exact ⟨k+1,z,by omega,by go_num,rfl⟩
      case measure=>simp [intOf];omega
    ·have hcx:=hc k h8
     clear hc hx zx hi hz0 hz1 hz2
     have hne:((k:Int)==q)=false:=by simp;omega
     go_wp2
     go_round
     case rel=>exact ⟨k+1,z,by omega,by go_num,rfl⟩
     case measure=>simp [intOf];omega
  ·obtain rfl:k=n:=by omega
   go_wp2
   go_loopw [8,9,10] (fun v i u10 wr=>∃ (j:Nat) (ao:Option Addr) (cp:Nat),j<=k-q/\i=.int .i64 ((q:Int)+j)/\v=.slice ao j cp/\wr.ownsRow w.heap.size 22 1 (.slice ao j cp) j (wl (zAc x q r) j)/\Below w.heap.size w wr) (fun _ i _ _=>k+1-(intOf i).toNat)
   case atStart=>exact ⟨0,none,0,Nat.zero_le _,by go_num,rfl,World.ownsRow_nil _ _ _ _,Below.refl _ _⟩
   case round =>
    obtain ⟨j,ao,cp,hj,rfl,rfl,hown,hB⟩:=hrel
    by_cases hlt:q+j<k
    ·have hlt':(q:Int)+j<k:=by omega
     have bx:=hx (q+j)
     have b_y:=hx (q+j+1)
     have e1:((q:Int)+j).toNat=q+j:=by omega
     have hcx:wr.cell? ⟨b,off+(q+j),none⟩=some (.int .u64 (x (q+j))):=(hB.cell (p:=⟨b,off+(q+j),none⟩) hbs).trans (hc (q+j) hlt)
     have HW:Hid (CQ 127 #[.slice (some ⟨b,off,none⟩) k c,.int .i64 ((q:Int)+j+1)] wr (.int .u64 (x (q+j+1)))):=by
      have:=zJb (some ⟨b,off,none⟩) k c (q+j+1) x wr (HX.out.next hB)
      rw [show ((q+j+1:Nat):Int)=(q:Int)+j+1 by omega] at this
      exact this.mono fun _ _ h=>⟨h.1,h.2.symm⟩
     have hbw:=hB.size
     have HO:Hid (wr.ownsRow w.heap.size 22 1 (.slice ao j cp) j (wl (zAc x q r) j)):=hown
     have HVAL:Hid (zAc x q r j=bits BinOp.or IntKind.u64 (x (q+j)/2^r) (IntKind.u64.wrap (x (q+j+1)*2^(64-r)))):=by show _=_;unfold zAc;rw [if_neg (by omega)];rfl
     have HOWN:(wr.alloc (.cells #[.int .u64 (bits BinOp.or IntKind.u64 (x (q+j)/2^r) (IntKind.u64.wrap (x (q+j+1)*2^(64-r))))] 22)).ownsRow w.heap.size 22 1 (.slice ao j cp) j (wl (zAc x q r) j):=hown.alloc _
     have HNEWS:∀ (p:Nat) (u:Value),[Value.int .u64 (bits BinOp.or IntKind.u64 (x (q+j)/2^r) (IntKind.u64.wrap (x (q+j+1)*2^(64-r))))][p]?=some u->(wr.alloc (.cells #[.int .u64 (bits BinOp.or IntKind.u64 (x (q+j)/2^r) (IntKind.u64.wrap (x (q+j+1)*2^(64-r))))] 22)).cell? ((⟨wr.heap.size,0,none⟩:Addr).add p)=some u:=by
      intro p u hp
      match p,hp with
      | 0,hp=>simp at hp;subst hp;simp [Addr.add]
     have HONE:∀ u ∈ [Value.int .u64 (bits BinOp.or IntKind.u64 (x (q+j)/2^r) (IntKind.u64.wrap (x (q+j+1)*2^(64-r))))],u.oneCell'=true:=by
      intro u hu;simp at hu;subst hu;rfl
     clear hc hx zx hown
     go_wp2_with (first|(at_builtin;refine wpList_append_lies _ rfl (.tmp 77) (.tmp 79) 61 rfl w.heap.size 22 i0 (.int .u64 0) 1 8 Tryz.underlying61 hi hz0 hz1 hz2 rfl (by decide) (.slice ao j cp) j (wl (zAc x q r) j) rfl HOWN ⟨wr.heap.size,0,none⟩ 1 1 [Value.int .u64 (bits BinOp.or IntKind.u64 (x (q+j)/2^r) (IntKind.u64.wrap (x (q+j+1)*2^(64-r))))] rfl rfl HNEWS HONE (by omega) (by unfold maxLen;omega) (by omega) (by simp;omega) (wr.heap.size+1) (by simp) ?_;intro g cap w1 hown1 hgrow hat hlt1;clear HOWN HNEWS HONE)|(go_at_call 127;refine HW.out.mono ?_;rintro e w' ⟨rfl,rfl⟩))
     have hown2:w1.ownsRow w.heap.size 22 1 (.slice (some ⟨g,0,none⟩) (j+1) cap) (j+1) (wl (zAc x q r) (j+1)):=by
      rw [← HVAL.out,zYl] at hown1;exact hown1
     have HB2:Below w.heap.size w w1:=(hB.alloc hbw _).grown hgrow (by simp;omega) (by
      intro p hp
      rcases ao with _|⟨bb,oo,sp⟩
      ·cases hp
      ·cases hp
       obtain ⟨_,h1⟩:=HO.out
       rcases h1 with ⟨h1,_⟩|⟨g',_,_,h1,h2,_⟩
       ·cases h1
       ·cases h1;exact h2)
     clear hown1 hgrow
     go_wp2
     go_roundw
     case rel=>exact ⟨j+1,some ⟨g,0,none⟩,cap,by omega,by go_num,rfl,hown2,HB2⟩
     case measure=>simp [intOf];omega
    ·have HZ:∀ i,j<=i->zAc x q r i=0:=fun i hi=>zDe zx q r i (by omega)
     have hT:=zHc ao j cp _ wr (by omega) (zVd (zLd hx q r) HZ hown)
     have hle:=zCa (zAc x q r) j
     have hlt':¬ (q:Int)+j<k:=by omega
     clear hc hx zx hown HZ
     go_wp2_with (go_at_call 128;refine hT.mono ?_;rintro e w1 ⟨g,cap,rfl,hN,hB1⟩)
     go_ret2
     exact ⟨g,_,cap,_,rfl,by omega,hN,hB.trans (hB1.mono hB.size)⟩
section
attribute [local go_sem] zPa zDb
theorem zYx (x y:Int)(hx:0<=x/\x<=18446744073709551615)(hy:0<=y/\y<=18446744073709551615)(w:World) :
  Calls Tryz.prog 154 #[.int .u64 x,.int .u64 y] w fun e w'=>e=.returned (.tuple #[.int .u64 (x*y/18446744073709551616),.int .u64 (x*y%18446744073709551616)])/\w'=w:=by
 obtain ⟨a,rfl⟩:=Int.eq_ofNat_of_zero_le hx.1
 obtain ⟨b,rfl⟩:=Int.eq_ofNat_of_zero_le hy.1
 have h:=Tryz.bits_Mul64 a b (by omega) (by omega) w
 rw [Int.natCast_ediv,Int.natCast_emod,Int.natCast_mul] at h
 exact h
theorem zJk (x y:Int)(hx:0<=x)(hy:0<=y)(w:World):(callFunc 77 #[.int .u64 x,.int .u64 y,.int .u64 0]).run Tryz.prog w =
  .ok (.value (.tuple #[.int .u64 ((x+y)%18446744073709551616),.int .u64 ((x+y)/18446744073709551616)])) w:=by
 simpa using zZu x y 0 hx hy (Int.le_refl 0) (by decide) w
def mulC (x:Nat->Int)(n:Int):Nat->Int
 | 0=>0
 | k+1=>x k*n/18446744073709551616+(x k*n%18446744073709551616+mulC x n k)/18446744073709551616
def mulP (x:Nat->Int)(n:Int)(k:Nat):Int:=(x k*n%18446744073709551616+mulC x n k)%18446744073709551616
theorem mul_bd (a b c:Int)(ha:0<=a/\a<=18446744073709551615)(hb:0<=b/\b<=18446744073709551615)(hc:0<=c/\c<=18446744073709551615):0<=a*b/18446744073709551616+(a*b%18446744073709551616+c)/18446744073709551616/\a*b/18446744073709551616+(a*b%18446744073709551616+c)/18446744073709551616<=18446744073709551615:=by
 have h1:0<=a*b:=Int.mul_nonneg ha.1 hb.1
 have h2:a*b<=18446744073709551615*18446744073709551615:=Int.mul_le_mul ha.2 hb.2 hb.1 (by decide)
 generalize a*b=P at *
 omega
theorem zXg {x:Nat->Int}{n:Int}(hx:zDa x)(hn:0<=n/\n<=18446744073709551615):∀ k,0<=mulC x n k/\mulC x n k<=18446744073709551615
 | 0=>by simp [mulC]
 | k+1=>mul_bd _ _ _ (hx k) hn (zXg hx hn k)
theorem zFl (x:Nat->Int)(n:Int):zDa (mulP x n):=fun i=>⟨Int.emod_nonneg _ (by decide),by have:=Int.emod_lt_of_pos (x i*n%18446744073709551616+mulC x n i) (b:=18446744073709551616) (by decide);unfold mulP;omega⟩
theorem zXx (x:Nat->Int)(n:Int):∀ k,val (mulP x n) k+mulC x n k*18446744073709551616^k=val x k*n
 | 0=>by simp [val,mulC]
 | k+1=>by
  have ih:=zXx x n k
  have e1:mulP x n k+mulC x n (k+1)*18446744073709551616=x k*n+mulC x n k:=by
   simp only [mulP,mulC];generalize x k*n=P;omega
  simp only [val]
  rw [Int.pow_succ]
  generalize (18446744073709551616:Int)^k=p at *
  generalize mulC x n (k+1)=c' at *
  generalize mulP x n k=d at *
  have e2:d=x k*n+mulC x n k-c'*18446744073709551616:=by omega
  rw [e2]
  grind
end
theorem wrap3 {a e b R:Int}(h:a*4294967296+e-b=R)(h0:0<=R)(h1:R<=18446744073709551615):IntKind.u64.wrap (IntKind.u64.wrap (IntKind.u64.wrap (a*4294967296)+e)-IntKind.u64.wrap b)=R:=by
 simp only [IntKind.wrap,IntKind.bits,IntKind.signed]
 simp
 omega
theorem zXu (hi lo y Y d1 d0 u v e1 e0 Q1 R1 Q0 R0:Int)(S:Nat)(w:World)(hh:0<hi)(hl:0<=lo/\lo<=18446744073709551615)(hy:hi<y/\y<=18446744073709551615)(hS:S<64)
  (hlz:CQ 207 #[.int .u64 y] w (.int .i64 (S:Int)))
  (hY:IntKind.u64.wrap (y*2^S)=Y) (hd1:Y/4294967296=d1) (hd0:bits BinOp.and IntKind.u64 Y 4294967295=d0)
  (hu:bits BinOp.or IntKind.u64 (IntKind.u64.wrap (hi*2^S)) (lo/2^(64-S))=u) (hv:IntKind.u64.wrap (lo*2^S)=v) (he1:v/4294967296=e1) (he0:bits BinOp.and IntKind.u64 v 4294967295=e0)
  (D1:Dg u d1 d0 e1) (D0:Dg R1 d1 d0 e0) (hYe:Y=d1*4294967296+d0) (hY64:Y<=18446744073709551615)
  (hQ1:(u*4294967296+e1)/(d1*4294967296+d0)=Q1) (hR1:u*4294967296+e1-Q1*Y=R1) (hQ0:(R1*4294967296+e0)/(d1*4294967296+d0)=Q0) (hR0:R1*4294967296+e0-Q0*Y=R0) (hR0b:0<=R0/\R0<=18446744073709551615) :
  Calls Tryz.prog 170 #[.int .u64 hi,.int .u64 lo,.int .u64 y] w fun e w'=>e=.returned (.tuple #[.int .u64 (Q1*4294967296+Q0),.int .u64 (R0/2^S)])/\∃ m,w'=w.drewN m:=by
 have hy0:(y==0)=false:=by simp;omega
 have hh0:(hi==0)=false:=by simp;omega
 have f1:=D1.first
 have f0:=D0.first
 rw [hQ1] at f1
 rw [hQ0] at f0
 have d1p:=D1.a1
 have d1q:=D1.a2
 have d0p:=D1.b1
 have d0q:=D1.b2
 have e1p:=D1.e1
 have e1q:=D1.e2
 have e0p:=D0.e1
 have e0q:=D0.e2
 have up:=D1.u1
 have uq:u<=18446744073709551615:=by have:=D1.u2;omega
 have vp:=D0.u1
 have vq:R1<=18446744073709551615:=by have:=D0.u2;omega
 have hW1:IntKind.u64.wrap (IntKind.u64.wrap (IntKind.u64.wrap (u*4294967296)+e1)-IntKind.u64.wrap (Q1*Y))=R1:=wrap3 hR1 vp vq
 have hW0:IntKind.u64.wrap (IntKind.u64.wrap (IntKind.u64.wrap (R1*4294967296)+e0)-IntKind.u64.wrap (Q0*Y))=R0:=wrap3 hR0 hR0b.1 hR0b.2
 have HQ1:Hid ((u*4294967296+e1)/(d1*4294967296+d0)=Q1):=hQ1
 have HQ0:Hid ((R1*4294967296+e0)/(d1*4294967296+d0)=Q0):=hQ0
 have k1:Q1<4294967296:=by rw [← hQ1];exact D1.lt
 have k0:Q0<4294967296:=by rw [← hQ0];exact D0.lt
 have hq10:0<=Q1:=by rw [← hQ1];exact D1.nonneg
 have hq00:0<=Q0:=by rw [← hQ0];exact D0.nonneg
 clear hQ1 hYe hR1 hQ0 hR0
 obtain ⟨q,hq⟩:∃ q,u/d1=q:=⟨_,rfl⟩
 obtain ⟨r,hr⟩:∃ r,u%d1=r:=⟨_,rfl⟩
 rw [hq,hr] at f1
 obtain ⟨p2,hp2⟩:∃ q,R1/d1=q:=⟨_,rfl⟩
 obtain ⟨s2,hs2⟩:∃ r,R1%d1=r:=⟨_,rfl⟩
 rw [hp2,hs2] at f0
 obtain ⟨f1a,f1b,f1c,f1d,f1e⟩:=f1
 obtain ⟨f0a,f0b,f0c,f0d,f0e⟩:=f0
 have hqd0:0<=q*d1:=Int.mul_nonneg (by omega) (by omega)
 have hqd1:q*d1<=18446744073709551615:=by omega
 have hqr:u-q*d1=r:=by omega
 have hpd0:0<=p2*d1:=Int.mul_nonneg (by omega) (by omega)
 have hpd1:p2*d1<=18446744073709551615:=by omega
 have hpr:R1-p2*d1=s2:=by omega
 have F1A:Hid (q*d1+r=u):=f1a
 have F0A:Hid (p2*d1+s2=R1):=f0a
 have D1H:Hid (Dg u d1 d0 e1):=D1
 have D0H:Hid (Dg R1 d1 d0 e0):=D0
 clear f1a hr f0a hs2 D1 D0
 go_enter Tryz.func170,Tryz.ntmps170
 go_wp2_with (first|(go_at_call 207;refine hlz.mono ?_;rintro e w' ⟨rfl,rfl⟩))
 go_loop [15,16] (fun a b=>∃ q r,a=.int .u64 q/\b=.int .u64 r/\Hid (q*d1+r=u)/\Q1<=q/\q<=4294967297/\0<=r/\r<4294967296) (fun a _=>(intOf a).toNat)
 case atStart=>exact ⟨q,r,by first|rfl|rw [hq],rfl,F1A,f1b,f1c,f1d,f1e⟩
 case round =>
  clear f1b f1c f1d f1e hqd0 hqd1 F1A hqr
  obtain ⟨q1,r1,rfl,rfl,hqr,hge,hle,hr0,hr1⟩:=hrel
  have hm0:0<=q1*d0:=Int.mul_nonneg (by omega) d0p
  by_cases hbig:4294967296<=q1
  ·have hg1:Q1<=q1-1:=by have:=D1H.out.big' hbig;rw [HQ1.out] at this;exact this
   by_cases hb:r1+d1<4294967296
   ·go_wp2
    go_round
    case rel=>exact ⟨q1-1,r1+d1,rfl,rfl,by show _=_;rw [Int.sub_mul];have:=hqr.out;omega,hg1,by omega,by omega,hb⟩
    case measure=>simp [intOf];omega
   ·have hqq:q1-1=Q1:=by
     have:=D1H.out.right' (q:=q1-1) (r:=r1+d1) (by rw [Int.sub_mul];have:=hqr.out;omega) (by rw [HQ1.out];exact hg1) (by omega) (by omega)
     rw [HQ1.out] at this;exact this.symm
    go_wp2
    clear hqr hge hle hr0 hr1 hm0
    go_loop [18,16] (fun a b=>∃ q r,a=.int .u64 q/\b=.int .u64 r/\Hid (q*d1+r=R1)/\Q0<=q/\q<=4294967297/\0<=r/\r<4294967296) (fun a _=>(intOf a).toNat)
    case atStart=>exact ⟨p2,s2,by first|rfl|rw [hp2],rfl,F0A,f0b,f0c,f0d,f0e⟩
    case round =>
     clear f0b f0c f0d f0e hpd0 hpd1 F0A hpr
     obtain ⟨q3,r3,rfl,rfl,hqr,hge,hle,hr0,hr1⟩:=hrel
     have hm0:0<=q3*d0:=Int.mul_nonneg (by omega) d0p
     by_cases hbig:4294967296<=q3
     ·have hg1:Q0<=q3-1:=by have:=D0H.out.big' hbig;rw [HQ0.out] at this;exact this
      by_cases hb:r3+d1<4294967296
      ·go_wp2
       go_round
       case rel=>exact ⟨q3-1,r3+d1,rfl,rfl,by show _=_;rw [Int.sub_mul];have:=hqr.out;omega,hg1,by omega,by omega,hb⟩
       case measure=>simp [intOf];omega
      ·have hqq:q3-1=Q0:=by
        have:=D0H.out.right' (q:=q3-1) (r:=r3+d1) (by rw [Int.sub_mul];have:=hqr.out;omega) (by rw [HQ0.out];exact hg1) (by omega) (by omega)
        rw [HQ0.out] at this;exact this.symm
       go_wp2
       go_ret2
       exact ⟨rfl,0,rfl⟩
     ·have hsm:q3<4294967296:=by omega
      have hm1:q3*d0<=4294967295*4294967295:=Int.mul_le_mul (by omega) (by omega) d0p (by decide)
      by_cases ht:4294967296*r3+e0<q3*d0
      ·have hg1:Q0<=q3-1:=by have:=D0H.out.big hqr.out ht;rw [HQ0.out] at this;exact this
       by_cases hb:r3+d1<4294967296
       ·go_wp2
        go_round
        case rel=>exact ⟨q3-1,r3+d1,rfl,rfl,by show _=_;rw [Int.sub_mul];have:=hqr.out;omega,hg1,by omega,by omega,hb⟩
        case measure=>simp [intOf];omega
       ·have hqq:q3-1=Q0:=by
         have:=D0H.out.right' (q:=q3-1) (r:=r3+d1) (by rw [Int.sub_mul];have:=hqr.out;omega) (by rw [HQ0.out];exact hg1) (by omega) (by omega)
         rw [HQ0.out] at this;exact this.symm
        go_wp2
        go_ret2
        exact ⟨rfl,0,rfl⟩
      ·obtain rfl:Q0=q3:=by
        have:=D0H.out.right hqr.out (by rw [HQ0.out];exact hge) (by omega)
        rw [HQ0.out] at this;exact this
       go_wp2
       go_ret2
       exact ⟨rfl,0,rfl⟩
  ·have hsm:q1<4294967296:=by omega
   have hm1:q1*d0<=4294967295*4294967295:=Int.mul_le_mul (by omega) (by omega) d0p (by decide)
   by_cases ht:4294967296*r1+e1<q1*d0
   ·have hg1:Q1<=q1-1:=by have:=D1H.out.big hqr.out ht;rw [HQ1.out] at this;exact this
    by_cases hb:r1+d1<4294967296
    ·go_wp2
     go_round
     case rel=>exact ⟨q1-1,r1+d1,rfl,rfl,by show _=_;rw [Int.sub_mul];have:=hqr.out;omega,hg1,by omega,by omega,hb⟩
     case measure=>simp [intOf];omega
    ·have hqq:q1-1=Q1:=by
      have:=D1H.out.right' (q:=q1-1) (r:=r1+d1) (by rw [Int.sub_mul];have:=hqr.out;omega) (by rw [HQ1.out];exact hg1) (by omega) (by omega)
      rw [HQ1.out] at this;exact this.symm
     go_wp2
     clear hqr hge hle hr0 hr1 hm0
     go_loop [18,16] (fun a b=>∃ q r,a=.int .u64 q/\b=.int .u64 r/\Hid (q*d1+r=R1)/\Q0<=q/\q<=4294967297/\0<=r/\r<4294967296) (fun a _=>(intOf a).toNat)
     case atStart=>exact ⟨p2,s2,by first|rfl|rw [hp2],rfl,F0A,f0b,f0c,f0d,f0e⟩
     case round =>
      clear f0b f0c f0d f0e hpd0 hpd1 F0A hpr
      obtain ⟨q3,r3,rfl,rfl,hqr,hge,hle,hr0,hr1⟩:=hrel
      have hm0:0<=q3*d0:=Int.mul_nonneg (by omega) d0p
      by_cases hbig:4294967296<=q3
      ·have hg1:Q0<=q3-1:=by have:=D0H.out.big' hbig;rw [HQ0.out] at this;exact this
       by_cases hb:r3+d1<4294967296
       ·go_wp2
        go_round
        case rel=>exact ⟨q3-1,r3+d1,rfl,rfl,by show _=_;rw [Int.sub_mul];have:=hqr.out;omega,hg1,by omega,by omega,hb⟩
        case measure=>simp [intOf];omega
       ·have hqq:q3-1=Q0:=by
         have:=D0H.out.right' (q:=q3-1) (r:=r3+d1) (by rw [Int.sub_mul];have:=hqr.out;omega) (by rw [HQ0.out];exact hg1) (by omega) (by omega)
         rw [HQ0.out] at this;exact this.symm
        go_wp2
        go_ret2
        exact ⟨rfl,0,rfl⟩
      ·have hsm:q3<4294967296:=by omega
       have hm1:q3*d0<=4294967295*4294967295:=Int.mul_le_mul (by omega) (by omega) d0p (by decide)
       by_cases ht:4294967296*r3+e0<q3*d0
       ·have hg1:Q0<=q3-1:=by have:=D0H.out.big hqr.out ht;rw [HQ0.out] at this;exact this
        by_cases hb:r3+d1<4294967296
        ·go_wp2
         go_round
         case rel=>exact ⟨q3-1,r3+d1,rfl,rfl,by show _=_;rw [Int.sub_mul];have:=hqr.out;omega,hg1,by omega,by omega,hb⟩
         case measure=>simp [intOf];omega
        ·have hqq:q3-1=Q0:=by
          have:=D0H.out.right' (q:=q3-1) (r:=r3+d1) (by rw [Int.sub_mul];have:=hqr.out;omega) (by rw [HQ0.out];exact hg1) (by omega) (by omega)
          rw [HQ0.out] at this;exact this.symm
         go_wp2
         go_ret2
         exact ⟨rfl,0,rfl⟩
       ·obtain rfl:Q0=q3:=by
         have:=D0H.out.right hqr.out (by rw [HQ0.out];exact hge) (by omega)
         rw [HQ0.out] at this;exact this
        go_wp2
        go_ret2
        exact ⟨rfl,0,rfl⟩
   ·obtain rfl:Q1=q1:=by
     have:=D1H.out.right hqr.out (by rw [HQ1.out];exact hge) (by omega)
     rw [HQ1.out] at this;exact this
    go_wp2
    clear hqr hge hle hr0 hr1 hm0
    go_loop [18,16] (fun a b=>∃ q r,a=.int .u64 q/\b=.int .u64 r/\Hid (q*d1+r=R1)/\Q0<=q/\q<=4294967297/\0<=r/\r<4294967296) (fun a _=>(intOf a).toNat)
    case atStart=>exact ⟨p2,s2,by first|rfl|rw [hp2],rfl,F0A,f0b,f0c,f0d,f0e⟩
    case round =>
     clear f0b f0c f0d f0e hpd0 hpd1 F0A hpr
     obtain ⟨q3,r3,rfl,rfl,hqr,hge,hle,hr0,hr1⟩:=hrel
     have hm0:0<=q3*d0:=Int.mul_nonneg (by omega) d0p
     by_cases hbig:4294967296<=q3
     ·have hg1:Q0<=q3-1:=by have:=D0H.out.big' hbig;rw [HQ0.out] at this;exact this
      by_cases hb:r3+d1<4294967296
      ·go_wp2
       go_round
       case rel=>exact ⟨q3-1,r3+d1,rfl,rfl,by show _=_;rw [Int.sub_mul];have:=hqr.out;omega,hg1,by omega,by omega,hb⟩
       case measure=>simp [intOf];omega
      ·have hqq:q3-1=Q0:=by
        have:=D0H.out.right' (q:=q3-1) (r:=r3+d1) (by rw [Int.sub_mul];have:=hqr.out;omega) (by rw [HQ0.out];exact hg1) (by omega) (by omega)
        rw [HQ0.out] at this;exact this.symm
       go_wp2
       go_ret2
       exact ⟨rfl,0,rfl⟩
     ·have hsm:q3<4294967296:=by omega
      have hm1:q3*d0<=4294967295*4294967295:=Int.mul_le_mul (by omega) (by omega) d0p (by decide)
      by_cases ht:4294967296*r3+e0<q3*d0
      ·have hg1:Q0<=q3-1:=by have:=D0H.out.big hqr.out ht;rw [HQ0.out] at this;exact this
       by_cases hb:r3+d1<4294967296
       ·go_wp2
        go_round
        case rel=>exact ⟨q3-1,r3+d1,rfl,rfl,by show _=_;rw [Int.sub_mul];have:=hqr.out;omega,hg1,by omega,by omega,hb⟩
        case measure=>simp [intOf];omega
       ·have hqq:q3-1=Q0:=by
         have:=D0H.out.right' (q:=q3-1) (r:=r3+d1) (by rw [Int.sub_mul];have:=hqr.out;omega) (by rw [HQ0.out];exact hg1) (by omega) (by omega)
         rw [HQ0.out] at this;exact this.symm
        go_wp2
        go_ret2
        exact ⟨rfl,0,rfl⟩
      ·obtain rfl:Q0=q3:=by
        have:=D0H.out.right hqr.out (by rw [HQ0.out];exact hge) (by omega)
        rw [HQ0.out] at this;exact this
       go_wp2
       go_ret2
       exact ⟨rfl,0,rfl⟩
def dlG (n:Nat):Nat:=n/100/8*4+n/10%10/8*2+n%10/8
def dlR (g:Nat):Nat×Nat×Nat :=
 if g=0 then (10,11,22) else if g=1 then (10,11,4) else if g=2 then (10,12,5) else if g=4 then (12,11,6) else if g=3 then (10,2,7) else if g=5 then (11,1,7) else if g=6 then (12,0,7) else (0,3,7)
def dlT (n r:Nat):Nat:=if 10<=r then (if r%10=0 then n/100 else if r%10=1 then n/10%10 else n%10)/2%4 else r
def dlE (n:Nat):Nat:=dlT n (dlR (dlG n)).1*256+n/100%2*128+dlT n (dlR (dlG n)).2.1*32+n/10%10%2*16+dlT n (dlR (dlG n)).2.2*2+n%10%2
def dlM (d n:Nat):Bool:=dlE n==d||(d/32%4==3&&d/2%8==7&&dlE n==d%256)
def dlD (d:Nat):Nat :=
 let a:=d/128;let b:=d/16%8;let x:=d%2
 let p:=d/256;let q:=d/128%2;let s:=d/32%4;let t:=d/16%2
 if d/8%2=0 then a*100+b*10+d%8
 else if d/2%4=0 then a*100+b*10+(8+x)
 else if d/2%4=1 then a*100+(8+t)*10+(s*2+x)
 else if d/2%4=2 then (8+q)*100+b*10+(p*2+x)
 else if s=0 then (8+q)*100+(8+t)*10+(p*2+x)
 else if s=1 then (8+q)*100+(p*2+t)*10+(8+x)
 else if s=2 then a*100+(8+t)*10+(8+x)
 else (8+q)*100+(8+t)*10+(8+x)
def upTo (f:Nat->Bool):Nat->Bool
 | 0=>true
 | i+1=>f i&&upTo f i
theorem zUd {f:Nat->Bool}:∀ {m:Nat},upTo f m=true->∀ i,i<m->f i=true
 | 0,_,i,hi=>absurd hi (Nat.not_lt_zero i)
 | m+1,h,i,hi=>by
  unfold upTo at h
  rw [Bool.and_eq_true] at h
  rcases Nat.lt_succ_iff_lt_or_eq.1 hi with h1|h1
  ·exact zUd h.2 i h1
  ·rw [h1];exact h.1
theorem zKg:∀ n,n<1000->dlD (dlE n)=n/\dlE n<1024:=fun n hn=>by
 have h:=zUd (f:=fun n=>decide (dlD (dlE n)=n/\dlE n<1024)) (m:=1000) (by decide +kernel) n hn
 exact of_decide_eq_true h
theorem zXd:∀ d,d<1024->dlD d<1000/\dlM d (dlD d)=true/\(d/32%4=3->d/2%8=7->dlD (d%256)=dlD d):=fun d hd=>by
 have h:=zUd (f:=fun d=>decide (dlD d<1000/\dlM d (dlD d)=true/\(d/32%4=3->d/2%8=7->dlD (d%256)=dlD d))) (m:=1024) (by decide +kernel) d hd
 exact of_decide_eq_true h
theorem yIb {d n:Nat}(hd:d<1024)(hn:n<1000):dlM d n=true↔n=dlD d:=by
 constructor
 ·intro h
  unfold dlM at h
  rw [Bool.or_eq_true,Bool.and_eq_true,Bool.and_eq_true] at h
  have hb:=(zKg n hn).1
  rcases h with h|⟨⟨h1,h2⟩,h3⟩
  ·rw [beq_iff_eq] at h
   rw [← hb,h]
  ·rw [beq_iff_eq] at h1 h2 h3
   rw [← hb,h3]
   exact (zXd d hd).2.2 h1 h2
 ·rintro rfl
  exact (zXd d hd).2.1
/-! declets in a row -/
def dlP:Nat->Nat->Nat
 | 0,_=>0
 | c+1,a=>dlE (a%1000)+1024*dlP c (a/1000)
def dlU:Nat->Nat->Nat
 | 0,_=>0
 | c+1,b=>dlD (b%1024)+1000*dlU c (b/1024)
theorem zMl:∀ (c a:Nat),dlP c a<1024^c
 | 0,a=>by unfold dlP;decide
 | c+1,a=>by
  unfold dlP
  have h1:=(zKg (a%1000) (Nat.mod_lt _ (by decide))).2
  have h2:=zMl c (a/1000)
  rw [Nat.pow_succ]
  omega
theorem zLl:∀ (c b:Nat),dlU c b<1000^c
 | 0,b=>by unfold dlU;decide
 | c+1,b=>by
  unfold dlU
  have h1:=(zXd (b%1024) (Nat.mod_lt _ (by decide))).1
  have h2:=zLl c (b/1024)
  rw [Nat.pow_succ]
  omega
theorem zTm:∀ (c a:Nat),a<1000^c->dlU c (dlP c a)=a
 | 0,a,h=>by
  rw [Nat.pow_zero] at h
  unfold dlU
  omega
 | c+1,a,h=>by
  unfold dlU dlP
  obtain ⟨h1,h2⟩:=zKg (a%1000) (Nat.mod_lt _ (by decide))
  rw [Nat.add_mul_mod_self_left,Nat.mod_eq_of_lt h2,h1,Nat.add_mul_div_left _ _ (by decide),Nat.div_eq_of_lt h2,Nat.zero_add,zTm c (a/1000) (by rw [Nat.pow_succ] at h;omega)]
  omega
def dPv (C:Nat)(n:Int):Nat:=if 0<=n/\n<=11 then (if C<1000^n.toNat then dlP n.toNat C else 0) else 0
def dPe (C:Nat)(n:Int):Int:=if 0<=n/\n<=11 then (if C<1000^n.toNat then 0 else 3) else 1
def dUv (B:Nat)(n:Int):Nat:=if 0<=n/\n<=11 then (if B<1024^n.toNat then dlU n.toNat B else 0) else 0
def dUe (B:Nat)(n:Int):Int:=if 0<=n/\n<=11 then (if B<1024^n.toNat then 0 else 3) else 1
theorem zUm:∀ (c a:Nat),dlP (c+1) a=dlP c a+dlE (a/1000^c%1000)*1024^c
 | 0,a=>by
  show dlE (a%1000)+1024*dlP 0 (a/1000)=dlP 0 a+_
  rw [show dlP 0 (a/1000)=0 from rfl,show dlP 0 a=0 from rfl]
  simp
 | c+1,a=>by
  show dlE (a%1000)+1024*dlP (c+1) (a/1000)=(dlE (a%1000)+1024*dlP c (a/1000))+_
  rw [zUm c (a/1000),Nat.div_div_eq_div_mul,show 1000*1000^c=1000^(c+1) by rw [Nat.pow_succ,Nat.mul_comm],Nat.pow_succ 1024 c,Nat.mul_add,Nat.mul_comm 1024 (dlE _*_),Nat.mul_assoc,Nat.add_assoc]
theorem zGz (c a:Nat)(hc:c<=11):dlP c a<2^256:=by
 have h:=zMl c a
 have h2:(1024:Nat)^c<=1024^11:=Nat.pow_le_pow_right (by decide) hc
 have h3:(1024:Nat)^11<2^256:=by decide
 omega
theorem zFz (c a:Nat)(hc:c<=11):dlU c a<2^256:=by
 have h:=zLl c a
 have h2:(1000:Nat)^c<=1000^11:=Nat.pow_le_pow_right (by decide) hc
 have h3:(1000:Nat)^11<2^256:=by decide
 omega
theorem zTs:∀ (c b:Nat),dlU (c+1) b=dlU c (b/1024)*1000+dlD (b%1024):=fun c b=>by
 show dlD (b%1024)+1000*dlU c (b/1024)=_
 omega
theorem dlG_lt {n:Nat}(hn:n<1000):dlG n<8:=by
 unfold dlG;omega
theorem row_v (g:Nat)(hg:g<8)(w:World):CB 192 #[.int .i64 (g:Int)] w (.agg #[.int .i64 ((dlR g).1:Int),.int .i64 ((dlR g).2.1:Int),.int .i64 ((dlR g).2.2:Int)]):=by
 have h:g=0∨g=1∨g=2∨g=3∨g=4∨g=5∨g=6∨g=7:=by omega
 rcases h with rfl|rfl|rfl|rfl|rfl|rfl|rfl|rfl
 all_goals (
  go_enter Tryz.func192,Tryz.ntmps192
  go_wp2
  exact bodyPost_ret (by simp only [results,Tryz.results192];go_simp;exact ⟨rfl,rfl,rfl⟩) rfl ⟨rfl,bgo⟩)
end Go.Proofs.YtahfkpjhlbiamaaGreatDoor
