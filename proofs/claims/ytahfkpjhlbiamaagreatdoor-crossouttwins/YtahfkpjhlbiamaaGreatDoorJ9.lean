/-
  Texts that the proof leans on.
-/
import Derived.Test.YtahfkpjhlbiamaaGreatDoorJ6
import Derived.Test.YtahfkpjhlbiamaaGreatDoorJ1
import Derived.Lib.RabinKarpLaws
import Derived.Test.YtahfkpjhlbiamaaGreatDoorJ4
set_option linter.unusedVariables false
set_option linter.unusedSimpArgs false
set_option linter.unusedSectionVars false
set_option maxHeartbeats 8000000
set_option maxRecDepth 20000
namespace Go.Proofs.YtahfkpjhlbiamaaGreatDoor
open Go.RowKit
def zAv (x y:Nat->Int)(k j:Nat):Int:=if j<k then zZc x y j else x j
theorem zNn (x y:Nat->Int)(k j:Nat):(if j=k then zZc x y k else zAv x y k j)=zAv x y (k+1) j:=by
 unfold zAv
 by_cases e:j=k
 ·subst e
  rw [if_pos rfl,if_pos (by omega)]
 ·rw [if_neg e]
  by_cases e2:j<k
  ·rw [if_pos e2,if_pos (by omega)]
  ·rw [if_neg e2,if_neg (by omega)]
theorem zCw (x y:Nat->Int)(k:Nat):zAv x y k k=x k:=by unfold zAv;rw [if_neg (by omega)]
theorem zD0 {x y b:Int}(hx:0<=x/\x<=18446744073709551615)(hy:0<=y/\y<=18446744073709551615)(hb:0<=b/\b<=1):(x-y-b)%18446744073709551616-bor x y b*18446744073709551616=x-y-b:=by
 unfold bor;split<;>omega
theorem zAi {x y:Nat->Int}(hx:zDa x)(hy:zDa y):∀ n,val (zZc x y) n-zXe x y n*18446744073709551616^n=val x n-val y n
 | 0=>by simp [val,zXe]
 | n+1=>by
  have ih:=zAi hx hy n
  have h:=zD0 (hx n) (hy n) (zIf x y n)
  show val (zZc x y) n+zZc x y n*18446744073709551616^n-bor (x n) (y n) (zXe x y n)*18446744073709551616^(n+1)=val x n+x n*18446744073709551616^n-(val y n+y n*18446744073709551616^n)
  have hd:zZc x y n=(x n-y n-zXe x y n)%18446744073709551616:=rfl
  rw [← hd] at h
  rw [Int.pow_succ]
  generalize (18446744073709551616:Int)^n=P at *
  grind
theorem zF0 {x y:Nat->Int}(hx:zDa x){k:Nat}(zy:∀ i,k<=i->y i=0){i:Nat}(hi:k<=i)(h0:zXe x y i=0):∀ j,i<=j->zXe x y j=0/\zZc x y j=x j:=by
  have h1:∀ j,i<=j->zXe x y j=0:=by
    intro j hj
    induction j with
    | zero => obtain rfl : i = 0 := by omega
              exact h0
    | succ j ih =>
      by_cases e:i=j+1
      · rw [← e];exact h0
      · have hb:=hx j
        show bor (x j) (y j) (zXe x y j)=0
        rw [ih (by omega),zy j (by omega)];unfold bor;rw [if_neg (by omega)]
  intro j hj
  refine ⟨h1 j hj,?_⟩
  have hb:=hx j
  unfold zZc
  rw [h1 j hj,zy j (by omega)];omega
theorem zZm {x y:Nat->Int}(hx:zDa x)(hy:zDa y){n:Nat}(h:val y n<=val x n):zXe x y n=0:=by
 have e:=zAi hx hy n
 have h1:=zVa (zIe x y) n
 have h2:=zIf x y n
 have h3:=zOb n
 by_cases h0:zXe x y n=0
 ·exact h0
 ·have:zXe x y n=1:=by omega
  rw [this] at e;omega
theorem zVr (a:Option Addr)(n c:Nat)(x:Nat->Int)(w:World)(hn:n<100000000)(h:Num w a n c x) :
  CQ 110 #[.slice a n c] w (.int .i64 (lenL x n)):=by
 have hb:=zRa a n c x w (by omega) h
 have hle:=zCa x n
 by_cases h0:sizeL x n=0
 ·have HL:Hid (lenL x n=0):=by show _=_;simp [lenL,h0]
  rw [h0] at hb
  clear h0 h
  go_enter Tryz.func110,Tryz.ntmps110
  go_wp2_with (go_at_call 102;refine hb.mono ?_;rintro e w' ⟨rfl,rfl⟩)
  go_ret
  exact ⟨zWa HL.out.symm,rfl⟩
 ·obtain ⟨j,hj⟩:∃ j,sizeL x n=j+1:=⟨sizeL x n-1,by omega⟩
  have HL:Hid (lenL x n=64*(j:Int)+Lib.bitLen (x j).toNat):=by show _=_;simp [lenL,hj];omega
  obtain ⟨b,off,rfl,hbs,hc⟩:=h.cells (by omega)
  rw [hj] at hb
  have hcj:=hc j (by omega)
  have hbx:=h.2.2.1 j
  have hbl:=zSf (x j).toNat
  have hj':j+1<=n:=by omega
  clear h0 hc hj hle h
  have hcl:=Tryz.bits_Len64 (x j) w hbx.1 hbx.2
  generalize Lib.bitLen (x j).toNat=L at *
  go_enter Tryz.func110,Tryz.ntmps110
  go_wp2_with (first|(go_at_call 102;refine hb.mono ?_;rintro e w' ⟨rfl,rfl⟩)|(go_at_call 135;refine hcl.mono ?_;rintro e w' ⟨rfl,rfl⟩))
  go_ret
  exact ⟨zWa (by rw [HL.out];omega),rfl⟩
theorem zR2 (w:World):CQ 69 #[.slice none 0 0] w (.int .i64 0):=by
 have hs:=zIr w
 go_enter Tryz.func69,Tryz.ntmps69
 go_wp2_with (go_at_call 134;refine hs.mono ?_;rintro e w' ⟨rfl,rfl⟩)
 go_ret
 exact ⟨rfl,rfl⟩
theorem zGj (a:Option Addr)(n c:Nat)(x:Nat->Int)(w:World)(hn:n<100000000)(h:Num w a n c x) :
  CQ 69 #[.slice a n c] w (.int .i64 (lenL x n)):=by
 have h':=h
 obtain ⟨h1,h2,h3,h4,h5⟩:=h'
 rcases h5 with ⟨rfl,rfl⟩|⟨b,off,rfl,hb,hc⟩
 ·obtain rfl:n=0:=by omega
  exact zR2 w
 ·exact (yJa b off n c x w hn h3 hc).mono fun e w' hw=>⟨hw.1,hw.2.symm⟩
theorem zU2 (a a':Option Addr)(n c n' c':Nat)(x y:Nat->Int)(w:World)(hn:n<4000000000)(hn':n'<4000000000)(h:Num w a n c x)(h':Num w a' n' c' y) :
  Calls Tryz.prog 63 #[.slice a n c,.slice a' n' c'] w fun e w'=>∃ g k cap z,e=.returned (.slice (some ⟨g,0,none⟩) k cap)/\k<=max n n'+1/\Num w' (some ⟨g,0,none⟩) k cap z/\val z k=val x n+val y n'/\Below w.heap.size w w':=by
 refine (zV2 a a' n c n' c' x y w (by omega) (by omega) h h').mono fun e w' ⟨g,k,cap,e1,hk,hN,hB⟩=>⟨g,k,cap,_,e1,hk,hN,?_,hB⟩
 have e:=zPh (x:=x) (y:=y) (max n n'+1)
 rw [zOj h.2.2.1 h'.2.2.1 h.2.2.2.1 h'.2.2.2.1 (by omega) (by omega),zLa h.2.2.2.1 _ (by omega),zLa h'.2.2.2.1 _ (by omega),zLa hN.2.2.2.1 _ hk] at e
 omega
theorem ncmp_b (a a':Option Addr)(n c n' c':Nat)(x y:Nat->Int)(w:World)(hn:n<4294967296)(hn':n'<4294967296)(h:Num w a n c x)(h':Num w a' n' c' y) :
  CB 57 #[.slice a n c,.slice a' n' c'] w (.int .i64 (sgn (val x n) (val y n'))) :=
 (zXr a a' n c n' c' x y w hn hn' h h').mono fun e w' ⟨h1,m,hm⟩=>⟨h1,hm▸below_drewN (Below.refl _ _) m⟩
theorem zD3 (w:World):Num w none 0 0 (fun _=>0):=⟨Nat.le_refl _,by unfold maxLen;omega,fun _=>(by decide:(0:Int)<=0/\(0:Int)<=18446744073709551615),fun _ _=>rfl,Or.inl ⟨rfl,rfl⟩⟩
theorem zGl (a n z C:Int)(w:World)(ha:0<=a/\a<=18446744073709551615)(hn:0<=n/\n<=18446744073709551615)(hz:0<=z/\z<=18446744073709551615)(hC:0<=C/\C<=18446744073709551615) :
  Calls Tryz.prog 189 #[.int .u64 a,.int .u64 n,.int .u64 z,.int .u64 C] w fun e w'=>∃ l h,e=.returned (.tuple #[.int .u64 l,.int .u64 h])/\l+h*18446744073709551616=a*n+z+C/\(0<=l/\l<=18446744073709551615)/\(0<=h/\h<=18446744073709551615)/\w=w':=by
 have hms:=zMm a n z C ha hn hz hC
 have hmul:=zYx a n ha hn w
 have hL0:0<=a*n%18446744073709551616:=Int.emod_nonneg _ (by decide)
 have hA1:=fun w=>zJk (a*n%18446744073709551616) z hL0 hz.1 w
 have hs0:0<=(a*n%18446744073709551616+z)%18446744073709551616:=Int.emod_nonneg _ (by decide)
 have hA2:=fun w=>zJk ((a*n%18446744073709551616+z)%18446744073709551616) C hs0 hC.1 w
 have ht0:0<=((a*n%18446744073709551616+z)%18446744073709551616+C)%18446744073709551616/\((a*n%18446744073709551616+z)%18446744073709551616+C)%18446744073709551616<=18446744073709551615:=by omega
 generalize ((a*n%18446744073709551616+z)%18446744073709551616+C)%18446744073709551616=t2 at *
 generalize ((a*n%18446744073709551616+z)%18446744073709551616+C)/18446744073709551616=f2 at *
 generalize (a*n%18446744073709551616+z)%18446744073709551616=t1 at *
 generalize (a*n%18446744073709551616+z)/18446744073709551616=f1 at *
 generalize a*n%18446744073709551616=lo at *
 generalize a*n/18446744073709551616=hi at *
 have HMS:Hid (t2+(hi+f1+f2)*18446744073709551616=a*n+z+C):=hms.1
 have hb1:0<=hi+f1:=hms.2.1
 have hb2:hi+f1<=18446744073709551615:=hms.2.2.1
 have hb3:0<=hi+f1+f2:=hms.2.2.2.1
 have hb4:hi+f1+f2<=18446744073709551615:=hms.2.2.2.2
 clear hms
 go_enter Tryz.func189,Tryz.ntmps189
 go_wp2_with (go_at_call 154;refine hmul.mono ?_;rintro e w' ⟨rfl,rfl⟩)
 go_ret2
 exact ⟨t2,hi+f1+f2,rfl,HMS.out,ht0,⟨hb3,hb4⟩,rfl⟩
theorem zUk (g N off m c k c':Nat)(a':Option Addr)(x y:Nat->Int)(n:Int)(w:World)(hm:off+m<=N)(hN:N<4294967296)(hk:k<=m)(hx:zDa x)(hn:0<=n/\n<=18446744073709551615)(h:Own g N x w)(h':Num w a' k c' y)(hA:zSi a' g) :
  Calls Tryz.prog 144 #[.slice (some ⟨g,off,none⟩) m c,.slice a' k c',.int .u64 n] w fun e w'=>∃ C z,e=.returned (.int .u64 C)/\(0<=C/\C<=18446744073709551615)/\Own g N z w'/\zDa z/\val z N+C*18446744073709551616^(off+k)=val x N+n*val y k*18446744073709551616^off/\(∀ i,off+k<=i->z i=x i)/\Upd g w w':=by
 have hy:=h'.2.2.1
 go_enter Tryz.func144,Tryz.ntmps144
 go_wp2
 go_loopw [7,8,9,12,17] (fun cv u8 u9 i u17 wr=>∃ (j:Nat) (C:Int) (z:Nat->Int),j<=k/\i=.int .i64 j/\cv=.int .u64 C/\(0<=C/\C<=18446744073709551615)/\Own g N z wr/\zDa z/\Hid (val z N+C*18446744073709551616^(off+j)=val x N+n*val y j*18446744073709551616^off)/\(∀ i,off+j<=i->z i=x i)/\Upd g w wr) (fun _ _ _ i _ _=>k-(intOf i).toNat)
 case atStart=>exact ⟨0,0,x,Nat.zero_le _,rfl,rfl,by decide,h,hx,by show _=_;simp [val],fun _ _=>rfl,Upd.refl _ _⟩
 case round =>
  obtain ⟨j,C,z,hj,rfl,rfl,hCb,hO,hzw,hv,hzx,hU⟩:=hrel
  by_cases hlt:j<k
  ·have hji:(j:Int)<k:=by omega
   have hjm:(j:Int)<m:=by omega
   obtain ⟨b,off',rfl,hb,hc⟩:=(hU.num' hA h').cells (by omega)
   have hcj:=hc j hlt
   have hco:=hO.cell (off+j) (by omega)
   have hfo:=hO.frozen (off+j)
   have hma:=fun w=>zGl (y j) n (z (off+j)) C w (hy j) hn (hzw (off+j)) hCb
   have HO:Hid (Own g N z wr):=hO
   have HU:Hid (Upd g w wr):=hU
   have HZW:Hid (zDa z):=hzw
   have HZX:Hid (∀ i,off+j<=i->z i=x i):=hzx
   clear hO hU hc h h' hA hx hy hzw hzx
   go_wp2_with (go_at_call 189;refine (hma _).mono ?_;rintro e w1 ⟨l,hi,rfl,hlh,hlb,hhb,rfl⟩)
   go_roundw
   case rel =>
    refine ⟨j+1,hi,fun i=>if i=off+j then l else z i,by omega,by go_num,rfl,hhb,HO.out.set (off+j) l,zGc HZW.out hlb,?_,?_,HU.out.set (off+j) _⟩
    ·show _=_
     rw [zKe z (off+j) l N (by omega)]
     exact zUj _ _ _ _ _ _ _ _ _ off j hv.out (by rw [hlh,Int.mul_comm (y j) n])
    ·intro i hi2
     exact (if_neg (show ¬ i=off+j by omega)).trans (HZX.out i (by omega))
   case measure=>simp [intOf];omega
  ·obtain rfl:j=k:=by omega
   have HO:Hid (Own g N z wr):=hO
   have HU:Hid (Upd g w wr):=hU
   have HZW:Hid (zDa z):=hzw
   have HZX:Hid (∀ i,off+j<=i->z i=x i):=hzx
   clear hO hU h h' hA hx hy hzw hzx
   go_wp2
   go_ret
   exact ⟨C,z,rfl,hCb,HO.out,HZW.out,hv.out,HZX.out,HU.out⟩
theorem zUe {w:World}{a:Option Addr}{n c:Nat}{x:Nat->Int}(h:Num w a n c x):zSi a w.heap.size:=by
 intro p hp
 rcases h.2.2.2.2 with ⟨h,_⟩|⟨b,off,h,hb,_⟩
 ·rw [h] at hp;cases hp
 ·rw [h] at hp;cases hp;exact Nat.ne_of_lt hb
theorem zDj:∀ m,val (fun _=>0) m=0:=by intro m;induction m with|zero=>rfl|succ m ih=>simp only [val];rw [ih];simp
theorem zLm (a a':Option Addr)(n c n' c':Nat)(x y:Nat->Int)(w:World)(hn:n<4000000000)(hn':n'<4000000000)(h:Num w a n c x)(h':Num w a' n' c' y)(hs:sizeL x n+sizeL y n'<=2000) :
  Calls Tryz.prog 81 #[.slice a n c,.slice a' n' c'] w fun e w'=>∃ g k cap z,e=.returned (.tuple #[.slice (some ⟨g,0,none⟩) k cap,.int .i64 0])/\k<=sizeL x n+sizeL y n'/\Num w' (some ⟨g,0,none⟩) k cap z/\val z k=val x n*val y n'/\sizeL z k=k/\Below w.heap.size w w':=by
 have hb:=zRa a n c x w (by omega) h
 have hb':=zRa a' n' c' y w (by omega) h'
 rw [← zMa n,← zMa n']
 have hx:=h.2.2.1
 have hy:=h'.2.2.1
 have hle:=zCa x n
 have hle':=zCa y n'
 have hN:=h.bare
 have hN':=h'.bare
 generalize sizeL x n=s at *
 generalize sizeL y n'=s' at *
 clear h h'
 obtain ⟨N,hNs⟩:∃ N,s+s'=N:=⟨_,rfl⟩
 have hNi:(s:Int)+s'=N:=by omega
 have hmk:=fun w=>zAb ((s:Int)+s') N hNi (by omega) w
 have hN2:(s:Int)+s'<=2000:=by omega
 have HNS:Hid (s+s'=N):=hNs
 have hA:=zUe hN
 have hA':=zUe hN'
 have hO:=Own.new w (fun _=>0) N
 have hBW:=zEa w (.cells (arrOf (fun _=>0) N) 22)
 have hnx:=hN.next hBW
 have hny:=hN'.next hBW
 have hap:=fun wr z off hO hzw hU (hoff:off+s<=N) n hn=>zUk w.heap.size N off (N-off) (N-off) s c a z x n wr (by omega) (by omega) (by omega) hzw hn hO (Upd.num' (w:=w.alloc (.cells (arrOf (fun _=>0) N) 22)) hU hA hnx) hA
 have HBW:Hid (Below w.heap.size w (w.alloc (.cells (arrOf (fun _=>0) N) 22))):=hBW
 clear hBW hN hN' hNi hNs
 go_enter Tryz.func81,Tryz.ntmps81
 go_wp2_with (first|(go_at_call_of 102 (Value.slice a n c);refine hb.mono ?_;rintro e w' ⟨rfl,rfl⟩)|(go_at_call_of 102 (Value.slice a' n' c');refine hb'.mono ?_;rintro e w' ⟨rfl,rfl⟩))
 generalize w.alloc (.cells (arrOf (fun _=>0) N) 22)=wA at *
 go_loopw [9,10,29] (fun u9 u10 i wr=>∃ (j:Nat) (z:Nat->Int),j<=s'/\i=.int .i64 j/\Own w.heap.size N z wr/\zDa z/\(∀ q,s+j<=q->z q=0)/\Hid (val z N=val x s*val y j)/\Upd w.heap.size wA wr) (fun _ _ i _=>s'-(intOf i).toNat)
 case atStart=>exact ⟨0,fun _=>0,Nat.zero_le _,rfl,hO,fun _=>(by decide:(0:Int)<=0/\(0:Int)<=18446744073709551615),fun _ _=>rfl,by show _=_;rw [zDj];simp [val],Upd.refl _ _⟩
 case round =>
  clear hO
  obtain ⟨j,z,hj,rfl,hO,hzw,hz0,hv,hU⟩:=hrel
  by_cases hlt:j<s'
  ·have hji:(j:Int)<s':=by omega
   obtain ⟨b,off',rfl,hbb,hc⟩:=(hU.num' hA' hny).cells (by omega)
   have hcj:=hc j hlt
   have hap1:=hap wr z j hO hzw hU (by have:=HNS.out;omega) (y j) (hy j)
   have hjN:(j:Int)<=N:=by have:=HNS.out;omega
   have hjs:(j:Int)+s<N:=by have:=HNS.out;omega
   have e1:((j:Int)+s).toNat=j+s:=by omega
   have HU:Hid (Upd w.heap.size wA wr):=hU
   have HZ0:Hid (∀ q,s+j<=q->z q=0):=hz0
   clear hO hU hc hzw hz0 hap hx hy hA hA' hnx hny
   go_wp2_with (go_at_call 144;refine hap1.mono ?_;rintro e w1 ⟨C,z1,rfl,hCb,hO1,hw1,hv1,hzx1,hU1⟩;have hc1:=hO1.cell (j+s) (by have:=HNS.out;omega);have hf1:=hO1.frozen (j+s))
   go_roundw
   case rel =>
    have e2:z1 (j+s)=0:=by rw [hzx1 (j+s) (Nat.le_refl _)];exact HZ0.out _ (by omega)
    refine ⟨j+1,fun i=>if i=j+s then C else z1 i,by omega,by go_num,hO1.set (j+s) C,zGc hw1 hCb,?_,?_,(HU.out.trans hU1).set (j+s) _⟩
    ·intro q hq
     exact (if_neg (show ¬ q=j+s by omega)).trans ((hzx1 q (by omega)).trans (HZ0.out q (by omega)))
    ·show _=_
     rw [zKe z1 (j+s) C N (by have:=HNS.out;omega),e2,Int.sub_zero,hv1,hv.out]
     show _=val x s*(val y j+y j*18446744073709551616^j)
     generalize (18446744073709551616:Int)^j=P
     grind
   case measure=>simp [intOf];omega
  ·obtain rfl:j=s':=by omega
   have hN2':=hO.num hzw 0 N N (by omega) (Nat.le_refl _) (by unfold maxLen;have:=HNS.out;omega)
   have hbr:=zRa (some ⟨w.heap.size,0,none⟩) N N (segW z 0 N) wr (by have:=HNS.out;omega) hN2'
   have HN2:Hid (Num wr (some ⟨w.heap.size,0,none⟩) (sizeL (segW z 0 N) N) N (segW z 0 N)):=hN2'.bare
   have HV2:Hid (val (segW z 0 N) (sizeL (segW z 0 N) N)=val x s*val y j):=by
    show _=_
    rw [zMa,zKa (x:=segW z 0 N) (y:=z) N fun i hi=>by rw [zBb _ 0 N i hi,Nat.zero_add],hv.out]
   have HS2:Hid (sizeL (segW z 0 N) (sizeL (segW z 0 N) N)=sizeL (segW z 0 N) N):=zGa _ _
   have HLE:Hid (sizeL (segW z 0 N) N<=N):=zCa _ _
   generalize segW z 0 N=z2 at *
   generalize sizeL z2 N=k at *
   have HB2:Hid (Below w.heap.size w wr):=HBW.out.trans (hU.below (Nat.le_refl _))
   clear hO hU hN2' hx hy hzw hz0 hap hA hA' hnx hny
   go_wp2_with (go_at_call 102;refine hbr.mono ?_;rintro e w3 ⟨rfl,rfl⟩)
   go_ret2
   exact ⟨_,k,N,z2,rfl,by rw [HNS.out];exact HLE.out,HN2.out,HV2.out,HS2.out,HB2.out⟩
theorem zCj (a:Int):IntKind.u64.wrap a=a%18446744073709551616:=by
 simp only [IntKind.wrap,IntKind.bits,IntKind.signed]
 simp
theorem zEc (n:Nat):(0:Int)<2^n:=Int.pow_pos (by decide)
theorem zOe {r:Nat}(hr:r<=64):(2:Int)^(64-r)*2^r=18446744073709551616:=by
 rw [← Int.pow_add,show 64-r+r=64 by omega];rfl
def hiW (x:Int)(r:Nat):Int:=x*2^r/18446744073709551616
theorem zH6 (x:Int){r:Nat}(hr:r<=64):x/2^(64-r)=hiW x r:=by
 unfold hiW
 rw [← zOe hr,Int.mul_ediv_mul_of_pos_left _ _ (zEc r)]
theorem hiW_bd {x:Int}(hx:0<=x/\x<=18446744073709551615)(r:Nat):0<=hiW x r/\hiW x r<2^r:=by
 have hp:=zEc r
 unfold hiW
 refine ⟨Int.ediv_nonneg (Int.mul_nonneg hx.1 (by omega)) (by decide),Int.ediv_lt_of_lt_mul (by decide) ?_⟩
 rw [Int.mul_comm (2^r)]
 exact Int.mul_lt_mul_of_pos_right (by omega) hp
theorem zAq {r:Nat}(hr:r<64):(2:Int)^r<=9223372036854775808:=by
 have h:=zOe (show r<=64 by omega)
 have h1:(2:Int)^(64-r)=2^(63-r)*2:=by rw [← Int.pow_succ];congr 1;omega
 have h2:=zEc (63-r)
 rw [h1] at h
 have:(1:Int)*(2*2^r)<=2^(63-r)*(2*2^r):=Int.mul_le_mul_of_nonneg_right (by omega) (by have:=zEc r;omega)
 rw [← Int.mul_assoc] at this
 have e:(2:Int)^(63-r)*(2*2^r)=18446744073709551616:=by rw [← Int.mul_assoc];exact h
 omega
theorem zZ5 {y b:Int}{r:Nat}(hr:r<64)(hy:0<=y)(hb:0<=b/\b<2^r):orW b (IntKind.u64.wrap (y*2^r))=y*2^r%18446744073709551616+b:=by
 have hle:=zAq hr
 have hp:=zEc r
 have hme:y*2^r%(2^(64-r)*2^r)=y%2^(64-r)*2^r:=by
  have:=Int.mul_emod_mul_of_pos y (2^(64-r)) hp
  rw [Int.mul_comm y,Int.mul_comm (2^(64-r)),this,Int.mul_comm]
 rw [zYf b _ (by omega) (zUb _),zCj,← zOe (show r<=64 by omega),hme]
 have hm0:=Int.emod_nonneg y (show (2:Int)^(64-r)≠0 by have:=zEc (64-r);omega)
 obtain ⟨u,hu⟩:=Int.eq_ofNat_of_zero_le hm0
 obtain ⟨b',rfl⟩:=Int.eq_ofNat_of_zero_le hb.1
 rw [hu]
 have e1:((u:Int)*2^r).toNat=2^r*u:=by
  have:((u:Int)*2^r)=((2^r*u:Nat):Int):=by rw [Int.natCast_mul,zCb,Int.mul_comm]
  rw [this];exact Int.toNat_natCast _
 have hb2:b'<2^r:=by
  have h:=hb.2
  rw [← zCb] at h;omega
 rw [e1,Int.toNat_natCast,Nat.or_comm,← Nat.two_pow_add_eq_or_of_lt hb2]
 rw [Int.natCast_add,Int.natCast_mul,zCb,Int.mul_comm]
def prevW (x:Nat->Int)(r i:Nat):Int:=if i=0 then 0 else hiW (x (i-1)) r
def shW (x:Nat->Int)(r i:Nat):Int:=x i*2^r%18446744073709551616+prevW x r i
theorem zKm {x:Nat->Int}(hx:zDa x)(r i:Nat):0<=prevW x r i/\prevW x r i<2^r:=by
 unfold prevW;split
 ·have:=zEc r;omega
 ·exact hiW_bd (hx _) r
theorem zKw {x:Nat->Int}(hx:zDa x){r:Nat}(hr:r<64)(i:Nat):orW (prevW x r i) (IntKind.u64.wrap (x i*2^r))=shW x r i:=zZ5 hr (hx i).1 (zKm hx r i)
theorem zDl {x:Nat->Int}(hx:zDa x){r:Nat}(hr:r<64)(i:Nat):0<=prevW x r i/\prevW x r i<=18446744073709551615:=by
 have:=zKm hx r i
 have:=zAq hr
 omega
theorem zRj {x:Nat->Int}(hx:zDa x){r:Nat}(hr:r<64):zDa (shW x r):=fun i=>by
 rw [← zKw hx hr i];exact zVg _ _ (zDl hx hr i) (zUb _)
theorem zIw (x:Nat->Int)(r:Nat):∀ m,val (shW x r) m+prevW x r m*18446744073709551616^m=val x m*2^r
 | 0=>by simp [val,prevW]
 | m+1=>by
  have ih:=zIw x r m
  show val (shW x r) m+shW x r m*18446744073709551616^m+prevW x r (m+1)*18446744073709551616^(m+1)=(val x m+x m*18446744073709551616^m)*2^r
  have e1:prevW x r (m+1)=x m*2^r/18446744073709551616:=rfl
  have e2:shW x r m=x m*2^r%18446744073709551616+prevW x r m:=rfl
  have e3:=Int.emod_add_mul_ediv (x m*2^r) 18446744073709551616
  rw [e1,e2,Int.pow_succ]
  generalize x m*2^r/18446744073709551616=K at *
  generalize x m*2^r%18446744073709551616=R at *
  generalize (18446744073709551616:Int)^m=P at *
  grind
theorem zJw {x:Nat->Int}{n:Nat}(zx:∀ i,n<=i->x i=0)(r m:Nat)(h:n<m):val (shW x r) m=val x n*2^r:=by
 have e:=zIw x r m
 have e1:prevW x r m=0:=by
  unfold prevW hiW;rw [if_neg (by omega),zx (m-1) (by omega)];simp
 rw [e1,zLa zx m (by omega)] at e
 omega
def upW (f:Nat->Int)(q j:Nat):Int:=if q<=j then f (j-q) else 0
theorem zHv (f:Nat->Int)(q:Nat):∀ m,val (upW f q) (q+m)=val f m*18446744073709551616^q
 | 0=>by
  have:∀ k,k<=q->val (upW f q) k=0:=by
   intro k
   induction k with
   | zero=>intro _;rfl
   | succ k ih =>
    intro hk
    show val (upW f q) k+upW f q k*18446744073709551616^k=0
    rw [ih (by omega)]
    unfold upW;rw [if_neg (by omega)];simp
  rw [Nat.add_zero,this q (Nat.le_refl _)];simp [val]
 | m+1=>by
  have ih:=zHv f q m
  show val (upW f q) (q+m)+upW f q (q+m)*18446744073709551616^(q+m)=(val f m+f m*18446744073709551616^m)*18446744073709551616^q
  rw [ih]
  have e:upW f q (q+m)=f m:=by unfold upW;rw [if_pos (by omega)];congr 1;omega
  rw [e,Int.pow_add]
  generalize (18446744073709551616:Int)^m=P
  generalize (18446744073709551616:Int)^q=Q
  grind
theorem ySa {x:Nat->Int}(hx:zDa x)(q:Nat){r:Nat}(hr:r<64):zMc x q r=upW (shW x r) q:=by
 funext j
 unfold zMc upW
 by_cases h:q<=j
 ·rw [if_pos h,if_pos h,← zKw hx hr (j-q)]
  congr 1
  unfold zEf prevW
  by_cases h0:j-q=0
  ·rw [if_pos h0,if_neg (by omega)]
  ·rw [if_neg h0]
   by_cases hr0:0<r
   ·rw [if_pos (by omega),zH6 _ (by omega)]
   ·obtain rfl:r=0:=by omega
    rw [if_neg (by omega)]
    unfold hiW
    have:=hx (j-q-1)
    omega
 ·rw [if_neg h,if_neg h]
theorem p64 (q r:Nat):(2:Int)^r*18446744073709551616^q=2^(64*q+r):=by
 rw [Int.pow_add,Int.pow_mul,Int.mul_comm];rfl
theorem zQm {x:Nat->Int}{n:Nat}(hx:zDa x)(zx:∀ i,n<=i->x i=0)(q:Nat){r:Nat}(hr:r<64):val (zMc x q r) (n+q+1)=val x n*2^(64*q+r):=by
 rw [ySa hx q hr,show n+q+1=q+(n+1) by omega,zHv,zJw zx r (n+1) (by omega),Int.mul_assoc,p64]
section
def upZ (z y:Nat->Int)(r off k j:Nat):Int:=if off<=j/\j<off+k then shW y r (j-off) else z j
theorem zBr (z y:Nat->Int)(r off k j:Nat):(if j=off+k then shW y r k else upZ z y r off k j)=upZ z y r off (k+1) j:=by
 unfold upZ
 by_cases e:j=off+k
 ·subst e
  rw [if_pos rfl,if_pos (by omega)];congr 1;omega
 ·rw [if_neg e]
  by_cases e2:off<=j/\j<off+k
  ·rw [if_pos e2,if_pos (by omega)]
  ·rw [if_neg e2,if_neg (by omega)]
theorem zEg (g N off m c k c' r:Nat)(a':Option Addr)(z y:Nat->Int)(w:World)(hm:off+m<=N)(hN:N<4294967296)(hk:k<m)(hr:r<64)(h:Own g N z w)(h':Num w a' k c' y)(hA:zSi a' g) :
  Calls Tryz.prog 108 #[.slice (some ⟨g,off,none⟩) m c,.slice a' k c',.int .i64 r] w fun e w'=>e=.returned (.tuple #[])/\Own g N (upZ z y r off (k+1)) w'/\Upd g w w':=by
 have hy:=h'.2.2.1
 have hri:(r:Int)<64:=by omega
 have e64:((64:Int)-r).toNat=64-r:=by omega
 have hk0:=h'.2.2.2.1 k (Nat.le_refl _)
 go_enter Tryz.func108,Tryz.ntmps108
 go_wp2
 go_loopw [6,7,8,11] (fun cv u7 u8 i wr=>∃ (j:Nat),j<=k/\i=.int .i64 j/\cv=.int .u64 (prevW y r j)/\Own g N (upZ z y r off j) wr/\Upd g w wr) (fun _ _ _ i _=>k-(intOf i).toNat)
 case atStart=>exact ⟨0,Nat.zero_le _,rfl,rfl,h.congr fun i _=>by unfold upZ;rw [if_neg (by omega)],Upd.refl _ _⟩
 case round =>
  obtain ⟨j,hj,rfl,rfl,hO,hU⟩:=hrel
  have hpb:=zDl hy hr j
  by_cases hlt:j<k
  ·have hji:(j:Int)<k:=by omega
   have hjm:(j:Int)<m:=by omega
   obtain ⟨b,off',rfl,hb,hc⟩:=(hU.num' hA h').cells (by omega)
   have hcj:=hc j hlt
   have hco:∃ u,wr.cell? ⟨g,off+j,none⟩=some (.int .u64 u):=⟨_,hO.cell (off+j) (by omega)⟩
   obtain ⟨u,hco⟩:=hco
   have hfo:=hO.frozen (off+j)
   have b_y:=hy j
   have HP:Hid (prevW y r (j+1)=y j/2^(64-r)):=by show _=_;rw [zH6 _ (by omega)];rfl
   have HS:Hid (bits BinOp.or IntKind.u64 (IntKind.u64.wrap (y j*2^r)) (prevW y r j)=shW y r j):=by
    show _=_
    rw [← zKw hy hr j]
    exact zRr _ _ (zUb _) hpb
   have HO:Hid (Own g N (upZ z y r off (j+1)) (wr.setCell ⟨g,off+j,none⟩ (.int .u64 (shW y r j)))):=(hO.set (off+j) _).congr fun i _=>zBr z y r off j i
   have HU:Hid (Upd g w (wr.setCell ⟨g,off+j,none⟩ (.int .u64 (shW y r j)))):=hU.set (off+j) _
   rw [← HS.out] at HO HU
   clear hO hU hc h h' hA hy hk0 HS
   generalize prevW y r j=pv at *
   go_wp2
   go_roundw
   case rel=>exact ⟨j+1,by omega,by go_num,by rw [HP.out],HO.out,HU.out⟩
   case measure=>simp [intOf];omega
  ·obtain rfl:j=k:=by omega
   have hjm:(j:Int)<m:=by omega
   have hco:∃ u,wr.cell? ⟨g,off+j,none⟩=some (.int .u64 u):=⟨_,hO.cell (off+j) (by omega)⟩
   obtain ⟨u,hco⟩:=hco
   have hfo:=hO.frozen (off+j)
   have e1:shW y r j=prevW y r j:=by unfold shW;rw [hk0];simp
   have HO:Hid (Own g N (upZ z y r off (j+1)) (wr.setCell ⟨g,off+j,none⟩ (.int .u64 (prevW y r j)))):=(hO.set (off+j) _).congr fun i _=>by rw [← e1];exact zBr z y r off j i
   have HU:Hid (Upd g w (wr.setCell ⟨g,off+j,none⟩ (.int .u64 (prevW y r j)))):=hU.set (off+j) _
   clear hO hU h h' hA hy hk0 e1
   generalize prevW y r j=pv at *
   go_wp2
   go_end0
   exact ⟨rfl,HO.out,HU.out⟩
theorem zIh {g N c:Nat}{z:Nat->Int}{w:World}{V:Int}(hO:Own g N z w)(hW:zDa z)(hN:N<4000000000)(hc:N<=c)(hc2:c<=maxLen)(hv:val z N=V) :
  ∃ k z',k<=N/\Num w (some ⟨g,0,none⟩) k c z'/\val z' k=V/\sizeL z' k=k/\CQ 102 #[.slice (some ⟨g,0,none⟩) N c] w (.slice (some ⟨g,0,none⟩) k c):=by
 have h:=hO.num hW 0 N c (by omega) hc hc2
 refine ⟨sizeL (segW z 0 N) N,segW z 0 N,zCa _ _,h.bare,?_,zGa _ _,zRa _ N c _ w (by omega) h⟩
 rw [zMa,zKa (x:=segW z 0 N) (y:=z) N fun i hi=>by rw [zBb _ 0 N i hi,Nat.zero_add],hv]
set_option maxRecDepth 20000 in
theorem zF3 (a:Option Addr)(n c:Nat)(x:Nat->Int)(d:Int)(w:World)(hn:n<4000000000)(h:Num w a n c x)(hd:0<=d)(hs:(sizeL x n:Int)+(d+63)/64<=2000) :
  Calls Tryz.prog 54 #[.slice a n c,.int .i64 d] w fun e w'=>∃ g k cap z,e=.returned (.tuple #[.slice (some ⟨g,0,none⟩) k cap,.int .i64 0])/\k<=2001/\Num w' (some ⟨g,0,none⟩) k cap z/\val z k=val x n*2^d.toNat/\sizeL z k=k/\Below w.heap.size w w':=by
 have hb:=zRa a n c x w (by omega) h
 rw [← zMa n]
 have hx:=h.2.2.1
 have hle:=zCa x n
 have hN:=h.bare
 generalize sizeL x n=s at *
 clear h
 obtain ⟨q,hq⟩:∃ q:Nat,d/64=q:=⟨(d/64).toNat,by omega⟩
 obtain ⟨r,hr⟩:∃ r:Nat,d%64=r:=⟨(d%64).toNat,by omega⟩
 have hr64:r<64:=by omega
 have hdn:d.toNat=64*q+r:=by omega
 rw [hdn]
 obtain ⟨N,hNs⟩:∃ N,s+q+1=N:=⟨_,rfl⟩
 have hNi:(s:Int)+q+1=N:=by omega
 have hq2:(q:Int)<=2000:=by omega
 have hmk:=fun w=>zAb ((s:Int)+q+1) N hNi (by omega) w
 have hA:=zUe hN
 have hO:=Own.new w (fun _=>0) N
 have hBW:=zEa w (.cells (arrOf (fun _=>0) N) 22)
 have hsu:=zEg w.heap.size N q (N-q) (N-q) s c r a (fun _=>0) x _ (by omega) (by omega) (by omega) hr64 hO (hN.next hBW) hA
 have hqN:(q:Int)<=N:=by omega
 have HVL:Hid (val (upZ (fun _=>0) x r q (s+1)) N=val x s*2^(64*q+r)):=by
  show _=_
  rw [← hNs,show s+q+1=q+(s+1) by omega]
  rw [zKa (y:=upW (shW x r) q) (q+(s+1)) fun i hi=>by
   unfold upZ upW
   by_cases e:q<=i
   ·rw [if_pos (by omega),if_pos e]
   ·rw [if_neg (by omega),if_neg e]]
  rw [zHv,zJw hN.2.2.2.1 r (s+1) (by omega),Int.mul_assoc,p64]
 have HW:Hid (zDa (upZ (fun _=>0) x r q (s+1))):=fun i=>by
  unfold upZ;split
  ·exact zRj hx hr64 _
  ·exact (by decide:(0:Int)<=0/\(0:Int)<=18446744073709551615)
 generalize hz:upZ (fun _=>0) x r q (s+1)=zz at *
 have HB:Hid (Below w.heap.size w (w.alloc (.cells (arrOf (fun _=>0) N) 22))):=hBW
 have HNS:Hid (N<=2001):=by show _<=_;omega
 have hup:(s:Int)+q<=2000:=by omega
 have hup2:0<r->(s:Int)+(q+1)<=2000:=by omega
 clear hBW hN hA hO hNi hz hs hdn hx
 by_cases hr0:0<r
 ·have hr0':(0:Int)<r:=by omega
  have hu:=hup2 hr0
  clear hup2
  go_enter Tryz.func54,Tryz.ntmps54
  go_wp2_with (first|(go_at_call_of 102 (Value.slice a n c);refine hb.mono ?_;rintro e w' ⟨rfl,rfl⟩)|(go_at_call 108;refine hsu.mono ?_;rintro e w1 ⟨rfl,hO1,hU1⟩))
  obtain ⟨k,z',hkN,hNk,hvk,hsk,hbr⟩:=zIh hO1 HW.out (by have:=HNS.out;omega) (Nat.le_refl N) (by unfold maxLen;have:=HNS.out;omega) HVL.out
  have HB2:Hid (Below w.heap.size w w1):=HB.out.trans (hU1.below (Nat.le_refl _))
  have HNk:Hid (Num w1 (some ⟨w.heap.size,0,none⟩) k N z'):=hNk
  clear hO1 hU1 hNk
  go_wp2_with (go_at_call 102;refine hbr.mono ?_;rintro e w3 ⟨rfl,rfl⟩)
  go_ret2
  exact ⟨_,k,N,z',rfl,by have:=HNS.out;omega,HNk.out,hvk,hsk,HB2.out⟩
 ·obtain rfl:r=0:=by omega
  clear hup2
  go_enter Tryz.func54,Tryz.ntmps54
  go_wp2_with (first|(go_at_call_of 102 (Value.slice a n c);refine hb.mono ?_;rintro e w' ⟨rfl,rfl⟩)|(go_at_call 108;refine hsu.mono ?_;rintro e w1 ⟨rfl,hO1,hU1⟩))
  obtain ⟨k,z',hkN,hNk,hvk,hsk,hbr⟩:=zIh hO1 HW.out (by have:=HNS.out;omega) (Nat.le_refl N) (by unfold maxLen;have:=HNS.out;omega) HVL.out
  have HB2:Hid (Below w.heap.size w w1):=HB.out.trans (hU1.below (Nat.le_refl _))
  have HNk:Hid (Num w1 (some ⟨w.heap.size,0,none⟩) k N z'):=hNk
  clear hO1 hU1 hNk
  go_wp2_with (go_at_call 102;refine hbr.mono ?_;rintro e w3 ⟨rfl,rfl⟩)
  go_ret2
  exact ⟨_,k,N,z',rfl,by have:=HNS.out;omega,HNk.out,hvk,hsk,HB2.out⟩
end
section
attribute [local go_sem] zPa zDb
def zZ3 (x:Nat->Int)(q r:Nat):Bool:=decide (0<sizeL x q)||decide (x q%2^r≠0)
def goneK (x:Nat->Int)(q r k:Nat):Bool:=if k<=q then decide (0<sizeL x k) else zZ3 x q r
theorem zPu (x:Nat->Int)(q r:Nat):goneK x q r 0=false:=by unfold goneK;rw [if_pos (Nat.zero_le _)];rfl
theorem zMy {x:Nat->Int}{q r k:Nat}(h:k<q)(hz:x k=0):goneK x q r (k+1)=goneK x q r k:=by
 unfold goneK;rw [if_pos (by omega),if_pos (by omega)];simp [sizeL,hz]
theorem zLy {x:Nat->Int}{q r k:Nat}(h:k<q)(hz:¬ x k=0):goneK x q r (k+1)=true:=by
 unfold goneK;rw [if_pos (by omega)];simp [sizeL,hz]
theorem zY3 (x:Nat->Int)(k r:Nat):goneK x k r (k+1)=(goneK x k r k||decide (x k%2^r≠0)):=by
 unfold goneK;rw [if_neg (by omega),if_pos (Nat.le_refl _)];rfl
theorem zX3 {x:Nat->Int}{q r k:Nat}(h:q<k):goneK x q r (k+1)=goneK x q r k:=by
 unfold goneK;rw [if_neg (by omega),if_neg (by omega)]
theorem zNy {x:Nat->Int}{q r n:Nat}(h:q<n):goneK x q r n=zZ3 x q r:=by
 unfold goneK;rw [if_neg (by omega)]
theorem zUf {y:Int}{r:Nat}(hy:0<=y/\y<=18446744073709551615)(hr:r<64):bits BinOp.and IntKind.u64 y (2^r-1)=y%2^r:=by
 have h1:=zEc r
 have h2:=zAq hr
 rw [u64_and _ _ hy.1 (by omega) (by omega) (by omega)]
 obtain ⟨n,rfl⟩:=Int.eq_ofNat_of_zero_le hy.1
 have e:((2:Int)^r-1).toNat=2^r-1:=by rw [← zCb];omega
 rw [e,Int.toNat_natCast,Nat.and_two_pow_sub_one_eq_mod,Int.natCast_emod,zCb]
end
theorem zBl {x:Nat->Int}{n:Nat}(hz:∀ i,n<=i->x i=0):∀ m,n<=m->sizeL x m=sizeL x n
  | 0, h => by have : n = 0 := by omega
               subst this;rfl
  | m+1,h=>by
    by_cases e:n=m+1
    · subst e;rfl
    · rw [show sizeL x (m+1)=sizeL x m by simp [sizeL,hz m (by omega)]]
      exact zBl hz m (by omega)
def dnW (y:Int)(r:Nat):Int:=IntKind.u64.wrap (y*2^(64-r))
theorem zU5 {y:Nat->Int}(hy:zDa y){r:Nat}(hr:r<64)(q i:Nat):orW (y (q+i)/2^r) (dnW (y (q+i+1)) r)=zAc y q r i:=by
 unfold zAc dnW
 by_cases h:r=0
 ·subst h
  rw [if_pos rfl,zCj]
  have e:y (q+i+1)*2^(64-0)%18446744073709551616=0:=Int.mul_emod_left _ _
  rw [e,Int.pow_zero,Int.ediv_one,zPe _ (hy _)]
 ·rw [if_neg h]
def dnZ (z y:Nat->Int)(r m k j:Nat):Int:=if k<=j/\j<m then zAc y 0 r j else z j
theorem zGm (g N m c c' r:Nat)(a':Option Addr)(z y:Nat->Int)(w:World)(hm:m<=N)(hN:N<4294967296)(hr:r<64)(h:Own g N z w)(h':Num w a' m c' y)(hA:zSi a' g) :
  Calls Tryz.prog 190 #[.slice (some ⟨g,0,none⟩) m c,.slice a' m c',.int .i64 r] w fun e w'=>e=.returned (.tuple #[])/\Own g N (dnZ z y r m 0) w'/\Upd g w w':=by
 have hy:=h'.2.2.1
 have hri:(r:Int)<64:=by omega
 have e64:((64:Int)-r).toNat=64-r:=by omega
 have hk0:=h'.2.2.2.1 m (Nat.le_refl _)
 go_enter Tryz.func190,Tryz.ntmps190
 go_wp2
 go_loopw [6,7] (fun cv i wr=>∃ (k:Nat),k<=m/\i=.int .i64 ((k:Int)-1)/\cv=.int .u64 (dnW (y k) r)/\Own g N (dnZ z y r m k) wr/\Upd g w wr) (fun _ i _=>(intOf i+1).toNat)
 case atStart=>exact ⟨m,Nat.le_refl _,by go_num,by rw [hk0];unfold dnW;rw [Int.zero_mul,zKh 0 (by decide)],h.congr fun i _=>by unfold dnZ;rw [if_neg (by omega)],Upd.refl _ _⟩
 case round =>
  obtain ⟨k,hk,rfl,rfl,hO,hU⟩:=hrel
  have hpb:0<=dnW (y k) r/\dnW (y k) r<=18446744073709551615:=zUb _
  by_cases h0:k=0
  ·subst h0
   have HO:Hid (Own g N (dnZ z y r m 0) wr):=hO
   have HU:Hid (Upd g w wr):=hU
   clear hO hU h h' hA hy hk0
   go_wp2
   go_end0
   exact ⟨rfl,HO.out,HU.out⟩
  ·obtain ⟨j,rfl⟩:∃ j,k=j+1:=⟨k-1,by omega⟩
   have ej:((j+1:Nat):Int)-1=j:=by omega
   rw [ej]
   have hjm:(j:Int)<m:=by omega
   obtain ⟨b,off',rfl,hb,hc⟩:=(hU.num' hA h').cells (by omega)
   have hcj:=hc j (by omega)
   have hco:∃ u,wr.cell? ⟨g,j,none⟩=some (.int .u64 u):=⟨_,hO.cell j (by omega)⟩
   obtain ⟨u,hco⟩:=hco
   have hfo:=hO.frozen j
   have b_y:=hy j
   have hbg:b≠g:=hA _ rfl
   have hcj2:∀ v,(wr.setCell ⟨g,j,none⟩ v).cell? ⟨b,off'+j,none⟩=some (.int .u64 (y j)):=fun v=>(World.cell?_of_block (w:=wr) (a:=⟨b,off'+j,none⟩) (Below.heap_setCell wr ⟨g,j,none⟩ v b hbg)).trans hcj
   have HS:Hid (bits BinOp.or IntKind.u64 (y j/2^r) (dnW (y (j+1)) r)=zAc y 0 r j):=by
    show _=_
    have:=zU5 hy hr 0 j
    rw [Nat.zero_add] at this
    exact this
   have HO:Hid (Own g N (dnZ z y r m j) (wr.setCell ⟨g,j,none⟩ (.int .u64 (zAc y 0 r j)))):=(hO.set j _).congr fun i _=>by
    unfold dnZ
    by_cases e:i=j
    ·subst e;rw [if_pos rfl,if_pos (by omega)]
    ·rw [if_neg e]
     by_cases e2:j+1<=i/\i<m
     ·rw [if_pos e2,if_pos (by omega)]
     ·rw [if_neg e2,if_neg (by omega)]
   have HU:Hid (Upd g w (wr.setCell ⟨g,j,none⟩ (.int .u64 (zAc y 0 r j)))):=hU.set j _
   rw [← HS.out] at HO HU
   have HDW:Hid (IntKind.u64.wrap (y j*2^(64-r))=dnW (y j) r):=rfl
   clear hO hU hc h h' hA hy hk0 HS ej
   generalize dnW (y (j+1)) r=pv at *
   go_wp2
   go_roundw
   case rel=>exact ⟨j,by omega,by go_num,by rw [← HDW.out],HO.out,HU.out⟩
   case measure=>simp [intOf]
theorem Num.drop {w:World}{b off n c q:Nat}{x:Nat->Int}(h:Num w (some ⟨b,off,none⟩) n c x)(hq:q<=n):Num w (some ⟨b,off+q,none⟩) (n-q) (c-q) (fun i=>x (q+i)):=by
 obtain ⟨h1,h2,h3,h4,h5⟩:=h
 refine ⟨by omega,by omega,fun i=>h3 (q+i),fun i hi=>h4 (q+i) (by omega),?_⟩
 rcases h5 with ⟨h5,_⟩|⟨b',off',h6,h7,h8⟩
 ·cases h5
 ·cases h6
  exact Or.inr ⟨b,off+q,rfl,h7,fun i hi=>by have:=h8 (q+i) (by omega);rw [Nat.add_assoc];exact this⟩
theorem Num.take {w:World}{b off n c q:Nat}{x:Nat->Int}(h:Num w (some ⟨b,off,none⟩) n c x)(hq:q<=n):Num w (some ⟨b,off,none⟩) q c (segW x 0 q):=by
 obtain ⟨h1,h2,h3,h4,h5⟩:=h
 refine ⟨by omega,by omega,zKb h3 0 q,fun i hi=>zTg x 0 q i hi,?_⟩
 rcases h5 with ⟨h5,_⟩|⟨b',off',h6,h7,h8⟩
 ·cases h5
 ·cases h6
  exact Or.inr ⟨b,off,rfl,h7,fun i hi=>by rw [h8 i (by omega),zBb x 0 q i hi,Nat.zero_add]⟩
section
structure Gs (R D u1 u0 v1 v0 P a b:Int):Prop where
 hR:R=a+(u1*18446744073709551616+u0)*(P*18446744073709551616)
 hD:D=b+(v1*18446744073709551616+v0)*P
 p:0<P
 a0:0<=a
 a1:a<P*18446744073709551616
 b0:0<=b
 b1:b<P
 u1w:0<=u1/\u1<=18446744073709551615
 u0w:0<=u0/\u0<=18446744073709551615
 v1w:9223372036854775808<=v1/\v1<=18446744073709551615
 v0w:0<=v0/\v0<=18446744073709551615
 lt:R<D*18446744073709551616
section
variable {R D u1 u0 v1 v0 P a b:Int}
theorem Gs.lowR (h:Gs R D u1 u0 v1 v0 P a b):(u1*18446744073709551616+u0)*18446744073709551616*P<=R:=by
 have:=h.hR;have:=h.a0
 have e:(u1*18446744073709551616+u0)*18446744073709551616*P=(u1*18446744073709551616+u0)*(P*18446744073709551616):=by grind
 omega
theorem Gs.highR (h:Gs R D u1 u0 v1 v0 P a b):R<((u1*18446744073709551616+u0)+1)*18446744073709551616*P:=by
 have:=h.hR;have:=h.a1
 have e:((u1*18446744073709551616+u0)+1)*18446744073709551616*P=(u1*18446744073709551616+u0)*(P*18446744073709551616)+P*18446744073709551616:=by grind
 omega
theorem Gs.lowD (h:Gs R D u1 u0 v1 v0 P a b):(v1*18446744073709551616+v0)*P<=D:=by have:=h.hD;have:=h.b0;omega
theorem Gs.highD (h:Gs R D u1 u0 v1 v0 P a b):D<=(v1*18446744073709551616+v0+1)*P:=by
 have:=h.hD;have:=h.b1
 have e:(v1*18446744073709551616+v0+1)*P=(v1*18446744073709551616+v0)*P+P:=by grind
 omega
theorem Gs.posD (h:Gs R D u1 u0 v1 v0 P a b):0<D:=by
 have h1:=h.lowD
 have:0<(v1*18446744073709551616+v0)*P:=Int.mul_pos (by have:=h.v1w;have:=h.v0w;omega) h.p
 omega
theorem Gs.times_ge (h:Gs R D u1 u0 v1 v0 P a b){k N:Int}(hk:0<=k)(hN:N<=k*(v1*18446744073709551616+v0)):N*P<=k*D:=by
 have h1:k*((v1*18446744073709551616+v0)*P)<=k*D:=Int.mul_le_mul_of_nonneg_left h.lowD hk
 have h2:N*P<=k*(v1*18446744073709551616+v0)*P:=Int.mul_le_mul_of_nonneg_right hN (Int.le_of_lt h.p)
 rw [Int.mul_assoc] at h2
 omega
theorem Gs.times_le (h:Gs R D u1 u0 v1 v0 P a b){k N:Int}(hk:0<=k)(hN:k*(v1*18446744073709551616+v0+1)<=N):k*D<=N*P:=by
 have h1:k*D<=k*((v1*18446744073709551616+v0+1)*P):=Int.mul_le_mul_of_nonneg_left h.highD hk
 have h2:k*(v1*18446744073709551616+v0+1)*P<=N*P:=Int.mul_le_mul_of_nonneg_right hN (Int.le_of_lt h.p)
 rw [Int.mul_assoc] at h2
 omega
theorem Gs.first (h:Gs R D u1 u0 v1 v0 P a b):R<((u1*18446744073709551616+u0)/v1+1)*D:=by
 have hv:0<v1:=by have:=h.v1w;omega
 have h1:=h.highR
 have hq:=Int.lt_mul_ediv_self_add (x:=u1*18446744073709551616+u0) hv
 have hq0:0<=(u1*18446744073709551616+u0)/v1:=Int.ediv_nonneg (by have:=h.u1w;have:=h.u0w;omega) (Int.le_of_lt hv)
 have:=h.v0w
 generalize (u1*18446744073709551616+u0)/v1=k at *
 have h2:(u1*18446744073709551616+u0+1)*18446744073709551616<=(k+1)*(v1*18446744073709551616+v0):=by
  have e:(k+1)*(v1*18446744073709551616+v0)=(v1*k+v1)*18446744073709551616+(k+1)*v0:=by grind
  have:0<=(k+1)*v0:=Int.mul_nonneg (by omega) (by omega)
  omega
 have h3:=h.times_ge (by omega) h2
 omega
theorem Gs.great (h:Gs R D u1 u0 v1 v0 P a b){k r:Int}(hk:0<=k)(he:k*v1+r=u1*18446744073709551616+u0)(ht:(r+1)*18446744073709551616<=k*v0):R<k*D:=by
 have h1:=h.highR
 have h2:(u1*18446744073709551616+u0+1)*18446744073709551616<=k*(v1*18446744073709551616+v0):=by
  have e:k*(v1*18446744073709551616+v0)=(k*v1)*18446744073709551616+k*v0:=by grind
  omega
 have h3:=h.times_ge hk h2
 omega
theorem Gs.stands (h:Gs R D u1 u0 v1 v0 P a b){k r:Int}(hk:0<=k)(hk2:k<=18446744073709551615)(he:k*v1+r=u1*18446744073709551616+u0)(ht:k*v0<(r+1)*18446744073709551616):(k-1)*D<=R:=by
 have h1:=h.lowR
 by_cases h0:k=0
 ·subst h0
  have:=h.posD
  have:0<=(u1*18446744073709551616+u0)*18446744073709551616*P:=Int.mul_nonneg (Int.mul_nonneg (by have:=h.u1w;have:=h.u0w;omega) (by decide)) (Int.le_of_lt h.p)
  omega
 ·have hv:=h.v1w
  have hv0:=h.v0w
  have h2:(k-1)*(v1*18446744073709551616+v0+1)<=(u1*18446744073709551616+u0)*18446744073709551616:=by
   have e:(k-1)*(v1*18446744073709551616+v0+1)=(k*v1)*18446744073709551616+k*v0+k-v1*18446744073709551616-v0-1:=by grind
   omega
  have h3:=h.times_le (by omega) h2
  omega
theorem Gs.full (h:Gs R D u1 u0 v1 v0 P a b)(he:v1<=u1):(18446744073709551615-1)*D<=R:=by
 have h1:=h.lowR
 have hv:=h.v1w
 have hv0:=h.v0w
 have hu0:=h.u0w
 have h2:(18446744073709551615-1)*(v1*18446744073709551616+v0+1)<=(u1*18446744073709551616+u0)*18446744073709551616:=by omega
 have h3:=h.times_le (by decide) h2
 omega
end
theorem zRs {y:Nat->Int}(hy:zDa y){r:Nat}(hr:r<64):∀ m,val (zAc y 0 r) m*2^r+y 0%2^r=val y m+y m%2^r*18446744073709551616^m
 | 0=>by simp [val]
 | m+1=>by
  have ih:=zRs hy hr m
  have hp:=zEc r
  have e1:zAc y 0 r m=y m/2^r+y (m+1)%2^r*2^(64-r):=by
   have h1:=zU5 hy hr 0 m
   rw [Nat.zero_add] at h1
   rw [← h1]
   unfold dnW
   have hme:y (m+1)*2^(64-r)%18446744073709551616=y (m+1)%2^r*2^(64-r):=by
    have h3:=Int.mul_emod_mul_of_pos (y (m+1)) (2^r) (zEc (64-r))
    rw [← zOe (show r<=64 by omega),Int.mul_comm (y (m+1)),h3,Int.mul_comm]
   have hlt:y m/2^r<2^(64-r):=by
    refine Int.ediv_lt_of_lt_mul hp ?_
    rw [zOe (show r<=64 by omega)]
    have:=hy m;omega
   by_cases h0:r=0
   ·subst h0
    have:y (m+1)*2^(64-0)%18446744073709551616=0:=Int.mul_emod_left _ _
    rw [zCj,this,zPe _ (zTc _ _ (hy m))]
    simp [Int.emod_one]
   ·have h64:64-(64-r)=r:=by omega
    have ho:=zZ5 (y:=y (m+1)) (b:=y m/2^r) (r:=64-r) (by omega) (hy (m+1)).1 ⟨(zTc _ _ (hy m)).1,hlt⟩
    rw [ho,hme];omega
  show (val (zAc y 0 r) m+zAc y 0 r m*18446744073709551616^m)*2^r+y 0%2^r=val y m+y m*18446744073709551616^m+y (m+1)%2^r*18446744073709551616^(m+1)
  have e2:=Int.emod_add_mul_ediv (y m) (2^r)
  have e3:=zOe (show r<=64 by omega)
  rw [e1,Int.pow_succ]
  generalize (18446744073709551616:Int)^m=Q at *
  generalize y m/2^r=A at *
  generalize y m%2^r=A' at *
  generalize y (m+1)%2^r=C at *
  generalize y 0%2^r=Z at *
  generalize (2:Int)^(64-r)=T at *
  generalize (2:Int)^r=S at *
  grind
end
def gsL (v1 v0:Int):Nat->Int->Int->Int
 | 0,d,r=>d
 | f+1,d,r=>if d*v0/18446744073709551616<=r then d else if 18446744073709551616<=r+v1 then d-1 else gsL v1 v0 f (d-1) (r+v1)
def gsF (u1 u0 v1 v0:Int):Int:=if v1<=u1 then 18446744073709551615 else gsL v1 v0 2 ((u1*18446744073709551616+u0)/v1) ((u1*18446744073709551616+u0)%v1)
theorem zI6 {d v0 r:Int}(hd:0<=d)(hr:0<=r)(h:¬ d*v0/18446744073709551616<=r):1<=d:=by
 by_cases e:d=0
 ·subst e;rw [Int.zero_mul] at h;omega
 ·omega
theorem zKs {R D u1 u0 v1 v0 P a b:Int}(G:Gs R D u1 u0 v1 v0 P a b):∀ (f:Nat) (d r:Int),0<=d->d<=18446744073709551615->0<=r->r<=18446744073709551615->d*v1+r=u1*18446744073709551616+u0->R<(d+1)*D->18446744073709551616<=r+f*v1 ->
  0<=gsL v1 v0 f d r/\gsL v1 v0 f d r<=18446744073709551615/\R<(gsL v1 v0 f d r+1)*D/\(gsL v1 v0 f d r-1)*D<=R
 | 0,d,r,h1,h2,h3,h4,he,hR,hf=>by simp at hf;omega
 | f+1,d,r,h1,h2,h3,h4,he,hR,hf=>by
  unfold gsL
  by_cases hh:d*v0/18446744073709551616<=r
  ·rw [if_pos hh]
   exact ⟨h1,h2,hR,G.stands h1 h2 he (by omega)⟩
  ·rw [if_neg hh]
   have h11:=zI6 h1 h3 hh
   have hR2:R<(d-1+1)*D:=by
    have:=G.great h1 he (by omega)
    rw [show d-1+1=d by omega];exact this
   have he2:(d-1)*v1+(r+v1)=u1*18446744073709551616+u0:=by rw [Int.sub_mul];omega
   have hv:=G.v1w
   have hv0:=G.v0w
   by_cases ho:18446744073709551616<=r+v1
   ·rw [if_pos ho]
    refine ⟨by omega,by omega,hR2,G.stands (by omega) (by omega) he2 ?_⟩
    have:(d-1)*v0<=18446744073709551615*18446744073709551615:=Int.mul_le_mul (by omega) hv0.2 hv0.1 (by decide)
    omega
   ·rw [if_neg ho]
    refine zKs G f (d-1) (r+v1) (by omega) (by omega) (by omega) (by omega) he2 hR2 ?_
    have e:((f+1:Nat):Int)*v1=f*v1+v1:=by rw [Int.natCast_add,Int.add_mul];simp
    rw [e] at hf
    omega
theorem zV3 {R D u1 u0 v1 v0 P a b:Int}(G:Gs R D u1 u0 v1 v0 P a b):0<=gsF u1 u0 v1 v0/\gsF u1 u0 v1 v0<=18446744073709551615/\R<(gsF u1 u0 v1 v0+1)*D/\(gsF u1 u0 v1 v0-1)*D<=R:=by
 have hv:=G.v1w
 have hu:=G.u1w
 have hu0:=G.u0w
 unfold gsF
 by_cases h:v1<=u1
 ·rw [if_pos h]
  refine ⟨by decide,by decide,?_,G.full h⟩
  have:=G.lt
  rw [Int.mul_comm];exact this
 ·rw [if_neg h]
  have h1:0<=(u1*18446744073709551616+u0)/v1:=Int.ediv_nonneg (by omega) (by omega)
  have h2:(u1*18446744073709551616+u0)/v1<18446744073709551616:=Int.ediv_lt_of_lt_mul (by omega) (by omega)
  have h3:=Int.emod_nonneg (u1*18446744073709551616+u0) (show v1≠0 by omega)
  have h4:=Int.emod_lt_of_pos (u1*18446744073709551616+u0) (show 0<v1 by omega)
  have h5:=Int.emod_add_mul_ediv (u1*18446744073709551616+u0) v1
  refine zKs G 2 _ _ h1 (by omega) h3 (by omega) ?_ G.first (by omega)
  rw [Int.mul_comm];omega
theorem yUa (w:World)(a b:Nat):(w.drewN a).drewN b=w.drewN (a+b):=by simp [World.drewN,Nat.add_assoc]
theorem zJy (u1 u0 v1 v0:Int)(w:World)(hu1:0<=u1/\u1<=18446744073709551615)(hu0:0<=u0/\u0<=18446744073709551615)(hv1:9223372036854775808<=v1/\v1<=18446744073709551615)(hv0:0<=v0/\v0<=18446744073709551615) :
    Calls Tryz.prog 233 #[.int .u64 u1,.int .u64 u0,.int .u64 v1,.int .u64 v0] w fun e w'=>e=.returned (.int .u64 (gsF u1 u0 v1 v0))/\∃ m,w'=w.drewN m:=by
  by_cases h:v1<=u1
  · have HG:Hid (gsF u1 u0 v1 v0=18446744073709551615):=by show _=_;unfold gsF;rw [if_pos h]
    go_enter Tryz.func233,Tryz.ntmps233
    go_wp2
    go_ret
    exact ⟨zWa HG.out.symm,0,rfl⟩
  · have HG:Hid (gsF u1 u0 v1 v0=gsL v1 v0 2 ((u1*18446744073709551616+u0)/v1) ((u1*18446744073709551616+u0)%v1)):=by show _=_;unfold gsF;rw [if_neg h]
    have hd:=zVo u1 u0 v1 w hu1.1 (by omega) hv1.2 hu0
    have h1:0<=(u1*18446744073709551616+u0)/v1:=Int.ediv_nonneg (by omega) (by omega)
    have h2:(u1*18446744073709551616+u0)/v1<18446744073709551616:=Int.ediv_lt_of_lt_mul (by omega) (by omega)
    have h3:=Int.emod_nonneg (u1*18446744073709551616+u0) (show v1≠0 by omega)
    have h4:=Int.emod_lt_of_pos (u1*18446744073709551616+u0) (show 0<v1 by omega)
    generalize gsF u1 u0 v1 v0=T at *
    generalize (u1*18446744073709551616+u0)/v1=d0 at *
    generalize (u1*18446744073709551616+u0)%v1=r0 at *
    go_enter Tryz.func233,Tryz.ntmps233
    go_wp2_with (go_at_call 170;refine hd.mono ?_;rintro e w' ⟨rfl,m,rfl⟩)
    go_loopw [9,10,11,12,23] (fun dv rv u11 u12 u23 wr=>∃ (f:Nat) (d r:Int),dv=.int .u64 d/\rv=.int .u64 r/\0<=d/\d<=18446744073709551615/\0<=r/\r<=18446744073709551615/\18446744073709551616<=r+f*v1/\Hid (T=gsL v1 v0 f d r)/\wr=w.drewN m) (fun dv _ _ _ _ _=>(intOf dv).toNat)
    case atStart=>exact ⟨2,d0,r0,rfl,rfl,h1,by omega,h3,by omega,by omega,HG.out,rfl⟩
    case round =>
      clear hd h1 h2 h3 h4 HG
      obtain ⟨f,d,r,rfl,rfl,a1,a2,a3,a4,hf,hT,rfl⟩:=hrel
      obtain ⟨f',rfl⟩:∃ f',f=f'+1:=by
        cases f with
        | zero=>simp at hf;omega
        | succ f'=>exact ⟨f',rfl⟩
      have hmul:=zYx d v0 ⟨a1,a2⟩ hv0 (w.drewN m)
      have hfe:((f'+1:Nat):Int)*v1=f'*v1+v1:=by rw [Int.natCast_add,Int.add_mul];simp
      rw [hfe] at hf
      have HF:Hid (18446744073709551616<=r+(f'*v1+v1)):=hf
      have hh0:0<=d*v0/18446744073709551616:=Int.ediv_nonneg (Int.mul_nonneg a1 hv0.1) (by decide)
      by_cases hh:d*v0/18446744073709551616<=r
      · have HT:Hid (T=d):=by show _=_;rw [hT.out];unfold gsL;rw [if_pos hh]
        clear hT hf hfe HF
        generalize d*v0/18446744073709551616=hi at *
        generalize d*v0%18446744073709551616=lo at *
        go_wp2_with (go_at_call 154;refine hmul.mono ?_;rintro e w' ⟨rfl,rfl⟩)
        go_ret
        exact ⟨zWa HT.out.symm,m,rfl⟩
      · have h11:=zI6 a1 a3 hh
        by_cases ho:18446744073709551616<=r+v1
        · have HT:Hid (T=d-1):=by show _=_;rw [hT.out];unfold gsL;rw [if_neg hh,if_pos ho]
          have hw:IntKind.u64.wrap (r+v1)=r+v1-18446744073709551616:=by rw [zCj];omega
          have hlt:r+v1-18446744073709551616<v1:=by omega
          clear hT hf hfe HF
          generalize d*v0/18446744073709551616=hi at *
          generalize d*v0%18446744073709551616=lo at *
          go_wp2_with (go_at_call 154;refine hmul.mono ?_;rintro e w' ⟨rfl,rfl⟩)
          go_ret
          exact ⟨zWa HT.out.symm,m,rfl⟩
        · have HT : Hid (T = gsL v1 v0 f' (d - 1) (r + v1)) := by show _ = _; rw [hT.out]; conv => lhs; unfold gsL
                                                                  rw [if_neg hh,if_neg ho]
          have hlt:¬ r+v1<v1:=by omega
          have hle:r+v1<=18446744073709551615:=by omega
          clear hT hf hfe
          generalize d*v0/18446744073709551616=hi at *
          generalize d*v0%18446744073709551616=lo at *
          go_wp2_with (go_at_call 154;refine hmul.mono ?_;rintro e w' ⟨rfl,rfl⟩)
          go_roundw
          case rel=>exact ⟨f',d-1,r+v1,rfl,rfl,by omega,by omega,by omega,by omega,by have:=HF.out;omega,HT,trivial⟩
          case measure=>simp [intOf];omega
theorem zMf (z:Nat->Int)(off j:Nat):val (segW z off (j+1)) (j+1)=val (segW z off j) j+z (off+j)*18446744073709551616^j:=by
 show val (segW z off (j+1)) j+segW z off (j+1) j*18446744073709551616^j=_
 rw [zBb z off (j+1) j (by omega),zKa (x:=segW z off (j+1)) (y:=segW z off j) j fun i hi=>by rw [zBb _ _ _ i (by omega),zBb _ _ _ i hi]]
theorem zMw {z z':Nat->Int}(off j:Nat)(h:∀ i,off<=i->i<off+j->z i=z' i):val (segW z off j) j=val (segW z' off j) j :=
 zKa j fun i hi=>by rw [zBb _ _ _ i hi,zBb _ _ _ i hi,h (off+i) (by omega) (by omega)]
theorem zBw {V V0 C n vy yj zj l hi l' bo:Int}{Q:Int}(h:V-C*Q=V0-n*vy)(hl:l+hi*18446744073709551616=yj*n+0+C)(hb:l'-bo*18446744073709551616=zj-l) :
  V+l'*Q-(hi+bo)*(Q*18446744073709551616)=V0+zj*Q-n*(vy+yj*Q):=by grind
theorem zPt {yj n C l hi zj:Int}(hy:0<=yj/\yj<=18446744073709551615)(hn:0<=n/\n<=18446744073709551615)(hC:0<=C/\C<=18446744073709551615)(hl:l+hi*18446744073709551616=yj*n+0+C)(hlb:0<=l/\l<=18446744073709551615)(hz:0<=zj/\zj<=18446744073709551615):hi+bor zj l 0<=18446744073709551615:=by
 have hp:yj*n<=18446744073709551615*18446744073709551615:=Int.mul_le_mul hy.2 hn.2 hn.1 (by decide)
 have hb:=zE0 zj l 0
 by_cases e:hi=18446744073709551615
 ·have e2:l=0:=by omega
  have:bor zj l 0=0:=by unfold bor;rw [if_neg (by omega)]
  omega
 ·omega
theorem zNk (g N off m c k c':Nat)(a':Option Addr)(x y:Nat->Int)(n:Int)(w:World)(hm:off+m<=N)(hN:N<4294967296)(hk:k<=m)(hx:zDa x)(hn:0<=n/\n<=18446744073709551615)(h:Own g N x w)(h':Num w a' k c' y)(hA:zSi a' g) :
  Calls Tryz.prog 234 #[.slice (some ⟨g,off,none⟩) m c,.slice a' k c',.int .u64 n] w fun e w'=>∃ C z,e=.returned (.int .u64 C)/\(0<=C/\C<=18446744073709551615)/\Own g N z w'/\zDa z/\val (segW z off k) k-C*18446744073709551616^k=val (segW x off k) k-n*val y k/\(∀ i,i<off∨off+k<=i->z i=x i)/\Upd g w w':=by
 have hy:=h'.2.2.1
 go_enter Tryz.func234,Tryz.ntmps234
 go_wp2
 go_loopw [7,8,9,10,11,12,15,20,27] (fun cv u8 u9 u10 u11 u12 i u20 u27 wr=>∃ (j:Nat) (C:Int) (z:Nat->Int),j<=k/\i=.int .i64 j/\cv=.int .u64 C/\(0<=C/\C<=18446744073709551615)/\Own g N z wr/\zDa z/\Hid (val (segW z off j) j-C*18446744073709551616^j=val (segW x off j) j-n*val y j)/\(∀ i,i<off∨off+j<=i->z i=x i)/\Upd g w wr) (fun _ _ _ _ _ _ i _ _ _=>k-(intOf i).toNat)
 case atStart=>exact ⟨0,0,x,Nat.zero_le _,rfl,rfl,by decide,h,hx,by show _=_;simp [val],fun _ _=>rfl,Upd.refl _ _⟩
 case round =>
  obtain ⟨j,C,z,hj,rfl,rfl,hCb,hO,hzw,hv,hzx,hU⟩:=hrel
  by_cases hlt:j<k
  ·have hji:(j:Int)<k:=by omega
   have hjm:(j:Int)<m:=by omega
   obtain ⟨b,off',rfl,hb,hc⟩:=(hU.num' hA h').cells (by omega)
   have hcj:=hc j hlt
   have hco:=hO.cell (off+j) (by omega)
   have hzj:z (off+j)=x (off+j):=hzx _ (by omega)
   rw [hzj] at hco
   have hfo:=hO.frozen (off+j)
   have hma:=fun w=>zGl (y j) n 0 C w (hy j) hn (by decide) hCb
   have bx:=hx (off+j)
   have b_y:=hy j
   have HO:Hid (Own g N z wr):=hO
   have HU:Hid (Upd g w wr):=hU
   have HZW:Hid (zDa z):=hzw
   have HZX:Hid (∀ i,i<off∨off+j<=i->z i=x i):=hzx
   clear hO hU hc h h' hA hx hy hzw hzx
   go_wp2_with (go_at_call 189;refine (hma _).mono ?_;rintro e w1 ⟨l,hi,rfl,hlh,hlb,hhb,rfl⟩;have hsb:=fun w=>zQt (x (off+j)) l 0 bx.1 hlb.1 (by omega) (by decide) (by decide) w;have hbo:=zE0 (x (off+j)) l 0;have hbv:=zD0 bx hlb (b:=0) (by decide);have hw:=zPt b_y hn hCb hlh hlb bx;rw [Int.sub_zero] at hsb hbv;generalize bor (x (off+j)) l 0=bo at *)
   go_roundw
   case rel =>
    refine ⟨j+1,hi+bo,fun i=>if i=off+j then (x (off+j)-l)%18446744073709551616 else z i,by omega,by go_num,rfl,by omega,HO.out.set (off+j) _,zGc HZW.out (by omega),?_,?_,HU.out.set (off+j) _⟩
    ·show _=_
     rw [zMf,zMf,if_pos rfl,zMw (z:=fun i=>if i=off+j then (x (off+j)-l)%18446744073709551616 else z i) (z':=z) off j fun i h1 h2=>if_neg (by omega),Int.pow_succ]
     exact zBw hv.out hlh (by omega)
    ·intro i hi2
     exact (if_neg (show ¬ i=off+j by omega)).trans (HZX.out i (by omega))
   case measure=>simp [intOf];omega
  ·obtain rfl:j=k:=by omega
   have HO:Hid (Own g N z wr):=hO
   have HU:Hid (Upd g w wr):=hU
   have HZW:Hid (zDa z):=hzw
   have HZX:Hid (∀ i,i<off∨off+j<=i->z i=x i):=hzx
   clear hO hU h h' hA hx hy hzw hzx
   go_wp2
   go_ret
   exact ⟨C,z,rfl,hCb,HO.out,HZW.out,hv.out,HZX.out,HU.out⟩
theorem stp_on {R D dg V0 V1 u1 C Q:Int}(h:V1-C*Q=V0-dg*D)(hR:R=V0+u1*Q)(h0:0<=V1)(hV:V1<Q)(hD:0<D)(hDQ:D<Q)(h1:R<(dg+1)*D)(hc:C<=u1):R/D=dg/\R%D=V1:=by
 have e:R-dg*D=V1+(u1-C)*Q:=by rw [Int.sub_mul];omega
 have e1:(dg+1)*D=dg*D+D:=by rw [Int.add_mul,Int.one_mul]
 have hk:u1=C:=by
  rcases Int.lt_or_le C u1 with hlt|hge
  ·have:1*Q<=(u1-C)*Q:=Int.mul_le_mul_of_nonneg_right (by omega) (by omega)
   omega
  ·omega
 rw [hk,Int.sub_self,Int.zero_mul] at e
 have:=(Int.ediv_emod_unique hD (a:=R) (r:=V1) (q:=dg)).2 ⟨by rw [Int.mul_comm];omega,h0,by omega⟩
 exact this
theorem zF2 {R D dg V0 V1 u1 C Q N1 c:Int}(h:V1-C*Q=V0-dg*D)(hR:R=V0+u1*Q)(h0:0<=V1)(hV:V1<Q)(hD:0<D)(hDQ:D<Q)(h2:(dg-1)*D<=R)(hc:u1<C)(hn:N1+c*Q=V1+D)(n0:0<=N1)(n1:N1<Q):R/D=dg-1/\R%D=N1:=by
 have e:R-dg*D=V1+(u1-C)*Q:=by rw [Int.sub_mul];omega
 have e1:(dg-1)*D=dg*D-D:=by rw [Int.sub_mul,Int.one_mul]
 have hneg:(C-u1)*Q ≥ 1*Q:=Int.mul_le_mul_of_nonneg_right (by omega) (by omega)
 have e2:(u1-C)*Q=- ((C-u1)*Q):=by rw [← Int.neg_mul];congr 1;omega
 have e3:N1-(R-(dg-1)*D)=(C-u1-c)*Q:=by rw [Int.sub_mul (C-u1) c Q];omega
 have hk:C-u1-c=0:=by
  rcases Int.lt_trichotomy (C-u1-c) 0 with hl|he|hg
  ·have:(C-u1-c)*Q<=(-1)*Q:=Int.mul_le_mul_of_nonneg_right (by omega) (by omega)
   omega
  ·exact he
  ·have:1*Q<=(C-u1-c)*Q:=Int.mul_le_mul_of_nonneg_right (by omega) (by omega)
   omega
 rw [hk,Int.zero_mul] at e3
 exact (Int.ediv_emod_unique hD (a:=R) (r:=N1) (q:=dg-1)).2 ⟨by rw [Int.mul_comm];omega,n0,by omega⟩
theorem zSk (g N off t c c':Nat)(a':Option Addr)(z y:Nat->Int)(w:World)(ht:2<=t)(hm:off+t+1<=N)(hN:N<4294967296)(hz:zDa z)(h:Own g N z w)(h':Num w a' t c' y)(hA:zSi a' g)(hy1:9223372036854775808<=y (t-1))(hlt:val (segW z off (t+1)) (t+1)<val y t*18446744073709551616) :
  Calls Tryz.prog 216 #[.slice (some ⟨g,off,none⟩) (t+1) c,.slice a' t c'] w fun e w'=>e=.returned (.int .u64 (val (segW z off (t+1)) (t+1)/val y t))/\∃ z',Own g N z' w'/\zDa z'/\(∀ i,i<off->z' i=z i)/\val (segW z' off t) t=val (segW z off (t+1)) (t+1)%val y t/\Upd g w w':=by
 have hy:=h'.2.2.1
 obtain ⟨p,rfl⟩:∃ p,t=p+2:=⟨t-2,by omega⟩
 have hy1':9223372036854775808<=y (p+1):=hy1
 have G:Gs (val (segW z off (p+2+1)) (p+2+1)) (val y (p+2)) (z (off+(p+2))) (z (off+(p+1))) (y (p+1)) (y p) (18446744073709551616^p) (val (segW z off (p+1)) (p+1)) (val y p):=by
  have ba:=zVa (zKb hz off (p+1)) (p+1)
  have bb:=zVa hy p
  refine ⟨?_,?_,zOb p,ba.1,by rw [← Int.pow_succ];exact ba.2,bb.1,bb.2,hz _,hz _,⟨hy1',(hy _).2⟩,hy _,hlt⟩
  ·rw [zMf,zMf,Int.pow_succ,Int.pow_succ,Int.pow_succ];grind
  ·show val y p+y p*18446744073709551616^p+y (p+1)*18446744073709551616^(p+1)=_
   rw [Int.pow_succ];grind
 have hsp:=zV3 G
 have hg:=fun w=>zJy (z (off+(p+2))) (z (off+(p+1))) (y (p+1)) (y p) w (hz _) (hz _) ⟨hy1',(hy _).2⟩ (hy _)
 have hposD:=G.posD
 have hRe:val (segW z off (p+2+1)) (p+2+1)=val (segW z off (p+2)) (p+2)+z (off+(p+2))*18446744073709551616^(p+2):=zMf z off (p+2)
 have hDQ:=(zVa hy (p+2)).2
 generalize gsF (z (off+(p+2))) (z (off+(p+1))) (y (p+1)) (y p)=dg at *
 generalize hR:val (segW z off (p+2+1)) (p+2+1)=R at *
 obtain ⟨b,off',rfl,hb,hc⟩:=h'.cells (by omega)
 have hv1:=hc (p+1) (by omega)
 have hv0:=hc p (by omega)
 have hu1:=h.cell (off+(p+2)) (by omega)
 have hu0:=h.cell (off+(p+1)) (by omega)
 have bu1:=hz (off+(p+2))
 have hsub:=fun wr hO hN'=>zNk g N off (p+2+1) c (p+2) c' (some ⟨b,off',none⟩) z y dg wr (by omega) hN (by omega) hz ⟨hsp.1,hsp.2.1⟩ hO hN' hA
 have hpi:(0:Int)<=p:=by omega
 go_enter Tryz.func216,Tryz.ntmps216
 go_wp2
 go_quiet ((go_at_call 233;exact (hg _).mono fun _ _ h=>⟨h.1,h.2.elim fun m hm=>⟨_,hm.trans (yUa _ _ _)⟩⟩))
 go_wp2
 have HRe:Hid (R=val (segW z off (p+2)) (p+2)+z (off+(p+2))*18446744073709551616^(p+2)):=hRe
 have HSP:Hid (R<(dg+1)*val y (p+2)/\(dg-1)*val y (p+2)<=R):=⟨hsp.2.2.1,hsp.2.2.2⟩
 have hdg0:=hsp.1
 have hdg1:=hsp.2.1
 have HWY:Hid (zDa y):=hy
 have HWZ:Hid (zDa z):=hz
 clear hsp hRe G hg hlt hc hv1 hv0 hu0 hy hz hy1 hy1' hR
 go_region_with (go_at_call 234;refine (hsub (w.drewN nq).drew h h').mono ?_;rintro e w1 ⟨C,z1,rfl,hCb,hO1,hw1,hvv,hzx1,hU1⟩;have hct:=hO1.cell (off+(p+2)) (by omega);rw [hzx1 (off+(p+2)) (by omega)] at hct)
 all_goals
  have hbd:=zVa (zKb hw1 off (p+2)) (p+2)
  by_cases hcc:z (off+(p+2))<C
  ·have hd1:1<=dg:=by
    rcases Int.lt_or_le 0 dg with h1|h1
    ·omega
    ·exfalso
     have e0:dg=0:=by omega
     rw [e0,Int.zero_mul,Int.sub_zero] at hvv
     have h5:=(zVa (zKb HWZ.out off (p+2)) (p+2)).1
     have h6:1*18446744073709551616^(p+2)<=C*18446744073709551616^(p+2):=Int.mul_le_mul_of_nonneg_right (by omega) (Int.le_of_lt (zOb _))
     omega
   have had:=zQg g N off (p+2+1) c (p+2) c' (some ⟨b,off',none⟩) z1 y w1 (by omega) hN (by omega) hw1 hO1 (hU1.num' hA h') hA
   have e1:val (segW (zKk z1 y off (p+2)) off (p+2)) (p+2)=val (zNb (fun i=>z1 (off+i)) y) (p+2):=zKa _ fun i hi=>by
    rw [zBb _ _ _ i hi];unfold zKk;rw [if_pos (by omega)];congr 1;omega
   have e2:val (fun i=>z1 (off+i)) (p+2)=val (segW z1 off (p+2)) (p+2):=zKa _ fun i hi=>by rw [zBb _ _ _ i hi]
   have e3:=zPh (x:=fun i=>z1 (off+i)) (y:=y) (p+2)
   rw [e2,← e1] at e3
   have HAW:Hid (zDa (zKk z1 y off (p+2))):=fun i=>by
    unfold zKk;split
    ·exact zKd _ _ _
    ·exact hw1 i
   have hnb:=zVa (zKb HAW.out off (p+2)) (p+2)
   have HQ:Hid (R/val y (p+2)=dg-1/\R%val y (p+2)=val (segW (zKk z1 y off (p+2)) off (p+2)) (p+2)):=zF2 hvv HRe.out hbd.1 hbd.2 hposD hDQ HSP.out.2 hcc e3 hnb.1 hnb.2
   have HU:Hid (Upd g w w1):=⟨hU1.os,hU1.tape,hU1.output,hU1.size,hU1.block⟩
   have HZX:Hid (∀ i,i<off->zKk z1 y off (p+2) i=z i):=fun i hi=>by
    unfold zKk;rw [if_neg (by omega)];exact hzx1 i (Or.inl hi)
   clear e1 e2 e3 hnb hbd hvv hzx1 hO1 hw1 hU1 hsub h h' hposD hDQ HRe HSP
   go_wp2_with (go_at_call 200;refine had.mono ?_;rintro e w2 ⟨rfl,hO2,hU2⟩)
   go_ret
   exact ⟨zWa HQ.out.1.symm,_,hO2,HAW.out,HZX.out,HQ.out.2.symm,HU.out.trans hU2⟩
  ·have HQ:Hid (R/val y (p+2)=dg/\R%val y (p+2)=val (segW z1 off (p+2)) (p+2)):=stp_on hvv HRe.out hbd.1 hbd.2 hposD hDQ HSP.out.1 (by omega)
   have HU:Hid (Upd g w w1):=⟨hU1.os,hU1.tape,hU1.output,hU1.size,hU1.block⟩
   have HO:Hid (Own g N z1 w1):=hO1
   have HW1:Hid (zDa z1):=hw1
   have HZX:Hid (∀ i,i<off->z1 i=z i):=fun i hi=>hzx1 i (Or.inl hi)
   clear hbd hvv hzx1 hO1 hw1 hU1 hsub h h' hposD hDQ HRe HSP
   go_wp2
   go_ret
   exact ⟨zWa HQ.out.1.symm,z1,HO.out,HW1.out,HZX.out,HQ.out.2.symm,HU.out⟩
section
theorem zKp {z:Nat->Int}(hz:zDa z):∀ m,0<m->sizeL z m=m->0<val z m
 | 0,h,_=>by omega
 | m+1,_,h=>by
  have hne:z m≠0:=by
   intro e
   have:sizeL z (m+1)=sizeL z m:=by simp [sizeL,e]
   have:=zCa z m
   omega
  have h1:=(zVa hz m).1
  have h2:=hz m
  have h3:=zOb m
  show 0<val z m+z m*18446744073709551616^m
  have:0<z m*18446744073709551616^m:=Int.mul_pos (by omega) h3
  omega
theorem zVb (z:Nat->Int)(j:Nat):∀ m,val z (j+m)=val z j+val (segW z j m) m*18446744073709551616^j
 | 0=>by simp [val]
 | m+1=>by
  rw [zMf]
  show val z (j+m)+z (j+m)*18446744073709551616^(j+m)=_
  rw [zVb z j m,Int.pow_add];grind
theorem zI3 {y:Int}(h0:0<y)(h:y<=18446744073709551615):∃ r:Nat,r<64/\(64-(Lib.bitLen y.toNat:Int))=r/\9223372036854775808<=y*2^r/\y*2^r<=18446744073709551615:=by
 obtain ⟨n,rfl⟩:=Int.eq_ofNat_of_zero_le (Int.le_of_lt h0)
 have h1:=zRc n (by omega) (by omega)
 have h2:=zTx n (by omega) (by omega)
 rw [Int.toNat_natCast]
 refine ⟨64-Lib.bitLen n,by omega,by omega,?_,?_⟩
 ·rw [← zCb,← Int.natCast_mul];omega
 ·rw [← zCb,← Int.natCast_mul];omega
theorem zT8 {y:Nat->Int}(hy:zDa y){r t:Nat}(ht:0<t)(h1:9223372036854775808<=y (t-1)*2^r)(h2:y (t-1)*2^r<=18446744073709551615):9223372036854775808<=shW y r (t-1)/\val (shW y r) t=val y t*2^r:=by
 refine ⟨?_,?_⟩
 ·unfold shW
  have:=(zKm hy r (t-1)).1
  rw [Int.emod_eq_of_lt (by omega) (by omega)];omega
 ·have e:=zIw y r t
  have e1:prevW y r t=0:=by
   unfold prevW hiW;rw [if_neg (by omega)];exact Int.ediv_eq_zero_of_lt (by omega) (by omega)
  rw [e1] at e;omega
theorem zJu {U VQ D Vj R q rho Vn B:Int}(h:VQ*D+Vn=U)(hs:Vn=Vj+R*B)(hq:D*q+rho=R):(VQ+q*B)*D+(Vj+rho*B)=U:=by grind
theorem zQ3 {X Y S VQ Vz Vr m:Int}(hS:0<S)(hY:0<Y)(h:VQ*(Y*S)+Vz=X*S)(hlt:Vz<Y*S)(hz:0<=Vz)(hr:Vr*S+m=Vz)(hm:0<=m)(hmS:m<S):VQ=X/Y/\Vr=X%Y:=by
 have e:(X-VQ*Y-Vr)*S=m:=by grind
 have hk:X-VQ*Y-Vr=0:=by
  rcases Int.lt_trichotomy (X-VQ*Y-Vr) 0 with hl|he|hg
  ·have:(X-VQ*Y-Vr)*S<=(-1)*S:=Int.mul_le_mul_of_nonneg_right (by omega) (by omega)
   omega
  ·exact he
  ·have:1*S<=(X-VQ*Y-Vr)*S:=Int.mul_le_mul_of_nonneg_right (by omega) (by omega)
   omega
 rw [hk,Int.zero_mul] at e
 have h1:0<=Vr:=by
  rcases Int.lt_or_le Vr 0 with hl|hge
  ·have:Vr*S<=(-1)*S:=Int.mul_le_mul_of_nonneg_right (by omega) (by omega)
   omega
  ·exact hge
 have h2:Vr<Y:=by
  rcases Int.lt_or_le Vr Y with hl|hge
  ·exact hl
  ·have:Y*S<=Vr*S:=Int.mul_le_mul_of_nonneg_right hge (by omega)
   omega
 have:=(Int.ediv_emod_unique hY (a:=X) (r:=Vr) (q:=VQ)).2 ⟨by rw [Int.mul_comm];omega,h1,h2⟩
 exact ⟨this.1.symm,this.2.symm⟩
theorem zNv (y:Nat->Int)(r k i:Nat)(hi:i<k):upZ (fun _=>0) y r 0 k i=shW y r i:=by unfold upZ;rw [if_pos (by omega)];rfl
set_option maxRecDepth 20000 in
theorem zTk (a a':Option Addr)(s c t c':Nat)(x y:Nat->Int)(w:World)(hs:s<=2000)(ht:2<=t)(hts:t<=s)(h:Num w a s c x)(h':Num w a' t c' y)(hy0:sizeL y t=t) :
  Calls Tryz.prog 198 #[.slice a s c,.slice a' t c'] w fun e w'=>∃ gq gr q z,e=.returned (.tuple #[.slice (some ⟨gq,0,none⟩) (s-t+1) (s-t+1),.slice (some ⟨gr,0,none⟩) t t])/\Own gq (s-t+1) q w'/\zDa q/\val q (s-t+1)=val x s/val y t/\Own gr t z w'/\zDa z/\val z t=val x s%val y t/\Below w.heap.size w w':=by
 have hx:=h.2.2.1
 have hy:=h'.2.2.1
 have hyne:y (t-1)≠0:=by have:=zVc (x:=y) t (by omega);rw [hy0] at this;exact this
 have hyb:=hy (t-1)
 obtain ⟨r,hr64,hr,hn1,hn2⟩:=zI3 (y:=y (t-1)) (by omega) hyb.2
 have htop:=zT8 hy (t:=t) (by omega) hn1 hn2
 have hlz:=fun w=>(Tryz.bits_LeadingZeros64 (y (t-1)) w hyb.1 hyb.2).mono (fun e w' hw=>(⟨hw.1,hw.2.symm⟩:_/\w=w'))
 rw [hr] at hlz
 obtain ⟨b',off',rfl,hb',hc'⟩:=h'.cells (by omega)
 have hct:=hc' (t-1) (by omega)
 have et1:((t:Int)-1).toNat=t-1:=by omega
 have hti:(2:Int)<=t:=by omega
 have hm1:=fun w=>zAb ((t:Int)+1) (t+1) (by omega) (by omega) w
 have hm2:=fun w=>zAb ((s:Int)+1) (s+1) (by omega) (by omega) w
 have hm3:=fun w=>zAb ((s:Int)-t+1) (s-t+1) (by omega) (by omega) w
 have hm4:=fun w=>zAb (t:Int) t rfl (by omega) w
 have hB1:=zEa w (.cells (arrOf (fun _=>0) (t+1)) 22)
 have u1:=zEg w.heap.size (t+1) 0 (t+1) (t+1) t c' r _ (fun _=>0) y _ (by omega) (by omega) (by omega) hr64 (Own.new w (fun _=>0) (t+1)) (h'.next hB1) (zUe h')
 go_enter Tryz.func198,Tryz.ntmps198
 go_wp2_with (first|(go_at_call 207;refine (hlz _).mono ?_;rintro e w' ⟨rfl,rfl⟩)|(go_at_call 108;refine u1.mono ?_;rintro e w1 ⟨rfl,hV1,hU1⟩;clear u1))
 have hBw1:Below w.heap.size w w1:=hB1.trans (hU1.below (Nat.le_refl _))
 have HG1:Hid (w1.heap.size=w.heap.size+1):=by show _=_;rw [hU1.size];simp
 have hn1w:=h.next hBw1
 have hB2:=zEa w1 (.cells (arrOf (fun _=>0) (s+1)) 22)
 have u2:=zEg w1.heap.size (s+1) 0 (s+1) (s+1) s c r a (fun _=>0) x _ (by omega) (by omega) (by omega) hr64 (Own.new w1 (fun _=>0) (s+1)) (hn1w.next hB2) (zUe hn1w)
 go_wp2_with (go_at_call 108;refine u2.mono ?_;rintro e w2 ⟨rfl,hL2,hU2⟩;clear u2)
 have hg2:w2.heap.size=w1.heap.size+1:=by rw [hU2.size];simp
 have hg1:w1.heap.size=w.heap.size+1:=HG1.out
 clear HG1
 have hB3:=zEa w2 (.cells (arrOf (fun _=>0) (s-t+1)) 22)
 have hBw2:Below w.heap.size w w2:=(hBw1.trans (hB2.mono hBw1.size)).trans (hU2.below (by omega))
 have hBwC:=hBw2.trans (hB3.mono hBw2.size)
 have hV3:Own w.heap.size (t+1) (upZ (fun _=>0) y r 0 (t+1)) (w2.alloc (.cells (arrOf (fun _=>0) (s-t+1)) 22)):=Below.own hB3 (by omega) (hU2.own (by omega) (Below.own hB2 (by omega) hV1))
 have hL3:=Below.own hB3 (by omega) hL2
 have hQ3:=Own.new w2 (fun _=>0) (s-t+1)
 have e1:∀ i,i<t+1->upZ (fun _=>0) y r 0 (t+1) i=shW y r i:=fun i hi=>zNv y r _ i hi
 have e2:∀ i,i<s+1->upZ (fun _=>0) x r 0 (s+1) i=shW x r i:=fun i hi=>zNv x r _ i hi
 replace hV3:=hV3.congr e1
 replace hL3:=hL3.congr e2
 have hUv:val (shW x r) (s+1)=val x s*2^r:=zJw h.2.2.2.1 r (s+1) (by omega)
 have HWX:=zRj hx hr64
 have HWY:=zRj hy hr64
 have hD0:0<val y t:=zKp hy t (by omega) hy0
 have hS:=zEc r
 have hDpos:0<val y t*2^r:=Int.mul_pos hD0 hS
 have hxb:=zVa hx s
 have hUlt:val x s*2^r<val y t*2^r*18446744073709551616^(s-t+1):=by
  have hY1:9223372036854775808*18446744073709551616^(t-1)<=val y t*2^r:=by
   rw [← htop.2]
   have e5:val (shW y r) t=val (shW y r) (t-1)+shW y r (t-1)*18446744073709551616^(t-1):=by
    conv=>lhs;rw [show t=t-1+1 by omega]
    rfl
   have h6:=(zVa HWY (t-1)).1
   have h7:9223372036854775808*18446744073709551616^(t-1)<=shW y r (t-1)*18446744073709551616^(t-1):=Int.mul_le_mul_of_nonneg_right htop.1 (Int.le_of_lt (zOb _))
   omega
  have h8:val x s*2^r<18446744073709551616^s*2^r:=Int.mul_lt_mul_of_pos_right hxb.2 hS
  have h9:(18446744073709551616:Int)^s*2^r<=18446744073709551616^s*9223372036854775808:=Int.mul_le_mul_of_nonneg_left (zAq hr64) (Int.le_of_lt (zOb _))
  have h10:9223372036854775808*18446744073709551616^(t-1)*18446744073709551616^(s-t+1)<=val y t*2^r*18446744073709551616^(s-t+1):=Int.mul_le_mul_of_nonneg_right hY1 (Int.le_of_lt (zOb _))
  have h11:(18446744073709551616:Int)^(t-1)*18446744073709551616^(s-t+1)=18446744073709551616^s:=by rw [← Int.pow_add];congr 1;omega
  rw [Int.mul_assoc,h11,Int.mul_comm] at h10
  omega
 generalize hgV:w.heap.size=gV at *
 generalize hgL:w1.heap.size=gL at *
 generalize hgQ:w2.heap.size=gQ at *
 generalize hwC:w2.alloc (.cells (arrOf (fun _=>0) (s-t+1)) 22)=wC at *
 obtain ⟨D,hDe⟩:∃ D,val y t*2^r=D:=⟨_,rfl⟩
 obtain ⟨U,hUe⟩:∃ U,val x s*2^r=U:=⟨_,rfl⟩
 rw [hDe] at htop hDpos hUlt
 rw [hUe] at hUv hUlt
 have hVL:gV<gL:=by omega
 have hLQ:gL<gQ:=by omega
 have HGV:Hid (w.heap.size=gV):=hgV
 clear hg1 hg2 hgV
 have HE:Hid (val y t*2^r=D/\val x s*2^r=U/\0<val y t/\(0:Int)<2^r):=⟨hDe,hUe,hD0,hS⟩
 clear hV1 hL2 hU1 hU2 hB1 hB2 hB3 hBw1 hBw2 hn1w e1 e2 hlz hct hc' h h' hm1 hm2 hm3 hDe hUe hD0 hS hxb hn1 hn2 hr hyb hyne hwC hgQ hgL w1 w2
 have hYN:∀ wr,Own gV (t+1) (shW y r) wr->Num wr (some ⟨gV,0,none⟩) t (t+1) (segW (shW y r) 0 t):=fun wr hO=>hO.num HWY 0 t (t+1) (by omega) (by omega) (by unfold maxLen;omega)
 have hYv:val (segW (shW y r) 0 t) t=D:=by
  rw [zKa (y:=shW y r) t fun i hi=>by rw [zBb _ _ _ i hi,Nat.zero_add]];exact htop.2
 have hYt:9223372036854775808<=segW (shW y r) 0 t (t-1):=by rw [zBb _ _ _ (t-1) (by omega),Nat.zero_add];exact htop.1
 have HYN:Hid (∀ wr,Own gV (t+1) (shW y r) wr->Num wr (some ⟨gV,0,none⟩) t (t+1) (segW (shW y r) 0 t)):=hYN
 have HYT:Hid (val (segW (shW y r) 0 t) t=D/\9223372036854775808<=segW (shW y r) 0 t (t-1)):=⟨hYv,hYt⟩
 have hAp:zSi (some ⟨gV,0,none⟩) gL:=by intro p hp;cases hp;show gV≠gL;omega
 have HAP:Hid (zSi (some ⟨gV,0,none⟩) gL):=hAp
 clear hYN hYv hYt hAp htop hy hx
 generalize segW (shW y r) 0 t=Y at *
 go_loopw [10] (fun iv wr=>∃ (k:Nat) (z q:Nat->Int),k<=s-t+1/\iv=.int .i64 ((k:Int)-1)/\Own gV (t+1) (shW y r) wr/\Own gL (s+1) z wr/\zDa z/\Own gQ (s-t+1) q wr/\zDa q/\(∀ i,i<k->q i=0)/\Hid (val q (s-t+1)*D+val z (k+t)=U)/\Hid (val z (k+t)<D*18446744073709551616^k)/\Below gV w wr) (fun iv _=>(intOf iv+1).toNat)
 case atStart=>exact ⟨s-t+1,shW x r,fun _=>0,Nat.le_refl _,by go_num,hV3,hL3,HWX,hQ3,fun _=>(by decide:(0:Int)<=0/\(0:Int)<=18446744073709551615),fun _ _=>rfl,by show _=_;rw [zDj,Int.zero_mul,Int.zero_add,show s-t+1+t=s+1 by omega,hUv],by show _<_;rw [show s-t+1+t=s+1 by omega,hUv];exact hUlt,hBwC⟩
 case round =>
  clear hV3 hL3 hQ3 hBwC hUv hUlt HWX
  obtain ⟨k,z,q,hk,rfl,hV,hL,hzw,hQ,hqw,hq0,hvU,hlt,hB⟩:=hrel
  by_cases h0:k=0
  ·subst h0
   have hZN:=hL.num hzw 0 t (s+1) (by omega) (by omega) (by unfold maxLen;omega)
   have hB5:=zEa wr (.cells (arrOf (fun _=>0) t) 22)
   have u3:=zGm wr.heap.size t t t (s+1) r (some ⟨gL,0,none⟩) (fun _=>0) (segW z 0 t) _ (Nat.le_refl _) (by omega) hr64 (Own.new wr (fun _=>0) t) (hZN.next hB5) (zUe hZN)
   have HFIN:Hid (val q (s-t+1)=val x s/val y t/\val (zAc (segW z 0 t) 0 r) t=val x s%val y t):=by
    have hdn:=zRs (zKb hzw 0 t) hr64 t
    have e1:val (segW z 0 t) t=val z (0+t):=by
     rw [Nat.zero_add];exact zKa t fun i hi=>by rw [zBb _ _ _ i hi,Nat.zero_add]
    rw [zTg z 0 t t (Nat.le_refl _),Int.zero_emod,Int.zero_mul,Int.add_zero,e1] at hdn
    have hE:=HE.out
    have h1:=hvU.out
    have h2:=hlt.out
    rw [← hE.1,← hE.2.1] at h1
    rw [Int.pow_zero,Int.mul_one,← hE.1] at h2
    exact zQ3 hE.2.2.2 hE.2.2.1 h1 h2 (zVa hzw (0+t)).1 hdn (Int.emod_nonneg _ (by have:=hE.2.2.2;omega)) (Int.emod_lt_of_pos _ hE.2.2.2)
   have HRW:Hid (zDa (zAc (segW z 0 t) 0 r)):=zLd (zKb hzw 0 t) 0 r
   have HQx:Hid (Own gQ (s-t+1) q (wr.alloc (.cells (arrOf (fun _=>0) t) 22))):=Below.own hB5 hQ.lt hQ
   have hQlt:=hQ.lt
   have HQW:Hid (zDa q):=hqw
   have HB6:Hid (Below gV w (wr.alloc (.cells (arrOf (fun _=>0) t) 22))):=hB.trans (hB5.mono (by have:=hB.size;have:=HGV.out;omega))
   have HLE:Hid (gV<=wr.heap.size):=by have h1:=hB.size;have h2:=HGV.out;show _<=_;omega
   clear hZN hB5 hV hL hzw hQ hqw hq0 hvU hlt hB HYN HYT HAP
   go_wp2_with (go_at_call 190;refine u3.mono ?_;rintro e w5 ⟨rfl,hR5,hU5⟩;clear u3)
   go_ret2
   exact ⟨gQ,wr.heap.size,q,zAc (segW z 0 t) 0 r,rfl,hU5.own (by omega) HQx.out,HQW.out,HFIN.out.1,hR5.congr (fun i hi=>by unfold dnZ;rw [if_pos (by omega)]),HRW.out,HFIN.out.2,by rw [HGV.out];exact HB6.out.trans (hU5.below HLE.out)⟩
  ·obtain ⟨j,rfl⟩:∃ j,k=j+1:=⟨k-1,by omega⟩
   have ej:((j+1:Nat):Int)-1=j:=by omega
   rw [ej]
   have ejt:j+t+1-j=t+1:=by omega
   have hsp:=zVb z j (t+1)
   rw [show j+(t+1)=j+1+t by omega] at hsp
   have hRlt:val (segW z j (t+1)) (t+1)<val Y t*18446744073709551616:=by
    rw [HYT.out.1]
    rcases Int.lt_or_le (val (segW z j (t+1)) (t+1)) (D*18446744073709551616) with h1|h1
    ·exact h1
    ·exfalso
     have h2:=hlt.out
     have h3:=(zVa hzw j).1
     have h4:D*18446744073709551616*18446744073709551616^j<=val (segW z j (t+1)) (t+1)*18446744073709551616^j:=Int.mul_le_mul_of_nonneg_right h1 (Int.le_of_lt (zOb j))
     rw [hsp,Int.pow_succ] at h2
     have e:D*18446744073709551616*18446744073709551616^j=D*(18446744073709551616^j*18446744073709551616):=by grind
     omega
   have hst:=zSk gL (s+1) j t (s+1-j) (t+1) (some ⟨gV,0,none⟩) z Y wr ht (by omega) (by omega) hzw hL (HYN.out wr hV) HAP.out HYT.out.2 hRlt
   rw [HYT.out.1] at hst
   have hR0:=(zVa (zKb hzw j (t+1)) (t+1)).1
   rw [HYT.out.1] at hRlt
   have HRB:Hid (0<=val (segW z j (t+1)) (t+1)/\val (segW z j (t+1)) (t+1)<D*18446744073709551616):=⟨hR0,hRlt⟩
   have HSP:Hid (val z (j+1+t)=val z j+val (segW z j (t+1)) (t+1)*18446744073709551616^j):=hsp
   generalize val (segW z j (t+1)) (t+1)=R at *
   have HVx:Hid (Own gV (t+1) (shW y r) wr):=hV
   have HQx:Hid (Own gQ (s-t+1) q wr):=hQ
   have HZB:Hid (0<=val z j/\val z j<18446744073709551616^j):=zVa hzw j
   have hjb:j<s-t+1:=by omega
   have hji:(j:Int)<((s-t+1:Nat):Int):=by omega
   have hjs:(j:Int)+t+1<=((s+1:Nat):Int):=by omega
   have HQ0:Hid (∀ i,i<j+1->q i=0):=hq0
   have HQW:Hid (zDa q):=hqw
   clear hsp hRlt hR0 hV hL hzw hQ hqw hq0 ej HYN HYT HAP
   go_wp2_with (go_at_call 216;refine hst.mono ?_;rintro e w1 ⟨rfl,z1,hO1,hw1,hzx1,hv1,hU1⟩;have hQ1:=hU1.own (by omega) HQx.out;have hcq:=hQ1.cell j hjb;have hfq:=hQ1.frozen j)
   go_roundw
   case rel =>
    have hD:=HRB.out
    have hDp:0<D:=hDpos
    have hdq:D*(R/D)+R%D=R:=Int.mul_ediv_add_emod R D
    have hq1:0<=R/D:=Int.ediv_nonneg hD.1 (by omega)
    have hq2:R/D<18446744073709551616:=Int.ediv_lt_of_lt_mul hDp (by rw [Int.mul_comm];exact hD.2)
    have hsp1:=zVb z1 j t
    have hzz:val z1 j=val z j:=zKa j fun i hi=>hzx1 i hi
    rw [hzz,hv1] at hsp1
    refine ⟨j,z1,fun i=>if i=j then R/D else q i,by omega,by go_num,?_,?_,hw1,hQ1.set j _,zGc HQW.out (by omega),?_,?_,?_,?_⟩
    ·exact (((Upd.refl gQ w1).set j _)).own (by omega) (hU1.own (by omega) HVx.out)
    ·exact (((Upd.refl gQ w1).set j _)).own (by omega) hO1
    ·intro i hi
     exact (if_neg (show ¬ i=j by omega)).trans (HQ0.out i (by omega))
    ·show _=_
     rw [zKe q j (R/D) (s-t+1) hjb,HQ0.out j (by omega),Int.sub_zero,hsp1]
     exact zJu hvU.out HSP.out hdq
    ·show _<_
     rw [hsp1]
     have h1:=Int.emod_lt_of_pos R hDp
     have h2:=HZB.out
     have h3:R%D*18446744073709551616^j<=(D-1)*18446744073709551616^j:=Int.mul_le_mul_of_nonneg_right (by omega) (Int.le_of_lt (zOb j))
     rw [Int.sub_mul,Int.one_mul] at h3
     omega
    ·exact (hB.trans (hU1.below (by omega))).trans (((Upd.refl gQ w1).set j _).below (by omega))
   case measure=>simp [intOf]
end
theorem zWp {x:Nat->Int}{d:Int}(hx:zDa x)(hd:0<d)(m:Nat):val (quoW x d m) m=val x m/d/\remJ x d m m=val x m%d:=by
 have h:=zMq x d m m (Nat.le_refl _)
 simp only [Nat.sub_self,val,Int.pow_zero,Int.mul_one,Int.zero_add,Int.sub_zero] at h
 have hb:=zFg x d m m hd
 have e:=(Int.ediv_emod_unique hd (a:=val x m) (r:=remJ x d m m) (q:=val (quoW x d m) m)).2 ⟨h,hb.1,hb.2⟩
 exact ⟨e.1.symm,e.2.symm⟩
theorem zNl {x:Nat->Int}{d:Int}(hx:zDa x)(hd:0<d)(m k:Nat):zDa (divZ x d m k):=fun i=>by unfold divZ;split;exact zSh hx hd m i;exact hx i
theorem zX1 (c:Int):val (zEd c) 1=c:=by simp [val,zEd]
def zEt (n n':Nat)(X Y:Int)(w:World)(e:Ending)(w':World):Prop :=
 ∃ o k cap z o' k' cap' z',e=.returned (.tuple #[.slice o k cap,.slice o' k' cap',.int .i64 0])/\k<=2001/\k'<=2001/\Num w' o k cap z/\Num w' o' k' cap' z'/\val z k=X/Y/\val z' k'=X%Y/\sizeL z k=k/\sizeL z' k'=k'/\Below w.heap.size w w'
theorem zWx (a a':Option Addr)(n c n' c':Nat)(x y:Nat->Int)(w:World)(hn:n<4000000000)(hn':n'<4000000000)(h:Num w a n c x)(h':Num w a' n' c' y)(hs:sizeL x n<=2000)(hs':sizeL y n'<=2000)(hlt:sizeL x n<sizeL y n') :
  Calls Tryz.prog 164 #[.slice a n c,.slice a' n' c'] w (zEt n n' (val x n) (val y n') w):=by
 have hb:=zRa a n c x w (by omega) h
 have hb':=zRa a' n' c' y w (by omega) h'
 have hle:=zCa x n
 have hle':=zCa y n'
 have ht:=zWg a (sizeL x n) c x w (by omega) h.bare
 rw [zGa] at ht
 have hv:=zJd h.2.2.1 h'.2.2.1 hlt (zGa y n')
 rw [zMa,zMa] at hv
 have hx0:=(zVa h.2.2.1 n).1
 have HV:Hid (val x n/val y n'=0/\val x n%val y n'=val x n):=⟨Int.ediv_eq_zero_of_lt hx0 hv,Int.emod_eq_of_lt hx0 hv⟩
 have HN:Hid (Num (w.alloc (.cells (arrOf x (sizeL x n)) 22)) (some ⟨w.heap.size,0,none⟩) (sizeL x n) (sizeL x n) x):=zQa (by omega) h.2.2.1 h.bare.2.2.2.1 (arrOf_size _ _) (fun j hj=>zIa _ _ _ _)
 have HVX:Hid (val x (sizeL x n)=val x n):=zMa n
 have HSS:Hid (sizeL x (sizeL x n)=sizeL x n):=zGa x n
 have hlti:(sizeL x n:Int)<sizeL y n':=by omega
 have hsi:(sizeL x n:Int)<=2000:=by omega
 have hsi':(sizeL y n':Int)<=2000:=by omega
 have hne:((sizeL y n':Int)==0)=false:=by simp;omega
 generalize sizeL x n=s at *
 generalize sizeL y n'=s' at *
 clear h h' hv hx0
 generalize val x n=X at *
 generalize val y n'=Y at *
 go_enter Tryz.func164,Tryz.ntmps164
 go_wp2_with (first|(go_at_call_of 102 (Value.slice a n c);refine hb.mono ?_;rintro e w' ⟨rfl,rfl⟩)|(go_at_call_of 102 (Value.slice a' n' c');refine hb'.mono ?_;rintro e w' ⟨rfl,rfl⟩)|(go_at_call 103;refine ht.mono ?_;rintro e w1 ⟨rfl,rfl⟩))
 go_ret3
 exact ⟨none,0,0,_,_,s,s,x,rfl,by omega,by omega,zD3 _,HN.out,by rw [HV.out.1];rfl,by rw [HV.out.2];exact HVX.out,rfl,HSS.out,zEa w _⟩
theorem zJ3 (a a':Option Addr)(n c n' c':Nat)(x y:Nat->Int)(w:World)(hn:n<4000000000)(hn':n'<4000000000)(h:Num w a n c x)(h':Num w a' n' c' y)(hs:sizeL x n<=2000)(hs':sizeL y n'=1)(hlt:1<=sizeL x n) :
  Calls Tryz.prog 164 #[.slice a n c,.slice a' n' c'] w (zEt n n' (val x n) (val y n') w):=by
 have hb:=zRa a n c x w (by omega) h
 have hb':=zRa a' n' c' y w (by omega) h'
 have hle:=zCa x n
 have hle':=zCa y n'
 have ht:=zWg a (sizeL x n) c x w (by omega) h.bare
 rw [zGa] at ht
 have hy1:val y n'=y 0:=by rw [← zMa n',hs'];simp [val]
 have hyt:=zVc (x:=y) n' (by omega)
 rw [hs'] at hyt
 have hyb:=h'.2.2.1 0
 have hy0:0<y 0:=by have:y 0≠0:=hyt;omega
 obtain ⟨b',off',rfl,hbs',hc'⟩:=h'.cells (by omega)
 have hcy:=hc' 0 (by omega)
 have hx:=h.2.2.1
 have HVX:Hid (val x (sizeL x n)=val x n):=zMa n
 rw [hs'] at hb'
 have hd:=zWi w.heap.size (sizeL x n) (sizeL x n) (sizeL x n) x (y 0) _ (Nat.le_refl _) (by omega) hx ⟨hy0,hyb.2⟩ (Own.new w x (sizeL x n))
 have hqv:=zWp hx hy0 (sizeL x n)
 rw [hy1]
 have hcy2:(w.alloc (.cells (arrOf x (sizeL x n)) 22)).cell? ⟨b',off',none⟩=some (.int .u64 (y 0)):=((zEa w _).cell (p:=⟨b',off',none⟩) hbs').trans hcy
 have HB:=zEa w (.cells (arrOf x (sizeL x n)) 22)
 have hsi:(sizeL x n:Int)<=2000:=by omega
 have hs1i:¬ (sizeL x n:Int)<1:=by omega
 have hs1n:¬ sizeL x n<1:=by omega
 have HDW:Hid (zDa (divZ x (y 0) (sizeL x n) 0)):=zNl hx hy0 _ 0
 have HDV:Hid (val (divZ x (y 0) (sizeL x n) 0) (sizeL x n)=val x n/y 0):=by
  show _=_
  rw [zKa (y:=quoW x (y 0) (sizeL x n)) (sizeL x n) fun i hi=>by unfold divZ;rw [if_pos (by omega)],hqv.1,HVX.out]
 have HRV:Hid (remJ x (y 0) (sizeL x n) (sizeL x n)=val x n%y 0):=by show _=_;rw [hqv.2,HVX.out]
 have hrb:=zFg x (y 0) (sizeL x n) (sizeL x n) hy0
 generalize remJ x (y 0) (sizeL x n) (sizeL x n)=rm at *
 generalize divZ x (y 0) (sizeL x n) 0=dz at *
 generalize sizeL x n=s at *
 clear h h' hc' hqv hyt hx HVX hy1
 generalize val x n=X at *
 go_enter Tryz.func164,Tryz.ntmps164
 go_wp2_with (first|(go_at_call_of 102 (Value.slice a n c);refine hb.mono ?_;rintro e w' ⟨rfl,rfl⟩;clear hb)|(go_at_call_of 102 (Value.slice (some ⟨b',off',none⟩) n' c');refine hb'.mono ?_;rintro e w' ⟨rfl,rfl⟩;clear hb')|(go_at_call 103;refine ht.mono ?_;rintro e w1 ⟨rfl,rfl⟩)|(go_at_call 104;refine hd.mono ?_;rintro e w2 ⟨rfl,hO2,hU2⟩))
 obtain ⟨k,z',hkN,hNk,hvk,hsk,hbr⟩:=zIh hO2 HDW.out (by omega) (Nat.le_refl s) (by unfold maxLen;omega) HDV.out
 go_wp2_with (go_at_call 102;refine hbr.mono ?_;rintro e w3 ⟨rfl,rfl⟩;clear hbr)
 have hN1:=zOd w2 rm (by omega)
 have hB2:=zEa w2 (.cells #[.int .u64 rm] 22)
 have hbr2:=zRa _ 1 1 (zEd rm) _ (by omega) hN1
 have HN1:Hid (Num (w2.alloc (.cells #[.int .u64 rm] 22)) (some ⟨w2.heap.size,0,none⟩) (sizeL (zEd rm) 1) 1 (zEd rm)):=hN1.bare
 have HNk:Hid (Num (w2.alloc (.cells #[.int .u64 rm] 22)) (some ⟨w.heap.size,0,none⟩) k s z'):=hNk.next hB2
 have HBB:Hid (Below w.heap.size w (w2.alloc (.cells #[.int .u64 rm] 22))):=(HB.trans (hU2.below (Nat.le_refl _))).trans (hB2.mono (by rw [hU2.size];simp))
 have HV1:Hid (val (zEd rm) (sizeL (zEd rm) 1)=X%y 0):=by show _=_;rw [zMa,zX1,HRV.out]
 have HSS:Hid (sizeL (zEd rm) (sizeL (zEd rm) 1)=sizeL (zEd rm) 1):=zGa _ _
 have HLE:Hid (sizeL (zEd rm) 1<=1):=zCa _ _
 generalize sizeL (zEd rm) 1=k1 at *
 clear hN1 hB2 hNk hO2 hU2 HB
 go_wp2_with (go_at_call 102;refine hbr2.mono ?_;rintro e w4 ⟨rfl,rfl⟩;clear hbr2)
 go_ret3
 exact ⟨_,k,s,z',_,k1,1,zEd rm,rfl,by omega,by have:=HLE.out;omega,HNk.out,HN1.out,hvk,HV1.out,hsk,HSS.out,HBB.out⟩
theorem zVx (a a':Option Addr)(n c n' c':Nat)(x y:Nat->Int)(w:World)(hn:n<4000000000)(hn':n'<4000000000)(h:Num w a n c x)(h':Num w a' n' c' y)(hs:sizeL x n<=2000)(hs':2<=sizeL y n')(hlt:sizeL y n'<=sizeL x n) :
  Calls Tryz.prog 164 #[.slice a n c,.slice a' n' c'] w (zEt n n' (val x n) (val y n') w):=by
 have hb:=zRa a n c x w (by omega) h
 have hb':=zRa a' n' c' y w (by omega) h'
 have hle:=zCa x n
 have hle':=zCa y n'
 have hd:=zTk a a' (sizeL x n) c (sizeL y n') c' x y w hs hs' hlt h.bare h'.bare (zGa y n')
 rw [zMa,zMa] at hd
 have hlti:¬ (sizeL x n:Int)<sizeL y n':=by omega
 have hltn:¬ sizeL x n<sizeL y n':=by omega
 have hsi:(sizeL x n:Int)<=2000:=by omega
 have hsi':(sizeL y n':Int)<=2000:=by omega
 have hne:((sizeL y n':Int)==0)=false:=by simp;omega
 have hne1:((sizeL y n':Int)==1)=false:=by simp;omega
 generalize sizeL x n=s at *
 generalize sizeL y n'=s' at *
 clear h h'
 generalize val x n=X at *
 generalize val y n'=Y at *
 go_enter Tryz.func164,Tryz.ntmps164
 go_wp2_with (first|(go_at_call_of 102 (Value.slice a n c);refine hb.mono ?_;rintro e w' ⟨rfl,rfl⟩;clear hb)|(go_at_call_of 102 (Value.slice a' n' c');refine hb'.mono ?_;rintro e w' ⟨rfl,rfl⟩;clear hb')|(go_at_call 198;refine hd.mono ?_;rintro e w2 ⟨gq,gr,q,z,rfl,hQ,hqw,hqv,hR,hzw,hzv,hB⟩))
 obtain ⟨k,z',hkN,hNk,hvk,hsk,hbr⟩:=zIh hQ hqw (by omega) (Nat.le_refl _) (by unfold maxLen;omega) hqv
 obtain ⟨k2,z2,hkN2,hNk2,hvk2,hsk2,hbr2⟩:=zIh hR hzw (by omega) (Nat.le_refl _) (by unfold maxLen;omega) hzv
 have HNk:Hid (Num w2 (some ⟨gq,0,none⟩) k (s-s'+1) z'):=hNk
 have HNk2:Hid (Num w2 (some ⟨gr,0,none⟩) k2 s' z2):=hNk2
 clear hQ hR hNk hNk2
 go_wp2_with (go_at_call 102;refine hbr.mono ?_;rintro e w3 ⟨rfl,rfl⟩;clear hbr)
 go_wp2_with (go_at_call 102;refine hbr2.mono ?_;rintro e w4 ⟨rfl,rfl⟩;clear hbr2)
 go_ret3
 exact ⟨_,k,_,z',_,k2,_,z2,rfl,by omega,by omega,HNk.out,HNk2.out,hvk,hvk2,hsk,hsk2,hB⟩
theorem zK3 (a a':Option Addr)(n c n' c':Nat)(x y:Nat->Int)(w:World)(hn:n<4000000000)(hn':n'<4000000000)(h:Num w a n c x)(h':Num w a' n' c' y)(hs:sizeL x n<=2000)(hs':sizeL y n'<=2000)(hy:0<sizeL y n') :
  Calls Tryz.prog 164 #[.slice a n c,.slice a' n' c'] w (zEt n n' (val x n) (val y n') w):=by
 by_cases h1:sizeL x n<sizeL y n'
 ·exact zWx a a' n c n' c' x y w hn hn' h h' hs hs' h1
 ·by_cases h2:sizeL y n'=1
  ·exact zJ3 a a' n c n' c' x y w hn hn' h h' hs h2 (by omega)
  ·exact zVx a a' n c n' c' x y w hn hn' h h' hs (by omega) (by omega)
section
attribute [local go_sem] zPa zDb
theorem zIx {w:World}{base g k cap:Nat}{xs:List Value}(h:w.ownsRow base 22 1 (.slice (some ⟨g,0,none⟩) k cap) k xs):base<=g:=by
 obtain ⟨hl,h⟩:=h
 rcases h with ⟨h,_⟩|⟨g',cap',cur,he,hb,_⟩
 ·cases h
 ·cases he;exact hb
theorem zQu (b off n c:Nat)(x:Nat->Int)(w:World)(hn:n<4294967296)(h:Num w (some ⟨b,off,none⟩) n c x) :
  Calls Tryz.prog 128 #[.slice (some ⟨b,off,none⟩) n c] w fun e w'=>∃ g cap,e=.returned (.slice (some ⟨g,0,none⟩) (sizeL x n) cap)/\Num w' (some ⟨g,0,none⟩) (sizeL x n) cap x/\Below w.heap.size w w'/\w.heap.size<=g:=by
 obtain ⟨h1,h2,h3,h4,h5⟩:=h
 have hc:b<w.heap.size/\∀ i,i<n->w.cell? ⟨b,off+i,none⟩=some (.int .u64 (x i)):=by
  rcases h5 with ⟨h,_⟩|⟨b',off',h,hbs,hc⟩
  ·cases h
  ·cases h;exact ⟨hbs,hc⟩
 obtain ⟨hbs,hc⟩:=hc
 clear h5
 obtain ⟨i0,hi,hz0,hz1,hz2⟩:=info_parts Tryz.info22
 unfold maxLen at h2
 go_enter Tryz.func128,Tryz.ntmps128
 go_wp2
 go_loop [3] (fun t=>∃ k:Nat,k<=n/\sizeL x k=sizeL x n/\(∀ i,k<=i->x i=0)/\t=.int .i64 k) (fun t=>(intOf t).toNat)
 case atStart=>exact ⟨n,Nat.le_refl _,rfl,h4,rfl⟩
 case round =>
  obtain ⟨k,hk,hs,hz,rfl⟩:=hrel
  clear h4
  by_cases h0:k=0
  ·subst h0
   have HS:Hid (sizeL x n=0):=hs.symm
   have HN:Hid (Num (w.alloc (.cells #[] 22)) (some ⟨w.heap.size,0,none⟩) 0 0 x):=⟨Nat.le_refl _,by unfold maxLen;omega,h3,hz,Or.inr ⟨w.heap.size,0,rfl,by simp,fun i hi=>by omega⟩⟩
   clear hs hz hc h3
   go_wp2
   go_ret
   refine ⟨w.heap.size,0,?_,?_,(Below.refl _ _).alloc (Nat.le_refl _) _,Nat.le_refl _⟩
   ·rw [HS.out];rfl
   ·rw [HS.out];exact HN.out
  ·obtain ⟨j,rfl⟩:∃ j,k=j+1:=⟨k-1,by omega⟩
   have hcj:=hc j (by omega)
   by_cases hzj:x j=0
   ·have HS:Hid (sizeL x j=sizeL x n):=by
     have:sizeL x (j+1)=sizeL x j:=by simp [sizeL,hzj]
     exact this.symm.trans hs
    have HZ:Hid (∀ i,j<=i->x i=0):=fun i hji=>by
     by_cases e:i=j
     ·rw [e];exact hzj
     ·exact hz i (by omega)
    clear hs hz hc
    go_wp2
    go_round
    case rel=>exact ⟨j,by omega,HS.out,HZ.out,by go_num⟩
    case measure=>simp [intOf]
   ·have HS:Hid (sizeL x n=j+1):=by
     have:sizeL x (j+1)=j+1:=by simp [sizeL,hzj]
     exact hs.symm.trans this
    have HZ:Hid (∀ i,j+1<=i->x i=0):=hz
    have HC:Hid (∀ i,i<n->w.cell? ⟨b,off+i,none⟩=some (.int .u64 (x i))):=hc
    clear hs hz hc
    have HOWN:(w.alloc (.cells #[] 22)).ownsRow w.heap.size 22 1 (.slice (some ⟨w.heap.size,0,none⟩) 0 0) 0 [] :=
     ⟨rfl,Or.inr ⟨w.heap.size,0,#[],rfl,Nat.le_refl _,(MapKept.heap_alloc w _).1,Nat.le_refl _,by unfold maxLen;omega,rfl,rfl⟩⟩
    have HNEWS:∀ (q:Nat) (u:Value),((List.range (j+1)).map fun i=>Value.int .u64 (x i))[q]?=some u->(w.alloc (.cells #[] 22)).cell? ((⟨b,off,none⟩:Addr).add q)=some u:=by
     intro q u hq
     have hql:q<j+1:=by
      rcases Nat.lt_or_ge q (j+1) with h|h
      ·exact h
      ·rw [List.getElem?_eq_none (by simpa using h)] at hq;cases hq
     have e2:u=.int .u64 (x q):=by simpa [hql] using hq.symm
     rw [e2]
     have ea:(⟨b,off,none⟩:Addr).add q=⟨b,off+q,none⟩:=by simp [Addr.add]
     rw [ea]
     exact (((Below.refl w.heap.size w).alloc (Nat.le_refl _) _).cell (p:=⟨b,off+q,none⟩) hbs).trans (HC.out q (by omega))
    have HONE:∀ u ∈ ((List.range (j+1)).map fun i=>Value.int .u64 (x i)),u.oneCell'=true:=by
     intro u hu
     obtain ⟨q,_,rfl⟩:=List.mem_map.1 hu
     rfl
    go_wp2_with (at_builtin;refine wpList_append_lies _ rfl (.tmp 18) (.tmp 21) 61 rfl w.heap.size 22 i0 (.int .u64 0) 1 8 Tryz.underlying61 hi hz0 hz1 hz2 rfl (by decide) (.slice (some ⟨w.heap.size,0,none⟩) 0 0) 0 [] rfl HOWN ⟨b,off,none⟩ (j+1) c ((List.range (j+1)).map fun i=>Value.int .u64 (x i)) rfl (by simp) HNEWS HONE (by omega) (by unfold maxLen;omega) (by omega) (by simp) (w.heap.size+1) (by simp) ?_;intro g cap w1 hown hgrow hat hlt;clear HOWN HNEWS HONE)
    have hown':w1.ownsRow w.heap.size 22 1 (.slice (some ⟨g,0,none⟩) (j+1) cap) (j+1) ((List.range (j+1)).map fun i=>Value.int .u64 (x i)):=by
     have e0:0+(j+1)=j+1:=by omega
     rw [e0] at hown
     simpa using hown
    have HN:=zRe (w:=w) h3 HZ.out hown' hlt
    have HFG:w.heap.size<=g:=zIx hown'
    have HB:Below w.heap.size w w1:=((Below.refl _ _).alloc (Nat.le_refl _) _).grown hgrow (by simp) (by intro k hk;cases hk;exact Nat.le_refl _)
    clear hown hown' hgrow
    go_wp2
    go_ret
    refine ⟨g,cap,?_,?_,HB,HFG⟩
    ·rw [HS.out];simp
    ·rw [HS.out];exact HN
theorem zPy (x:Nat->Int)(w:World)(hx:∀ i,x i=0) :
  Calls Tryz.prog 128 #[.slice none 0 0] w fun e w'=>∃ g cap,e=.returned (.slice (some ⟨g,0,none⟩) 0 cap)/\Num w' (some ⟨g,0,none⟩) 0 cap x/\Below w.heap.size w w'/\w.heap.size<=g:=by
 go_enter Tryz.func128,Tryz.ntmps128
 go_wp2
 go_loop [3] (fun t=>t=.int .i64 0) (fun t=>(intOf t).toNat)
 case atStart=>rfl
 case round =>
  subst hrel
  go_wp2
  go_ret
  refine ⟨w.heap.size,0,rfl,?_,(Below.refl _ _).alloc (Nat.le_refl _) _,Nat.le_refl _⟩
  exact ⟨Nat.le_refl _,by unfold maxLen;omega,fun i=>by rw [hx i];decide,fun i _=>hx i,Or.inr ⟨w.heap.size,0,rfl,by simp,fun i hi=>by omega⟩⟩
theorem zAh (a:Option Addr)(n c:Nat)(x:Nat->Int)(w:World)(hn:n<4294967296)(h:Num w a n c x) :
  Calls Tryz.prog 128 #[.slice a n c] w fun e w'=>∃ g cap,e=.returned (.slice (some ⟨g,0,none⟩) (sizeL x n) cap)/\Num w' (some ⟨g,0,none⟩) (sizeL x n) cap x/\Below w.heap.size w w'/\w.heap.size<=g:=by
 have h':=h
 obtain ⟨h1,h2,h3,h4,h5⟩:=h'
 rcases h5 with ⟨rfl,rfl⟩|⟨b,off,rfl,_,_⟩
 ·obtain rfl:n=0:=by omega
  exact zPy x w (fun i=>h4 i (Nat.zero_le _))
 ·exact zQu b off n c x w hn h
theorem zSu (a a':Option Addr)(n c n' c':Nat)(x y:Nat->Int)(w:World)(hn:n<4294967290)(hn':n'<4294967290)(h:Num w a n c x)(h':Num w a' n' c' y) :
  Calls Tryz.prog 126 #[.slice a n c,.slice a' n' c'] w fun e w'=>∃ g k cap,e=.returned (.slice (some ⟨g,0,none⟩) k cap)/\k<=max n n'/\Num w' (some ⟨g,0,none⟩) k cap (zFp x y (max n n'))/\Below w.heap.size w w'/\w.heap.size<=g/\sizeL (zFp x y (max n n')) k=k:=by
 have hx:=h.2.2.1
 have hy:=h'.2.2.1
 have zx:=h.2.2.2.1
 have zy:=h'.2.2.2.1
 obtain ⟨M,hM⟩:∃ M,max n n'=M:=⟨_,rfl⟩
 have hMi:max (n:Int) n'=(M:Int):=by omega
 have hMb:M<4294967292:=by omega
 have hmk:=fun w=>zAb (max (n:Int) n') M hMi (by omega) w
 have hfin:∀ (ss:Array Value),ss.size=M->(∀ j h,ss[j]'h=Value.int .u64 (zZc x y j))->Num (w.alloc (.cells ss 22)) (some ⟨w.heap.size,0,none⟩) M M (zFp x y (max n n')):=fun ss h1 h2=>zQa (by omega) (zOl x y _) (fun i hi=>by unfold zFp;rw [if_neg (by omega)]) h1 (fun j hj=>by rw [h2 j hj];unfold zFp;rw [if_pos (by omega)])
 have hw1:=fun (i:Nat) (ss:Array Value)=>zJb a n c i x (w.alloc (.cells ss 22)) (h.next (zEa w _))
 have hw2:=fun (i:Nat) (ss:Array Value)=>zJb a' n' c' i y (w.alloc (.cells ss 22)) (h'.next (zEa w _))
 have HM:Hid (max n n'=M):=hM
 have HZ:Hid ((arrOf (fun _=>0) M).size=M/\∀ j h,(arrOf (fun _=>0) M)[j]'h=Value.int .u64 0):=⟨arrOf_size _ _,fun j h=>zIa _ _ _ _⟩
 clear h h' zx zy hM hMi
 generalize arrOf (fun _=>0) M=zz at *
 go_enter Tryz.func126,Tryz.ntmps126
 go_wp2
 go_loopw [6,7,16,19] (fun c u7 i u20 wr=>∃ (k:Nat) (ss:Array Value),k<=M/\i=.int .i64 k/\c=.int .u64 (zXe x y k)/\ss.size=M/\(∀ j h,ss[j]'h=Value.int .u64 (if j<k then zZc x y j else 0))/\wr=w.alloc (.cells ss 22)) (fun _ _ i _ _=>M-(intOf i).toNat)
 case atStart=>exact ⟨0,zz,Nat.zero_le _,rfl,rfl,HZ.out.1,fun j h=>by rw [HZ.out.2 j h];simp,rfl⟩
 case round =>
  obtain ⟨k,ss,hk,rfl,rfl,hsz,hss,rfl⟩:=hrel
  have hcar:=zIf x y k
  by_cases h8:k<M
  ·have h8i:(k:Int)<M:=by omega
   have h8s:k<ss.size:=by omega
   have bx:=hx k
   have b_y:=hy k
   have hsk:ss[k]?=some (.int .u64 0):=by rw [Array.getElem?_eq_getElem h8s,hss k h8s,if_neg (by omega)]
   have hadd:=fun w=>zQt (x k) (y k) (zXe x y k) bx.1 b_y.1 (by omega) hcar.1 hcar.2 w
   have hwa:=hw1 k ss
   have hwb:=hw2 k ss
   have HR:Hid (∀ (i:Nat) (h:i<(ss.setIfInBounds k (.int .u64 (zZc x y k))).size),(ss.setIfInBounds k (.int .u64 (zZc x y k)))[i]'h=Value.int .u64 (if i<k+1 then zZc x y i else 0)):=zIc hss
   clear hss hw1 hw2 hfin hmk hx hy
   go_wp2_with (first|(go_at_call_of 127 (Value.slice a n c);refine hwa.mono ?_;rintro e w' ⟨rfl,rfl⟩)|(go_at_call_of 127 (Value.slice a' n' c');refine hwb.mono ?_;rintro e w' ⟨rfl,rfl⟩))
   go_roundw
   case rel=>exact ⟨k+1,ss.setIfInBounds k (.int .u64 (zZc x y k)),by omega,by go_num,rfl,by simp [hsz],HR.out,rfl⟩
   case measure=>simp [intOf];omega
  ·obtain rfl:k=M:=by omega
   have hss':∀ j h,ss[j]'h=Value.int .u64 (zZc x y j):=by
    intro j h;rw [hss j h,if_pos (by omega)]
   have hT:=zAh _ _ _ _ _ (by omega) (hfin ss hsz hss')
   have hle:=zCa (zFp x y (max n n')) k
   clear hss hss' hw1 hw2 hfin hmk hx hy
   go_wp2_with (go_at_call 128;refine hT.mono ?_;rintro e w1 ⟨g,cap,rfl,hN,hB,hfg⟩)
   go_ret
   exact ⟨g,_,cap,rfl,Nat.le_trans hle (Nat.le_of_eq HM.out.symm),hN,(zEa w _).trans (hB.mono (by simp)),by simp at hfg;omega,zGa _ _⟩
theorem frgt_p (b off n c q r:Nat)(s:Int)(x:Nat->Int)(w:World)(hn:n<4000000000)(hq0:q<100000)(hr0:r<64)(hrp:0<r)(hq:s/64=q)(hr:s%64=r)(hs:0<=s)(hqn:q<n)(h:Num w (some ⟨b,off,none⟩) n c x) :
  Calls Tryz.prog 93 #[.slice (some ⟨b,off,none⟩) n c,.int .i64 s] w fun e w'=>∃ g k cap,e=.returned (.tuple #[.slice (some ⟨g,0,none⟩) k cap,.bool (zZ3 x q r)])/\k<=n/\Num w' (some ⟨g,0,none⟩) k cap (zAc x q r)/\Below w.heap.size w w'/\w.heap.size<=g:=by
 have hx:=h.2.2.1
 have zx:=h.2.2.2.1
 have hc:b<w.heap.size/\∀ i,i<n->w.cell? ⟨b,off+i,none⟩=some (.int .u64 (x i)):=by
  rcases h.2.2.2.2 with ⟨h,_⟩|⟨b',off',h,hbs,hc⟩
  ·cases h
  ·cases h;exact ⟨hbs,hc⟩
 obtain ⟨hbs,hc⟩:=hc
 have hcap:=h.1
 have hs6:s<6400064:=by omega
 obtain ⟨i0,hi,hz0,hz1,hz2⟩:=info_parts Tryz.info22
 have HX:Hid (Num w (some ⟨b,off,none⟩) n c x):=h
 clear h
 go_enter Tryz.func93,Tryz.ntmps93
 go_wp2
 go_loop [6,7,13] (fun g u7 i=>∃ (k:Nat),k<=n/\i=.int .i64 k/\g=.bool (goneK x q r k)) (fun _ _ i=>n-(intOf i).toNat)
 case atStart=>exact ⟨0,Nat.zero_le _,rfl,by rw [zPu]⟩
 case round =>
  obtain ⟨k,hk,rfl,rfl⟩:=hrel
  by_cases h8:k<n
  ·have h8i:(k:Int)<n:=by omega
   by_cases hkq:k<q
   ·have bx:=hx k
    have hcx:=hc k h8
    clear hc hx zx hi hz0 hz1 hz2
    have hkq':(k:Int)<q:=by omega
    by_cases hz:x k=0
    ·have hz':(x k != 0)=false:=by simp [hz]
     have hne:((k:Int)==q)=false:=by simp;omega
     have HG:Hid (goneK x q r (k+1)=goneK x q r k):=zMy hkq hz
     generalize goneK x q r k=z at *
     go_wp2
     go_round
     case rel=>exact ⟨k+1,by omega,by go_num,by rw [HG.out]⟩
     case measure=>simp [intOf];omega
    ·have hz':(x k != 0)=true:=by simp [hz]
     have HG:Hid (goneK x q r (k+1)=true):=zLy hkq hz
     generalize goneK x q r k=z at *
     go_wp2
     go_round
     case rel=>exact ⟨k+1,by omega,by go_num,by rw [HG.out]⟩
     case measure=>simp [intOf];omega
   ·have hkq':¬ (k:Int)<q:=by omega
    by_cases hke:k=q
    ·subst hke
     have bx:=hx k
     have hcx:=hc k h8
     have hand:=zUf bx hr0
     have hpp:=zEc r
     have hpl:=zAq hr0
     have HG:Hid (goneK x k r (k+1)=(goneK x k r k||decide (x k%2^r≠0))):=zY3 x k r
     clear hc hx zx hi hz0 hz1 hz2
     by_cases hm:x k%2^r=0
     ·rw [hm] at hand
      generalize goneK x k r k=z at *
      skip
      go_wp2
      go_round
      case rel=>exact ⟨k+1,by omega,by go_num,by rw [HG.out];simp [hm]⟩
      case measure=>simp [intOf];omega
     ·have hm':(x k%2^r != 0)=true:=by simp [hm]
      generalize goneK x k r k=z at *
      skip
      go_wp2
      go_round
      case rel=>exact ⟨k+1,by omega,by go_num,by rw [HG.out];simp [hm]⟩
      case measure=>simp [intOf];omega
    ·have hcx:=hc k h8
     have HG:Hid (goneK x q r (k+1)=goneK x q r k):=zX3 (by omega)
     generalize goneK x q r k=z at *
     clear hc hx zx hi hz0 hz1 hz2
     have hne:((k:Int)==q)=false:=by simp;omega
     go_wp2
     go_round
     case rel=>exact ⟨k+1,by omega,by go_num,by rw [HG.out]⟩
     case measure=>simp [intOf];omega
  ·obtain rfl:k=n:=by omega
   have HGB:Hid (goneK x q r k=zZ3 x q r):=zNy hqn
   generalize goneK x q r k=gz at *
   go_wp2
   go_loopw [8,9,10] (fun v i u10 wr=>∃ (j:Nat) (ao:Option Addr) (cp:Nat),j<=k-q/\i=.int .i64 ((q:Int)+j)/\v=.slice ao j cp/\wr.ownsRow w.heap.size 22 1 (.slice ao j cp) j (wl (zAc x q r) j)/\Below w.heap.size w wr) (fun _ i _ _=>k+1-(intOf i).toNat)
   case atStart=>exact ⟨0,none,0,Nat.zero_le _,by go_num,rfl,World.ownsRow_nil _ _ _ _,Below.refl _ _⟩
   case round =>
    obtain ⟨j,ao,cp,hj,rfl,rfl,hown,hB⟩:=hrel
    by_cases hlt:q+j<k
    ·have hlt':(q:Int)+j<k:=by omega
     have bx:=hx (q+j)
     have b_y:=hx (q+j+1)
     have e1:((q:Int)+j).toNat=q+j:=by omega
     have hcx:wr.cell? ⟨b,off+(q+j),none⟩=some (.int .u64 (x (q+j))):=(hB.cell (p:=⟨b,off+(q+j),none⟩) hbs).trans (hc (q+j) hlt)
     have HW:Hid (CQ 127 #[.slice (some ⟨b,off,none⟩) k c,.int .i64 ((q:Int)+j+1)] wr (.int .u64 (x (q+j+1)))):=by
      have:=zJb (some ⟨b,off,none⟩) k c (q+j+1) x wr (HX.out.next hB)
      rw [show ((q+j+1:Nat):Int)=(q:Int)+j+1 by omega] at this
      exact this.mono fun _ _ h=>⟨h.1,h.2.symm⟩
     have hbw:=hB.size
     have HO:Hid (wr.ownsRow w.heap.size 22 1 (.slice ao j cp) j (wl (zAc x q r) j)):=hown
     have HVAL:Hid (zAc x q r j=bits BinOp.or IntKind.u64 (x (q+j)/2^r) (IntKind.u64.wrap (x (q+j+1)*2^(64-r)))):=by show _=_;unfold zAc;rw [if_neg (by omega)];rfl
     have HOWN:(wr.alloc (.cells #[.int .u64 (bits BinOp.or IntKind.u64 (x (q+j)/2^r) (IntKind.u64.wrap (x (q+j+1)*2^(64-r))))] 22)).ownsRow w.heap.size 22 1 (.slice ao j cp) j (wl (zAc x q r) j):=hown.alloc _
     have HNEWS:∀ (p:Nat) (u:Value),[Value.int .u64 (bits BinOp.or IntKind.u64 (x (q+j)/2^r) (IntKind.u64.wrap (x (q+j+1)*2^(64-r))))][p]?=some u->(wr.alloc (.cells #[.int .u64 (bits BinOp.or IntKind.u64 (x (q+j)/2^r) (IntKind.u64.wrap (x (q+j+1)*2^(64-r))))] 22)).cell? ((⟨wr.heap.size,0,none⟩:Addr).add p)=some u:=by
      intro p u hp
      match p,hp with
      | 0,hp=>simp at hp;subst hp;simp [Addr.add]
     have HONE:∀ u ∈ [Value.int .u64 (bits BinOp.or IntKind.u64 (x (q+j)/2^r) (IntKind.u64.wrap (x (q+j+1)*2^(64-r))))],u.oneCell'=true:=by
      intro u hu;simp at hu;subst hu;rfl
     clear hc hx zx hown
     go_wp2_with (first|(at_builtin;refine wpList_append_lies _ rfl (.tmp 77) (.tmp 79) 61 rfl w.heap.size 22 i0 (.int .u64 0) 1 8 Tryz.underlying61 hi hz0 hz1 hz2 rfl (by decide) (.slice ao j cp) j (wl (zAc x q r) j) rfl HOWN ⟨wr.heap.size,0,none⟩ 1 1 [Value.int .u64 (bits BinOp.or IntKind.u64 (x (q+j)/2^r) (IntKind.u64.wrap (x (q+j+1)*2^(64-r))))] rfl rfl HNEWS HONE (by omega) (by unfold maxLen;omega) (by omega) (by simp;omega) (wr.heap.size+1) (by simp) ?_;intro g cap w1 hown1 hgrow hat hlt1;clear HOWN HNEWS HONE)|(go_at_call 127;refine HW.out.mono ?_;rintro e w' ⟨rfl,rfl⟩))
     have hown2:w1.ownsRow w.heap.size 22 1 (.slice (some ⟨g,0,none⟩) (j+1) cap) (j+1) (wl (zAc x q r) (j+1)):=by
      rw [← HVAL.out,zYl] at hown1;exact hown1
     have HB2:Below w.heap.size w w1:=(hB.alloc hbw _).grown hgrow (by simp;omega) (by
      intro p hp
      rcases ao with _|⟨bb,oo,sp⟩
      ·cases hp
      ·cases hp
       obtain ⟨_,h1⟩:=HO.out
       rcases h1 with ⟨h1,_⟩|⟨g',_,_,h1,h2,_⟩
       ·cases h1
       ·cases h1;exact h2)
     clear hown1 hgrow
     go_wp2
     go_roundw
     case rel=>exact ⟨j+1,some ⟨g,0,none⟩,cap,by omega,by go_num,rfl,hown2,HB2⟩
     case measure=>simp [intOf];omega
    ·have HZ:∀ i,j<=i->zAc x q r i=0:=fun i hi=>zDe zx q r i (by omega)
     have hT:=zAh ao j cp _ wr (by omega) (zVd (zLd hx q r) HZ hown)
     have hle:=zCa (zAc x q r) j
     have hlt':¬ (q:Int)+j<k:=by omega
     clear hc hx zx hown HZ
     go_wp2_with (go_at_call 128;refine hT.mono ?_;rintro e w1 ⟨g,cap,rfl,hN,hB1,hfg⟩)
     go_ret2
     exact ⟨g,_,cap,by rw [HGB.out];rfl,by omega,hN,hB.trans (hB1.mono hB.size),Nat.le_trans hB.size hfg⟩
theorem yOa (b off n c q:Nat)(s:Int)(x:Nat->Int)(w:World)(hn:n<4000000000)(hq0:q<100000)(hq:s/64=q)(hr:s%64=0)(hs:0<=s)(h:Num w (some ⟨b,off,none⟩) n c x) :
  Calls Tryz.prog 87 #[.slice (some ⟨b,off,none⟩) n c,.int .i64 s] w fun e w'=>∃ g k cap,e=.returned (.slice (some ⟨g,0,none⟩) k cap)/\k<=n+q+1/\Num w' (some ⟨g,0,none⟩) k cap (zMc x q 0)/\Below w.heap.size w w'/\w.heap.size<=g/\sizeL (zMc x q 0) k=k:=by
 have hx:=h.2.2.1
 have zx:=h.2.2.2.1
 have hc:b<w.heap.size/\∀ i,i<n->w.cell? ⟨b,off+i,none⟩=some (.int .u64 (x i)):=by
  rcases h.2.2.2.2 with ⟨h,_⟩|⟨b',off',h,hbs,hc⟩
  ·cases h
  ·cases h;exact ⟨hbs,hc⟩
 obtain ⟨hbs,hc⟩:=hc
 have hcap:=h.1
 have hs6:s<6400064:=by omega
 obtain ⟨M,hM⟩:∃ M,n+q+1=M:=⟨_,rfl⟩
 have hMi:(n:Int)+q+1=(M:Int):=by omega
 have hmk:=fun w=>zAb ((n:Int)+q+1) M hMi (by omega) w
 have hfin:∀ (ss:Array Value) (m:Nat),ss.size=M->(∀ j h,ss[j]'h=Value.int .u64 (stL x q 0 n j))->Num ((w.alloc (.cells ss 22)).drewN m) (some ⟨w.heap.size,0,none⟩) M M (zMc x q 0):=fun ss m h1 h2=>(zQa (by omega) (zHe hx q 0) (fun i hi=>zBh hx zx q 0 (by omega) i (by omega)) h1 (fun j hj=>by rw [h2 j hj,zDm hx zx q 0 j (by omega)])).drewN m
 have HM:Hid (n+q+1=M):=hM
 have HZ:Hid ((arrOf (fun _=>0) M).size=M/\∀ j h,(arrOf (fun _=>0) M)[j]'h=Value.int .u64 0):=⟨arrOf_size _ _,fun j h=>zIa _ _ _ _⟩
 have hcw:∀ (ss:Array Value) i,i<n->(w.alloc (.cells ss 22)).cell? ⟨b,off+i,none⟩=some (.int .u64 (x i)):=fun ss i hi=>((zEa w _).cell (p:=⟨b,off+i,none⟩) hbs).trans (hc i hi)
 clear h zx hMi hc
 generalize arrOf (fun _=>0) M=zz at *
 go_enter Tryz.func87,Tryz.ntmps87
 go_wp2
 go_loopw [6,16] (fun u6 i wr=>∃ (k m:Nat) (ss:Array Value),k<=n/\i=.int .i64 k/\ss.size=M/\(∀ j h,ss[j]'h=Value.int .u64 (stL x q 0 k j))/\wr=(w.alloc (.cells ss 22)).drewN m) (fun _ i _=>n-(intOf i).toNat)
 case atStart=>exact ⟨0,0,zz,Nat.zero_le _,rfl,HZ.out.1,fun j h=>by rw [HZ.out.2 j h];unfold stL;(by_cases e:j<q+0);(rw [if_pos e];unfold zMc;rw [if_neg (by omega)]);(rw [if_neg e];split;(unfold zEf;rw [if_neg (by omega)]);rfl),rfl⟩
 case round =>
  obtain ⟨k,m,ss,hk,rfl,hsz,hss,rfl⟩:=hrel
  by_cases h8:k<n
  ·have h8i:(k:Int)<n:=by omega
   have h8s:k+q<ss.size:=by omega
   have h8t:(k:Int)+q<M:=by omega
   have h8u:(k:Int)+q+1<M:=by omega
   have bx:=hx k
   have hcx:=hcw ss k h8
   have hsk:ss[k+q]?=some (.int .u64 (zEf x q 0 (q+k))):=by rw [Array.getElem?_eq_getElem h8s,hss _ h8s];unfold stL;rw [if_neg (by omega),if_pos (by omega),Nat.add_comm]
   have hgo:∀ h,ss[k+q]'h=.int .u64 (zEf x q 0 (q+k)):=fun h=>by rw [hss _ h];unfold stL;rw [if_neg (by omega),if_pos (by omega),Nat.add_comm]
   have hlow:=zFe hx q 0 (q+k)
   have e1:((k:Int)+q).toNat=k+q:=by omega
   have e2:((k:Int)+q+1).toNat=k+q+1:=by omega
   have HF:Hid (zMc x q 0 (q+k)=bits BinOp.or IntKind.u64 (zEf x q 0 (q+k)) (x k)):=by
    show _=_;unfold zMc;rw [if_pos (by omega),show q+k-q=k by omega];simp [orW,zKh _ bx]
   have HR:Hid (∀ (i:Nat) (h:i<(ss.setIfInBounds (k+q) (.int .u64 (zMc x q 0 (q+k)))).size),(ss.setIfInBounds (k+q) (.int .u64 (zMc x q 0 (q+k))))[i]'h=Value.int .u64 (stL x q 0 (k+1) i)):=zPn hss
   clear hss hfin hmk hx
   generalize hlo:zEf x q 0 (q+k)=lo at *
   clear hcw
   go_wp2
   go_region
   go_wp2
   go_roundw
   case rel=>refine ⟨k+1,m+1,ss.setIfInBounds (k+q) (.int .u64 (zMc x q 0 (q+k))),by omega,by go_num,by simp [hsz],HR.out,?_⟩;rw [HF.out]
   case measure=>simp [intOf];omega
  ·obtain rfl:k=n:=by omega
   have hT:=zAh _ _ _ _ _ (by omega) (hfin ss m hsz hss)
   have hle:=zCa (zMc x q 0) M
   clear hss hfin hmk hx hcw
   go_wp2_with (go_at_call 128;refine hT.mono ?_;rintro e w1 ⟨g,cap,rfl,hN,hB,hfg⟩)
   go_ret
   exact ⟨g,_,cap,rfl,Nat.le_trans hle (Nat.le_of_eq HM.out.symm),hN,(below_drewN (zEa w _) m).trans (hB.mono (by simp)),by simp at hfg;omega,zGa _ _⟩
theorem yPa (b off n c q r:Nat)(s:Int)(x:Nat->Int)(w:World)(hn:n<4000000000)(hq0:q<100000)(hr0:r<64)(hrp:0<r)(hq:s/64=q)(hr:s%64=r)(hs:0<=s)(h:Num w (some ⟨b,off,none⟩) n c x) :
  Calls Tryz.prog 87 #[.slice (some ⟨b,off,none⟩) n c,.int .i64 s] w fun e w'=>∃ g k cap,e=.returned (.slice (some ⟨g,0,none⟩) k cap)/\k<=n+q+1/\Num w' (some ⟨g,0,none⟩) k cap (zMc x q r)/\Below w.heap.size w w'/\w.heap.size<=g/\sizeL (zMc x q r) k=k:=by
 have hx:=h.2.2.1
 have zx:=h.2.2.2.1
 have hc:b<w.heap.size/\∀ i,i<n->w.cell? ⟨b,off+i,none⟩=some (.int .u64 (x i)):=by
  rcases h.2.2.2.2 with ⟨h,_⟩|⟨b',off',h,hbs,hc⟩
  ·cases h
  ·cases h;exact ⟨hbs,hc⟩
 obtain ⟨hbs,hc⟩:=hc
 have hcap:=h.1
 have hs6:s<6400064:=by omega
 obtain ⟨M,hM⟩:∃ M,n+q+1=M:=⟨_,rfl⟩
 have hMi:(n:Int)+q+1=(M:Int):=by omega
 have hmk:=fun w=>zAb ((n:Int)+q+1) M hMi (by omega) w
 have hfin:∀ (ss:Array Value) (m:Nat),ss.size=M->(∀ j h,ss[j]'h=Value.int .u64 (stL x q r n j))->Num ((w.alloc (.cells ss 22)).drewN m) (some ⟨w.heap.size,0,none⟩) M M (zMc x q r):=fun ss m h1 h2=>(zQa (by omega) (zHe hx q r) (fun i hi=>zBh hx zx q r (by omega) i (by omega)) h1 (fun j hj=>by rw [h2 j hj,zDm hx zx q r j (by omega)])).drewN m
 have HM:Hid (n+q+1=M):=hM
 have HZ:Hid ((arrOf (fun _=>0) M).size=M/\∀ j h,(arrOf (fun _=>0) M)[j]'h=Value.int .u64 0):=⟨arrOf_size _ _,fun j h=>zIa _ _ _ _⟩
 have hcw:∀ (ss:Array Value) i,i<n->(w.alloc (.cells ss 22)).cell? ⟨b,off+i,none⟩=some (.int .u64 (x i)):=fun ss i hi=>((zEa w _).cell (p:=⟨b,off+i,none⟩) hbs).trans (hc i hi)
 clear h zx hMi hc
 generalize arrOf (fun _=>0) M=zz at *
 go_enter Tryz.func87,Tryz.ntmps87
 go_wp2
 go_loopw [6,16] (fun u6 i wr=>∃ (k m:Nat) (ss:Array Value),k<=n/\i=.int .i64 k/\ss.size=M/\(∀ j h,ss[j]'h=Value.int .u64 (stL x q r k j))/\wr=(w.alloc (.cells ss 22)).drewN m) (fun _ i _=>n-(intOf i).toNat)
 case atStart=>exact ⟨0,0,zz,Nat.zero_le _,rfl,HZ.out.1,fun j h=>by rw [HZ.out.2 j h];unfold stL;(by_cases e:j<q+0);(rw [if_pos e];unfold zMc;rw [if_neg (by omega)]);(rw [if_neg e];split;(unfold zEf;rw [if_neg (by omega)]);rfl),rfl⟩
 case round =>
  obtain ⟨k,m,ss,hk,rfl,hsz,hss,rfl⟩:=hrel
  by_cases h8:k<n
  ·have h8i:(k:Int)<n:=by omega
   have h8s:k+q<ss.size:=by omega
   have h8t:(k:Int)+q<M:=by omega
   have h8u:(k:Int)+q+1<M:=by omega
   have bx:=hx k
   have hcx:=hcw ss k h8
   have hsk:ss[k+q]?=some (.int .u64 (zEf x q r (q+k))):=by rw [Array.getElem?_eq_getElem h8s,hss _ h8s];unfold stL;rw [if_neg (by omega),if_pos (by omega),Nat.add_comm]
   have hgo:∀ h,ss[k+q]'h=.int .u64 (zEf x q r (q+k)):=fun h=>by rw [hss _ h];unfold stL;rw [if_neg (by omega),if_pos (by omega),Nat.add_comm]
   have h8v:k+q+1<ss.size:=by omega
   have hsl:ss[k+q+1]?=some (.int .u64 0):=by rw [Array.getElem?_eq_getElem h8v,hss _ h8v];unfold stL;rw [if_neg (by omega),if_neg (by omega)]
   have hlow:=zFe hx q r (q+k)
   have e1:((k:Int)+q).toNat=k+q:=by omega
   have e2:((k:Int)+q+1).toNat=k+q+1:=by omega
   have HF:Hid (zMc x q r (q+k)=bits BinOp.or IntKind.u64 (zEf x q r (q+k)) (IntKind.u64.wrap (x k*2^r))):=by
    show _=_;unfold zMc;rw [if_pos (by omega),show q+k-q=k by omega];rfl
   have HR:Hid (∀ (i:Nat) (h:i<((ss.setIfInBounds (k+q) (.int .u64 (zMc x q r (q+k)))).setIfInBounds (k+q+1) (.int .u64 (x k/2^(64-r)))).size),((ss.setIfInBounds (k+q) (.int .u64 (zMc x q r (q+k)))).setIfInBounds (k+q+1) (.int .u64 (x k/2^(64-r))))[i]'h=Value.int .u64 (stL x q r (k+1) i)):=zOn hrp hss
   clear hss hfin hmk hx
   generalize hlo:zEf x q r (q+k)=lo at *
   have hcx':=hcw (ss.setIfInBounds (k+q) (.int .u64 (bits BinOp.or IntKind.u64 lo (IntKind.u64.wrap (x k*2^r))))) k h8
   clear hcw
   go_wp2
   go_region
   go_wp2
   go_roundw
   case rel=>refine ⟨k+1,m+1,(ss.setIfInBounds (k+q) (.int .u64 (zMc x q r (q+k)))).setIfInBounds (k+q+1) (.int .u64 (x k/2^(64-r))),by omega,by go_num,by simp [hsz],HR.out,?_⟩;rw [HF.out]
   case measure=>simp [intOf];omega
  ·obtain rfl:k=n:=by omega
   have hT:=zAh _ _ _ _ _ (by omega) (hfin ss m hsz hss)
   have hle:=zCa (zMc x q r) M
   clear hss hfin hmk hx hcw
   go_wp2_with (go_at_call 128;refine hT.mono ?_;rintro e w1 ⟨g,cap,rfl,hN,hB,hfg⟩)
   go_ret
   exact ⟨g,_,cap,rfl,Nat.le_trans hle (Nat.le_of_eq HM.out.symm),hN,(below_drewN (zEa w _) m).trans (hB.mono (by simp)),by simp at hfg;omega,zGa _ _⟩
end
theorem zLn (b off n c b' off' n' c':Nat)(x y:Nat->Int)(w:World)(hn:n<1000000)(hn':n'<1000000)(h:Num w (some ⟨b,off,none⟩) n c x)(h':Num w (some ⟨b',off',none⟩) n' c' y) :
  Calls Tryz.prog 86 #[.slice (some ⟨b,off,none⟩) n c,.slice (some ⟨b',off',none⟩) n' c'] w fun e w'=>∃ g k cap z,e=.returned (.slice (some ⟨g,0,none⟩) k cap)/\k<=n+n'+1/\Num w' (some ⟨g,0,none⟩) k cap z/\val z k=val x n*val y n'/\Below w.heap.size w w' :=
 (zYv b off n c b' off' n' c' x y w hn hn' h h').mono fun e w' ⟨g,k,cap,z,e1,hk,hN,hv,hB⟩=>⟨g,k,cap,z,e1,hk,hN,by rw [← hv,zLa hN.2.2.2.1 _ hk],hB⟩
theorem zKf (c:Int):val (zEd c) 1=c:=by simp [val,zEd]
theorem zW2 (s:Int)(m:Nat):s^m=(if m%2=1 then s else 1)*(s*s)^(m/2):=by
 have e:(s*s)^(m/2)=s^(2*(m/2)):=by rw [Int.pow_mul];congr 1;rw [Int.pow_succ,Int.pow_succ,Int.pow_zero,Int.one_mul]
 rw [e]
 by_cases h:m%2=1
 ·rw [if_pos h,Int.mul_comm,← Int.pow_succ];congr 1;omega
 ·rw [if_neg h,Int.one_mul];congr 1;omega
theorem zM2 (b:Int)(n:Nat)(w:World)(hb:0<=b/\b<=18446744073709551615)(hn:n<=17000) :
  Calls Tryz.prog 64 #[.int .u64 b,.int .i64 n] w fun e w'=>∃ g k cap z,e=.returned (.slice (some ⟨g,0,none⟩) k cap)/\k<=4*n+2/\Num w' (some ⟨g,0,none⟩) k cap z/\val z k=b^n/\Below w.heap.size w w':=by
 have hN1:=zOd w 1 (by decide)
 have hB1:=zEa w (.cells #[.int .u64 1] 22)
 have hN2:=zOd (w.alloc (.cells #[.int .u64 1] 22)) b hb
 have hB2:=zEa (w.alloc (.cells #[.int .u64 1] 22)) (.cells #[.int .u64 b] 22)
 have hN1':=hN1.next hB2
 have hB:=hB1.trans (hB2.mono hB1.size)
 have hs:(w.alloc (.cells #[.int .u64 1] 22)).heap.size=w.heap.size+1:=by simp
 rw [hs] at hN2
 have HB:Hid (Below w.heap.size w ((w.alloc (.cells #[.int .u64 1] 22)).alloc (.cells #[.int .u64 b] 22))):=hB
 clear hN1 hB1 hB2 hB hs
 go_enter Tryz.func64,Tryz.ntmps64
 go_wp2
 generalize (w.alloc (.cells #[.int .u64 1] 22)).alloc (.cells #[.int .u64 b] 22)=wA at *
 go_loopw [1,5,6] (fun nv ov sv wr=>∃ (m P g1 k1 p1 g2 k2 p2:Nat) (z1 z2:Nat->Int),nv=.int .i64 m/\m<=n/\1<=P/\m*P<=n/\P<=2*n+1/\ov=.slice (some ⟨g1,0,none⟩) k1 p1/\sv=.slice (some ⟨g2,0,none⟩) k2 p2/\k1+1<=2*P/\k2+1<=2*P/\Num wr (some ⟨g1,0,none⟩) k1 p1 z1/\Num wr (some ⟨g2,0,none⟩) k2 p2 z2/\Hid (val z1 k1*val z2 k2^m=b^n)/\Below w.heap.size w wr) (fun nv _ _ _=>(intOf nv).toNat)
 case atStart=>exact ⟨n,1,w.heap.size,1,1,w.heap.size+1,1,1,zEd 1,zEd b,rfl,Nat.le_refl _,Nat.le_refl _,by omega,by omega,rfl,rfl,by omega,by omega,hN1',hN2,by show _=_;rw [zKf,zKf,Int.one_mul],HB.out⟩
 case round =>
  clear hN1' hN2 HB
  obtain ⟨m,P,g1,k1,p1,g2,k2,p2,z1,z2,rfl,hmn,hP,hmP,hP2,rfl,rfl,hk1,hk2,hN1,hN2,hv,hB⟩:=hrel
  by_cases h0:m=0
  ·subst h0
   have HV:Hid (val z1 k1=b^n):=by show _=_;have:=hv.out;simpa using this
   have HN1:Hid (Num wr (some ⟨g1,0,none⟩) k1 p1 z1):=hN1
   clear hN1 hN2 hv
   go_wp2
   go_ret
   exact ⟨g1,k1,p1,z1,rfl,by omega,HN1.out,HV.out,hB⟩
  ·have hm0:(0:Int)<m:=by omega
   have hPn:P<=n:=by
    have:1*P<=m*P:=Nat.mul_le_mul_right P (by omega)
    omega
   have hq2:(m:Int)/2=((m/2:Nat):Int):=by omega
   have hr2:(m:Int)%2=((m%2:Nat):Int):=by omega
   have hmP':m/2*(2*P)<=n:=by
    have h1:m/2*2<=m:=Nat.div_mul_le_self m 2
    have h2:m/2*2*P<=m*P:=Nat.mul_le_mul_right P h1
    rw [← Nat.mul_assoc];omega
   have HPH:Hid (val z2 k2^m=(if m%2=1 then val z2 k2 else 1)*(val z2 k2*val z2 k2)^(m/2)):=zW2 _ _
   have tt:=fun wr (hb:Below w.heap.size w wr) h1 h2=>zLn g1 0 k1 p1 g2 0 k2 p2 z1 z2 wr (by omega) (by omega) h1 h2
   have ts:=fun wr (hb:Below w.heap.size w wr) h2=>zLn g2 0 k2 p2 g2 0 k2 p2 z2 z2 wr (by omega) (by omega) h2 h2
   generalize hq:m/2=q at *
   by_cases hodd:m%2=1
   ·rw [hodd] at hr2
    rw [if_pos hodd] at HPH
    have t1:=tt wr hB hN1 hN2
    by_cases hq0:q=0
    ·subst hq0
     have hq00:(m:Int)/2=0:=hq2
     clear hq2
     go_wp2_with (go_at_call 86;refine t1.mono ?_;rintro e w1 ⟨g3,k3,p3,z3,rfl,hk3,hN3,hv3,hb1⟩;clear tt t1)
     have HV3:Hid (val z3 k3*val z2 k2^0=b^n):=by
      show _=_
      rw [hv3,← hv.out,HPH.out];simp
     have HN3:Hid (Num w1 (some ⟨g3,0,none⟩) k3 p3 z3):=hN3
     have HN2:Hid (Num w1 (some ⟨g2,0,none⟩) k2 p2 z2):=hN2.next hb1
     have hB1:=hB.trans (hb1.mono hB.size)
     clear hN1 hN2 hN3 hv hv3 ts
     go_roundw
     case rel=>exact ⟨0,2*P,g3,k3,p3,g2,k2,p2,z3,z2,rfl,by omega,by omega,by omega,by omega,rfl,rfl,by omega,by omega,HN3.out,HN2.out,HV3,hB1⟩
     case measure=>simp [intOf];omega
    ·have hq0':(0:Int)<q:=by omega
     go_wp2_with (go_at_call 86;refine t1.mono ?_;rintro e w1 ⟨g3,k3,p3,z3,rfl,hk3,hN3,hv3,hb1⟩;clear tt t1)
     have hB1:=hB.trans (hb1.mono hB.size)
     have hN21:=hN2.next hb1
     have t2:=ts w1 hB1 hN21
     go_wp2_with (go_at_call 86;refine t2.mono ?_;rintro e w2 ⟨g4,k4,p4,z4,rfl,hk4,hN4,hv4,hb2⟩;clear ts t2)
     have HV3:Hid (val z3 k3*val z4 k4^q=b^n):=by
      show _=_
      rw [hv3,hv4,← hv.out,HPH.out,Int.mul_assoc]
     have HN3:Hid (Num w2 (some ⟨g3,0,none⟩) k3 p3 z3):=hN3.next hb2
     have HN4:Hid (Num w2 (some ⟨g4,0,none⟩) k4 p4 z4):=hN4
     have hB2:=hB1.trans (hb2.mono hB1.size)
     clear hN1 hN2 hN3 hN21 hN4 hv hv3 hv4
     go_roundw
     case rel=>exact ⟨q,2*P,g3,k3,p3,g4,k4,p4,z3,z4,rfl,by omega,by omega,by omega,by omega,rfl,rfl,by omega,by omega,HN3.out,HN4.out,HV3,hB2⟩
     case measure=>simp [intOf];omega
   ·have h20:m%2=0:=by omega
    rw [h20] at hr2
    rw [if_neg hodd,Int.one_mul] at HPH
    have hq0':(0:Int)<q:=by omega
    have t2:=ts wr hB hN2
    go_wp2_with (go_at_call 86;refine t2.mono ?_;rintro e w2 ⟨g4,k4,p4,z4,rfl,hk4,hN4,hv4,hb2⟩;clear ts tt t2)
    have HV3:Hid (val z1 k1*val z4 k4^q=b^n):=by
     show _=_
     rw [hv4,← hv.out,HPH.out]
    have HN3:Hid (Num w2 (some ⟨g1,0,none⟩) k1 p1 z1):=hN1.next hb2
    have HN4:Hid (Num w2 (some ⟨g4,0,none⟩) k4 p4 z4):=hN4
    have hB2:=hB.trans (hb2.mono hB.size)
    clear hN1 hN2 hN4 hv hv4
    go_roundw
    case rel=>exact ⟨q,2*P,g1,k1,p1,g4,k4,p4,z1,z4,rfl,by omega,by omega,by omega,by omega,rfl,rfl,by omega,by omega,HN3.out,HN4.out,HV3,hB2⟩
    case measure=>simp [intOf];omega
theorem zIj (n:Nat):(0:Int)<10^n:=Int.pow_pos (by decide)
theorem zZq:∀ t,val (fun _=>18446744073709551615) t=18446744073709551616^t-1
 | 0=>by simp [val]
 | t+1=>by
  show val (fun _=>18446744073709551615) t+18446744073709551615*18446744073709551616^t=18446744073709551616^(t+1)-1
  rw [zZq t,Int.pow_succ];omega
theorem zQh {z:Nat->Int}(hz:zDa z){k t:Nat}(hs:sizeL z k=k)(hv:val z k<18446744073709551616^t):k<=t:=by
 rcases Nat.lt_or_ge t k with h|h
 ·have:=zJd (x:=fun _=>18446744073709551615) (fun _=>(by decide:(0:Int)<=18446744073709551615/\(18446744073709551615:Int)<=18446744073709551615)) hz h hs
  rw [zZq] at this;omega
 ·exact h
theorem p19:∀ t:Nat,(10:Int)^(19*t)<=18446744073709551616^t
 | 0=>by simp
 | t+1=>by
  have ih:=p19 t
  have e:(10:Int)^(19*(t+1))=10^(19*t)*10000000000000000000:=by rw [Nat.mul_add,Int.pow_add];rfl
  rw [e,Int.pow_succ]
  have h0:=zOb t
  have h1:=zIj (19*t)
  generalize (18446744073709551616:Int)^t=A at *
  generalize (10:Int)^(19*t)=B at *
  omega
theorem zPr {b:Int}(hb:0<=b)(hb2:b<=10):∀ e:Nat,0<=b^e/\b^e<=10^e
 | 0=>by simp
 | e+1=>by
  have ih:=zPr hb hb2 e
  rw [Int.pow_succ,Int.pow_succ]
  exact ⟨Int.mul_nonneg ih.1 hb,Int.mul_le_mul ih.2 hb2 hb (Int.le_of_lt (zIj e))⟩
theorem zUw {b:Int}(hb:0<=b)(hb2:b<=10){e:Nat}(he:e<=12000):b^e<18446744073709551616^632:=by
 have h1:=(zPr hb hb2 e).2
 have h2:=p19 632
 have h3:(10:Int)^e<10^(19*632):=by
  obtain ⟨k,hk⟩:∃ k,19*632=e+1+k:=⟨19*632-(e+1),by omega⟩
  rw [hk,Int.pow_add,Int.pow_succ]
  have:=zIj e
  have h4:=zIj k
  have h5:(10:Int)^e*10*1<=10^e*10*10^k:=Int.mul_le_mul_of_nonneg_left (by omega) (by omega)
  omega
 exact Int.lt_of_lt_of_le (Int.lt_of_le_of_lt h1 h3) h2
theorem zG3 (b:Int)(n:Nat)(w:World)(hb:b=5∨b=10)(hn:n<=12000) :
  Calls Tryz.prog 56 #[.int .i64 b,.int .i64 n] w fun e w'=>∃ g k cap z,e=.returned (.tuple #[.slice (some ⟨g,0,none⟩) k cap,.int .i64 0])/\k<=2001/\Num w' (some ⟨g,0,none⟩) k cap z/\val z k=b^n/\sizeL z k=k/\Below w.heap.size w w':=by
 have hb0:0<=b/\b<=10:=by omega
 have hbc:b=5∨b=10:=hb
 have hb2:(b==2)=false:=by simp;omega
 have hN1:=zOd w 1 (by decide)
 have hBB:=zEa w (.cells #[.int .u64 1] 22)
 have hn':(n:Int)<=12000:=by omega
 have hlen:=Tryz.bits_Len n (w.alloc (.cells #[.int .u64 1] 22)) (by omega) (by omega)
 rw [Int.toNat_natCast] at hlen
 obtain ⟨L,hL⟩:∃ L,Lib.bitLen n=L:=⟨_,rfl⟩
 have hL64:L<=64:=by rw [← hL];exact zSf n
 have HLn:Hid (n/2^L=0):=by
  show _=_
  by_cases h0:n=0
  ·subst h0;simp
  ·have:=zRc n (by omega) (by omega)
   rw [hL] at this
   exact Nat.div_eq_of_lt this.2.2.2
 rw [hL] at hlen
 clear hL
 have HS1:Hid (sizeL (zEd 1) 1=1):=by show _=_;simp [sizeL,zEd]
 have hne:(b != 2)=true:=by simp;omega
 have hpick:(b != 5)=true/\(b != 10)=false∨(b != 5)=false:=by rcases hb with rfl|rfl<;>decide
 have hps:∀ e,e<=12000->b^e<18446744073709551616^632:=fun e he=>zUw hb0.1 hb0.2 he
 have HPS:Hid (∀ e,e<=12000->b^e<18446744073709551616^632):=hps
 clear hps hb
 rcases hpick with ⟨h5,h10⟩|h5
 all_goals
  go_enter Tryz.func56,Tryz.ntmps56
  go_wp2_with (go_at_call 119;refine hlen.mono ?_;rintro e w' ⟨rfl,rfl⟩)
  generalize w.alloc (.cells #[.int .u64 1] 22)=wA at *
  go_loopw [6,7,40,51] (fun pv iv u40 u51 wr=>∃ (k kk g p:Nat) (z:Nat->Int),k<=L/\iv=.int .i64 ((k:Int)-1)/\pv=.slice (some ⟨g,0,none⟩) kk p/\kk<=632/\Num wr (some ⟨g,0,none⟩) kk p z/\sizeL z kk=kk/\Hid (val z kk=b^(n/2^k))/\Below w.heap.size w wr) (fun _ iv _ _ _=>(intOf iv+1).toNat)
  case atStart=>exact ⟨L,1,w.heap.size,1,zEd 1,Nat.le_refl _,by go_num,rfl,by omega,hN1,HS1.out,by show _=_;rw [zKf,HLn.out,Int.pow_zero],hBB⟩
  case round =>
   clear hN1 hBB hlen
   obtain ⟨k,kk,g,p,z,hk,rfl,rfl,hkk,hN,hs,hv,hB⟩:=hrel
   by_cases h0:k=0
   ·subst h0
    have HV:Hid (val z kk=b^n):=by show _=_;have:=hv.out;simpa using this
    have HN:Hid (Num wr (some ⟨g,0,none⟩) kk p z):=hN
    have HS:Hid (sizeL z kk=kk):=hs
    clear hN hv hs
    go_wp2
    go_ret2
    exact ⟨g,kk,p,z,rfl,by omega,HN.out,HV.out,HS.out,hB⟩
   ·obtain ⟨j,rfl⟩:∃ j,k=j+1:=⟨k-1,by omega⟩
    have ej:((j+1:Nat):Int)-1=j:=by omega
    rw [ej]
    obtain ⟨e,he⟩:∃ e,n/2^j=e:=⟨_,rfl⟩
    have hcast:(n:Int)/2^j=(e:Int):=by rw [← he,Int.natCast_ediv,zCb]
    have hen:e<=n:=by rw [← he];exact Nat.div_le_self _ _
    have hand:=Go.Proofs.and_one e (by omega)
    have hhalf:n/2^(j+1)=e/2:=by rw [Nat.pow_succ,← Nat.div_div_eq_div_mul,he]
    have m1:=zLm (some ⟨g,0,none⟩) (some ⟨g,0,none⟩) kk p kk p z z wr (by omega) (by omega) hN hN (by omega)
    have HV1:Hid (val z kk*val z kk=b^(2*(e/2))):=by
     show _=_
     rw [hv.out,hhalf,← Int.pow_add];congr 1;omega
    have HJ:Hid (j<=L):=by show _<=_;omega
    have HE:Hid (n/2^j=e):=he
    clear ej he hhalf hN hs hv
    by_cases hodd:e%2=1
    ·rw [hodd] at hand
     go_wp2_with (go_at_call 81;refine m1.mono ?_;rintro e' w1 ⟨g1,k1,p1,z1,rfl,hk1,hN1,hv1,hs1,hb1⟩;clear m1)
     rw [HV1.out] at hv1
     have hk1b:k1<=632:=zQh hN1.2.2.1 hs1 (by rw [hv1];exact HPS.out _ (by omega))
     have hB1:=hB.trans (hb1.mono hB.size)
     have hNb:=zOd w1 b (by omega)
     have hbb:=zEa w1 (.cells #[.int .u64 b] 22)
     have hsb:=zCa (zEd b) 1
     have m2:=zLm (some ⟨g1,0,none⟩) (some ⟨w1.heap.size,0,none⟩) k1 p1 1 1 z1 (zEd b) (w1.alloc (.cells #[.int .u64 b] 22)) (by omega) (by omega) (hN1.next hbb) hNb (by omega)
     have HBB:Hid (Below w.heap.size w (w1.alloc (.cells #[.int .u64 b] 22))):=hB1.trans (hbb.mono hB1.size)
     clear hN1 hNb hbb
     go_wp2_with (go_at_call 81;refine m2.mono ?_;rintro e' w2 ⟨g2,k2,p2,z2,rfl,hk2,hN2,hv2,hs2,hb2⟩;clear m2)
     have hv3:val z2 k2=b^e:=by
      rw [hv2,hv1,zKf,← Int.pow_succ];congr 1;omega
     have hk2b:k2<=632:=zQh hN2.2.2.1 hs2 (by rw [hv3];exact HPS.out _ (by omega))
     have hB2:=HBB.out.trans (hb2.mono HBB.out.size)
     have HN2:Hid (Num w2 (some ⟨g2,0,none⟩) k2 p2 z2):=hN2
     clear hN2
     go_roundw
     case rel=>exact ⟨j,k2,g2,p2,z2,HJ.out,by go_num,rfl,hk2b,HN2.out,hs2,by show _=_;rw [HE.out,hv3],hB2⟩
     case measure=>simp [intOf]
    ·have he0:e%2=0:=by omega
     rw [he0] at hand
     go_wp2_with (go_at_call 81;refine m1.mono ?_;rintro e' w1 ⟨g1,k1,p1,z1,rfl,hk1,hN1,hv1,hs1,hb1⟩;clear m1)
     have hv3:val z1 k1=b^e:=by
      rw [hv1,HV1.out];congr 1;omega
     have hk1b:k1<=632:=zQh hN1.2.2.1 hs1 (by rw [hv3];exact HPS.out _ (by omega))
     have hB1:=hB.trans (hb1.mono hB.size)
     have HN1:Hid (Num w1 (some ⟨g1,0,none⟩) k1 p1 z1):=hN1
     clear hN1
     go_roundw
     case rel=>exact ⟨j,k1,g1,p1,z1,HJ.out,by go_num,rfl,hk1b,HN1.out,hs1,by show _=_;rw [HE.out,hv3],hB1⟩
     case measure=>simp [intOf]
def sb (s:ByteArray)(i:Nat):Int:=if h:i<s.size then ((s[i]'h).toNat:Int) else 0
def zR6 (s:ByteArray):Nat->Bool
 | 0=>true
 | k+1=>zR6 s k&&decide (48<=sb s k/\sb s k<=57)
def numV (s:ByteArray):Nat->Int
 | 0=>0
 | k+1=>numV s k*10+(sb s k-48)
theorem zRz {s:ByteArray}:∀ (n:Nat),zR6 s n=true->∀ k,k<n->48<=sb s k/\sb s k<=57
 | 0,_,k,h=>by omega
 | n+1,hd,k,h=>by
  unfold zR6 at hd
  simp at hd
  by_cases e:k=n
  ·subst e;exact hd.2
  ·exact zRz n hd.1 k (by omega)
theorem zDq {s:ByteArray}:∀ (n:Nat),zR6 s n=true->0<=numV s n/\numV s n<10^n
 | 0,_=>by simp [numV]
 | n+1,hd=>by
  have h1:=zRz (n+1) hd n (by omega)
  have h2:=zDq n (by unfold zR6 at hd;simp at hd;exact hd.1)
  simp only [numV]
  rw [Int.pow_succ]
  omega
theorem zQz {s:ByteArray}:∀ (n:Nat),(∀ k,k<n->48<=sb s k/\sb s k<=57)->zR6 s n=true
 | 0,_=>rfl
 | n+1,h=>by
  unfold zR6
  rw [zQz n fun k hk=>h k (by omega)]
  simp;exact h n (by omega)
theorem zTr {s u:ByteArray}(p:Nat):∀ L,(∀ i,i<L->sb u i=sb s (p+i))->numV s (p+L)=numV s p*10^L+numV u L
 | 0,_=>by simp [numV]
 | L+1,h=>by
  have e:=zTr p L fun i hi=>h i (by omega)
  rw [← Nat.add_assoc]
  simp only [numV]
  rw [e,h L (by omega),Int.pow_succ]
  grind
theorem zG9 (a a':Option Addr)(n c n' c':Nat)(x y:Nat->Int)(w:World)(hn:n<4294967290)(hn':n'<4294967290)(h:Num w a n c x)(h':Num w a' n' c' y) :
  Calls Tryz.prog 63 #[.slice a n c,.slice a' n' c'] w fun e w'=>∃ g k cap,e=.returned (.slice (some ⟨g,0,none⟩) k cap)/\k<=max n n'+1/\Num w' (some ⟨g,0,none⟩) k cap (zNb x y)/\Below w.heap.size w w'/\sizeL (zNb x y) k=k:=by
 have hx:=h.2.2.1
 have hy:=h'.2.2.1
 have zx:=h.2.2.2.1
 have zy:=h'.2.2.2.1
 obtain ⟨M,hM⟩:∃ M,max n n'+1=M:=⟨_,rfl⟩
 have hMi:max (n:Int) n'+1=(M:Int):=by omega
 have hMb:M<4294967292:=by omega
 have hmk:=fun w=>zAb (max (n:Int) n'+1) M hMi (by omega) w
 have hfin:∀ (ss:Array Value),ss.size=M->(∀ j h,ss[j]'h=Value.int .u64 (zNb x y j))->Num (w.alloc (.cells ss 22)) (some ⟨w.heap.size,0,none⟩) M M (zNb x y):=fun ss h1 h2=>zQa (by omega) (zKd x y) (fun i hi=>zMn (n:=max n n') hx hy (fun i hi=>zx i (by omega)) (fun i hi=>zy i (by omega)) i (by omega)) h1 (fun j hj=>by rw [h2 j hj])
 have hw1:=fun (i:Nat) (ss:Array Value)=>zJb a n c i x (w.alloc (.cells ss 22)) (h.next (zEa w _))
 have hw2:=fun (i:Nat) (ss:Array Value)=>zJb a' n' c' i y (w.alloc (.cells ss 22)) (h'.next (zEa w _))
 have HM:Hid (max n n'+1=M):=hM
 have HZ:Hid ((arrOf (fun _=>0) M).size=M/\∀ j h,(arrOf (fun _=>0) M)[j]'h=Value.int .u64 0):=⟨arrOf_size _ _,fun j h=>zIa _ _ _ _⟩
 clear h h' zx zy hM hMi
 generalize arrOf (fun _=>0) M=zz at *
 go_enter Tryz.func63,Tryz.ntmps63
 go_wp2
 go_loopw [6,7,17,20] (fun c u7 i u20 wr=>∃ (k:Nat) (ss:Array Value),k<=M/\i=.int .i64 k/\c=.int .u64 (carryW x y k)/\ss.size=M/\(∀ j h,ss[j]'h=Value.int .u64 (if j<k then zNb x y j else 0))/\wr=w.alloc (.cells ss 22)) (fun _ _ i _ _=>M-(intOf i).toNat)
 case atStart=>exact ⟨0,zz,Nat.zero_le _,rfl,rfl,HZ.out.1,fun j h=>by rw [HZ.out.2 j h];simp,rfl⟩
 case round =>
  obtain ⟨k,ss,hk,rfl,rfl,hsz,hss,rfl⟩:=hrel
  have hcar:=zXc hx hy k
  by_cases h8:k<M
  ·have h8i:(k:Int)<M:=by omega
   have h8s:k<ss.size:=by omega
   have bx:=hx k
   have b_y:=hy k
   have hsk:ss[k]?=some (.int .u64 0):=by rw [Array.getElem?_eq_getElem h8s,hss k h8s,if_neg (by omega)]
   have hadd:=fun w=>zZu (x k) (y k) (carryW x y k) bx.1 b_y.1 hcar.1 hcar.2 w
   have hwa:=hw1 k ss
   have hwb:=hw2 k ss
   have HR:Hid (∀ (i:Nat) (h:i<(ss.setIfInBounds k (.int .u64 (zNb x y k))).size),(ss.setIfInBounds k (.int .u64 (zNb x y k)))[i]'h=Value.int .u64 (if i<k+1 then zNb x y i else 0)):=zIc hss
   clear hss hw1 hw2 hfin hmk hx hy
   go_wp2_with (first|(go_at_call_of 127 (Value.slice a n c);refine hwa.mono ?_;rintro e w' ⟨rfl,rfl⟩)|(go_at_call_of 127 (Value.slice a' n' c');refine hwb.mono ?_;rintro e w' ⟨rfl,rfl⟩))
   go_roundw
   case rel=>exact ⟨k+1,ss.setIfInBounds k (.int .u64 (zNb x y k)),by omega,by go_num,rfl,by simp [hsz],HR.out,rfl⟩
   case measure=>simp [intOf];omega
  ·obtain rfl:k=M:=by omega
   have hss':∀ j h,ss[j]'h=Value.int .u64 (zNb x y j):=by
    intro j h;rw [hss j h,if_pos (by omega)]
   have hT:=zHc _ _ _ _ _ (by omega) (hfin ss hsz hss')
   have hle:=zCa (zNb x y) k
   clear hss hss' hw1 hw2 hfin hmk hx hy
   go_wp2_with (go_at_call 128;refine hT.mono ?_;rintro e w1 ⟨g,cap,rfl,hN,hB⟩)
   go_ret
   exact ⟨g,_,cap,rfl,Nat.le_trans hle (Nat.le_of_eq HM.out.symm),hN,(zEa w _).trans (hB.mono (by simp)),zGa _ _⟩
theorem zF9 (a a':Option Addr)(n c n' c':Nat)(x y:Nat->Int)(w:World)(hn:n<4000000000)(hn':n'<4000000000)(h:Num w a n c x)(h':Num w a' n' c' y) :
  Calls Tryz.prog 63 #[.slice a n c,.slice a' n' c'] w fun e w'=>∃ g k cap z,e=.returned (.slice (some ⟨g,0,none⟩) k cap)/\k<=max n n'+1/\Num w' (some ⟨g,0,none⟩) k cap z/\val z k=val x n+val y n'/\Below w.heap.size w w'/\sizeL z k=k:=by
 refine (zG9 a a' n c n' c' x y w (by omega) (by omega) h h').mono fun e w' ⟨g,k,cap,e1,hk,hN,hB,ht⟩=>⟨g,k,cap,_,e1,hk,hN,?_,hB,ht⟩
 have e:=zPh (x:=x) (y:=y) (max n n'+1)
 rw [zOj h.2.2.1 h'.2.2.1 h.2.2.2.1 h'.2.2.2.1 (by omega) (by omega),zLa h.2.2.2.1 _ (by omega),zLa h'.2.2.2.1 _ (by omega),zLa hN.2.2.2.1 _ hk] at e
 omega
theorem nsubF (a a':Option Addr)(n c n' c':Nat)(x y:Nat->Int)(w:World)(hn:n<4000000000)(hn':n'<4000000000)(h:Num w a n c x)(h':Num w a' n' c' y)(hv:val y n'<=val x n) :
  Calls Tryz.prog 177 #[.slice a n c,.slice a' n' c'] w fun e w'=>∃ g k cap z,e=.returned (.tuple #[.slice (some ⟨g,0,none⟩) k cap,.int .i64 0])/\k<=sizeL x n/\Num w' (some ⟨g,0,none⟩) k cap z/\val z k=val x n-val y n'/\sizeL z k=k/\Below w.heap.size w w'/\w.heap.size<=g/\∀ i,w'.frozen? ⟨g,i,none⟩=false:=by
 have hc:=zXr a a' n c n' c' x y w (by omega) (by omega) h h'
 have hsg:0<=sgn (val x n) (val y n'):=by unfold sgn;rw [if_neg (by omega)];split<;>omega
 have hsb:=sgn_bd (val x n) (val y n')
 generalize sgn (val x n) (val y n')=sg at *
 have ht:=fun wr hN=>zWg a n c x wr (by omega) hN
 have hb':=fun wr hN=>zRa a' n' c' y wr (by omega) hN
 have hx:=h.2.2.1
 have hy:=h'.2.2.1
 have hle:=zCa x n
 have hle':=zCa y n'
 have hvx:=zMa (x:=x) n
 have hvy:=zMa (x:=y) n'
 have hss:sizeL y n'<=sizeL x n:=by
  rcases Nat.lt_or_ge (sizeL x n) (sizeL y n') with h1|h1
  ·have:=zJd hx hy h1 (zGa y n');omega
  ·exact h1
 have zx:=h.bare.2.2.2.1
 have zy:=h'.bare.2.2.2.1
 have HNb:Hid (Num w a' (sizeL y n') c' y):=h'.bare
 rw [← hvx,← hvy] at hv ⊢
 generalize sizeL x n=s at *
 generalize sizeL y n'=s' at *
 have hend:zXe x y s=0:=zZm hx hy (by rw [zLa zy s hss];exact hv)
 have HV:Hid (val (zZc x y) s=val x s-val y s'):=by
  show _=_
  have e:=zAi hx hy s
  rw [hend,zLa zy s hss] at e
  omega
 have HN:Hid (Num w a n c x):=h
 have HN':Hid (Num w a' n' c' y):=h'
 clear h h' hv hvx hvy zx
 go_enter Tryz.func177,Tryz.ntmps177
 go_wp2_with (go_at_call 57;refine hc.mono ?_;rintro e wC ⟨rfl,m,hwC⟩)
 have hBC:Below w.heap.size w wC:=by rw [← hwC];exact below_drewN (Below.refl _ _) m
 have hg:wC.heap.size=w.heap.size:=by rw [← hwC];rfl
 have h1:=ht wC (HN.out.next hBC)
 rw [hg] at h1
 go_wp2_with (go_at_call 103;refine h1.mono ?_;rintro e w1 ⟨rfl,hw1⟩)
 have hB1:Below w.heap.size wC w1:=by rw [← hw1];have:=zEa wC (.cells (arrOf x s) 22);rw [hg] at this;exact this
 have hO1:Own w.heap.size s x w1:=by rw [← hw1];have:=Own.new wC x s;rw [hg] at this;exact this
 have hBw1:=hBC.trans hB1
 have h2:=hb' w1 (HN'.out.next hBw1)
 clear hw1 h1 ht hb' hc hB1 hBC hwC hg
 go_wp2_with (go_at_call 102;refine h2.mono ?_;rintro e w2 ⟨rfl,rfl⟩)
 have hNb:=HNb.out.next hBw1
 have hA:zSi a' w.heap.size:=by
  intro p hp
  rcases HNb.out.2.2.2.2 with ⟨h,_⟩|⟨b,off,h,hb,_⟩
  ·rw [h] at hp;cases hp
  ·rw [h] at hp;cases hp;exact Nat.ne_of_lt hb
 clear h2 HNb HN HN'
 go_loopw [8,9,10,22,27] (fun bv u9 u10 i u27 wr=>∃ (j:Nat),j<=s'/\i=.int .i64 j/\bv=.int .u64 (zXe x y j)/\Own w.heap.size s (zAv x y j) wr/\Upd w.heap.size w1 wr) (fun _ _ _ i _ _=>s'-(intOf i).toNat)
 case atStart=>exact ⟨0,Nat.zero_le _,rfl,rfl,hO1.congr fun i _=>by unfold zAv;rw [if_neg (by omega)],Upd.refl _ _⟩
 case round =>
  clear hO1
  obtain ⟨j,hj,rfl,rfl,hO,hU⟩:=hrel
  have hbo:=zIf x y j
  by_cases hlt:j<s'
  ·have hji:(j:Int)<s':=by omega
   have hjm:(j:Int)<s:=by omega
   obtain ⟨b,off',rfl,hb,hc⟩:=(hU.num' hA hNb).cells (by omega)
   have hcj:=hc j hlt
   have hco:=hO.cell j (by omega)
   rw [zCw] at hco
   have hfo:=hO.frozen j
   have bx:=hx j
   have b_y:=hy j
   have hadd:=fun w=>zQt (x j) (y j) (zXe x y j) bx.1 b_y.1 (by omega) hbo.1 hbo.2 w
   have HO:Hid (Own w.heap.size s (zAv x y (j+1)) (wr.setCell ⟨w.heap.size,j,none⟩ (.int .u64 (zZc x y j)))):=(hO.set j _).congr fun i _=>zNn x y j i
   have HU:Hid (Upd w.heap.size w1 (wr.setCell ⟨w.heap.size,j,none⟩ (.int .u64 (zZc x y j)))):=hU.set j _
   clear hO hU hc hNb hA hx hy zy hend
   go_wp2
   go_roundw
   case rel=>exact ⟨j+1,by omega,by go_num,rfl,HO.out,HU.out⟩
   case measure=>simp [intOf];omega
  ·obtain rfl:j=s':=by omega
   have HO:Hid (Own w.heap.size s (zAv x y j) wr):=hO
   have HU:Hid (Upd w.heap.size w1 wr):=hU
   clear hO hU hNb hA
   go_wp2
   go_loopw [8,11,47] (fun bv i u47 wr=>∃ (q:Nat),j+q<=s/\i=.int .i64 ((j:Int)+q)/\bv=.int .u64 (zXe x y (j+q))/\Own w.heap.size s (zAv x y (j+q)) wr/\Upd w.heap.size w1 wr) (fun _ i _ _=>s-(intOf i).toNat)
   case atStart=>exact ⟨0,by omega,by go_num,rfl,HO.out,HU.out⟩
   case round =>
    clear HO HU
    obtain ⟨q,hq,rfl,rfl,hO,hU⟩:=hrel
    have hbo:=zIf x y (j+q)
    by_cases hb0:zXe x y (j+q)=0
    ·have hO2:Own w.heap.size s (zZc x y) wr:=hO.congr fun i hi=>by
      unfold zAv
      by_cases e:i<j+q
      ·rw [if_pos e]
      ·rw [if_neg e];exact ((zF0 hx zy (by omega) hb0 i (by omega)).2).symm
     have hN2:=hO2.num (zIe x y) 0 s s (by omega) (Nat.le_refl _) (by unfold maxLen;omega)
     have hbr:=zRa (some ⟨w.heap.size,0,none⟩) s s (segW (zZc x y) 0 s) wr (by omega) hN2
     have HN2:Hid (Num wr (some ⟨w.heap.size,0,none⟩) (sizeL (segW (zZc x y) 0 s) s) s (segW (zZc x y) 0 s)):=hN2.bare
     have HV2:Hid (val (segW (zZc x y) 0 s) (sizeL (segW (zZc x y) 0 s) s)=val x s-val y j):=by
      show _=_
      rw [zMa,zKa (x:=segW (zZc x y) 0 s) (y:=zZc x y) s fun i hi=>by rw [zBb _ 0 s i hi,Nat.zero_add],HV.out]
     have HS2:Hid (sizeL (segW (zZc x y) 0 s) (sizeL (segW (zZc x y) 0 s) s)=sizeL (segW (zZc x y) 0 s) s):=zGa _ _
     have HLE:Hid (sizeL (segW (zZc x y) 0 s) s<=s):=zCa _ _
     generalize segW (zZc x y) 0 s=z at *
     generalize sizeL z s=k at *
     have HF2:Hid (∀ i,wr.frozen? ⟨w.heap.size,i,none⟩=false):=fun i=>hO.frozen i
     have HB2:Hid (Below w.heap.size w wr):=hBw1.trans (hU.below (Nat.le_refl _))
     rw [hb0]
     clear hO hO2 hU hN2 hx hy zy hend HV
     go_wp2_with (go_at_call 102;refine hbr.mono ?_;rintro e w3 ⟨rfl,rfl⟩)
     go_ret2
     exact ⟨_,k,s,z,rfl,HLE.out,HN2.out,HV2.out,HS2.out,HB2.out,Nat.le_refl _,HF2.out⟩
    ·have hlt2:j+q<s:=by
      rcases Nat.lt_or_ge (j+q) s with h'|h'
      ·exact h'
      ·obtain e:j+q=s:=by omega
       rw [e] at hb0;exact absurd hend hb0
     have hpos:0<zXe x y (j+q):=by omega
     have hji:(j:Int)+q<s:=by omega
     have e1:((j:Int)+q).toNat=j+q:=by omega
     have hco:=hO.cell (j+q) hlt2
     rw [zCw] at hco
     have hfo:=hO.frozen (j+q)
     have bx:=hx (j+q)
     have hs:zZc x y (j+q)=(x (j+q)-zXe x y (j+q))%18446744073709551616:=by unfold zZc;rw [zy _ (by omega),Int.sub_zero]
     have HC:Hid (zXe x y (j+(q+1))=bor (x (j+q)) 0 (zXe x y (j+q))):=by
      show bor (x (j+q)) (y (j+q)) (zXe x y (j+q))=_
      rw [zy _ (by omega)]
     have hadd:=fun w=>zQt (x (j+q)) 0 (zXe x y (j+q)) bx.1 (by decide) (by decide) hbo.1 hbo.2 w
     have HO:Hid (Own w.heap.size s (zAv x y (j+(q+1))) (wr.setCell ⟨w.heap.size,j+q,none⟩ (.int .u64 (zZc x y (j+q))))):=(hO.set (j+q) _).congr fun i _=>zNn x y (j+q) i
     have HU:Hid (Upd w.heap.size w1 (wr.setCell ⟨w.heap.size,j+q,none⟩ (.int .u64 (zZc x y (j+q))))):=hU.set (j+q) _
     rw [hs] at HO HU
     clear hO hU hx hy zy hb0 hs hend
     go_wp2
     go_roundw
     case rel=>exact ⟨q+1,by omega,by go_num,by rw [HC.out],HO.out,HU.out⟩
     case measure=>simp [intOf];omega
end Go.Proofs.YtahfkpjhlbiamaaGreatDoor
