/-
  Texts that the proof leans on.
-/
import Derived.Test.YtahfkpjhlbiamaaGreatDoorL13
import Derived.Test.YtahfkpjhlbiamaaGreatDoorL1
import Derived.Lib.RabinKarpLaws
set_option linter.unusedVariables false
set_option linter.unusedSimpArgs false
set_option linter.unusedSectionVars false
set_option maxHeartbeats 8000000
set_option maxRecDepth 20000
namespace Go.Proofs.YtahfkpjhlbiamaaGreatDoor
open Go.RowKit
def subZ (x y:Nat->Int)(k j:Nat):Int:=if j<k then difW x y j else x j
theorem subZ_next (x y:Nat->Int)(k j:Nat):(if j=k then difW x y k else subZ x y k j)=subZ x y (k+1) j:=by
 unfold subZ
 by_cases e:j=k
 ·subst e
  rw [if_pos rfl,if_pos (by omega)]
 ·rw [if_neg e]
  by_cases e2:j<k
  ·rw [if_pos e2,if_pos (by omega)]
  ·rw [if_neg e2,if_neg (by omega)]
theorem subZ_at (x y:Nat->Int)(k:Nat):subZ x y k k=x k:=by unfold subZ;rw [if_neg (by omega)]
theorem bor_val {x y b:Int}(hx:0<=x/\x<=18446744073709551615)(hy:0<=y/\y<=18446744073709551615)(hb:0<=b/\b<=1):(x-y-b)%18446744073709551616-bor x y b*18446744073709551616=x-y-b:=by
 unfold bor;split<;>omega
theorem dif_val {x y:Nat->Int}(hx:Words x)(hy:Words y):∀ n,val (difW x y) n-borW x y n*18446744073709551616^n=val x n-val y n
 | 0=>by simp [val,borW]
 | n+1=>by
  have ih:=dif_val hx hy n
  have h:=bor_val (hx n) (hy n) (borW_01 x y n)
  show val (difW x y) n+difW x y n*18446744073709551616^n-bor (x n) (y n) (borW x y n)*18446744073709551616^(n+1)=val x n+x n*18446744073709551616^n-(val y n+y n*18446744073709551616^n)
  have hd:difW x y n=(x n-y n-borW x y n)%18446744073709551616:=rfl
  rw [← hd] at h
  rw [Int.pow_succ]
  generalize (18446744073709551616:Int)^n=P at *
  grind
theorem borW_stop {x y:Nat->Int}(hx:Words x){k:Nat}(zy:∀ i,k<=i->y i=0){i:Nat}(hi:k<=i)(h0:borW x y i=0):∀ j,i<=j->borW x y j=0/\difW x y j=x j:=by
  have h1:∀ j,i<=j->borW x y j=0:=by
    intro j hj
    induction j with
    | zero => obtain rfl : i = 0 := by omega
              exact h0
    | succ j ih =>
      by_cases e:i=j+1
      · rw [← e];exact h0
      · have hb:=hx j
        show bor (x j) (y j) (borW x y j)=0
        rw [ih (by omega),zy j (by omega)];unfold bor;rw [if_neg (by omega)]
  intro j hj
  refine ⟨h1 j hj,?_⟩
  have hb:=hx j
  unfold difW
  rw [h1 j hj,zy j (by omega)];omega
theorem borW_end {x y:Nat->Int}(hx:Words x)(hy:Words y){n:Nat}(h:val y n<=val x n):borW x y n=0:=by
 have e:=dif_val hx hy n
 have h1:=val_bd (difW_words x y) n
 have h2:=borW_01 x y n
 have h3:=pw_pos n
 by_cases h0:borW x y n=0
 ·exact h0
 ·have:borW x y n=1:=by omega
  rw [this] at e;omega
theorem nlen_any (a:Option Addr)(n c:Nat)(x:Nat->Int)(w:World)(hn:n<100000000)(h:Num w a n c x) :
  CQ 110 #[.slice a n c] w (.int .i64 (lenL x n)):=by
 have hb:=bare_any a n c x w (by omega) h
 have hle:=sizeL_le x n
 by_cases h0:sizeL x n=0
 ·have HL:Hid (lenL x n=0):=by show _=_;simp [lenL,h0]
  rw [h0] at hb
  clear h0 h
  go_enter Tryz.func110,Tryz.ntmps110
  go_wp2_with (go_at_call 102;refine hb.mono ?_;rintro e w' ⟨rfl,rfl⟩)
  go_ret
  exact ⟨ret_int HL.out.symm,rfl⟩
 ·obtain ⟨j,hj⟩:∃ j,sizeL x n=j+1:=⟨sizeL x n-1,by omega⟩
  have HL:Hid (lenL x n=64*(j:Int)+Lib.bitLen (x j).toNat):=by show _=_;simp [lenL,hj];omega
  obtain ⟨b,off,rfl,hbs,hc⟩:=h.cells (by omega)
  rw [hj] at hb
  have hcj:=hc j (by omega)
  have hbx:=h.2.2.1 j
  have hbl:=bitLen64 (x j).toNat
  have hj':j+1<=n:=by omega
  clear h0 hc hj hle h
  have hcl:=Tryz.bits_Len64 (x j) w hbx.1 hbx.2
  generalize Lib.bitLen (x j).toNat=L at *
  go_enter Tryz.func110,Tryz.ntmps110
  go_wp2_with (first|(go_at_call 102;refine hb.mono ?_;rintro e w' ⟨rfl,rfl⟩)|(go_at_call 135;refine hcl.mono ?_;rintro e w' ⟨rfl,rfl⟩))
  go_ret
  exact ⟨ret_int (by rw [HL.out];omega),rfl⟩
theorem rlen_nil (w:World):CQ 69 #[.slice none 0 0] w (.int .i64 0):=by
 have hs:=size_nil w
 go_enter Tryz.func69,Tryz.ntmps69
 go_wp2_with (go_at_call 134;refine hs.mono ?_;rintro e w' ⟨rfl,rfl⟩)
 go_ret
 exact ⟨rfl,rfl⟩
theorem rlen_num (a:Option Addr)(n c:Nat)(x:Nat->Int)(w:World)(hn:n<100000000)(h:Num w a n c x) :
  CQ 69 #[.slice a n c] w (.int .i64 (lenL x n)):=by
 have h':=h
 obtain ⟨h1,h2,h3,h4,h5⟩:=h'
 rcases h5 with ⟨rfl,rfl⟩|⟨b,off,rfl,hb,hc⟩
 ·obtain rfl:n=0:=by omega
  exact rlen_nil w
 ·exact (len_any b off n c x w hn h3 hc).mono fun e w' hw=>⟨hw.1,hw.2.symm⟩
theorem ncmp_b (a a':Option Addr)(n c n' c':Nat)(x y:Nat->Int)(w:World)(hn:n<4294967296)(hn':n'<4294967296)(h:Num w a n c x)(h':Num w a' n' c' y) :
  CB 57 #[.slice a n c,.slice a' n' c'] w (.int .i64 (sgn (val x n) (val y n'))) :=
 (ncmp_any a a' n c n' c' x y w hn hn' h h').mono fun e w' ⟨h1,m,hm⟩=>⟨h1,hm▸below_drewN (Below.refl _ _) m⟩
theorem num_none (w:World):Num w none 0 0 (fun _=>0):=⟨Nat.le_refl _,by unfold maxLen;omega,fun _=>(by decide:(0:Int)<=0/\(0:Int)<=18446744073709551615),fun _ _=>rfl,Or.inl ⟨rfl,rfl⟩⟩
theorem mulAdd_any (a n z C:Int)(w:World)(ha:0<=a/\a<=18446744073709551615)(hn:0<=n/\n<=18446744073709551615)(hz:0<=z/\z<=18446744073709551615)(hC:0<=C/\C<=18446744073709551615) :
  Calls Tryz.prog 189 #[.int .u64 a,.int .u64 n,.int .u64 z,.int .u64 C] w fun e w'=>∃ l h,e=.returned (.tuple #[.int .u64 l,.int .u64 h])/\l+h*18446744073709551616=a*n+z+C/\(0<=l/\l<=18446744073709551615)/\(0<=h/\h<=18446744073709551615)/\w=w':=by
 have hms:=mul_step a n z C ha hn hz hC
 have hmul:=mul64 a n ha hn w
 have hL0:0<=a*n%18446744073709551616:=Int.emod_nonneg _ (by decide)
 have hA1:=fun w=>add64z (a*n%18446744073709551616) z hL0 hz.1 w
 have hs0:0<=(a*n%18446744073709551616+z)%18446744073709551616:=Int.emod_nonneg _ (by decide)
 have hA2:=fun w=>add64z ((a*n%18446744073709551616+z)%18446744073709551616) C hs0 hC.1 w
 have ht0:0<=((a*n%18446744073709551616+z)%18446744073709551616+C)%18446744073709551616/\((a*n%18446744073709551616+z)%18446744073709551616+C)%18446744073709551616<=18446744073709551615:=by omega
 generalize ((a*n%18446744073709551616+z)%18446744073709551616+C)%18446744073709551616=t2 at *
 generalize ((a*n%18446744073709551616+z)%18446744073709551616+C)/18446744073709551616=f2 at *
 generalize (a*n%18446744073709551616+z)%18446744073709551616=t1 at *
 generalize (a*n%18446744073709551616+z)/18446744073709551616=f1 at *
 generalize a*n%18446744073709551616=lo at *
 generalize a*n/18446744073709551616=hi at *
 have HMS:Hid (t2+(hi+f1+f2)*18446744073709551616=a*n+z+C):=hms.1
 have hb1:0<=hi+f1:=hms.2.1
 have hb2:hi+f1<=18446744073709551615:=hms.2.2.1
 have hb3:0<=hi+f1+f2:=hms.2.2.2.1
 have hb4:hi+f1+f2<=18446744073709551615:=hms.2.2.2.2
 clear hms
 go_enter Tryz.func189,Tryz.ntmps189
 go_wp2_with (go_at_call 154;refine hmul.mono ?_;rintro e w' ⟨rfl,rfl⟩)
 go_ret2
 exact ⟨t2,hi+f1+f2,rfl,HMS.out,ht0,⟨hb3,hb4⟩,rfl⟩
theorem addProduct_any (g N off m c k c':Nat)(a':Option Addr)(x y:Nat->Int)(n:Int)(w:World)(hm:off+m<=N)(hN:N<4294967296)(hk:k<=m)(hx:Words x)(hn:0<=n/\n<=18446744073709551615)(h:Own g N x w)(h':Num w a' k c' y)(hA:Apart a' g) :
  Calls Tryz.prog 144 #[.slice (some ⟨g,off,none⟩) m c,.slice a' k c',.int .u64 n] w fun e w'=>∃ C z,e=.returned (.int .u64 C)/\(0<=C/\C<=18446744073709551615)/\Own g N z w'/\Words z/\val z N+C*18446744073709551616^(off+k)=val x N+n*val y k*18446744073709551616^off/\(∀ i,off+k<=i->z i=x i)/\Upd g w w':=by
 have hy:=h'.2.2.1
 go_enter Tryz.func144,Tryz.ntmps144
 go_wp2
 go_loopw [7,8,9,12,17] (fun cv u8 u9 i u17 wr=>∃ (j:Nat) (C:Int) (z:Nat->Int),j<=k/\i=.int .i64 j/\cv=.int .u64 C/\(0<=C/\C<=18446744073709551615)/\Own g N z wr/\Words z/\Hid (val z N+C*18446744073709551616^(off+j)=val x N+n*val y j*18446744073709551616^off)/\(∀ i,off+j<=i->z i=x i)/\Upd g w wr) (fun _ _ _ i _ _=>k-(intOf i).toNat)
 case atStart=>exact ⟨0,0,x,Nat.zero_le _,rfl,rfl,by decide,h,hx,by show _=_;simp [val],fun _ _=>rfl,Upd.refl _ _⟩
 case round =>
  obtain ⟨j,C,z,hj,rfl,rfl,hCb,hO,hzw,hv,hzx,hU⟩:=hrel
  by_cases hlt:j<k
  ·have hji:(j:Int)<k:=by omega
   have hjm:(j:Int)<m:=by omega
   obtain ⟨b,off',rfl,hb,hc⟩:=(hU.num' hA h').cells (by omega)
   have hcj:=hc j hlt
   have hco:=hO.cell (off+j) (by omega)
   have hfo:=hO.frozen (off+j)
   have hma:=fun w=>mulAdd_any (y j) n (z (off+j)) C w (hy j) hn (hzw (off+j)) hCb
   have HO:Hid (Own g N z wr):=hO
   have HU:Hid (Upd g w wr):=hU
   have HZW:Hid (Words z):=hzw
   have HZX:Hid (∀ i,off+j<=i->z i=x i):=hzx
   clear hO hU hc h h' hA hx hy hzw hzx
   go_wp2_with (go_at_call 189;refine (hma _).mono ?_;rintro e w1 ⟨l,hi,rfl,hlh,hlb,hhb,rfl⟩)
   go_roundw
   case rel =>
    refine ⟨j+1,hi,fun i=>if i=off+j then l else z i,by omega,by go_num,rfl,hhb,HO.out.set (off+j) l,upd_words HZW.out hlb,?_,?_,HU.out.set (off+j) _⟩
    ·show _=_
     rw [val_set z (off+j) l N (by omega)]
     exact mul_inner _ _ _ _ _ _ _ _ _ off j hv.out (by rw [hlh,Int.mul_comm (y j) n])
    ·intro i hi2
     exact (if_neg (show ¬ i=off+j by omega)).trans (HZX.out i (by omega))
   case measure=>simp [intOf];omega
  ·obtain rfl:j=k:=by omega
   have HO:Hid (Own g N z wr):=hO
   have HU:Hid (Upd g w wr):=hU
   have HZW:Hid (Words z):=hzw
   have HZX:Hid (∀ i,off+j<=i->z i=x i):=hzx
   clear hO hU h h' hA hx hy hzw hzx
   go_wp2
   go_ret
   exact ⟨C,z,rfl,hCb,HO.out,HZW.out,hv.out,HZX.out,HU.out⟩
theorem apart_of {w:World}{a:Option Addr}{n c:Nat}{x:Nat->Int}(h:Num w a n c x):Apart a w.heap.size:=by
 intro p hp
 rcases h.2.2.2.2 with ⟨h,_⟩|⟨b,off,h,hb,_⟩
 ·rw [h] at hp;cases hp
 ·rw [h] at hp;cases hp;exact Nat.ne_of_lt hb
theorem val_zero:∀ m,val (fun _=>0) m=0:=by intro m;induction m with|zero=>rfl|succ m ih=>simp only [val];rw [ih];simp
theorem nmul_any (a a':Option Addr)(n c n' c':Nat)(x y:Nat->Int)(w:World)(hn:n<4000000000)(hn':n'<4000000000)(h:Num w a n c x)(h':Num w a' n' c' y)(hs:sizeL x n+sizeL y n'<=2000) :
  Calls Tryz.prog 81 #[.slice a n c,.slice a' n' c'] w fun e w'=>∃ g k cap z,e=.returned (.tuple #[.slice (some ⟨g,0,none⟩) k cap,.int .i64 0])/\k<=sizeL x n+sizeL y n'/\Num w' (some ⟨g,0,none⟩) k cap z/\val z k=val x n*val y n'/\sizeL z k=k/\Below w.heap.size w w':=by
 have hb:=bare_any a n c x w (by omega) h
 have hb':=bare_any a' n' c' y w (by omega) h'
 rw [← val_bare n,← val_bare n']
 have hx:=h.2.2.1
 have hy:=h'.2.2.1
 have hle:=sizeL_le x n
 have hle':=sizeL_le y n'
 have hN:=h.bare
 have hN':=h'.bare
 generalize sizeL x n=s at *
 generalize sizeL y n'=s' at *
 clear h h'
 obtain ⟨N,hNs⟩:∃ N,s+s'=N:=⟨_,rfl⟩
 have hNi:(s:Int)+s'=N:=by omega
 have hmk:=fun w=>make_any ((s:Int)+s') N hNi (by omega) w
 have hN2:(s:Int)+s'<=2000:=by omega
 have HNS:Hid (s+s'=N):=hNs
 have hA:=apart_of hN
 have hA':=apart_of hN'
 have hO:=Own.new w (fun _=>0) N
 have hBW:=below1 w (.cells (arrOf (fun _=>0) N) 22)
 have hnx:=hN.next hBW
 have hny:=hN'.next hBW
 have hap:=fun wr z off hO hzw hU (hoff:off+s<=N) n hn=>addProduct_any w.heap.size N off (N-off) (N-off) s c a z x n wr (by omega) (by omega) (by omega) hzw hn hO (Upd.num' (w:=w.alloc (.cells (arrOf (fun _=>0) N) 22)) hU hA hnx) hA
 have HBW:Hid (Below w.heap.size w (w.alloc (.cells (arrOf (fun _=>0) N) 22))):=hBW
 clear hBW hN hN' hNi hNs
 go_enter Tryz.func81,Tryz.ntmps81
 go_wp2_with (first|(go_at_call_of 102 (Value.slice a n c);refine hb.mono ?_;rintro e w' ⟨rfl,rfl⟩)|(go_at_call_of 102 (Value.slice a' n' c');refine hb'.mono ?_;rintro e w' ⟨rfl,rfl⟩))
 generalize w.alloc (.cells (arrOf (fun _=>0) N) 22)=wA at *
 go_loopw [9,10,29] (fun u9 u10 i wr=>∃ (j:Nat) (z:Nat->Int),j<=s'/\i=.int .i64 j/\Own w.heap.size N z wr/\Words z/\(∀ q,s+j<=q->z q=0)/\Hid (val z N=val x s*val y j)/\Upd w.heap.size wA wr) (fun _ _ i _=>s'-(intOf i).toNat)
 case atStart=>exact ⟨0,fun _=>0,Nat.zero_le _,rfl,hO,fun _=>(by decide:(0:Int)<=0/\(0:Int)<=18446744073709551615),fun _ _=>rfl,by show _=_;rw [val_zero];simp [val],Upd.refl _ _⟩
 case round =>
  clear hO
  obtain ⟨j,z,hj,rfl,hO,hzw,hz0,hv,hU⟩:=hrel
  by_cases hlt:j<s'
  ·have hji:(j:Int)<s':=by omega
   obtain ⟨b,off',rfl,hbb,hc⟩:=(hU.num' hA' hny).cells (by omega)
   have hcj:=hc j hlt
   have hap1:=hap wr z j hO hzw hU (by have:=HNS.out;omega) (y j) (hy j)
   have hjN:(j:Int)<=N:=by have:=HNS.out;omega
   have hjs:(j:Int)+s<N:=by have:=HNS.out;omega
   have e1:((j:Int)+s).toNat=j+s:=by omega
   have HU:Hid (Upd w.heap.size wA wr):=hU
   have HZ0:Hid (∀ q,s+j<=q->z q=0):=hz0
   clear hO hU hc hzw hz0 hap hx hy hA hA' hnx hny
   go_wp2_with (go_at_call 144;refine hap1.mono ?_;rintro e w1 ⟨C,z1,rfl,hCb,hO1,hw1,hv1,hzx1,hU1⟩;have hc1:=hO1.cell (j+s) (by have:=HNS.out;omega);have hf1:=hO1.frozen (j+s))
   go_roundw
   case rel =>
    have e2:z1 (j+s)=0:=by rw [hzx1 (j+s) (Nat.le_refl _)];exact HZ0.out _ (by omega)
    refine ⟨j+1,fun i=>if i=j+s then C else z1 i,by omega,by go_num,hO1.set (j+s) C,upd_words hw1 hCb,?_,?_,(HU.out.trans hU1).set (j+s) _⟩
    ·intro q hq
     exact (if_neg (show ¬ q=j+s by omega)).trans ((hzx1 q (by omega)).trans (HZ0.out q (by omega)))
    ·show _=_
     rw [val_set z1 (j+s) C N (by have:=HNS.out;omega),e2,Int.sub_zero,hv1,hv.out]
     show _=val x s*(val y j+y j*18446744073709551616^j)
     generalize (18446744073709551616:Int)^j=P
     grind
   case measure=>simp [intOf];omega
  ·obtain rfl:j=s':=by omega
   have hN2':=hO.num hzw 0 N N (by omega) (Nat.le_refl _) (by unfold maxLen;have:=HNS.out;omega)
   have hbr:=bare_any (some ⟨w.heap.size,0,none⟩) N N (segW z 0 N) wr (by have:=HNS.out;omega) hN2'
   have HN2:Hid (Num wr (some ⟨w.heap.size,0,none⟩) (sizeL (segW z 0 N) N) N (segW z 0 N)):=hN2'.bare
   have HV2:Hid (val (segW z 0 N) (sizeL (segW z 0 N) N)=val x s*val y j):=by
    show _=_
    rw [val_bare,val_congr (x:=segW z 0 N) (y:=z) N fun i hi=>by rw [segW_lt _ 0 N i hi,Nat.zero_add],hv.out]
   have HS2:Hid (sizeL (segW z 0 N) (sizeL (segW z 0 N) N)=sizeL (segW z 0 N) N):=sizeL_sizeL _ _
   have HLE:Hid (sizeL (segW z 0 N) N<=N):=sizeL_le _ _
   generalize segW z 0 N=z2 at *
   generalize sizeL z2 N=k at *
   have HB2:Hid (Below w.heap.size w wr):=HBW.out.trans (hU.below (Nat.le_refl _))
   clear hO hU hN2' hx hy hzw hz0 hap hA hA' hnx hny
   go_wp2_with (go_at_call 102;refine hbr.mono ?_;rintro e w3 ⟨rfl,rfl⟩)
   go_ret2
   exact ⟨_,k,N,z2,rfl,by rw [HNS.out];exact HLE.out,HN2.out,HV2.out,HS2.out,HB2.out⟩
theorem wrap_mod (a:Int):IntKind.u64.wrap a=a%18446744073709551616:=by
 simp only [IntKind.wrap,IntKind.bits,IntKind.signed]
 simp
theorem p2_pos (n:Nat):(0:Int)<2^n:=Int.pow_pos (by decide)
theorem p2_split {r:Nat}(hr:r<=64):(2:Int)^(64-r)*2^r=18446744073709551616:=by
 rw [← Int.pow_add,show 64-r+r=64 by omega];rfl
def hiW (x:Int)(r:Nat):Int:=x*2^r/18446744073709551616
theorem hiW_eq (x:Int){r:Nat}(hr:r<=64):x/2^(64-r)=hiW x r:=by
 unfold hiW
 rw [← p2_split hr,Int.mul_ediv_mul_of_pos_left _ _ (p2_pos r)]
theorem hiW_bd {x:Int}(hx:0<=x/\x<=18446744073709551615)(r:Nat):0<=hiW x r/\hiW x r<2^r:=by
 have hp:=p2_pos r
 unfold hiW
 refine ⟨Int.ediv_nonneg (Int.mul_nonneg hx.1 (by omega)) (by decide),Int.ediv_lt_of_lt_mul (by decide) ?_⟩
 rw [Int.mul_comm (2^r)]
 exact Int.mul_lt_mul_of_pos_right (by omega) hp
theorem p2_le {r:Nat}(hr:r<64):(2:Int)^r<=9223372036854775808:=by
 have h:=p2_split (show r<=64 by omega)
 have h1:(2:Int)^(64-r)=2^(63-r)*2:=by rw [← Int.pow_succ];congr 1;omega
 have h2:=p2_pos (63-r)
 rw [h1] at h
 have:(1:Int)*(2*2^r)<=2^(63-r)*(2*2^r):=Int.mul_le_mul_of_nonneg_right (by omega) (by have:=p2_pos r;omega)
 rw [← Int.mul_assoc] at this
 have e:(2:Int)^(63-r)*(2*2^r)=18446744073709551616:=by rw [← Int.mul_assoc];exact h
 omega
theorem or_shl {y b:Int}{r:Nat}(hr:r<64)(hy:0<=y)(hb:0<=b/\b<2^r):orW b (IntKind.u64.wrap (y*2^r))=y*2^r%18446744073709551616+b:=by
 have hle:=p2_le hr
 have hp:=p2_pos r
 have hme:y*2^r%(2^(64-r)*2^r)=y%2^(64-r)*2^r:=by
  have:=Int.mul_emod_mul_of_pos y (2^(64-r)) hp
  rw [Int.mul_comm y,Int.mul_comm (2^(64-r)),this,Int.mul_comm]
 rw [orW_eq b _ (by omega) (wrap_word _),wrap_mod,← p2_split (show r<=64 by omega),hme]
 have hm0:=Int.emod_nonneg y (show (2:Int)^(64-r)≠0 by have:=p2_pos (64-r);omega)
 obtain ⟨u,hu⟩:=Int.eq_ofNat_of_zero_le hm0
 obtain ⟨b',rfl⟩:=Int.eq_ofNat_of_zero_le hb.1
 rw [hu]
 have e1:((u:Int)*2^r).toNat=2^r*u:=by
  have:((u:Int)*2^r)=((2^r*u:Nat):Int):=by rw [Int.natCast_mul,powCast,Int.mul_comm]
  rw [this];exact Int.toNat_natCast _
 have hb2:b'<2^r:=by
  have h:=hb.2
  rw [← powCast] at h;omega
 rw [e1,Int.toNat_natCast,Nat.or_comm,← Nat.two_pow_add_eq_or_of_lt hb2]
 rw [Int.natCast_add,Int.natCast_mul,powCast,Int.mul_comm]
def prevW (x:Nat->Int)(r i:Nat):Int:=if i=0 then 0 else hiW (x (i-1)) r
def shW (x:Nat->Int)(r i:Nat):Int:=x i*2^r%18446744073709551616+prevW x r i
theorem prevW_bd {x:Nat->Int}(hx:Words x)(r i:Nat):0<=prevW x r i/\prevW x r i<2^r:=by
 unfold prevW;split
 ·have:=p2_pos r;omega
 ·exact hiW_bd (hx _) r
theorem shW_or {x:Nat->Int}(hx:Words x){r:Nat}(hr:r<64)(i:Nat):orW (prevW x r i) (IntKind.u64.wrap (x i*2^r))=shW x r i:=or_shl hr (hx i).1 (prevW_bd hx r i)
theorem prevW_word {x:Nat->Int}(hx:Words x){r:Nat}(hr:r<64)(i:Nat):0<=prevW x r i/\prevW x r i<=18446744073709551615:=by
 have:=prevW_bd hx r i
 have:=p2_le hr
 omega
theorem shW_words {x:Nat->Int}(hx:Words x){r:Nat}(hr:r<64):Words (shW x r):=fun i=>by
 rw [← shW_or hx hr i];exact orW_word _ _ (prevW_word hx hr i) (wrap_word _)
theorem sh_val (x:Nat->Int)(r:Nat):∀ m,val (shW x r) m+prevW x r m*18446744073709551616^m=val x m*2^r
 | 0=>by simp [val,prevW]
 | m+1=>by
  have ih:=sh_val x r m
  show val (shW x r) m+shW x r m*18446744073709551616^m+prevW x r (m+1)*18446744073709551616^(m+1)=(val x m+x m*18446744073709551616^m)*2^r
  have e1:prevW x r (m+1)=x m*2^r/18446744073709551616:=rfl
  have e2:shW x r m=x m*2^r%18446744073709551616+prevW x r m:=rfl
  have e3:=Int.emod_add_mul_ediv (x m*2^r) 18446744073709551616
  rw [e1,e2,Int.pow_succ]
  generalize x m*2^r/18446744073709551616=K at *
  generalize x m*2^r%18446744073709551616=R at *
  generalize (18446744073709551616:Int)^m=P at *
  grind
theorem sh_end {x:Nat->Int}{n:Nat}(zx:∀ i,n<=i->x i=0)(r m:Nat)(h:n<m):val (shW x r) m=val x n*2^r:=by
 have e:=sh_val x r m
 have e1:prevW x r m=0:=by
  unfold prevW hiW;rw [if_neg (by omega),zx (m-1) (by omega)];simp
 rw [e1,val_more zx m (by omega)] at e
 omega
def upW (f:Nat->Int)(q j:Nat):Int:=if q<=j then f (j-q) else 0
theorem val_up (f:Nat->Int)(q:Nat):∀ m,val (upW f q) (q+m)=val f m*18446744073709551616^q
 | 0=>by
  have:∀ k,k<=q->val (upW f q) k=0:=by
   intro k
   induction k with
   | zero=>intro _;rfl
   | succ k ih =>
    intro hk
    show val (upW f q) k+upW f q k*18446744073709551616^k=0
    rw [ih (by omega)]
    unfold upW;rw [if_neg (by omega)];simp
  rw [Nat.add_zero,this q (Nat.le_refl _)];simp [val]
 | m+1=>by
  have ih:=val_up f q m
  show val (upW f q) (q+m)+upW f q (q+m)*18446744073709551616^(q+m)=(val f m+f m*18446744073709551616^m)*18446744073709551616^q
  rw [ih]
  have e:upW f q (q+m)=f m:=by unfold upW;rw [if_pos (by omega)];congr 1;omega
  rw [e,Int.pow_add]
  generalize (18446744073709551616:Int)^m=P
  generalize (18446744073709551616:Int)^q=Q
  grind
theorem finL_up {x:Nat->Int}(hx:Words x)(q:Nat){r:Nat}(hr:r<64):finL x q r=upW (shW x r) q:=by
 funext j
 unfold finL upW
 by_cases h:q<=j
 ·rw [if_pos h,if_pos h,← shW_or hx hr (j-q)]
  congr 1
  unfold lowp prevW
  by_cases h0:j-q=0
  ·rw [if_pos h0,if_neg (by omega)]
  ·rw [if_neg h0]
   by_cases hr0:0<r
   ·rw [if_pos (by omega),hiW_eq _ (by omega)]
   ·obtain rfl:r=0:=by omega
    rw [if_neg (by omega)]
    unfold hiW
    have:=hx (j-q-1)
    omega
 ·rw [if_neg h,if_neg h]
theorem p64 (q r:Nat):(2:Int)^r*18446744073709551616^q=2^(64*q+r):=by
 rw [Int.pow_add,Int.pow_mul,Int.mul_comm];rfl
theorem finL_val {x:Nat->Int}{n:Nat}(hx:Words x)(zx:∀ i,n<=i->x i=0)(q:Nat){r:Nat}(hr:r<64):val (finL x q r) (n+q+1)=val x n*2^(64*q+r):=by
 rw [finL_up hx q hr,show n+q+1=q+(n+1) by omega,val_up,sh_end zx r (n+1) (by omega),Int.mul_assoc,p64]
section
def upZ (z y:Nat->Int)(r off k j:Nat):Int:=if off<=j/\j<off+k then shW y r (j-off) else z j
theorem upZ_next (z y:Nat->Int)(r off k j:Nat):(if j=off+k then shW y r k else upZ z y r off k j)=upZ z y r off (k+1) j:=by
 unfold upZ
 by_cases e:j=off+k
 ·subst e
  rw [if_pos rfl,if_pos (by omega)];congr 1;omega
 ·rw [if_neg e]
  by_cases e2:off<=j/\j<off+k
  ·rw [if_pos e2,if_pos (by omega)]
  ·rw [if_neg e2,if_neg (by omega)]
theorem shiftUp_any (g N off m c k c' r:Nat)(a':Option Addr)(z y:Nat->Int)(w:World)(hm:off+m<=N)(hN:N<4294967296)(hk:k<m)(hr:r<64)(h:Own g N z w)(h':Num w a' k c' y)(hA:Apart a' g) :
  Calls Tryz.prog 108 #[.slice (some ⟨g,off,none⟩) m c,.slice a' k c',.int .i64 r] w fun e w'=>e=.returned (.tuple #[])/\Own g N (upZ z y r off (k+1)) w'/\Upd g w w':=by
 have hy:=h'.2.2.1
 have hri:(r:Int)<64:=by omega
 have e64:((64:Int)-r).toNat=64-r:=by omega
 have hk0:=h'.2.2.2.1 k (Nat.le_refl _)
 go_enter Tryz.func108,Tryz.ntmps108
 go_wp2
 go_loopw [6,7,8,11] (fun cv u7 u8 i wr=>∃ (j:Nat),j<=k/\i=.int .i64 j/\cv=.int .u64 (prevW y r j)/\Own g N (upZ z y r off j) wr/\Upd g w wr) (fun _ _ _ i _=>k-(intOf i).toNat)
 case atStart=>exact ⟨0,Nat.zero_le _,rfl,rfl,h.congr fun i _=>by unfold upZ;rw [if_neg (by omega)],Upd.refl _ _⟩
 case round =>
  obtain ⟨j,hj,rfl,rfl,hO,hU⟩:=hrel
  have hpb:=prevW_word hy hr j
  by_cases hlt:j<k
  ·have hji:(j:Int)<k:=by omega
   have hjm:(j:Int)<m:=by omega
   obtain ⟨b,off',rfl,hb,hc⟩:=(hU.num' hA h').cells (by omega)
   have hcj:=hc j hlt
   have hco:∃ u,wr.cell? ⟨g,off+j,none⟩=some (.int .u64 u):=⟨_,hO.cell (off+j) (by omega)⟩
   obtain ⟨u,hco⟩:=hco
   have hfo:=hO.frozen (off+j)
   have b_y:=hy j
   have HP:Hid (prevW y r (j+1)=y j/2^(64-r)):=by show _=_;rw [hiW_eq _ (by omega)];rfl
   have HS:Hid (bits BinOp.or IntKind.u64 (IntKind.u64.wrap (y j*2^r)) (prevW y r j)=shW y r j):=by
    show _=_
    rw [← shW_or hy hr j]
    exact orW_comm _ _ (wrap_word _) hpb
   have HO:Hid (Own g N (upZ z y r off (j+1)) (wr.setCell ⟨g,off+j,none⟩ (.int .u64 (shW y r j)))):=(hO.set (off+j) _).congr fun i _=>upZ_next z y r off j i
   have HU:Hid (Upd g w (wr.setCell ⟨g,off+j,none⟩ (.int .u64 (shW y r j)))):=hU.set (off+j) _
   rw [← HS.out] at HO HU
   clear hO hU hc h h' hA hy hk0 HS
   generalize prevW y r j=pv at *
   go_wp2
   go_roundw
   case rel=>exact ⟨j+1,by omega,by go_num,by rw [HP.out],HO.out,HU.out⟩
   case measure=>simp [intOf];omega
  ·obtain rfl:j=k:=by omega
   have hjm:(j:Int)<m:=by omega
   have hco:∃ u,wr.cell? ⟨g,off+j,none⟩=some (.int .u64 u):=⟨_,hO.cell (off+j) (by omega)⟩
   obtain ⟨u,hco⟩:=hco
   have hfo:=hO.frozen (off+j)
   have e1:shW y r j=prevW y r j:=by unfold shW;rw [hk0];simp
   have HO:Hid (Own g N (upZ z y r off (j+1)) (wr.setCell ⟨g,off+j,none⟩ (.int .u64 (prevW y r j)))):=(hO.set (off+j) _).congr fun i _=>by rw [← e1];exact upZ_next z y r off j i
   have HU:Hid (Upd g w (wr.setCell ⟨g,off+j,none⟩ (.int .u64 (prevW y r j)))):=hU.set (off+j) _
   clear hO hU h h' hA hy hk0 e1
   generalize prevW y r j=pv at *
   go_wp2
   go_end0
   exact ⟨rfl,HO.out,HU.out⟩
theorem bare_own {g N c:Nat}{z:Nat->Int}{w:World}{V:Int}(hO:Own g N z w)(hW:Words z)(hN:N<4000000000)(hc:N<=c)(hc2:c<=maxLen)(hv:val z N=V) :
  ∃ k z',k<=N/\Num w (some ⟨g,0,none⟩) k c z'/\val z' k=V/\sizeL z' k=k/\CQ 102 #[.slice (some ⟨g,0,none⟩) N c] w (.slice (some ⟨g,0,none⟩) k c):=by
 have h:=hO.num hW 0 N c (by omega) hc hc2
 refine ⟨sizeL (segW z 0 N) N,segW z 0 N,sizeL_le _ _,h.bare,?_,sizeL_sizeL _ _,bare_any _ N c _ w (by omega) h⟩
 rw [val_bare,val_congr (x:=segW z 0 N) (y:=z) N fun i hi=>by rw [segW_lt _ 0 N i hi,Nat.zero_add],hv]
set_option maxRecDepth 20000 in
theorem nshl_any (a:Option Addr)(n c:Nat)(x:Nat->Int)(d:Int)(w:World)(hn:n<4000000000)(h:Num w a n c x)(hd:0<=d)(hs:(sizeL x n:Int)+(d+63)/64<=2000) :
  Calls Tryz.prog 54 #[.slice a n c,.int .i64 d] w fun e w'=>∃ g k cap z,e=.returned (.tuple #[.slice (some ⟨g,0,none⟩) k cap,.int .i64 0])/\k<=2001/\Num w' (some ⟨g,0,none⟩) k cap z/\val z k=val x n*2^d.toNat/\sizeL z k=k/\Below w.heap.size w w':=by
 have hb:=bare_any a n c x w (by omega) h
 rw [← val_bare n]
 have hx:=h.2.2.1
 have hle:=sizeL_le x n
 have hN:=h.bare
 generalize sizeL x n=s at *
 clear h
 obtain ⟨q,hq⟩:∃ q:Nat,d/64=q:=⟨(d/64).toNat,by omega⟩
 obtain ⟨r,hr⟩:∃ r:Nat,d%64=r:=⟨(d%64).toNat,by omega⟩
 have hr64:r<64:=by omega
 have hdn:d.toNat=64*q+r:=by omega
 rw [hdn]
 obtain ⟨N,hNs⟩:∃ N,s+q+1=N:=⟨_,rfl⟩
 have hNi:(s:Int)+q+1=N:=by omega
 have hq2:(q:Int)<=2000:=by omega
 have hmk:=fun w=>make_any ((s:Int)+q+1) N hNi (by omega) w
 have hA:=apart_of hN
 have hO:=Own.new w (fun _=>0) N
 have hBW:=below1 w (.cells (arrOf (fun _=>0) N) 22)
 have hsu:=shiftUp_any w.heap.size N q (N-q) (N-q) s c r a (fun _=>0) x _ (by omega) (by omega) (by omega) hr64 hO (hN.next hBW) hA
 have hqN:(q:Int)<=N:=by omega
 have HVL:Hid (val (upZ (fun _=>0) x r q (s+1)) N=val x s*2^(64*q+r)):=by
  show _=_
  rw [← hNs,show s+q+1=q+(s+1) by omega]
  rw [val_congr (y:=upW (shW x r) q) (q+(s+1)) fun i hi=>by
   unfold upZ upW
   by_cases e:q<=i
   ·rw [if_pos (by omega),if_pos e]
   ·rw [if_neg (by omega),if_neg e]]
  rw [val_up,sh_end hN.2.2.2.1 r (s+1) (by omega),Int.mul_assoc,p64]
 have HW:Hid (Words (upZ (fun _=>0) x r q (s+1))):=fun i=>by
  unfold upZ;split
  ·exact shW_words hx hr64 _
  ·exact (by decide:(0:Int)<=0/\(0:Int)<=18446744073709551615)
 generalize hz:upZ (fun _=>0) x r q (s+1)=zz at *
 have HB:Hid (Below w.heap.size w (w.alloc (.cells (arrOf (fun _=>0) N) 22))):=hBW
 have HNS:Hid (N<=2001):=by show _<=_;omega
 have hup:(s:Int)+q<=2000:=by omega
 have hup2:0<r->(s:Int)+(q+1)<=2000:=by omega
 clear hBW hN hA hO hNi hz hs hdn hx
 by_cases hr0:0<r
 ·have hr0':(0:Int)<r:=by omega
  have hu:=hup2 hr0
  clear hup2
  go_enter Tryz.func54,Tryz.ntmps54
  go_wp2_with (first|(go_at_call_of 102 (Value.slice a n c);refine hb.mono ?_;rintro e w' ⟨rfl,rfl⟩)|(go_at_call 108;refine hsu.mono ?_;rintro e w1 ⟨rfl,hO1,hU1⟩))
  obtain ⟨k,z',hkN,hNk,hvk,hsk,hbr⟩:=bare_own hO1 HW.out (by have:=HNS.out;omega) (Nat.le_refl N) (by unfold maxLen;have:=HNS.out;omega) HVL.out
  have HB2:Hid (Below w.heap.size w w1):=HB.out.trans (hU1.below (Nat.le_refl _))
  have HNk:Hid (Num w1 (some ⟨w.heap.size,0,none⟩) k N z'):=hNk
  clear hO1 hU1 hNk
  go_wp2_with (go_at_call 102;refine hbr.mono ?_;rintro e w3 ⟨rfl,rfl⟩)
  go_ret2
  exact ⟨_,k,N,z',rfl,by have:=HNS.out;omega,HNk.out,hvk,hsk,HB2.out⟩
 ·obtain rfl:r=0:=by omega
  clear hup2
  go_enter Tryz.func54,Tryz.ntmps54
  go_wp2_with (first|(go_at_call_of 102 (Value.slice a n c);refine hb.mono ?_;rintro e w' ⟨rfl,rfl⟩)|(go_at_call 108;refine hsu.mono ?_;rintro e w1 ⟨rfl,hO1,hU1⟩))
  obtain ⟨k,z',hkN,hNk,hvk,hsk,hbr⟩:=bare_own hO1 HW.out (by have:=HNS.out;omega) (Nat.le_refl N) (by unfold maxLen;have:=HNS.out;omega) HVL.out
  have HB2:Hid (Below w.heap.size w w1):=HB.out.trans (hU1.below (Nat.le_refl _))
  have HNk:Hid (Num w1 (some ⟨w.heap.size,0,none⟩) k N z'):=hNk
  clear hO1 hU1 hNk
  go_wp2_with (go_at_call 102;refine hbr.mono ?_;rintro e w3 ⟨rfl,rfl⟩)
  go_ret2
  exact ⟨_,k,N,z',rfl,by have:=HNS.out;omega,HNk.out,hvk,hsk,HB2.out⟩
end
section
attribute [local go_sem] setCell_drewN alloc_drewN
def goneB (x:Nat->Int)(q r:Nat):Bool:=decide (0<sizeL x q)||decide (x q%2^r≠0)
theorem and_mask {y:Int}{r:Nat}(hy:0<=y/\y<=18446744073709551615)(hr:r<64):bits BinOp.and IntKind.u64 y (2^r-1)=y%2^r:=by
 have h1:=p2_pos r
 have h2:=p2_le hr
 rw [u64_and _ _ hy.1 (by omega) (by omega) (by omega)]
 obtain ⟨n,rfl⟩:=Int.eq_ofNat_of_zero_le hy.1
 have e:((2:Int)^r-1).toNat=2^r-1:=by rw [← powCast];omega
 rw [e,Int.toNat_natCast,Nat.and_two_pow_sub_one_eq_mod,Int.natCast_emod,powCast]
end
theorem val_one1 (c:Int):val (oneW c) 1=c:=by simp [val,oneW]
theorem p10_posN (n:Nat):(0:Int)<10^n:=Int.pow_pos (by decide)
theorem val_ones:∀ t,val (fun _=>18446744073709551615) t=18446744073709551616^t-1
 | 0=>by simp [val]
 | t+1=>by
  show val (fun _=>18446744073709551615) t+18446744073709551615*18446744073709551616^t=18446744073709551616^(t+1)-1
  rw [val_ones t,Int.pow_succ];omega
theorem size_bound {z:Nat->Int}(hz:Words z){k t:Nat}(hs:sizeL z k=k)(hv:val z k<18446744073709551616^t):k<=t:=by
 rcases Nat.lt_or_ge t k with h|h
 ·have:=val_longer (x:=fun _=>18446744073709551615) (fun _=>(by decide:(0:Int)<=18446744073709551615/\(18446744073709551615:Int)<=18446744073709551615)) hz h hs
  rw [val_ones] at this;omega
 ·exact h
theorem p19:∀ t:Nat,(10:Int)^(19*t)<=18446744073709551616^t
 | 0=>by simp
 | t+1=>by
  have ih:=p19 t
  have e:(10:Int)^(19*(t+1))=10^(19*t)*10000000000000000000:=by rw [Nat.mul_add,Int.pow_add];rfl
  rw [e,Int.pow_succ]
  have h0:=pw_pos t
  have h1:=p10_posN (19*t)
  generalize (18446744073709551616:Int)^t=A at *
  generalize (10:Int)^(19*t)=B at *
  omega
theorem pow_le10 {b:Int}(hb:0<=b)(hb2:b<=10):∀ e:Nat,0<=b^e/\b^e<=10^e
 | 0=>by simp
 | e+1=>by
  have ih:=pow_le10 hb hb2 e
  rw [Int.pow_succ,Int.pow_succ]
  exact ⟨Int.mul_nonneg ih.1 hb,Int.mul_le_mul ih.2 hb2 hb (Int.le_of_lt (p10_posN e))⟩
theorem pow_small {b:Int}(hb:0<=b)(hb2:b<=10){e:Nat}(he:e<=12000):b^e<18446744073709551616^632:=by
 have h1:=(pow_le10 hb hb2 e).2
 have h2:=p19 632
 have h3:(10:Int)^e<10^(19*632):=by
  obtain ⟨k,hk⟩:∃ k,19*632=e+1+k:=⟨19*632-(e+1),by omega⟩
  rw [hk,Int.pow_add,Int.pow_succ]
  have:=p10_posN e
  have h4:=p10_posN k
  have h5:(10:Int)^e*10*1<=10^e*10*10^k:=Int.mul_le_mul_of_nonneg_left (by omega) (by omega)
  omega
 exact Int.lt_of_lt_of_le (Int.lt_of_le_of_lt h1 h3) h2
theorem npow_two (n:Nat)(w:World)(hn:n<=12000) :
  Calls Tryz.prog 56 #[.int .i64 2,.int .i64 n] w fun e w'=>∃ g k cap z,e=.returned (.tuple #[.slice (some ⟨g,0,none⟩) k cap,.int .i64 0])/\k<=2001/\Num w' (some ⟨g,0,none⟩) k cap z/\val z k=2^n/\sizeL z k=k/\Below w.heap.size w w':=by
 have hN1:=num_one w 1 (by decide)
 have hs:sizeL (oneW 1) 1=1:=by simp [sizeL,oneW]
 have hsh:=nshl_any _ 1 1 (oneW 1) n _ (by omega) hN1 (by omega) (by rw [hs];omega)
 rw [val_one1,Int.one_mul,Int.toNat_natCast] at hsh
 have HB:=below1 w (.cells #[.int .u64 1] 22)
 have hn':(n:Int)<=12000:=by omega
 clear hN1 hs
 go_enter Tryz.func56,Tryz.ntmps56
 go_wp2_with (go_at_call 54;refine hsh.mono ?_;rintro e w' ⟨g,k,cap,z,rfl,hk,hN,hv,hs,hB⟩)
 go_ret2
 exact ⟨g,k,cap,z,rfl,hk,hN,hv,hs,HB.trans (hB.mono HB.size)⟩
theorem npow_any (b:Int)(n:Nat)(w:World)(hb:b=5∨b=10)(hn:n<=12000) :
  Calls Tryz.prog 56 #[.int .i64 b,.int .i64 n] w fun e w'=>∃ g k cap z,e=.returned (.tuple #[.slice (some ⟨g,0,none⟩) k cap,.int .i64 0])/\k<=2001/\Num w' (some ⟨g,0,none⟩) k cap z/\val z k=b^n/\sizeL z k=k/\Below w.heap.size w w':=by
 have hb0:0<=b/\b<=10:=by omega
 have hbc:b=5∨b=10:=hb
 have hb2:(b==2)=false:=by simp;omega
 have hN1:=num_one w 1 (by decide)
 have hBB:=below1 w (.cells #[.int .u64 1] 22)
 have hn':(n:Int)<=12000:=by omega
 have hlen:=Tryz.bits_Len n (w.alloc (.cells #[.int .u64 1] 22)) (by omega) (by omega)
 rw [Int.toNat_natCast] at hlen
 obtain ⟨L,hL⟩:∃ L,Lib.bitLen n=L:=⟨_,rfl⟩
 have hL64:L<=64:=by rw [← hL];exact bitLen64 n
 have HLn:Hid (n/2^L=0):=by
  show _=_
  by_cases h0:n=0
  ·subst h0;simp
  ·have:=bitLen_spec n (by omega) (by omega)
   rw [hL] at this
   exact Nat.div_eq_of_lt this.2.2.2
 rw [hL] at hlen
 clear hL
 have HS1:Hid (sizeL (oneW 1) 1=1):=by show _=_;simp [sizeL,oneW]
 have hne:(b != 2)=true:=by simp;omega
 have hpick:(b != 5)=true/\(b != 10)=false∨(b != 5)=false:=by rcases hb with rfl|rfl<;>decide
 have hps:∀ e,e<=12000->b^e<18446744073709551616^632:=fun e he=>pow_small hb0.1 hb0.2 he
 have HPS:Hid (∀ e,e<=12000->b^e<18446744073709551616^632):=hps
 clear hps hb
 rcases hpick with ⟨h5,h10⟩|h5
 all_goals
  go_enter Tryz.func56,Tryz.ntmps56
  go_wp2_with (go_at_call 119;refine hlen.mono ?_;rintro e w' ⟨rfl,rfl⟩)
  generalize w.alloc (.cells #[.int .u64 1] 22)=wA at *
  go_loopw [6,7,40,51] (fun pv iv u40 u51 wr=>∃ (k kk g p:Nat) (z:Nat->Int),k<=L/\iv=.int .i64 ((k:Int)-1)/\pv=.slice (some ⟨g,0,none⟩) kk p/\kk<=632/\Num wr (some ⟨g,0,none⟩) kk p z/\sizeL z kk=kk/\Hid (val z kk=b^(n/2^k))/\Below w.heap.size w wr) (fun _ iv _ _ _=>(intOf iv+1).toNat)
  case atStart=>exact ⟨L,1,w.heap.size,1,oneW 1,Nat.le_refl _,by go_num,rfl,by omega,hN1,HS1.out,by show _=_;rw [val_one1,HLn.out,Int.pow_zero],hBB⟩
  case round =>
   clear hN1 hBB hlen
   obtain ⟨k,kk,g,p,z,hk,rfl,rfl,hkk,hN,hs,hv,hB⟩:=hrel
   by_cases h0:k=0
   ·subst h0
    have HV:Hid (val z kk=b^n):=by show _=_;have:=hv.out;simpa using this
    have HN:Hid (Num wr (some ⟨g,0,none⟩) kk p z):=hN
    have HS:Hid (sizeL z kk=kk):=hs
    clear hN hv hs
    go_wp2
    go_ret2
    exact ⟨g,kk,p,z,rfl,by omega,HN.out,HV.out,HS.out,hB⟩
   ·obtain ⟨j,rfl⟩:∃ j,k=j+1:=⟨k-1,by omega⟩
    have ej:((j+1:Nat):Int)-1=j:=by omega
    rw [ej]
    obtain ⟨e,he⟩:∃ e,n/2^j=e:=⟨_,rfl⟩
    have hcast:(n:Int)/2^j=(e:Int):=by rw [← he,Int.natCast_ediv,powCast]
    have hen:e<=n:=by rw [← he];exact Nat.div_le_self _ _
    have hand:=Go.Proofs.and_one e (by omega)
    have hhalf:n/2^(j+1)=e/2:=by rw [Nat.pow_succ,← Nat.div_div_eq_div_mul,he]
    have m1:=nmul_any (some ⟨g,0,none⟩) (some ⟨g,0,none⟩) kk p kk p z z wr (by omega) (by omega) hN hN (by omega)
    have HV1:Hid (val z kk*val z kk=b^(2*(e/2))):=by
     show _=_
     rw [hv.out,hhalf,← Int.pow_add];congr 1;omega
    have HJ:Hid (j<=L):=by show _<=_;omega
    have HE:Hid (n/2^j=e):=he
    clear ej he hhalf hN hs hv
    by_cases hodd:e%2=1
    ·rw [hodd] at hand
     go_wp2_with (go_at_call 81;refine m1.mono ?_;rintro e' w1 ⟨g1,k1,p1,z1,rfl,hk1,hN1,hv1,hs1,hb1⟩;clear m1)
     rw [HV1.out] at hv1
     have hk1b:k1<=632:=size_bound hN1.2.2.1 hs1 (by rw [hv1];exact HPS.out _ (by omega))
     have hB1:=hB.trans (hb1.mono hB.size)
     have hNb:=num_one w1 b (by omega)
     have hbb:=below1 w1 (.cells #[.int .u64 b] 22)
     have hsb:=sizeL_le (oneW b) 1
     have m2:=nmul_any (some ⟨g1,0,none⟩) (some ⟨w1.heap.size,0,none⟩) k1 p1 1 1 z1 (oneW b) (w1.alloc (.cells #[.int .u64 b] 22)) (by omega) (by omega) (hN1.next hbb) hNb (by omega)
     have HBB:Hid (Below w.heap.size w (w1.alloc (.cells #[.int .u64 b] 22))):=hB1.trans (hbb.mono hB1.size)
     clear hN1 hNb hbb
     go_wp2_with (go_at_call 81;refine m2.mono ?_;rintro e' w2 ⟨g2,k2,p2,z2,rfl,hk2,hN2,hv2,hs2,hb2⟩;clear m2)
     have hv3:val z2 k2=b^e:=by
      rw [hv2,hv1,val_one1,← Int.pow_succ];congr 1;omega
     have hk2b:k2<=632:=size_bound hN2.2.2.1 hs2 (by rw [hv3];exact HPS.out _ (by omega))
     have hB2:=HBB.out.trans (hb2.mono HBB.out.size)
     have HN2:Hid (Num w2 (some ⟨g2,0,none⟩) k2 p2 z2):=hN2
     clear hN2
     go_roundw
     case rel=>exact ⟨j,k2,g2,p2,z2,HJ.out,by go_num,rfl,hk2b,HN2.out,hs2,by show _=_;rw [HE.out,hv3],hB2⟩
     case measure=>simp [intOf]
    ·have he0:e%2=0:=by omega
     rw [he0] at hand
     go_wp2_with (go_at_call 81;refine m1.mono ?_;rintro e' w1 ⟨g1,k1,p1,z1,rfl,hk1,hN1,hv1,hs1,hb1⟩;clear m1)
     have hv3:val z1 k1=b^e:=by
      rw [hv1,HV1.out];congr 1;omega
     have hk1b:k1<=632:=size_bound hN1.2.2.1 hs1 (by rw [hv3];exact HPS.out _ (by omega))
     have hB1:=hB.trans (hb1.mono hB.size)
     have HN1:Hid (Num w1 (some ⟨g1,0,none⟩) k1 p1 z1):=hN1
     clear hN1
     go_roundw
     case rel=>exact ⟨j,k1,g1,p1,z1,HJ.out,by go_num,rfl,hk1b,HN1.out,hs1,by show _=_;rw [HE.out,hv3],hB1⟩
     case measure=>simp [intOf]
def sb (s:ByteArray)(i:Nat):Int:=if h:i<s.size then ((s[i]'h).toNat:Int) else 0
def digB (s:ByteArray):Nat->Bool
 | 0=>true
 | k+1=>digB s k&&decide (48<=sb s k/\sb s k<=57)
def numV (s:ByteArray):Nat->Int
 | 0=>0
 | k+1=>numV s k*10+(sb s k-48)
theorem digB_at {s:ByteArray}:∀ (n:Nat),digB s n=true->∀ k,k<n->48<=sb s k/\sb s k<=57
 | 0,_,k,h=>by omega
 | n+1,hd,k,h=>by
  unfold digB at hd
  simp at hd
  by_cases e:k=n
  ·subst e;exact hd.2
  ·exact digB_at n hd.1 k (by omega)
theorem numV_bd {s:ByteArray}:∀ (n:Nat),digB s n=true->0<=numV s n/\numV s n<10^n
 | 0,_=>by simp [numV]
 | n+1,hd=>by
  have h1:=digB_at (n+1) hd n (by omega)
  have h2:=numV_bd n (by unfold digB at hd;simp at hd;exact hd.1)
  simp only [numV]
  rw [Int.pow_succ]
  omega
theorem digB_of {s:ByteArray}:∀ (n:Nat),(∀ k,k<n->48<=sb s k/\sb s k<=57)->digB s n=true
 | 0,_=>rfl
 | n+1,h=>by
  unfold digB
  rw [digB_of n fun k hk=>h k (by omega)]
  simp;exact h n (by omega)
theorem numV_app {s u:ByteArray}(p:Nat):∀ L,(∀ i,i<L->sb u i=sb s (p+i))->numV s (p+L)=numV s p*10^L+numV u L
 | 0,_=>by simp [numV]
 | L+1,h=>by
  have e:=numV_app p L fun i hi=>h i (by omega)
  rw [← Nat.add_assoc]
  simp only [numV]
  rw [e,h L (by omega),Int.pow_succ]
  grind
theorem nsubF (a a':Option Addr)(n c n' c':Nat)(x y:Nat->Int)(w:World)(hn:n<4000000000)(hn':n'<4000000000)(h:Num w a n c x)(h':Num w a' n' c' y)(hv:val y n'<=val x n) :
  Calls Tryz.prog 177 #[.slice a n c,.slice a' n' c'] w fun e w'=>∃ g k cap z,e=.returned (.tuple #[.slice (some ⟨g,0,none⟩) k cap,.int .i64 0])/\k<=sizeL x n/\Num w' (some ⟨g,0,none⟩) k cap z/\val z k=val x n-val y n'/\sizeL z k=k/\Below w.heap.size w w'/\w.heap.size<=g/\∀ i,w'.frozen? ⟨g,i,none⟩=false:=by
 have hc:=ncmp_any a a' n c n' c' x y w (by omega) (by omega) h h'
 have hsg:0<=sgn (val x n) (val y n'):=by unfold sgn;rw [if_neg (by omega)];split<;>omega
 have hsb:=sgn_bd (val x n) (val y n')
 generalize sgn (val x n) (val y n')=sg at *
 have ht:=fun wr hN=>ntrim_any a n c x wr (by omega) hN
 have hb':=fun wr hN=>bare_any a' n' c' y wr (by omega) hN
 have hx:=h.2.2.1
 have hy:=h'.2.2.1
 have hle:=sizeL_le x n
 have hle':=sizeL_le y n'
 have hvx:=val_bare (x:=x) n
 have hvy:=val_bare (x:=y) n'
 have hss:sizeL y n'<=sizeL x n:=by
  rcases Nat.lt_or_ge (sizeL x n) (sizeL y n') with h1|h1
  ·have:=val_longer hx hy h1 (sizeL_sizeL y n');omega
  ·exact h1
 have zx:=h.bare.2.2.2.1
 have zy:=h'.bare.2.2.2.1
 have HNb:Hid (Num w a' (sizeL y n') c' y):=h'.bare
 rw [← hvx,← hvy] at hv ⊢
 generalize sizeL x n=s at *
 generalize sizeL y n'=s' at *
 have hend:borW x y s=0:=borW_end hx hy (by rw [val_more zy s hss];exact hv)
 have HV:Hid (val (difW x y) s=val x s-val y s'):=by
  show _=_
  have e:=dif_val hx hy s
  rw [hend,val_more zy s hss] at e
  omega
 have HN:Hid (Num w a n c x):=h
 have HN':Hid (Num w a' n' c' y):=h'
 clear h h' hv hvx hvy zx
 go_enter Tryz.func177,Tryz.ntmps177
 go_wp2_with (go_at_call 57;refine hc.mono ?_;rintro e wC ⟨rfl,m,hwC⟩)
 have hBC:Below w.heap.size w wC:=by rw [← hwC];exact below_drewN (Below.refl _ _) m
 have hg:wC.heap.size=w.heap.size:=by rw [← hwC];rfl
 have h1:=ht wC (HN.out.next hBC)
 rw [hg] at h1
 go_wp2_with (go_at_call 103;refine h1.mono ?_;rintro e w1 ⟨rfl,hw1⟩)
 have hB1:Below w.heap.size wC w1:=by rw [← hw1];have:=below1 wC (.cells (arrOf x s) 22);rw [hg] at this;exact this
 have hO1:Own w.heap.size s x w1:=by rw [← hw1];have:=Own.new wC x s;rw [hg] at this;exact this
 have hBw1:=hBC.trans hB1
 have h2:=hb' w1 (HN'.out.next hBw1)
 clear hw1 h1 ht hb' hc hB1 hBC hwC hg
 go_wp2_with (go_at_call 102;refine h2.mono ?_;rintro e w2 ⟨rfl,rfl⟩)
 have hNb:=HNb.out.next hBw1
 have hA:Apart a' w.heap.size:=by
  intro p hp
  rcases HNb.out.2.2.2.2 with ⟨h,_⟩|⟨b,off,h,hb,_⟩
  ·rw [h] at hp;cases hp
  ·rw [h] at hp;cases hp;exact Nat.ne_of_lt hb
 clear h2 HNb HN HN'
 go_loopw [8,9,10,22,27] (fun bv u9 u10 i u27 wr=>∃ (j:Nat),j<=s'/\i=.int .i64 j/\bv=.int .u64 (borW x y j)/\Own w.heap.size s (subZ x y j) wr/\Upd w.heap.size w1 wr) (fun _ _ _ i _ _=>s'-(intOf i).toNat)
 case atStart=>exact ⟨0,Nat.zero_le _,rfl,rfl,hO1.congr fun i _=>by unfold subZ;rw [if_neg (by omega)],Upd.refl _ _⟩
 case round =>
  clear hO1
  obtain ⟨j,hj,rfl,rfl,hO,hU⟩:=hrel
  have hbo:=borW_01 x y j
  by_cases hlt:j<s'
  ·have hji:(j:Int)<s':=by omega
   have hjm:(j:Int)<s:=by omega
   obtain ⟨b,off',rfl,hb,hc⟩:=(hU.num' hA hNb).cells (by omega)
   have hcj:=hc j hlt
   have hco:=hO.cell j (by omega)
   rw [subZ_at] at hco
   have hfo:=hO.frozen j
   have bx:=hx j
   have b_y:=hy j
   have hadd:=fun w=>sub64 (x j) (y j) (borW x y j) bx.1 b_y.1 (by omega) hbo.1 hbo.2 w
   have HO:Hid (Own w.heap.size s (subZ x y (j+1)) (wr.setCell ⟨w.heap.size,j,none⟩ (.int .u64 (difW x y j)))):=(hO.set j _).congr fun i _=>subZ_next x y j i
   have HU:Hid (Upd w.heap.size w1 (wr.setCell ⟨w.heap.size,j,none⟩ (.int .u64 (difW x y j)))):=hU.set j _
   clear hO hU hc hNb hA hx hy zy hend
   go_wp2
   go_roundw
   case rel=>exact ⟨j+1,by omega,by go_num,rfl,HO.out,HU.out⟩
   case measure=>simp [intOf];omega
  ·obtain rfl:j=s':=by omega
   have HO:Hid (Own w.heap.size s (subZ x y j) wr):=hO
   have HU:Hid (Upd w.heap.size w1 wr):=hU
   clear hO hU hNb hA
   go_wp2
   go_loopw [8,11,47] (fun bv i u47 wr=>∃ (q:Nat),j+q<=s/\i=.int .i64 ((j:Int)+q)/\bv=.int .u64 (borW x y (j+q))/\Own w.heap.size s (subZ x y (j+q)) wr/\Upd w.heap.size w1 wr) (fun _ i _ _=>s-(intOf i).toNat)
   case atStart=>exact ⟨0,by omega,by go_num,rfl,HO.out,HU.out⟩
   case round =>
    clear HO HU
    obtain ⟨q,hq,rfl,rfl,hO,hU⟩:=hrel
    have hbo:=borW_01 x y (j+q)
    by_cases hb0:borW x y (j+q)=0
    ·have hO2:Own w.heap.size s (difW x y) wr:=hO.congr fun i hi=>by
      unfold subZ
      by_cases e:i<j+q
      ·rw [if_pos e]
      ·rw [if_neg e];exact ((borW_stop hx zy (by omega) hb0 i (by omega)).2).symm
     have hN2:=hO2.num (difW_words x y) 0 s s (by omega) (Nat.le_refl _) (by unfold maxLen;omega)
     have hbr:=bare_any (some ⟨w.heap.size,0,none⟩) s s (segW (difW x y) 0 s) wr (by omega) hN2
     have HN2:Hid (Num wr (some ⟨w.heap.size,0,none⟩) (sizeL (segW (difW x y) 0 s) s) s (segW (difW x y) 0 s)):=hN2.bare
     have HV2:Hid (val (segW (difW x y) 0 s) (sizeL (segW (difW x y) 0 s) s)=val x s-val y j):=by
      show _=_
      rw [val_bare,val_congr (x:=segW (difW x y) 0 s) (y:=difW x y) s fun i hi=>by rw [segW_lt _ 0 s i hi,Nat.zero_add],HV.out]
     have HS2:Hid (sizeL (segW (difW x y) 0 s) (sizeL (segW (difW x y) 0 s) s)=sizeL (segW (difW x y) 0 s) s):=sizeL_sizeL _ _
     have HLE:Hid (sizeL (segW (difW x y) 0 s) s<=s):=sizeL_le _ _
     generalize segW (difW x y) 0 s=z at *
     generalize sizeL z s=k at *
     have HF2:Hid (∀ i,wr.frozen? ⟨w.heap.size,i,none⟩=false):=fun i=>hO.frozen i
     have HB2:Hid (Below w.heap.size w wr):=hBw1.trans (hU.below (Nat.le_refl _))
     rw [hb0]
     clear hO hO2 hU hN2 hx hy zy hend HV
     go_wp2_with (go_at_call 102;refine hbr.mono ?_;rintro e w3 ⟨rfl,rfl⟩)
     go_ret2
     exact ⟨_,k,s,z,rfl,HLE.out,HN2.out,HV2.out,HS2.out,HB2.out,Nat.le_refl _,HF2.out⟩
    ·have hlt2:j+q<s:=by
      rcases Nat.lt_or_ge (j+q) s with h'|h'
      ·exact h'
      ·obtain e:j+q=s:=by omega
       rw [e] at hb0;exact absurd hend hb0
     have hpos:0<borW x y (j+q):=by omega
     have hji:(j:Int)+q<s:=by omega
     have e1:((j:Int)+q).toNat=j+q:=by omega
     have hco:=hO.cell (j+q) hlt2
     rw [subZ_at] at hco
     have hfo:=hO.frozen (j+q)
     have bx:=hx (j+q)
     have hs:difW x y (j+q)=(x (j+q)-borW x y (j+q))%18446744073709551616:=by unfold difW;rw [zy _ (by omega),Int.sub_zero]
     have HC:Hid (borW x y (j+(q+1))=bor (x (j+q)) 0 (borW x y (j+q))):=by
      show bor (x (j+q)) (y (j+q)) (borW x y (j+q))=_
      rw [zy _ (by omega)]
     have hadd:=fun w=>sub64 (x (j+q)) 0 (borW x y (j+q)) bx.1 (by decide) (by decide) hbo.1 hbo.2 w
     have HO:Hid (Own w.heap.size s (subZ x y (j+(q+1))) (wr.setCell ⟨w.heap.size,j+q,none⟩ (.int .u64 (difW x y (j+q))))):=(hO.set (j+q) _).congr fun i _=>subZ_next x y (j+q) i
     have HU:Hid (Upd w.heap.size w1 (wr.setCell ⟨w.heap.size,j+q,none⟩ (.int .u64 (difW x y (j+q))))):=hU.set (j+q) _
     rw [hs] at HO HU
     clear hO hU hx hy zy hb0 hs hend
     go_wp2
     go_roundw
     case rel=>exact ⟨q+1,by omega,by go_num,by rw [HC.out],HO.out,HU.out⟩
     case measure=>simp [intOf];omega
end Go.Proofs.YtahfkpjhlbiamaaGreatDoor
