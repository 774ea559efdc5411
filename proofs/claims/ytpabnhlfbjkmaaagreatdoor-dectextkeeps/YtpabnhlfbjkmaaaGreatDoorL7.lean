/-
  Texts that the proof leans on, joined: Adds, Nmu, Shv, Nsl, Rgt, Nsr, Muls, Npw, Npo, Str, Apn, Nrd, Rat, Rrd.
-/
import Derived.Test.YtpabnhlfbjkmaaaGreatDoorL1
import Derived.Test.YtpabnhlfbjkmaaaGreatDoorL5
import Derived.Lib.RabinKarpLaws
import Derived.Test.YtpabnhlfbjkmaaaGreatDoorL4
set_option linter.unusedVariables false
set_option linter.unusedSimpArgs false
set_option linter.unusedSectionVars false
set_option maxHeartbeats 8000000
set_option maxRecDepth 20000
namespace Go.Proofs.YtpabnhlfbjkmaaaGreatDoor
open Go.RowKit
theorem ncmp_b (a a':Option Addr) (n c n' c':Nat) (x y:Nat->Int) (w:World) (hn:n<4294967296) (hn':n'<4294967296) (h:Num w a n c x) (h':Num w a' n' c' y) :
  CB 164 #[.slice a n c,.slice a' n' c'] w (.int .i64 (sgn (val x n) (val y n'))) :=
 (ncmp_any a a' n c n' c' x y w hn hn' h h').mono fun e w' ⟨h1,m,hm⟩=>⟨h1,hm ▸ below_drewN (Below.refl _ _) m⟩
theorem num_none (w:World):Num w none 0 0 (fun _=>0):=⟨Nat.le_refl _,by unfold maxLen;omega,fun _=>(by decide:(0:Int)<=0/\(0:Int)<=18446744073709551615),fun _ _=>rfl,Or.inl ⟨rfl,rfl⟩⟩
theorem mulAdd_any (a n z C:Int) (w:World) (ha:0<=a/\a<=18446744073709551615) (hn:0<=n/\n<=18446744073709551615) (hz:0<=z/\z<=18446744073709551615) (hC:0<=C/\C<=18446744073709551615) :
  Calls Tryz.prog 198 #[.int .u64 a,.int .u64 n,.int .u64 z,.int .u64 C] w fun e w'=>∃ l h,e=.returned (.tuple #[.int .u64 l,.int .u64 h])/\l+h*18446744073709551616=a*n+z+C/\(0<=l/\l<=18446744073709551615)/\(0<=h/\h<=18446744073709551615)/\w=w':=by
 have hms:=mul_step a n z C ha hn hz hC
 have hmul:=mul64 a n ha hn w
 have hL0:0<=a*n%18446744073709551616:=Int.emod_nonneg _ (by decide)
 have hA1:=fun w=>add64z (a*n%18446744073709551616) z hL0 hz.1 w
 have hs0:0<=(a*n%18446744073709551616+z)%18446744073709551616:=Int.emod_nonneg _ (by decide)
 have hA2:=fun w=>add64z ((a*n%18446744073709551616+z)%18446744073709551616) C hs0 hC.1 w
 have ht0:0<=((a*n%18446744073709551616+z)%18446744073709551616+C)%18446744073709551616/\((a*n%18446744073709551616+z)%18446744073709551616+C)%18446744073709551616<=18446744073709551615:=by omega
 generalize ((a*n%18446744073709551616+z)%18446744073709551616+C)%18446744073709551616=t2 at *
 generalize ((a*n%18446744073709551616+z)%18446744073709551616+C)/18446744073709551616=f2 at *
 generalize (a*n%18446744073709551616+z)%18446744073709551616=t1 at *
 generalize (a*n%18446744073709551616+z)/18446744073709551616=f1 at *
 generalize a*n%18446744073709551616=lo at *
 generalize a*n/18446744073709551616=hi at *
 have HMS:Hid (t2+(hi+f1+f2)*18446744073709551616=a*n+z+C):=hms.1
 have hb1:0<=hi+f1:=hms.2.1
 have hb2:hi+f1<=18446744073709551615:=hms.2.2.1
 have hb3:0<=hi+f1+f2:=hms.2.2.2.1
 have hb4:hi+f1+f2<=18446744073709551615:=hms.2.2.2.2
 clear hms
 go_enter Tryz.func198,Tryz.ntmps198
 go_wp2_with (go_at_call 49;refine hmul.mono ?_;rintro e w' ⟨rfl,rfl⟩)
 go_ret2
 exact ⟨t2,hi+f1+f2,rfl,HMS.out,ht0,⟨hb3,hb4⟩,rfl⟩
theorem addProduct_any (g N off m c k c':Nat) (a':Option Addr) (x y:Nat->Int) (n:Int) (w:World) (hm:off+m<=N) (hN:N<4294967296) (hk:k<=m) (hx:Words x) (hn:0<=n/\n<=18446744073709551615) (h:Own g N x w) (h':Num w a' k c' y) (hA:Apart a' g) :
  Calls Tryz.prog 211 #[.slice (some ⟨g,off,none⟩) m c,.slice a' k c',.int .u64 n] w fun e w'=>∃ C z,e=.returned (.int .u64 C)/\(0<=C/\C<=18446744073709551615)/\Own g N z w'/\Words z/\val z N+C*18446744073709551616^(off+k)=val x N+n*val y k*18446744073709551616^off/\(∀ i,off+k<=i->z i=x i)/\Upd g w w':=by
 have hy:=h'.2.2.1
 go_enter Tryz.func211,Tryz.ntmps211
 go_wp2
 go_loopw [7,8,9,12,17] (fun cv u8 u9 i u17 wr=>∃ (j:Nat) (C:Int) (z:Nat->Int),j<=k/\i=.int .i64 j/\cv=.int .u64 C/\(0<=C/\C<=18446744073709551615)/\Own g N z wr/\Words z/\Hid (val z N+C*18446744073709551616^(off+j)=val x N+n*val y j*18446744073709551616^off)/\(∀ i,off+j<=i->z i=x i)/\Upd g w wr) (fun _ _ _ i _ _=>k-(intOf i).toNat)
 case atStart=>exact ⟨0,0,x,Nat.zero_le _,rfl,rfl,by decide,h,hx,by show _=_;simp [val],fun _ _=>rfl,Upd.refl _ _⟩
 case round =>
  obtain ⟨j,C,z,hj,rfl,rfl,hCb,hO,hzw,hv,hzx,hU⟩:=hrel
  by_cases hlt:j<k
  ·have hji:(j:Int)<k:=by omega
   have hjm:(j:Int)<m:=by omega
   obtain ⟨b,off',rfl,hb,hc⟩:=(hU.num' hA h').cells (by omega)
   have hcj:=hc j hlt
   have hco:=hO.cell (off+j) (by omega)
   have hfo:=hO.frozen (off+j)
   have hma:=fun w=>mulAdd_any (y j) n (z (off+j)) C w (hy j) hn (hzw (off+j)) hCb
   have HO:Hid (Own g N z wr):=hO
   have HU:Hid (Upd g w wr):=hU
   have HZW:Hid (Words z):=hzw
   have HZX:Hid (∀ i,off+j<=i->z i=x i):=hzx
   clear hO hU hc h h' hA hx hy hzw hzx
   go_wp2_with (go_at_call 198;refine (hma _).mono ?_;rintro e w1 ⟨l,hi,rfl,hlh,hlb,hhb,rfl⟩)
   go_roundw
   case rel =>
    refine ⟨j+1,hi,fun i=>if i=off+j then l else z i,by omega,by go_num,rfl,hhb,HO.out.set (off+j) l,upd_words HZW.out hlb,?_,?_,HU.out.set (off+j) _⟩
    ·show _=_
     rw [val_set z (off+j) l N (by omega)]
     exact mul_inner _ _ _ _ _ _ _ _ _ off j hv.out (by rw [hlh,Int.mul_comm (y j) n])
    ·intro i hi2
     exact (if_neg (show ¬ i=off+j by omega)).trans (HZX.out i (by omega))
   case measure=>simp [intOf];omega
  ·obtain rfl:j=k:=by omega
   have HO:Hid (Own g N z wr):=hO
   have HU:Hid (Upd g w wr):=hU
   have HZW:Hid (Words z):=hzw
   have HZX:Hid (∀ i,off+j<=i->z i=x i):=hzx
   clear hO hU h h' hA hx hy hzw hzx
   go_wp2
   go_ret
   exact ⟨C,z,rfl,hCb,HO.out,HZW.out,hv.out,HZX.out,HU.out⟩
theorem apart_of {w:World} {a:Option Addr} {n c:Nat} {x:Nat->Int} (h:Num w a n c x):Apart a w.heap.size:=by
 intro p hp
 rcases h.2.2.2.2 with ⟨h,_⟩ | ⟨b,off,h,hb,_⟩
 ·rw [h] at hp;cases hp
 ·rw [h] at hp;cases hp;exact Nat.ne_of_lt hb
theorem val_zero:∀ m,val (fun _=>0) m=0:=by intro m;induction m with | zero=>rfl | succ m ih=>simp only [val];rw [ih];simp
theorem nmul_any (a a':Option Addr) (n c n' c':Nat) (x y:Nat->Int) (w:World) (hn:n<4000000000) (hn':n'<4000000000) (h:Num w a n c x) (h':Num w a' n' c' y) (hs:sizeL x n+sizeL y n'<=2000) :
  Calls Tryz.prog 189 #[.slice a n c,.slice a' n' c'] w fun e w'=>∃ g k cap z,e=.returned (.tuple #[.slice (some ⟨g,0,none⟩) k cap,.int .i64 0])/\k<=sizeL x n+sizeL y n'/\Num w' (some ⟨g,0,none⟩) k cap z/\val z k=val x n*val y n'/\sizeL z k=k/\Below w.heap.size w w':=by
 have hb:=bare_any a n c x w (by omega) h
 have hb':=bare_any a' n' c' y w (by omega) h'
 rw [← val_bare n,← val_bare n']
 have hx:=h.2.2.1
 have hy:=h'.2.2.1
 have hle:=sizeL_le x n
 have hle':=sizeL_le y n'
 have hN:=h.bare
 have hN':=h'.bare
 generalize sizeL x n=s at *
 generalize sizeL y n'=s' at *
 clear h h'
 obtain ⟨N,hNs⟩:∃ N,s+s'=N:=⟨_,rfl⟩
 have hNi:(s:Int)+s'=N:=by omega
 have hmk:=fun w=>make_any ((s:Int)+s') N hNi (by omega) w
 have hN2:(s:Int)+s'<=2000:=by omega
 have HNS:Hid (s+s'=N):=hNs
 have hA:=apart_of hN
 have hA':=apart_of hN'
 have hO:=Own.new w (fun _=>0) N
 have hBW:=below1 w (.cells (arrOf (fun _=>0) N) 22)
 have hnx:=hN.next hBW
 have hny:=hN'.next hBW
 have hap:=fun wr z off hO hzw hU (hoff:off+s<=N) n hn=>addProduct_any w.heap.size N off (N-off) (N-off) s c a z x n wr (by omega) (by omega) (by omega) hzw hn hO (Upd.num' (w:=w.alloc (.cells (arrOf (fun _=>0) N) 22)) hU hA hnx) hA
 have HBW:Hid (Below w.heap.size w (w.alloc (.cells (arrOf (fun _=>0) N) 22))):=hBW
 clear hBW hN hN' hNi hNs
 go_enter Tryz.func189,Tryz.ntmps189
 go_wp2_with (first | (go_at_call_of 63 (Value.slice a n c);refine hb.mono ?_;rintro e w' ⟨rfl,rfl⟩) | (go_at_call_of 63 (Value.slice a' n' c');refine hb'.mono ?_;rintro e w' ⟨rfl,rfl⟩))
 generalize w.alloc (.cells (arrOf (fun _=>0) N) 22)=wA at *
 go_loopw [9,10,29] (fun u9 u10 i wr=>∃ (j:Nat) (z:Nat->Int),j<=s'/\i=.int .i64 j/\Own w.heap.size N z wr/\Words z/\(∀ q,s+j<=q->z q=0)/\Hid (val z N=val x s*val y j)/\Upd w.heap.size wA wr) (fun _ _ i _=>s'-(intOf i).toNat)
 case atStart=>exact ⟨0,fun _=>0,Nat.zero_le _,rfl,hO,fun _=>(by decide:(0:Int)<=0/\(0:Int)<=18446744073709551615),fun _ _=>rfl,by show _=_;rw [val_zero];simp [val],Upd.refl _ _⟩
 case round =>
  clear hO
  obtain ⟨j,z,hj,rfl,hO,hzw,hz0,hv,hU⟩:=hrel
  by_cases hlt:j<s'
  ·have hji:(j:Int)<s':=by omega
   obtain ⟨b,off',rfl,hbb,hc⟩:=(hU.num' hA' hny).cells (by omega)
   have hcj:=hc j hlt
   have hap1:=hap wr z j hO hzw hU (by have:=HNS.out;omega) (y j) (hy j)
   have hjN:(j:Int)<=N:=by have:=HNS.out;omega
   have hjs:(j:Int)+s<N:=by have:=HNS.out;omega
   have e1:((j:Int)+s).toNat=j+s:=by omega
   have HU:Hid (Upd w.heap.size wA wr):=hU
   have HZ0:Hid (∀ q,s+j<=q->z q=0):=hz0
   clear hO hU hc hzw hz0 hap hx hy hA hA' hnx hny
   go_wp2_with (go_at_call 211;refine hap1.mono ?_;rintro e w1 ⟨C,z1,rfl,hCb,hO1,hw1,hv1,hzx1,hU1⟩;have hc1:=hO1.cell (j+s) (by have:=HNS.out;omega);have hf1:=hO1.frozen (j+s))
   go_roundw
   case rel =>
    have e2:z1 (j+s)=0:=by rw [hzx1 (j+s) (Nat.le_refl _)];exact HZ0.out _ (by omega)
    refine ⟨j+1,fun i=>if i=j+s then C else z1 i,by omega,by go_num,hO1.set (j+s) C,upd_words hw1 hCb,?_,?_,(HU.out.trans hU1).set (j+s) _⟩
    ·intro q hq
     exact (if_neg (show ¬ q=j+s by omega)).trans ((hzx1 q (by omega)).trans (HZ0.out q (by omega)))
    ·show _=_
     rw [val_set z1 (j+s) C N (by have:=HNS.out;omega),e2,Int.sub_zero,hv1,hv.out]
     show _=val x s*(val y j+y j*18446744073709551616^j)
     generalize (18446744073709551616:Int)^j=P
     grind
   case measure=>simp [intOf];omega
  ·obtain rfl:j=s':=by omega
   have hN2':=hO.num hzw 0 N N (by omega) (Nat.le_refl _) (by unfold maxLen;have:=HNS.out;omega)
   have hbr:=bare_any (some ⟨w.heap.size,0,none⟩) N N (segW z 0 N) wr (by have:=HNS.out;omega) hN2'
   have HN2:Hid (Num wr (some ⟨w.heap.size,0,none⟩) (sizeL (segW z 0 N) N) N (segW z 0 N)):=hN2'.bare
   have HV2:Hid (val (segW z 0 N) (sizeL (segW z 0 N) N)=val x s*val y j):=by
    show _=_
    rw [val_bare,val_congr (x:=segW z 0 N) (y:=z) N fun i hi=>by rw [segW_lt _ 0 N i hi,Nat.zero_add],hv.out]
   have HS2:Hid (sizeL (segW z 0 N) (sizeL (segW z 0 N) N)=sizeL (segW z 0 N) N):=sizeL_sizeL _ _
   have HLE:Hid (sizeL (segW z 0 N) N<=N):=sizeL_le _ _
   generalize segW z 0 N=z2 at *
   generalize sizeL z2 N=k at *
   have HB2:Hid (Below w.heap.size w wr):=HBW.out.trans (hU.below (Nat.le_refl _))
   clear hO hU hN2' hx hy hzw hz0 hap hA hA' hnx hny
   go_wp2_with (go_at_call 63;refine hbr.mono ?_;rintro e w3 ⟨rfl,rfl⟩)
   go_ret2
   exact ⟨_,k,N,z2,rfl,by rw [HNS.out];exact HLE.out,HN2.out,HV2.out,HS2.out,HB2.out⟩
theorem wrap_mod (a:Int):IntKind.u64.wrap a=a%18446744073709551616:=by
 simp only [IntKind.wrap,IntKind.bits,IntKind.signed]
 simp
theorem p2_pos (n:Nat):(0:Int)<2^n:=Int.pow_pos (by decide)
theorem p2_split {r:Nat} (hr:r<=64):(2:Int)^(64-r)*2^r=18446744073709551616:=by
 rw [← Int.pow_add,show 64-r+r=64 by omega];rfl
def hiW (x:Int) (r:Nat):Int:=x*2^r/18446744073709551616
theorem hiW_eq (x:Int) {r:Nat} (hr:r<=64):x/2^(64-r)=hiW x r:=by
 unfold hiW
 rw [← p2_split hr,Int.mul_ediv_mul_of_pos_left _ _ (p2_pos r)]
theorem hiW_bd {x:Int} (hx:0<=x/\x<=18446744073709551615) (r:Nat):0<=hiW x r/\hiW x r<2^r:=by
 have hp:=p2_pos r
 unfold hiW
 refine ⟨Int.ediv_nonneg (Int.mul_nonneg hx.1 (by omega)) (by decide),Int.ediv_lt_of_lt_mul (by decide) ?_⟩
 rw [Int.mul_comm (2^r)]
 exact Int.mul_lt_mul_of_pos_right (by omega) hp
theorem p2_le {r:Nat} (hr:r<64):(2:Int)^r<=9223372036854775808:=by
 have h:=p2_split (show r<=64 by omega)
 have h1:(2:Int)^(64-r)=2^(63-r)*2:=by rw [← Int.pow_succ];congr 1;omega
 have h2:=p2_pos (63-r)
 rw [h1] at h
 have:(1:Int)*(2*2^r)<=2^(63-r)*(2*2^r):=Int.mul_le_mul_of_nonneg_right (by omega) (by have:=p2_pos r;omega)
 rw [← Int.mul_assoc] at this
 have e:(2:Int)^(63-r)*(2*2^r)=18446744073709551616:=by rw [← Int.mul_assoc];exact h
 omega
theorem or_shl {y b:Int} {r:Nat} (hr:r<64) (hy:0<=y) (hb:0<=b/\b<2^r):orW b (IntKind.u64.wrap (y*2^r))=y*2^r%18446744073709551616+b:=by
 have hle:=p2_le hr
 have hp:=p2_pos r
 have hme:y*2^r%(2^(64-r)*2^r)=y%2^(64-r)*2^r:=by
  have:=Int.mul_emod_mul_of_pos y (2^(64-r)) hp
  rw [Int.mul_comm y,Int.mul_comm (2^(64-r)),this,Int.mul_comm]
 rw [orW_eq b _ (by omega) (wrap_word _),wrap_mod,← p2_split (show r<=64 by omega),hme]
 have hm0:=Int.emod_nonneg y (show (2:Int)^(64-r)≠0 by have:=p2_pos (64-r);omega)
 obtain ⟨u,hu⟩:=Int.eq_ofNat_of_zero_le hm0
 obtain ⟨b',rfl⟩:=Int.eq_ofNat_of_zero_le hb.1
 rw [hu]
 have e1:((u:Int)*2^r).toNat=2^r*u:=by
  have:((u:Int)*2^r)=((2^r*u:Nat):Int):=by rw [Int.natCast_mul,powCast,Int.mul_comm]
  rw [this];exact Int.toNat_natCast _
 have hb2:b'<2^r:=by
  have h:=hb.2
  rw [← powCast] at h;omega
 rw [e1,Int.toNat_natCast,Nat.or_comm,← Nat.two_pow_add_eq_or_of_lt hb2]
 rw [Int.natCast_add,Int.natCast_mul,powCast,Int.mul_comm]
def prevW (x:Nat->Int) (r i:Nat):Int:=if i=0 then 0 else hiW (x (i-1)) r
def shW (x:Nat->Int) (r i:Nat):Int:=x i*2^r%18446744073709551616+prevW x r i
theorem prevW_bd {x:Nat->Int} (hx:Words x) (r i:Nat):0<=prevW x r i/\prevW x r i<2^r:=by
 unfold prevW;split
 ·have:=p2_pos r;omega
 ·exact hiW_bd (hx _) r
theorem shW_or {x:Nat->Int} (hx:Words x) {r:Nat} (hr:r<64) (i:Nat):orW (prevW x r i) (IntKind.u64.wrap (x i*2^r))=shW x r i:=or_shl hr (hx i).1 (prevW_bd hx r i)
theorem prevW_word {x:Nat->Int} (hx:Words x) {r:Nat} (hr:r<64) (i:Nat):0<=prevW x r i/\prevW x r i<=18446744073709551615:=by
 have:=prevW_bd hx r i
 have:=p2_le hr
 omega
theorem shW_words {x:Nat->Int} (hx:Words x) {r:Nat} (hr:r<64):Words (shW x r):=fun i=>by
 rw [← shW_or hx hr i];exact orW_word _ _ (prevW_word hx hr i) (wrap_word _)
theorem sh_val (x:Nat->Int) (r:Nat):∀ m,val (shW x r) m+prevW x r m*18446744073709551616^m=val x m*2^r
 | 0=>by simp [val,prevW]
 | m+1=>by
  have ih:=sh_val x r m
  show val (shW x r) m+shW x r m*18446744073709551616^m+prevW x r (m+1)*18446744073709551616^(m+1)=(val x m+x m*18446744073709551616^m)*2^r
  have e1:prevW x r (m+1)=x m*2^r/18446744073709551616:=rfl
  have e2:shW x r m=x m*2^r%18446744073709551616+prevW x r m:=rfl
  have e3:=Int.emod_add_mul_ediv (x m*2^r) 18446744073709551616
  rw [e1,e2,Int.pow_succ]
  generalize x m*2^r/18446744073709551616=K at *
  generalize x m*2^r%18446744073709551616=R at *
  generalize (18446744073709551616:Int)^m=P at *
  grind
theorem sh_end {x:Nat->Int} {n:Nat} (zx:∀ i,n<=i->x i=0) (r m:Nat) (h:n<m):val (shW x r) m=val x n*2^r:=by
 have e:=sh_val x r m
 have e1:prevW x r m=0:=by
  unfold prevW hiW;rw [if_neg (by omega),zx (m-1) (by omega)];simp
 rw [e1,val_more zx m (by omega)] at e
 omega
def upW (f:Nat->Int) (q j:Nat):Int:=if q<=j then f (j-q) else 0
theorem val_up (f:Nat->Int) (q:Nat):∀ m,val (upW f q) (q+m)=val f m*18446744073709551616^q
 | 0=>by
  have:∀ k,k<=q->val (upW f q) k=0:=by
   intro k
   induction k with
   | zero=>intro _;rfl
   | succ k ih =>
    intro hk
    show val (upW f q) k+upW f q k*18446744073709551616^k=0
    rw [ih (by omega)]
    unfold upW;rw [if_neg (by omega)];simp
  rw [Nat.add_zero,this q (Nat.le_refl _)];simp [val]
 | m+1=>by
  have ih:=val_up f q m
  show val (upW f q) (q+m)+upW f q (q+m)*18446744073709551616^(q+m)=(val f m+f m*18446744073709551616^m)*18446744073709551616^q
  rw [ih]
  have e:upW f q (q+m)=f m:=by unfold upW;rw [if_pos (by omega)];congr 1;omega
  rw [e,Int.pow_add]
  generalize (18446744073709551616:Int)^m=P
  generalize (18446744073709551616:Int)^q=Q
  grind
theorem finL_up {x:Nat->Int} (hx:Words x) (q:Nat) {r:Nat} (hr:r<64):finL x q r=upW (shW x r) q:=by
 funext j
 unfold finL upW
 by_cases h:q<=j
 ·rw [if_pos h,if_pos h,← shW_or hx hr (j-q)]
  congr 1
  unfold lowp prevW
  by_cases h0:j-q=0
  ·rw [if_pos h0,if_neg (by omega)]
  ·rw [if_neg h0]
   by_cases hr0:0<r
   ·rw [if_pos (by omega),hiW_eq _ (by omega)]
   ·obtain rfl:r=0:=by omega
    rw [if_neg (by omega)]
    unfold hiW
    have:=hx (j-q-1)
    omega
 ·rw [if_neg h,if_neg h]
theorem p64 (q r:Nat):(2:Int)^r*18446744073709551616^q=2^(64*q+r):=by
 rw [Int.pow_add,Int.pow_mul,Int.mul_comm];rfl
theorem finL_val {x:Nat->Int} {n:Nat} (hx:Words x) (zx:∀ i,n<=i->x i=0) (q:Nat) {r:Nat} (hr:r<64):val (finL x q r) (n+q+1)=val x n*2^(64*q+r):=by
 rw [finL_up hx q hr,show n+q+1=q+(n+1) by omega,val_up,sh_end zx r (n+1) (by omega),Int.mul_assoc,p64]
def upZ (z y:Nat->Int) (r off k j:Nat):Int:=if off<=j/\j<off+k then shW y r (j-off) else z j
theorem upZ_next (z y:Nat->Int) (r off k j:Nat):(if j=off+k then shW y r k else upZ z y r off k j)=upZ z y r off (k+1) j:=by
 unfold upZ
 by_cases e:j=off+k
 ·subst e
  rw [if_pos rfl,if_pos (by omega)];congr 1;omega
 ·rw [if_neg e]
  by_cases e2:off<=j/\j<off+k
  ·rw [if_pos e2,if_pos (by omega)]
  ·rw [if_neg e2,if_neg (by omega)]
theorem shiftUp_any (g N off m c k c' r:Nat) (a':Option Addr) (z y:Nat->Int) (w:World) (hm:off+m<=N) (hN:N<4294967296) (hk:k<m) (hr:r<64) (h:Own g N z w) (h':Num w a' k c' y) (hA:Apart a' g) :
  Calls Tryz.prog 225 #[.slice (some ⟨g,off,none⟩) m c,.slice a' k c',.int .i64 r] w fun e w'=>e=.returned (.tuple #[])/\Own g N (upZ z y r off (k+1)) w'/\Upd g w w':=by
 have hy:=h'.2.2.1
 have hri:(r:Int)<64:=by omega
 have e64:((64:Int)-r).toNat=64-r:=by omega
 have hk0:=h'.2.2.2.1 k (Nat.le_refl _)
 go_enter Tryz.func225,Tryz.ntmps225
 go_wp2
 go_loopw [6,7,8,11] (fun cv u7 u8 i wr=>∃ (j:Nat),j<=k/\i=.int .i64 j/\cv=.int .u64 (prevW y r j)/\Own g N (upZ z y r off j) wr/\Upd g w wr) (fun _ _ _ i _=>k-(intOf i).toNat)
 case atStart=>exact ⟨0,Nat.zero_le _,rfl,rfl,h.congr fun i _=>by unfold upZ;rw [if_neg (by omega)],Upd.refl _ _⟩
 case round =>
  obtain ⟨j,hj,rfl,rfl,hO,hU⟩:=hrel
  have hpb:=prevW_word hy hr j
  by_cases hlt:j<k
  ·have hji:(j:Int)<k:=by omega
   have hjm:(j:Int)<m:=by omega
   obtain ⟨b,off',rfl,hb,hc⟩:=(hU.num' hA h').cells (by omega)
   have hcj:=hc j hlt
   have hco:∃ u,wr.cell? ⟨g,off+j,none⟩=some (.int .u64 u):=⟨_,hO.cell (off+j) (by omega)⟩
   obtain ⟨u,hco⟩:=hco
   have hfo:=hO.frozen (off+j)
   have b_y:=hy j
   have HP:Hid (prevW y r (j+1)=y j/2^(64-r)):=by show _=_;rw [hiW_eq _ (by omega)];rfl
   have HS:Hid (bits BinOp.or IntKind.u64 (IntKind.u64.wrap (y j*2^r)) (prevW y r j)=shW y r j):=by
    show _=_
    rw [← shW_or hy hr j]
    exact orW_comm _ _ (wrap_word _) hpb
   have HO:Hid (Own g N (upZ z y r off (j+1)) (wr.setCell ⟨g,off+j,none⟩ (.int .u64 (shW y r j)))):=(hO.set (off+j) _).congr fun i _=>upZ_next z y r off j i
   have HU:Hid (Upd g w (wr.setCell ⟨g,off+j,none⟩ (.int .u64 (shW y r j)))):=hU.set (off+j) _
   rw [← HS.out] at HO HU
   clear hO hU hc h h' hA hy hk0 HS
   generalize prevW y r j=pv at *
   go_wp2
   go_roundw
   case rel=>exact ⟨j+1,by omega,by go_num,by rw [HP.out],HO.out,HU.out⟩
   case measure=>simp [intOf];omega
  ·obtain rfl:j=k:=by omega
   have hjm:(j:Int)<m:=by omega
   have hco:∃ u,wr.cell? ⟨g,off+j,none⟩=some (.int .u64 u):=⟨_,hO.cell (off+j) (by omega)⟩
   obtain ⟨u,hco⟩:=hco
   have hfo:=hO.frozen (off+j)
   have e1:shW y r j=prevW y r j:=by unfold shW;rw [hk0];simp
   have HO:Hid (Own g N (upZ z y r off (j+1)) (wr.setCell ⟨g,off+j,none⟩ (.int .u64 (prevW y r j)))):=(hO.set (off+j) _).congr fun i _=>by rw [← e1];exact upZ_next z y r off j i
   have HU:Hid (Upd g w (wr.setCell ⟨g,off+j,none⟩ (.int .u64 (prevW y r j)))):=hU.set (off+j) _
   clear hO hU h h' hA hy hk0 e1
   generalize prevW y r j=pv at *
   go_wp2
   go_end0
   exact ⟨rfl,HO.out,HU.out⟩
theorem bare_own {g N c:Nat} {z:Nat->Int} {w:World} {V:Int} (hO:Own g N z w) (hW:Words z) (hN:N<4000000000) (hc:N<=c) (hc2:c<=maxLen) (hv:val z N=V) :
  ∃ k z',k<=N/\Num w (some ⟨g,0,none⟩) k c z'/\val z' k=V/\sizeL z' k=k/\CQ 63 #[.slice (some ⟨g,0,none⟩) N c] w (.slice (some ⟨g,0,none⟩) k c):=by
 have h:=hO.num hW 0 N c (by omega) hc hc2
 refine ⟨sizeL (segW z 0 N) N,segW z 0 N,sizeL_le _ _,h.bare,?_,sizeL_sizeL _ _,bare_any _ N c _ w (by omega) h⟩
 rw [val_bare,val_congr (x:=segW z 0 N) (y:=z) N fun i hi=>by rw [segW_lt _ 0 N i hi,Nat.zero_add],hv]
section
attribute [local go_sem] setCell_drewN alloc_drewN
def goneB (x:Nat->Int) (q r:Nat):Bool:=decide (0<sizeL x q) || decide (x q%2^r≠0)
def goneK (x:Nat->Int) (q r k:Nat):Bool:=if k<=q then decide (0<sizeL x k) else goneB x q r
theorem goneK_zero (x:Nat->Int) (q r:Nat):goneK x q r 0=false:=by unfold goneK;rw [if_pos (Nat.zero_le _)];rfl
theorem goneK_lt0 {x:Nat->Int} {q r k:Nat} (h:k<q) (hz:x k=0):goneK x q r (k+1)=goneK x q r k:=by
 unfold goneK;rw [if_pos (by omega),if_pos (by omega)];simp [sizeL,hz]
theorem goneK_lt1 {x:Nat->Int} {q r k:Nat} (h:k<q) (hz:¬ x k=0):goneK x q r (k+1)=true:=by
 unfold goneK;rw [if_pos (by omega)];simp [sizeL,hz]
theorem goneK_eq (x:Nat->Int) (k r:Nat):goneK x k r (k+1)=(goneK x k r k || decide (x k%2^r≠0)):=by
 unfold goneK;rw [if_neg (by omega),if_pos (Nat.le_refl _)];rfl
theorem goneK_gt {x:Nat->Int} {q r k:Nat} (h:q<k):goneK x q r (k+1)=goneK x q r k:=by
 unfold goneK;rw [if_neg (by omega),if_neg (by omega)]
theorem goneK_end {x:Nat->Int} {q r n:Nat} (h:q<n):goneK x q r n=goneB x q r:=by
 unfold goneK;rw [if_neg (by omega)]
theorem and_mask {y:Int} {r:Nat} (hy:0<=y/\y<=18446744073709551615) (hr:r<64):bits BinOp.and IntKind.u64 y (2^r-1)=y%2^r:=by
 have h1:=p2_pos r
 have h2:=p2_le hr
 rw [u64_and _ _ hy.1 (by omega) (by omega) (by omega)]
 obtain ⟨n,rfl⟩:=Int.eq_ofNat_of_zero_le hy.1
 have e:((2:Int)^r-1).toNat=2^r-1:=by rw [← powCast];omega
 rw [e,Int.toNat_natCast,Nat.and_two_pow_sub_one_eq_mod,Int.natCast_emod,powCast]
end
theorem sizeL_more {x:Nat->Int} {n:Nat} (hz:∀ i,n<=i->x i=0):∀ m,n<=m->sizeL x m=sizeL x n
  | 0, h => by have : n = 0 := by omega
               subst this;rfl
  | m+1,h=>by
    by_cases e:n=m+1
    · subst e;rfl
    · rw [show sizeL x (m+1)=sizeL x m by simp [sizeL,hz m (by omega)]]
      exact sizeL_more hz m (by omega)
def dnW (y:Int) (r:Nat):Int:=IntKind.u64.wrap (y*2^(64-r))
theorem shr_or {y:Nat->Int} (hy:Words y) {r:Nat} (hr:r<64) (q i:Nat):orW (y (q+i)/2^r) (dnW (y (q+i+1)) r)=shrW y q r i:=by
 unfold shrW dnW
 by_cases h:r=0
 ·subst h
  rw [if_pos rfl,wrap_mod]
  have e:y (q+i+1)*2^(64-0)%18446744073709551616=0:=Int.mul_emod_left _ _
  rw [e,Int.pow_zero,Int.ediv_one,orW_zero _ (hy _)]
 ·rw [if_neg h]
def dnZ (z y:Nat->Int) (r m k j:Nat):Int:=if k<=j/\j<m then shrW y 0 r j else z j
theorem shiftDown_any (g N m c c' r:Nat) (a':Option Addr) (z y:Nat->Int) (w:World) (hm:m<=N) (hN:N<4294967296) (hr:r<64) (h:Own g N z w) (h':Num w a' m c' y) (hA:Apart a' g) :
  Calls Tryz.prog 227 #[.slice (some ⟨g,0,none⟩) m c,.slice a' m c',.int .i64 r] w fun e w'=>e=.returned (.tuple #[])/\Own g N (dnZ z y r m 0) w'/\Upd g w w':=by
 have hy:=h'.2.2.1
 have hri:(r:Int)<64:=by omega
 have e64:((64:Int)-r).toNat=64-r:=by omega
 have hk0:=h'.2.2.2.1 m (Nat.le_refl _)
 go_enter Tryz.func227,Tryz.ntmps227
 go_wp2
 go_loopw [6,7] (fun cv i wr=>∃ (k:Nat),k<=m/\i=.int .i64 ((k:Int)-1)/\cv=.int .u64 (dnW (y k) r)/\Own g N (dnZ z y r m k) wr/\Upd g w wr) (fun _ i _=>(intOf i+1).toNat)
 case atStart=>exact ⟨m,Nat.le_refl _,by go_num,by rw [hk0];unfold dnW;rw [Int.zero_mul,wrap_id 0 (by decide)],h.congr fun i _=>by unfold dnZ;rw [if_neg (by omega)],Upd.refl _ _⟩
 case round =>
  obtain ⟨k,hk,rfl,rfl,hO,hU⟩:=hrel
  have hpb:0<=dnW (y k) r/\dnW (y k) r<=18446744073709551615:=wrap_word _
  by_cases h0:k=0
  ·subst h0
   have HO:Hid (Own g N (dnZ z y r m 0) wr):=hO
   have HU:Hid (Upd g w wr):=hU
   clear hO hU h h' hA hy hk0
   go_wp2
   go_end0
   exact ⟨rfl,HO.out,HU.out⟩
  ·obtain ⟨j,rfl⟩:∃ j,k=j+1:=⟨k-1,by omega⟩
   have ej:((j+1:Nat):Int)-1=j:=by omega
   rw [ej]
   have hjm:(j:Int)<m:=by omega
   obtain ⟨b,off',rfl,hb,hc⟩:=(hU.num' hA h').cells (by omega)
   have hcj:=hc j (by omega)
   have hco:∃ u,wr.cell? ⟨g,j,none⟩=some (.int .u64 u):=⟨_,hO.cell j (by omega)⟩
   obtain ⟨u,hco⟩:=hco
   have hfo:=hO.frozen j
   have b_y:=hy j
   have hbg:b≠g:=hA _ rfl
   have hcj2:∀ v,(wr.setCell ⟨g,j,none⟩ v).cell? ⟨b,off'+j,none⟩=some (.int .u64 (y j)):=fun v=>(World.cell?_of_block (w:=wr) (a:=⟨b,off'+j,none⟩) (Below.heap_setCell wr ⟨g,j,none⟩ v b hbg)).trans hcj
   have HS:Hid (bits BinOp.or IntKind.u64 (y j/2^r) (dnW (y (j+1)) r)=shrW y 0 r j):=by
    show _=_
    have:=shr_or hy hr 0 j
    rw [Nat.zero_add] at this
    exact this
   have HO:Hid (Own g N (dnZ z y r m j) (wr.setCell ⟨g,j,none⟩ (.int .u64 (shrW y 0 r j)))):=(hO.set j _).congr fun i _=>by
    unfold dnZ
    by_cases e:i=j
    ·subst e;rw [if_pos rfl,if_pos (by omega)]
    ·rw [if_neg e]
     by_cases e2:j+1<=i/\i<m
     ·rw [if_pos e2,if_pos (by omega)]
     ·rw [if_neg e2,if_neg (by omega)]
   have HU:Hid (Upd g w (wr.setCell ⟨g,j,none⟩ (.int .u64 (shrW y 0 r j)))):=hU.set j _
   rw [← HS.out] at HO HU
   have HDW:Hid (IntKind.u64.wrap (y j*2^(64-r))=dnW (y j) r):=rfl
   clear hO hU hc h h' hA hy hk0 HS ej
   generalize dnW (y (j+1)) r=pv at *
   go_wp2
   go_roundw
   case rel=>exact ⟨j,by omega,by go_num,by rw [← HDW.out],HO.out,HU.out⟩
   case measure=>simp [intOf]
theorem Num.drop {w:World} {b off n c q:Nat} {x:Nat->Int} (h:Num w (some ⟨b,off,none⟩) n c x) (hq:q<=n):Num w (some ⟨b,off+q,none⟩) (n-q) (c-q) (fun i=>x (q+i)):=by
 obtain ⟨h1,h2,h3,h4,h5⟩:=h
 refine ⟨by omega,by omega,fun i=>h3 (q+i),fun i hi=>h4 (q+i) (by omega),?_⟩
 rcases h5 with ⟨h5,_⟩ | ⟨b',off',h6,h7,h8⟩
 ·cases h5
 ·cases h6
  exact Or.inr ⟨b,off+q,rfl,h7,fun i hi=>by have:=h8 (q+i) (by omega);rw [Nat.add_assoc];exact this⟩
theorem Num.take {w:World} {b off n c q:Nat} {x:Nat->Int} (h:Num w (some ⟨b,off,none⟩) n c x) (hq:q<=n):Num w (some ⟨b,off,none⟩) q c (segW x 0 q):=by
 obtain ⟨h1,h2,h3,h4,h5⟩:=h
 refine ⟨by omega,by omega,segW_words h3 0 q,fun i hi=>segW_zero x 0 q i hi,?_⟩
 rcases h5 with ⟨h5,_⟩ | ⟨b',off',h6,h7,h8⟩
 ·cases h5
 ·cases h6
  exact Or.inr ⟨b,off,rfl,h7,fun i hi=>by rw [h8 i (by omega),segW_lt x 0 q i hi,Nat.zero_add]⟩
theorem times_val (b off n c b' off' n' c':Nat) (x y:Nat->Int) (w:World) (hn:n<1000000) (hn':n'<1000000) (h:Num w (some ⟨b,off,none⟩) n c x) (h':Num w (some ⟨b',off',none⟩) n' c' y) :
  Calls Tryz.prog 24 #[.slice (some ⟨b,off,none⟩) n c,.slice (some ⟨b',off',none⟩) n' c'] w fun e w'=>∃ g k cap z,e=.returned (.slice (some ⟨g,0,none⟩) k cap)/\k<=n+n'+1/\Num w' (some ⟨g,0,none⟩) k cap z/\val z k=val x n*val y n'/\Below w.heap.size w w' :=
 (times_raw b off n c b' off' n' c' x y w hn hn' h h').mono fun e w' ⟨g,k,cap,z,e1,hk,hN,hv,hB⟩=>⟨g,k,cap,z,e1,hk,hN,by rw [← hv,val_more hN.2.2.2.1 _ hk],hB⟩
theorem val_one1 (c:Int):val (oneW c) 1=c:=by simp [val,oneW]
theorem pow_half (s:Int) (m:Nat):s^m=(if m%2=1 then s else 1)*(s*s)^(m/2):=by
 have e:(s*s)^(m/2)=s^(2*(m/2)):=by rw [Int.pow_mul];congr 1;rw [Int.pow_succ,Int.pow_succ,Int.pow_zero,Int.one_mul]
 rw [e]
 by_cases h:m%2=1
 ·rw [if_pos h,Int.mul_comm,← Int.pow_succ];congr 1;omega
 ·rw [if_neg h,Int.one_mul];congr 1;omega
theorem rpow_any (b:Int) (n:Nat) (w:World) (hb:0<=b/\b<=18446744073709551615) (hn:n<=17000) :
  Calls Tryz.prog 25 #[.int .u64 b,.int .i64 n] w fun e w'=>∃ g k cap z,e=.returned (.slice (some ⟨g,0,none⟩) k cap)/\k<=4*n+2/\Num w' (some ⟨g,0,none⟩) k cap z/\val z k=b^n/\Below w.heap.size w w':=by
 have hN1:=num_one w 1 (by decide)
 have hB1:=below1 w (.cells #[.int .u64 1] 22)
 have hN2:=num_one (w.alloc (.cells #[.int .u64 1] 22)) b hb
 have hB2:=below1 (w.alloc (.cells #[.int .u64 1] 22)) (.cells #[.int .u64 b] 22)
 have hN1':=hN1.next hB2
 have hB:=hB1.trans (hB2.mono hB1.size)
 have hs:(w.alloc (.cells #[.int .u64 1] 22)).heap.size=w.heap.size+1:=by simp
 rw [hs] at hN2
 have HB:Hid (Below w.heap.size w ((w.alloc (.cells #[.int .u64 1] 22)).alloc (.cells #[.int .u64 b] 22))):=hB
 clear hN1 hB1 hB2 hB hs
 go_enter Tryz.func25,Tryz.ntmps25
 go_wp2
 generalize (w.alloc (.cells #[.int .u64 1] 22)).alloc (.cells #[.int .u64 b] 22)=wA at *
 go_loopw [1,5,6] (fun nv ov sv wr=>∃ (m P g1 k1 p1 g2 k2 p2:Nat) (z1 z2:Nat->Int),nv=.int .i64 m/\m<=n/\1<=P/\m*P<=n/\P<=2*n+1/\ov=.slice (some ⟨g1,0,none⟩) k1 p1/\sv=.slice (some ⟨g2,0,none⟩) k2 p2/\k1+1<=2*P/\k2+1<=2*P/\Num wr (some ⟨g1,0,none⟩) k1 p1 z1/\Num wr (some ⟨g2,0,none⟩) k2 p2 z2/\Hid (val z1 k1*val z2 k2^m=b^n)/\Below w.heap.size w wr) (fun nv _ _ _=>(intOf nv).toNat)
 case atStart=>exact ⟨n,1,w.heap.size,1,1,w.heap.size+1,1,1,oneW 1,oneW b,rfl,Nat.le_refl _,Nat.le_refl _,by omega,by omega,rfl,rfl,by omega,by omega,hN1',hN2,by show _=_;rw [val_one1,val_one1,Int.one_mul],HB.out⟩
 case round =>
  clear hN1' hN2 HB
  obtain ⟨m,P,g1,k1,p1,g2,k2,p2,z1,z2,rfl,hmn,hP,hmP,hP2,rfl,rfl,hk1,hk2,hN1,hN2,hv,hB⟩:=hrel
  by_cases h0:m=0
  ·subst h0
   have HV:Hid (val z1 k1=b^n):=by show _=_;have:=hv.out;simpa using this
   have HN1:Hid (Num wr (some ⟨g1,0,none⟩) k1 p1 z1):=hN1
   clear hN1 hN2 hv
   go_wp2
   go_ret
   exact ⟨g1,k1,p1,z1,rfl,by omega,HN1.out,HV.out,hB⟩
  ·have hm0:(0:Int)<m:=by omega
   have hPn:P<=n:=by
    have:1*P<=m*P:=Nat.mul_le_mul_right P (by omega)
    omega
   have hq2:(m:Int)/2=((m/2:Nat):Int):=by omega
   have hr2:(m:Int)%2=((m%2:Nat):Int):=by omega
   have hmP':m/2*(2*P)<=n:=by
    have h1:m/2*2<=m:=Nat.div_mul_le_self m 2
    have h2:m/2*2*P<=m*P:=Nat.mul_le_mul_right P h1
    rw [← Nat.mul_assoc];omega
   have HPH:Hid (val z2 k2^m=(if m%2=1 then val z2 k2 else 1)*(val z2 k2*val z2 k2)^(m/2)):=pow_half _ _
   have tt:=fun wr (hb:Below w.heap.size w wr) h1 h2=>times_val g1 0 k1 p1 g2 0 k2 p2 z1 z2 wr (by omega) (by omega) h1 h2
   have ts:=fun wr (hb:Below w.heap.size w wr) h2=>times_val g2 0 k2 p2 g2 0 k2 p2 z2 z2 wr (by omega) (by omega) h2 h2
   generalize hq:m/2=q at *
   by_cases hodd:m%2=1
   ·rw [hodd] at hr2
    rw [if_pos hodd] at HPH
    have t1:=tt wr hB hN1 hN2
    by_cases hq0:q=0
    ·subst hq0
     have hq00:(m:Int)/2=0:=hq2
     clear hq2
     go_wp2_with (go_at_call 24;refine t1.mono ?_;rintro e w1 ⟨g3,k3,p3,z3,rfl,hk3,hN3,hv3,hb1⟩;clear tt t1)
     have HV3:Hid (val z3 k3*val z2 k2^0=b^n):=by
      show _=_
      rw [hv3,← hv.out,HPH.out];simp
     have HN3:Hid (Num w1 (some ⟨g3,0,none⟩) k3 p3 z3):=hN3
     have HN2:Hid (Num w1 (some ⟨g2,0,none⟩) k2 p2 z2):=hN2.next hb1
     have hB1:=hB.trans (hb1.mono hB.size)
     clear hN1 hN2 hN3 hv hv3 ts
     go_roundw
     case rel=>exact ⟨0,2*P,g3,k3,p3,g2,k2,p2,z3,z2,rfl,by omega,by omega,by omega,by omega,rfl,rfl,by omega,by omega,HN3.out,HN2.out,HV3,hB1⟩
     case measure=>simp [intOf];omega
    ·have hq0':(0:Int)<q:=by omega
     go_wp2_with (go_at_call 24;refine t1.mono ?_;rintro e w1 ⟨g3,k3,p3,z3,rfl,hk3,hN3,hv3,hb1⟩;clear tt t1)
     have hB1:=hB.trans (hb1.mono hB.size)
     have hN21:=hN2.next hb1
     have t2:=ts w1 hB1 hN21
     go_wp2_with (go_at_call 24;refine t2.mono ?_;rintro e w2 ⟨g4,k4,p4,z4,rfl,hk4,hN4,hv4,hb2⟩;clear ts t2)
     have HV3:Hid (val z3 k3*val z4 k4^q=b^n):=by
      show _=_
      rw [hv3,hv4,← hv.out,HPH.out,Int.mul_assoc]
     have HN3:Hid (Num w2 (some ⟨g3,0,none⟩) k3 p3 z3):=hN3.next hb2
     have HN4:Hid (Num w2 (some ⟨g4,0,none⟩) k4 p4 z4):=hN4
     have hB2:=hB1.trans (hb2.mono hB1.size)
     clear hN1 hN2 hN3 hN21 hN4 hv hv3 hv4
     go_roundw
     case rel=>exact ⟨q,2*P,g3,k3,p3,g4,k4,p4,z3,z4,rfl,by omega,by omega,by omega,by omega,rfl,rfl,by omega,by omega,HN3.out,HN4.out,HV3,hB2⟩
     case measure=>simp [intOf];omega
   ·have h20:m%2=0:=by omega
    rw [h20] at hr2
    rw [if_neg hodd,Int.one_mul] at HPH
    have hq0':(0:Int)<q:=by omega
    have t2:=ts wr hB hN2
    go_wp2_with (go_at_call 24;refine t2.mono ?_;rintro e w2 ⟨g4,k4,p4,z4,rfl,hk4,hN4,hv4,hb2⟩;clear ts tt t2)
    have HV3:Hid (val z1 k1*val z4 k4^q=b^n):=by
     show _=_
     rw [hv4,← hv.out,HPH.out]
    have HN3:Hid (Num w2 (some ⟨g1,0,none⟩) k1 p1 z1):=hN1.next hb2
    have HN4:Hid (Num w2 (some ⟨g4,0,none⟩) k4 p4 z4):=hN4
    have hB2:=hB.trans (hb2.mono hB.size)
    clear hN1 hN2 hN4 hv hv4
    go_roundw
    case rel=>exact ⟨q,2*P,g1,k1,p1,g4,k4,p4,z1,z4,rfl,by omega,by omega,by omega,by omega,rfl,rfl,by omega,by omega,HN3.out,HN4.out,HV3,hB2⟩
    case measure=>simp [intOf];omega
theorem p10_posN (n:Nat):(0:Int)<10^n:=Int.pow_pos (by decide)
theorem val_ones:∀ t,val (fun _=>18446744073709551615) t=18446744073709551616^t-1
 | 0=>by simp [val]
 | t+1=>by
  show val (fun _=>18446744073709551615) t+18446744073709551615*18446744073709551616^t=18446744073709551616^(t+1)-1
  rw [val_ones t,Int.pow_succ];omega
theorem size_bound {z:Nat->Int} (hz:Words z) {k t:Nat} (hs:sizeL z k=k) (hv:val z k<18446744073709551616^t):k<=t:=by
 rcases Nat.lt_or_ge t k with h | h
 ·have:=val_longer (x:=fun _=>18446744073709551615) (fun _=>(by decide:(0:Int)<=18446744073709551615/\(18446744073709551615:Int)<=18446744073709551615)) hz h hs
  rw [val_ones] at this;omega
 ·exact h
theorem p19:∀ t:Nat,(10:Int)^(19*t)<=18446744073709551616^t
 | 0=>by simp
 | t+1=>by
  have ih:=p19 t
  have e:(10:Int)^(19*(t+1))=10^(19*t)*10000000000000000000:=by rw [Nat.mul_add,Int.pow_add];rfl
  rw [e,Int.pow_succ]
  have h0:=pw_pos t
  have h1:=p10_posN (19*t)
  generalize (18446744073709551616:Int)^t=A at *
  generalize (10:Int)^(19*t)=B at *
  omega
theorem pow_le10 {b:Int} (hb:0<=b) (hb2:b<=10):∀ e:Nat,0<=b^e/\b^e<=10^e
 | 0=>by simp
 | e+1=>by
  have ih:=pow_le10 hb hb2 e
  rw [Int.pow_succ,Int.pow_succ]
  exact ⟨Int.mul_nonneg ih.1 hb,Int.mul_le_mul ih.2 hb2 hb (Int.le_of_lt (p10_posN e))⟩
theorem pow_small {b:Int} (hb:0<=b) (hb2:b<=10) {e:Nat} (he:e<=12000):b^e<18446744073709551616^632:=by
 have h1:=(pow_le10 hb hb2 e).2
 have h2:=p19 632
 have h3:(10:Int)^e<10^(19*632):=by
  obtain ⟨k,hk⟩:∃ k,19*632=e+1+k:=⟨19*632-(e+1),by omega⟩
  rw [hk,Int.pow_add,Int.pow_succ]
  have:=p10_posN e
  have h4:=p10_posN k
  have h5:(10:Int)^e*10*1<=10^e*10*10^k:=Int.mul_le_mul_of_nonneg_left (by omega) (by omega)
  omega
 exact Int.lt_of_lt_of_le (Int.lt_of_le_of_lt h1 h3) h2
theorem npow_any (b:Int) (n:Nat) (w:World) (hb:b=5∨b=10) (hn:n<=12000) :
  Calls Tryz.prog 195 #[.int .i64 b,.int .i64 n] w fun e w'=>∃ g k cap z,e=.returned (.tuple #[.slice (some ⟨g,0,none⟩) k cap,.int .i64 0])/\k<=2001/\Num w' (some ⟨g,0,none⟩) k cap z/\val z k=b^n/\sizeL z k=k/\Below w.heap.size w w':=by
 have hb0:0<=b/\b<=10:=by omega
 have hbc:b=5∨b=10:=hb
 have hb2:(b == 2)=false:=by simp;omega
 have hN1:=num_one w 1 (by decide)
 have hBB:=below1 w (.cells #[.int .u64 1] 22)
 have hn':(n:Int)<=12000:=by omega
 have hlen:=Tryz.bits_Len n (w.alloc (.cells #[.int .u64 1] 22)) (by omega) (by omega)
 rw [Int.toNat_natCast] at hlen
 obtain ⟨L,hL⟩:∃ L,Lib.bitLen n=L:=⟨_,rfl⟩
 have hL64:L<=64:=by rw [← hL];exact bitLen64 n
 have HLn:Hid (n/2^L=0):=by
  show _=_
  by_cases h0:n=0
  ·subst h0;simp
  ·have:=bitLen_spec n (by omega) (by omega)
   rw [hL] at this
   exact Nat.div_eq_of_lt this.2.2.2
 rw [hL] at hlen
 clear hL
 have HS1:Hid (sizeL (oneW 1) 1=1):=by show _=_;simp [sizeL,oneW]
 have hne:(b != 2)=true:=by simp;omega
 have hpick:(b != 5)=true/\(b != 10)=false∨(b != 5)=false:=by rcases hb with rfl | rfl <;> decide
 have hps:∀ e,e<=12000->b^e<18446744073709551616^632:=fun e he=>pow_small hb0.1 hb0.2 he
 have HPS:Hid (∀ e,e<=12000->b^e<18446744073709551616^632):=hps
 clear hps hb
 rcases hpick with ⟨h5,h10⟩ | h5
 all_goals
  go_enter Tryz.func195,Tryz.ntmps195
  go_wp2_with (go_at_call 218;refine hlen.mono ?_;rintro e w' ⟨rfl,rfl⟩)
  generalize w.alloc (.cells #[.int .u64 1] 22)=wA at *
  go_loopw [6,7,40,51] (fun pv iv u40 u51 wr=>∃ (k kk g p:Nat) (z:Nat->Int),k<=L/\iv=.int .i64 ((k:Int)-1)/\pv=.slice (some ⟨g,0,none⟩) kk p/\kk<=632/\Num wr (some ⟨g,0,none⟩) kk p z/\sizeL z kk=kk/\Hid (val z kk=b^(n/2^k))/\Below w.heap.size w wr) (fun _ iv _ _ _=>(intOf iv+1).toNat)
  case atStart=>exact ⟨L,1,w.heap.size,1,oneW 1,Nat.le_refl _,by go_num,rfl,by omega,hN1,HS1.out,by show _=_;rw [val_one1,HLn.out,Int.pow_zero],hBB⟩
  case round =>
   clear hN1 hBB hlen
   obtain ⟨k,kk,g,p,z,hk,rfl,rfl,hkk,hN,hs,hv,hB⟩:=hrel
   by_cases h0:k=0
   ·subst h0
    have HV:Hid (val z kk=b^n):=by show _=_;have:=hv.out;simpa using this
    have HN:Hid (Num wr (some ⟨g,0,none⟩) kk p z):=hN
    have HS:Hid (sizeL z kk=kk):=hs
    clear hN hv hs
    go_wp2
    go_ret2
    exact ⟨g,kk,p,z,rfl,by omega,HN.out,HV.out,HS.out,hB⟩
   ·obtain ⟨j,rfl⟩:∃ j,k=j+1:=⟨k-1,by omega⟩
    have ej:((j+1:Nat):Int)-1=j:=by omega
    rw [ej]
    obtain ⟨e,he⟩:∃ e,n/2^j=e:=⟨_,rfl⟩
    have hcast:(n:Int)/2^j=(e:Int):=by rw [← he,Int.natCast_ediv,powCast]
    have hen:e<=n:=by rw [← he];exact Nat.div_le_self _ _
    have hand:=Go.Proofs.and_one e (by omega)
    have hhalf:n/2^(j+1)=e/2:=by rw [Nat.pow_succ,← Nat.div_div_eq_div_mul,he]
    have m1:=nmul_any (some ⟨g,0,none⟩) (some ⟨g,0,none⟩) kk p kk p z z wr (by omega) (by omega) hN hN (by omega)
    have HV1:Hid (val z kk*val z kk=b^(2*(e/2))):=by
     show _=_
     rw [hv.out,hhalf,← Int.pow_add];congr 1;omega
    have HJ:Hid (j<=L):=by show _<=_;omega
    have HE:Hid (n/2^j=e):=he
    clear ej he hhalf hN hs hv
    by_cases hodd:e%2=1
    ·rw [hodd] at hand
     go_wp2_with (go_at_call 189;refine m1.mono ?_;rintro e' w1 ⟨g1,k1,p1,z1,rfl,hk1,hN1,hv1,hs1,hb1⟩;clear m1)
     rw [HV1.out] at hv1
     have hk1b:k1<=632:=size_bound hN1.2.2.1 hs1 (by rw [hv1];exact HPS.out _ (by omega))
     have hB1:=hB.trans (hb1.mono hB.size)
     have hNb:=num_one w1 b (by omega)
     have hbb:=below1 w1 (.cells #[.int .u64 b] 22)
     have hsb:=sizeL_le (oneW b) 1
     have m2:=nmul_any (some ⟨g1,0,none⟩) (some ⟨w1.heap.size,0,none⟩) k1 p1 1 1 z1 (oneW b) (w1.alloc (.cells #[.int .u64 b] 22)) (by omega) (by omega) (hN1.next hbb) hNb (by omega)
     have HBB:Hid (Below w.heap.size w (w1.alloc (.cells #[.int .u64 b] 22))):=hB1.trans (hbb.mono hB1.size)
     clear hN1 hNb hbb
     go_wp2_with (go_at_call 189;refine m2.mono ?_;rintro e' w2 ⟨g2,k2,p2,z2,rfl,hk2,hN2,hv2,hs2,hb2⟩;clear m2)
     have hv3:val z2 k2=b^e:=by
      rw [hv2,hv1,val_one1,← Int.pow_succ];congr 1;omega
     have hk2b:k2<=632:=size_bound hN2.2.2.1 hs2 (by rw [hv3];exact HPS.out _ (by omega))
     have hB2:=HBB.out.trans (hb2.mono HBB.out.size)
     have HN2:Hid (Num w2 (some ⟨g2,0,none⟩) k2 p2 z2):=hN2
     clear hN2
     go_roundw
     case rel=>exact ⟨j,k2,g2,p2,z2,HJ.out,by go_num,rfl,hk2b,HN2.out,hs2,by show _=_;rw [HE.out,hv3],hB2⟩
     case measure=>simp [intOf]
    ·have he0:e%2=0:=by omega
     rw [he0] at hand
     go_wp2_with (go_at_call 189;refine m1.mono ?_;rintro e' w1 ⟨g1,k1,p1,z1,rfl,hk1,hN1,hv1,hs1,hb1⟩;clear m1)
     have hv3:val z1 k1=b^e:=by
      rw [hv1,HV1.out];congr 1;omega
     have hk1b:k1<=632:=size_bound hN1.2.2.1 hs1 (by rw [hv3];exact HPS.out _ (by omega))
     have hB1:=hB.trans (hb1.mono hB.size)
     have HN1:Hid (Num w1 (some ⟨g1,0,none⟩) k1 p1 z1):=hN1
     clear hN1
     go_roundw
     case rel=>exact ⟨j,k1,g1,p1,z1,HJ.out,by go_num,rfl,hk1b,HN1.out,hs1,by show _=_;rw [HE.out,hv3],hB1⟩
     case measure=>simp [intOf]
def sb (s:ByteArray) (i:Nat):Int:=if h:i<s.size then ((s[i]'h).toNat:Int) else 0
theorem sb_lt {s:ByteArray} {i:Nat} (h:i<s.size):((s[i]'h).toNat:Int)=sb s i:=by unfold sb;rw [dif_pos h]
theorem sb_bd (s:ByteArray) (i:Nat):0<=sb s i/\sb s i<=255:=by
 unfold sb;split
 ·rename_i h;have:=(s[i]'h).toNat_lt;omega
 ·omega
def digB (s:ByteArray):Nat->Bool
 | 0=>true
 | k+1=>digB s k && decide (48<=sb s k/\sb s k<=57)
def isDigB (s:ByteArray):Bool:=digB s s.size && decide (0<s.size)
theorem digB_false {s:ByteArray}:∀ (n:Nat) {k:Nat},k<n->¬ (48<=sb s k/\sb s k<=57)->digB s n=false
 | 0,k,h,_=>by omega
 | n+1,k,h,hb=>by
  unfold digB
  by_cases e:k=n
  ·subst e;simp [hb]
  ·rw [digB_false n (by omega) hb];rfl
theorem allDigits_any (s:ByteArray) (w:World) (hs:s.size<4294967296) :
  CQ 169 #[.string s] w (.bool (isDigB s)):=by
 go_enter Tryz.func169,Tryz.ntmps169
 go_wp2
 go_loop [3,6] (fun u3 i=>∃ k:Nat,k<=s.size/\i=.int .i64 k/\digB s k=true) (fun _ i=>s.size-(intOf i).toNat)
 case atStart=>exact ⟨0,Nat.zero_le _,rfl,rfl⟩
 case round =>
  obtain ⟨k,hk,rfl,hd⟩:=hrel
  by_cases hlt:k<s.size
  ·have hki:(k:Int)<s.size:=by omega
   have hsb:=sb_lt hlt
   have hbd:=sb_bd s k
   by_cases h1:sb s k<48
   ·have HF:Hid (isDigB s=false):=by show _=_;unfold isDigB;rw [digB_false s.size hlt (by omega)];rfl
    go_wp2
    go_ret
    exact ⟨by rw [HF.out];rfl,rfl⟩
   ·by_cases h2:57<sb s k
    ·have HF:Hid (isDigB s=false):=by show _=_;unfold isDigB;rw [digB_false s.size hlt (by omega)];rfl
     go_wp2
     go_ret
     exact ⟨by rw [HF.out];rfl,rfl⟩
    ·have HD:Hid (digB s (k+1)=true):=by show _=_;unfold digB;rw [hd];simp;omega
     clear hd
     go_wp2
     go_round
     case rel=>exact ⟨k+1,by omega,by go_num,HD.out⟩
     case measure=>simp [intOf];omega
  ·obtain rfl:k=s.size:=by omega
   have HF:Hid (isDigB s=decide (0<s.size)):=by show _=_;unfold isDigB;rw [hd];simp
   clear hd
   go_wp2
   go_ret
   exact ⟨by rw [HF.out];rfl,rfl⟩
section
def numV (s:ByteArray):Nat->Int
 | 0=>0
 | k+1=>numV s k*10+(sb s k-48)
theorem digB_at {s:ByteArray}:∀ (n:Nat),digB s n=true->∀ k,k<n->48<=sb s k/\sb s k<=57
 | 0,_,k,h=>by omega
 | n+1,hd,k,h=>by
  unfold digB at hd
  simp at hd
  by_cases e:k=n
  ·subst e;exact hd.2
  ·exact digB_at n hd.1 k (by omega)
theorem numV_bd {s:ByteArray}:∀ (n:Nat),digB s n=true->0<=numV s n/\numV s n<10^n
 | 0,_=>by simp [numV]
 | n+1,hd=>by
  have h1:=digB_at (n+1) hd n (by omega)
  have h2:=numV_bd n (by unfold digB at hd;simp at hd;exact hd.1)
  simp only [numV]
  rw [Int.pow_succ]
  omega
theorem p10_le {a b:Nat} (h:a<=b):(10:Int)^a<=10^b:=by
 have:(10:Nat)^a<=10^b:=Nat.pow_le_pow_right (by decide) h
 exact_mod_cast this
theorem wl_set (z:Nat->Int) (n j:Nat) (l:Int):(wl z n).set j (.int .u64 l)=wl (fun i=>if i=j then l else z i) n:=by
 apply List.ext_getElem?
 intro i
 unfold wl
 rw [List.getElem?_set]
 by_cases hi:i<n
 ·by_cases e:j=i
  ·subst e;simp [hi]
  ·simp [hi,e,Ne.symm e]
 ·by_cases e:j=i
  ·subst e;simp [hi]
  ·simp [hi,e]
theorem wl_congr {x y:Nat->Int} (n:Nat) (h:∀ i,i<n->x i=y i):wl x n=wl y n:=by
 unfold wl
 exact List.map_congr_left fun i hi=>by rw [h i (by simpa using hi)]
theorem owns_form {w:World} {base n c:Nat} {ao:Option Addr} {xs:List Value} (h:w.ownsRow base 22 1 (.slice ao n c) n xs):∀ q,(Value.slice ao n c).ownBlock=some q->base<=q:=fun q hq=>(h.lt q hq).1
theorem owns_some {w:World} {base n c:Nat} {ao:Option Addr} {xs:List Value} (h:w.ownsRow base 22 1 (.slice ao n c) n xs) (hn:0<n):∃ g,ao=some ⟨g,0,none⟩/\base<=g:=by
 obtain ⟨g,cap,e,hb,_⟩:=h.form hn
 cases e
 exact ⟨g,rfl,hb⟩
theorem wl_at (z:Nat->Int) (n j:Nat) (h:j<n):(wl z n)[j]?=some (.int .u64 (z j)):=by unfold wl;simp [h]
def Row (base:Nat) (ao:Option Addr) (n c:Nat) (x:Nat->Int) (w:World):Prop :=
 w.ownsRow base 22 1 (.slice ao n c) n (wl x n)/\Words x/\(∀ i,n<=i->x i=0)/\sizeL x n=n/\base<=w.heap.size
theorem apn_trim {x z:Nat->Int} {n:Nat} {S b:Int} (hx:Words x) (hz:Words z) (ht:sizeL x n=n) (hS:1<=S) (hb:0<=b) (hv:val z n=val x n*S+b):sizeL z n=n:=by
 cases n with
 | zero=>rfl
 | succ m =>
  by_cases e:z m=0
  ·exfalso
   have h1:val z m<val x (m+1):=val_longer (x:=z) hz hx (Nat.lt_succ_self m) ht
   have h2:val z (m+1)=val z m:=by simp [val,e]
   have h3:=(val_bd hx (m+1)).1
   have h4:val x (m+1)*1<=val x (m+1)*S:=Int.mul_le_mul_of_nonneg_left hS h3
   omega
  ·simp [sizeL,e]
set_option maxRecDepth 20000 in
theorem appendPart_any (base:Nat) (a:Option Addr) (n c:Nat) (x:Nat->Int) (s:ByteArray) (w:World) (hn:n<100000) (hs:s.size<=19) (hd:digB s s.size=true) (h:Row base a n c x w) :
  Calls Tryz.prog 170 #[.slice a n c,.string s] w fun e w'=>∃ ao k cap z,e=.returned (.slice ao k cap)/\k<=n+1/\Row base ao k cap z w'/\val z k=val x n*10^s.size+numV s s.size/\Below base w w':=by
 obtain ⟨hown,hx,hx0,hxt,hbase⟩:=h
 have hdig:=digB_at s.size hd
 have hnv:=numV_bd s.size hd
 have hS19:(10:Int)^s.size<=10^19:=p10_le hs
 have HX:Hid (Words x):=hx
 have HX0:Hid (∀ i,n<=i->x i=0):=hx0
 have HXT:Hid (sizeL x n=n):=hxt
 have HNV:Hid (0<=numV s s.size/\numV s s.size<10^s.size):=hnv
 have HS19:Hid ((10:Int)^s.size<=10^19):=hS19
 have HOWN:Hid (w.ownsRow base 22 1 (.slice a n c) n (wl x n)):=hown
 have HD:Hid (digB s s.size=true):=hd
 clear hx hx0 hxt hnv hS19 hown hd
 go_enter Tryz.func170,Tryz.ntmps170
 go_wp2
 go_loop [5,6,7,12] (fun sc be u7 i=>∃ (k:Nat) (S b:Int),k<=s.size/\i=.int .i64 k/\sc=.int .u64 S/\be=.int .u64 b/\Hid (S=10^k/\b=numV s k)/\0<=b/\b<S/\S<=10000000000000000000) (fun _ _ _ i=>s.size-(intOf i).toNat)
 case atStart=>exact ⟨0,1,0,Nat.zero_le _,rfl,rfl,rfl,⟨by simp,rfl⟩,by decide,by decide,by decide⟩
 case round =>
  obtain ⟨k,S,b,hk,rfl,rfl,rfl,hSb,hb0,hbS,hS⟩:=hrel
  by_cases hlt:k<s.size
  ·have hki:(k:Int)<s.size:=by omega
   have hsb:=sb_lt hlt
   have hbd:=hdig k hlt
   have hS2:S<=1000000000000000000:=by
    have:=p10_le (show k<=18 by omega)
    rw [← hSb.out.1] at this
    exact this
   have HSB:Hid (S*10=10^(k+1)/\b*10+(sb s k-48)=numV s (k+1)):=by
    show _/\_
    obtain ⟨e1,e2⟩:=hSb.out
    exact ⟨by rw [e1,Int.pow_succ],by rw [e2];rfl⟩
   clear hdig hSb
   go_wp2
   go_round
   case rel=>exact ⟨k+1,S*10,b*10+(sb s k-48),by omega,by go_num,by go_num,by go_num,HSB.out,by omega,by omega,by omega⟩
   case measure=>simp [intOf];omega
  ·obtain rfl:k=s.size:=by omega
   clear hdig hlt
   clear HNV HS19 HD
   go_wp2
   go_loopw [6,8,9,28,33] (fun be u8 u9 i u33 wr=>∃ (j:Nat) (C:Int) (z:Nat->Int),j<=n/\i=.int .i64 j/\be=.int .u64 C/\(0<=C/\C<=18446744073709551615)/\wr.ownsRow base 22 1 (.slice a n c) n (wl z n)/\Words z/\Hid (val z n+C*18446744073709551616^j=val x j*S+b+(val x n-val x j))/\(∀ i,j<=i->z i=x i)/\Below base w wr) (fun _ _ _ i _ _=>n-(intOf i).toNat)
   case atStart=>exact ⟨0,b,x,Nat.zero_le _,rfl,rfl,by omega,HOWN.out,HX.out,by show _=_;simp [val];omega,fun _ _=>rfl,Below.refl _ _⟩
   case round =>
    obtain ⟨j,C,z,hj,rfl,rfl,hCb,hO,hzw,hv,hzx,hU⟩:=hrel
    by_cases hlt:j<n
    ·have hji:(j:Int)<n:=by omega
     obtain ⟨g,rfl,hbg⟩:=owns_some hO (by omega)
     have hcj:=(hO.cellAt j (by omega)).trans (wl_at z n j hlt)
     have hfj:=hO.frozenAt j
     have hst:=fun l=>(hO.stored j (.int .u64 l))
     have hma:=fun w=>mulAdd_any (z j) S 0 C w (hzw j) (by omega) (by decide) hCb
     have HST:Hid (∀ l,(wr.setCell ⟨g,j,none⟩ (.int .u64 l)).ownsRow base 22 1 (.slice (some ⟨g,0,none⟩) n c) n ((wl z n).set j (.int .u64 l))/\wr.grownBy (wr.setCell ⟨g,j,none⟩ (.int .u64 l)) (some g)):=hst
     have HU:Hid (Below base w wr):=hU
     have HZW:Hid (Words z):=hzw
     have HZX:Hid (∀ i,j<=i->z i=x i):=hzx
     clear hO hU hzw hzx hst
     go_wp2_with (go_at_call 198;refine (hma _).mono ?_;rintro e w1 ⟨l,hi,rfl,hlh,hlb,hhb,rfl⟩)
     go_roundw
     case rel =>
      refine ⟨j+1,hi,fun i=>if i=j then l else z i,by omega,by go_num,rfl,hhb,?_,upd_words HZW.out hlb,?_,?_,HU.out.grown (HST.out l).2 (Nat.le_trans hbase HU.out.size) (fun q hq=>by cases hq;exact hbg)⟩
      ·rw [← wl_set];exact (HST.out l).1
      ·show _=_
       rw [val_set z j l n (by omega)]
       have e1:=hv.out
       have e3:=HZX.out j (Nat.le_refl _)
       rw [e3] at hlh ⊢
       simp only [val]
       rw [Int.pow_succ]
       generalize (18446744073709551616:Int)^j=P at *
       have e2:l*P+hi*(P*18446744073709551616)=(x j*S+0+C)*P:=by rw [← hlh];grind
       grind
      ·intro i hi2
       exact (if_neg (show ¬ i=j by omega)).trans (HZX.out i (by omega))
     case measure=>simp [intOf];omega
    ·obtain rfl:j=n:=by omega
     have hv':val z j+C*18446744073709551616^j=val x j*S+b:=by have:=hv.out;omega
     have hz0:∀ i,j<=i->z i=0:=fun i hi=>(hzx i hi).trans (HX0.out i hi)
     by_cases hC:C=0
     ·subst hC
      have hv2:val z j=val x j*S+b:=by rw [← hv'];simp
      have HR:Hid (Row base a j c z wr):=⟨hO,hzw,hz0,apn_trim HX.out hzw HXT.out (by omega) hb0 hv2,Nat.le_trans hbase hU.size⟩
      have HV:Hid (val z j=val x j*S+b):=hv2
      have HU:Hid (Below base w wr):=hU
      clear hO hU hzw hzx hz0 hv hv' hv2
      go_wp2
      go_ret
      exact ⟨a,j,c,z,rfl,by omega,HR.out,by rw [HV.out,hSb.out.1,← hSb.out.2],HU.out⟩
     ·have hC0:0<C:=by omega
      obtain ⟨i0,hi,hz00,hz1,hz2⟩:=info_parts Tryz.info22
      have HOWN2:(wr.alloc (.cells #[.int .u64 C] 22)).ownsRow base 22 1 (.slice a j c) j (wl z j):=hO.alloc _
      have HNEWS:∀ (q:Nat) (u:Value),[Value.int .u64 C][q]?=some u->(wr.alloc (.cells #[.int .u64 C] 22)).cell? ((⟨wr.heap.size,0,none⟩:Addr).add q)=some u:=by
       intro q u hq
       match q,hq with
       | 0,hq=>simp at hq;subst hq;simp [Addr.add]
      have HONE:∀ u ∈ [Value.int .u64 C],u.oneCell'=true:=by
       intro u hu;simp at hu;subst hu;rfl
      have hbs:=Nat.le_trans hbase hU.size
      have HOF:Hid (∀ q,(Value.slice a j c).ownBlock=some q->base<=q):=owns_form hO
      have HU:Hid (Below base w wr):=hU
      have HZW:Hid (Words z):=hzw
      have HZ0:Hid (∀ i,j<=i->z i=0):=hz0
      have HV:Hid (val z j+C*18446744073709551616^j=val x j*S+b):=hv'
      clear hO hU hzw hzx hz0 hv hv'
      go_wp2_with (first | (at_builtin;refine wpList_append_lies _ rfl (.tmp 46) (.tmp 48) 48 rfl base 22 i0 (.int .u64 0) 1 8 Tryz.underlying48 hi hz00 hz1 hz2 rfl (by decide) (.slice a j c) j (wl z j) rfl HOWN2 ⟨wr.heap.size,0,none⟩ 1 1 [Value.int .u64 C] rfl rfl HNEWS HONE (by omega) (by unfold maxLen;omega) (by omega) (by simp;omega) (wr.heap.size+1) (by simp) ?_;intro g cap w1 hown1 hgrow hat hlt1;clear HOWN2 HNEWS HONE))
      have HB1:Below base wr w1:=((Below.refl _ wr).alloc hbs _).grown hgrow (by simp;omega) HOF.out
      have e1:wl z j++[Value.int .u64 C]=wl (fun i=>if i=j then C else z i) (j+1):=by
       rw [← wl_succ,if_pos rfl,wl_congr (y:=fun i=>if i=j then C else z i) j fun i hi=>(if_neg (show ¬ i=j by omega)).symm]
      rw [e1] at hown1
      have HR:Hid (Row base (some ⟨g,0,none⟩) (j+1) cap (fun i=>if i=j then C else z i) w1):=by
       refine ⟨hown1,upd_words HZW.out hCb,fun i hi=>(if_neg (show ¬ i=j by omega)).trans (HZ0.out i (by omega)),?_,Nat.le_trans hbs HB1.size⟩
       simp [sizeL];omega
      have HV2:Hid (val (fun i=>if i=j then C else z i) (j+1)=val x j*S+b):=by
       show _=_
       rw [← HV.out]
       simp only [val,if_pos]
       rw [val_congr (y:=z) j fun i hi=>if_neg (show ¬ i=j by omega)]
      have HB2:Hid (Below base w w1):=HU.out.trans HB1
      clear hown1 hgrow HB1 e1
      go_wp2
      go_ret
      exact ⟨_,j+1,cap,_,rfl,by omega,HR.out,by rw [HV2.out,hSb.out.1,← hSb.out.2],HB2.out⟩
end
theorem digB_of {s:ByteArray}:∀ (n:Nat),(∀ k,k<n->48<=sb s k/\sb s k<=57)->digB s n=true
 | 0,_=>rfl
 | n+1,h=>by
  unfold digB
  rw [digB_of n fun k hk=>h k (by omega)]
  simp;exact h n (by omega)
theorem numV_app {s u:ByteArray} (p:Nat):∀ L,(∀ i,i<L->sb u i=sb s (p+i))->numV s (p+L)=numV s p*10^L+numV u L
 | 0,_=>by simp [numV]
 | L+1,h=>by
  have e:=numV_app p L fun i hi=>h i (by omega)
  rw [← Nat.add_assoc]
  simp only [numV]
  rw [e,h L (by omega),Int.pow_succ]
  grind
theorem ext_size {u:ByteArray} {a b:Nat} (hb:b<=u.size):(u.extract a b).size=b-a:=by
 rw [ByteArray.size_extract];omega
theorem ext_sb {u:ByteArray} {a b i:Nat} (hb:b<=u.size) (hi:a+i<b):sb (u.extract a b) i=sb u (a+i):=by
 unfold sb
 rw [dif_pos (show i<(u.extract a b).size by rw [ext_size hb];omega),dif_pos (show a+i<u.size by omega)]
 simp [ByteArray.getElem_extract]
theorem nread_ok (s:ByteArray) (w:World) (hd:isDigB s=true) (hl:s.size<=12000) :
  Calls Tryz.prog 127 #[.string s] w fun e w'=>∃ o k cap z,e=.returned (.tuple #[.slice o k cap,.int .i64 0])/\k<=12000/\Num w' o k cap z/\val z k=numV s s.size/\sizeL z k=k/\Below w.heap.size w w':=by
 have ha:=allDigits_any s w (by omega)
 rw [hd] at ha
 have hl':(s.size:Int)<=12000:=by omega
 have hdig:∀ k,k<s.size->48<=sb s k/\sb s k<=57:=by
  unfold isDigB at hd;simp at hd;exact digB_at s.size hd.1
 have HDG:Hid (∀ k,k<s.size->48<=sb s k/\sb s k<=57):=hdig
 clear hd hdig
 go_enter Tryz.func127,Tryz.ntmps127
 go_wp2_with (go_at_call 169;refine ha.mono ?_;rintro e w' ⟨rfl,rfl⟩)
 clear ha
 go_loopw [0,4,5] (fun t0 t4 u5 wr=>∃ (p n c:Nat) (u:ByteArray) (ao:Option Addr) (z:Nat->Int),p<=s.size/\t0=.string u/\t4=.slice ao n c/\n<=p/\u.size=s.size-p/\(∀ i,i<u.size->sb u i=sb s (p+i))/\Row w.heap.size ao n c z wr/\val z n=numV s p/\Below w.heap.size w wr) (fun t0 _ _ _=>match t0 with | .string u=>u.size | _=>0)
 case atStart=>exact ⟨0,0,0,s,none,fun _=>0,Nat.zero_le _,rfl,rfl,Nat.le_refl _,rfl,fun i _=>by rw [Nat.zero_add],⟨World.ownsRow_nil _ _ _ _,fun _=>(by decide:(0:Int)<=0/\(0:Int)<=18446744073709551615),fun _ _=>rfl,rfl,Nat.le_refl _⟩,rfl,Below.refl _ _⟩
 case round =>
  obtain ⟨p,n,c,u,ao,z,hp,rfl,rfl,hnp,hus,hub,hR,hv,hB⟩:=hrel
  by_cases h0:u.size=0
  ·have e1:p=s.size:=by omega
   have hu0:(u.size:Int)=0:=by omega
   have HN:Hid (Num wr ao n c z):=num_of_owns' hR.2.1 hR.2.2.1 hR.1
   have HV:Hid (val z n=numV s s.size):=by show _=_;rw [hv,e1]
   have HT:Hid (sizeL z n=n):=hR.2.2.2.1
   have HB:Hid (Below w.heap.size w wr):=hB
   clear hR hv hB hub
   go_wp2
   go_ret2
   exact ⟨ao,n,c,z,rfl,by omega,HN.out,HV.out,HT.out,HB.out⟩
  ·have hu0:(0:Int)<u.size:=by omega
   obtain ⟨L,hL⟩:∃ L:Nat,(if u.size<=19 then u.size else 19)=L:=⟨_,rfl⟩
   have hL1:0<L/\L<=19/\L<=u.size:=by split at hL <;> omega
   have hmin:min (u.size:Int) 19=L:=by split at hL <;> omega
   have hLu:(L:Int)<=u.size:=by omega
   have es:(u.extract 0 L).size=L:=by rw [ext_size hL1.2.2];omega
   have es2:(u.extract L u.size).size=u.size-L:=ext_size (Nat.le_refl _)
   have eb:∀ i,i<L->sb (u.extract 0 L) i=sb s (p+i):=fun i hi=>by rw [ext_sb hL1.2.2 (by omega),Nat.zero_add,hub i (by omega)]
   have eb2:Hid (∀ i,i<(u.extract L u.size).size->sb (u.extract L u.size) i=sb s (p+L+i)):=fun i hi=>by
    rw [es2] at hi
    rw [ext_sb (Nat.le_refl _) (by omega),hub (L+i) (by omega),Nat.add_assoc]
   have hap:=appendPart_any w.heap.size ao n c z (u.extract 0 L) wr (by omega) (by omega) (by rw [es];exact digB_of L fun k hk=>by rw [eb k hk];exact HDG.out (p+k) (by omega)) hR
   rw [es] at hap
   have HV:Hid (val z n*10^L+numV (u.extract 0 L) L=numV s (p+L)):=by show _=_;rw [numV_app p L eb,hv]
   have HB:Hid (Below w.heap.size w wr):=hB
   have HE2:Hid ((u.extract L u.size).size=s.size-(p+L)):=by show _=_;rw [es2];omega
   have HE3:Hid ((u.extract L u.size).size<u.size):=by show _<_;rw [es2];omega
   have hpl:p+L<=s.size:=by omega
   have hnk:n+1<=p+L:=by omega
   clear hR hv hB hub es es2 eb hL hus
   go_wp2_with (go_at_call 170;refine hap.mono ?_;rintro e w1 ⟨o1,k1,p1,z1,rfl,hk1,hR1,hv1,hB1⟩;clear hap)
   go_roundw
   case rel=>exact ⟨p+L,k1,p1,_,o1,z1,hpl,rfl,rfl,by omega,HE2.out,eb2.out,hR1,by rw [hv1,HV.out],HB.out.trans hB1⟩
   case measure=>exact HE3.out
theorem radd_tr (a a':Option Addr) (n c n' c':Nat) (x y:Nat->Int) (w:World) (hn:n<4294967290) (hn':n'<4294967290) (h:Num w a n c x) (h':Num w a' n' c' y) :
  Calls Tryz.prog 48 #[.slice a n c,.slice a' n' c'] w fun e w'=>∃ g k cap,e=.returned (.slice (some ⟨g,0,none⟩) k cap)/\k<=max n n'+1/\Num w' (some ⟨g,0,none⟩) k cap (sumW x y)/\Below w.heap.size w w'/\sizeL (sumW x y) k=k:=by
 have hx:=h.2.2.1
 have hy:=h'.2.2.1
 have zx:=h.2.2.2.1
 have zy:=h'.2.2.2.1
 obtain ⟨M,hM⟩:∃ M,max n n'+1=M:=⟨_,rfl⟩
 have hMi:max (n:Int) n'+1=(M:Int):=by omega
 have hMb:M<4294967292:=by omega
 have hmk:=fun w=>make_any (max (n:Int) n'+1) M hMi (by omega) w
 have hfin:∀ (ss:Array Value),ss.size=M->(∀ j h,ss[j]'h=Value.int .u64 (sumW x y j))->Num (w.alloc (.cells ss 22)) (some ⟨w.heap.size,0,none⟩) M M (sumW x y):=fun ss h1 h2=>num_of_block (by omega) (sumW_words x y) (fun i hi=>sumW_zero (n:=max n n') hx hy (fun i hi=>zx i (by omega)) (fun i hi=>zy i (by omega)) i (by omega)) h1 (fun j hj=>by rw [h2 j hj])
 have hw1:=fun (i:Nat) (ss:Array Value)=>word_any a n c i x (w.alloc (.cells ss 22)) (h.next (below1 w _))
 have hw2:=fun (i:Nat) (ss:Array Value)=>word_any a' n' c' i y (w.alloc (.cells ss 22)) (h'.next (below1 w _))
 have HM:Hid (max n n'+1=M):=hM
 have HZ:Hid ((arrOf (fun _=>0) M).size=M/\∀ j h,(arrOf (fun _=>0) M)[j]'h=Value.int .u64 0):=⟨arrOf_size _ _,fun j h=>arrOf_get _ _ _ _⟩
 clear h h' zx zy hM hMi
 generalize arrOf (fun _=>0) M=zz at *
 go_enter Tryz.func48,Tryz.ntmps48
 go_wp2
 go_loopw [6,7,17,20] (fun c u7 i u20 wr=>∃ (k:Nat) (ss:Array Value),k<=M/\i=.int .i64 k/\c=.int .u64 (carryW x y k)/\ss.size=M/\(∀ j h,ss[j]'h=Value.int .u64 (if j<k then sumW x y j else 0))/\wr=w.alloc (.cells ss 22)) (fun _ _ i _ _=>M-(intOf i).toNat)
 case atStart=>exact ⟨0,zz,Nat.zero_le _,rfl,rfl,HZ.out.1,fun j h=>by rw [HZ.out.2 j h];simp,rfl⟩
 case round =>
  obtain ⟨k,ss,hk,rfl,rfl,hsz,hss,rfl⟩:=hrel
  have hcar:=carryW_01 hx hy k
  by_cases h8:k<M
  ·have h8i:(k:Int)<M:=by omega
   have h8s:k<ss.size:=by omega
   have bx:=hx k
   have b_y:=hy k
   have hsk:ss[k]?=some (.int .u64 0):=by rw [Array.getElem?_eq_getElem h8s,hss k h8s,if_neg (by omega)]
   have hadd:=fun w=>add64 (x k) (y k) (carryW x y k) bx.1 b_y.1 hcar.1 hcar.2 w
   have hwa:=hw1 k ss
   have hwb:=hw2 k ss
   have HR:Hid (∀ (i:Nat) (h:i<(ss.setIfInBounds k (.int .u64 (sumW x y k))).size),(ss.setIfInBounds k (.int .u64 (sumW x y k)))[i]'h=Value.int .u64 (if i<k+1 then sumW x y i else 0)):=set_next hss
   clear hss hw1 hw2 hfin hmk hx hy
   go_wp2_with (first | (go_at_call_of 46 (Value.slice a n c);refine hwa.mono ?_;rintro e w' ⟨rfl,rfl⟩) | (go_at_call_of 46 (Value.slice a' n' c');refine hwb.mono ?_;rintro e w' ⟨rfl,rfl⟩))
   go_roundw
   case rel=>exact ⟨k+1,ss.setIfInBounds k (.int .u64 (sumW x y k)),by omega,by go_num,rfl,by simp [hsz],HR.out,rfl⟩
   case measure=>simp [intOf];omega
  ·obtain rfl:k=M:=by omega
   have hss':∀ j h,ss[j]'h=Value.int .u64 (sumW x y j):=by
    intro j h;rw [hss j h,if_pos (by omega)]
   have hT:=trim_any _ _ _ _ _ (by omega) (hfin ss hsz hss')
   have hle:=sizeL_le (sumW x y) k
   clear hss hss' hw1 hw2 hfin hmk hx hy
   go_wp2_with (go_at_call 44;refine hT.mono ?_;rintro e w1 ⟨g,cap,rfl,hN,hB⟩)
   go_ret
   exact ⟨g,_,cap,rfl,Nat.le_trans hle (Nat.le_of_eq HM.out.symm),hN,(below1 w _).trans (hB.mono (by simp)),sizeL_sizeL _ _⟩
theorem radd_vt (a a':Option Addr) (n c n' c':Nat) (x y:Nat->Int) (w:World) (hn:n<4000000000) (hn':n'<4000000000) (h:Num w a n c x) (h':Num w a' n' c' y) :
  Calls Tryz.prog 48 #[.slice a n c,.slice a' n' c'] w fun e w'=>∃ g k cap z,e=.returned (.slice (some ⟨g,0,none⟩) k cap)/\k<=max n n'+1/\Num w' (some ⟨g,0,none⟩) k cap z/\val z k=val x n+val y n'/\Below w.heap.size w w'/\sizeL z k=k:=by
 refine (radd_tr a a' n c n' c' x y w (by omega) (by omega) h h').mono fun e w' ⟨g,k,cap,e1,hk,hN,hB,ht⟩=>⟨g,k,cap,_,e1,hk,hN,?_,hB,ht⟩
 have e:=sum_val (x:=x) (y:=y) (max n n'+1)
 rw [sum_end h.2.2.1 h'.2.2.1 h.2.2.2.1 h'.2.2.2.1 (by omega) (by omega),val_more h.2.2.2.1 _ (by omega),val_more h'.2.2.2.1 _ (by omega),val_more hN.2.2.2.1 _ hk] at e
 omega
section
theorem num_empty (w:World):Num (w.alloc (.cells #[] 22)) (some ⟨w.heap.size,0,none⟩) 0 0 (fun _=>0) :=
 ⟨Nat.le_refl _,by unfold maxLen;omega,fun _=>(by decide:(0:Int)<=0/\(0:Int)<=18446744073709551615),fun _ _=>rfl,Or.inr ⟨_,0,rfl,by simp,fun i hi=>by omega⟩⟩
set_option maxRecDepth 20000 in
theorem number_any (s:ByteArray) (w:World) (hd:isDigB s=true) (hl:s.size<=12000) :
  Calls Tryz.prog 23 #[.string s] w fun e w'=>∃ g k cap z,e=.returned (.slice (some ⟨g,0,none⟩) k cap)/\k<=36000/\Num w' (some ⟨g,0,none⟩) k cap z/\val z k=numV s s.size/\Below w.heap.size w w'/\sizeL z k=k:=by
 have hl':(s.size:Int)<=12000:=by omega
 have hdig:∀ k,k<s.size->48<=sb s k/\sb s k<=57:=by
  unfold isDigB at hd;simp at hd;exact digB_at s.size hd.1
 have HDG:Hid (∀ k,k<s.size->48<=sb s k/\sb s k<=57):=hdig
 have HN0:=num_empty w
 have HB0:=below1 w (.cells #[] 22)
 clear hd hdig
 go_enter Tryz.func23,Tryz.ntmps23
 go_wp2
 generalize w.alloc (.cells #[] 22)=wA at *
 go_loopw [3,4,5,6] (fun t3 t4 u5 u6 wr=>∃ (p n c g:Nat) (z:Nat->Int),p<=s.size/\t3=.slice (some ⟨g,0,none⟩) n c/\t4=.int .i64 p/\n<=3*p/\Num wr (some ⟨g,0,none⟩) n c z/\val z n=numV s p/\Hid (sizeL z n=n)/\Below w.heap.size w wr) (fun _ i _ _ _=>s.size-(intOf i).toNat)
 case atStart=>exact ⟨0,0,0,_,fun _=>0,Nat.zero_le _,rfl,rfl,Nat.le_refl _,HN0,rfl,(show sizeL _ 0=0 from rfl),HB0⟩
 case round =>
  clear HN0 HB0
  obtain ⟨p,n,c,g,z,hp,rfl,rfl,hnp,hN,hv,hts,hB⟩:=hrel
  by_cases hlt:p<s.size
  ·have hpi:(p:Int)<s.size:=by omega
   have HN:Hid (Num wr (some ⟨g,0,none⟩) n c z):=hN
   have HV:Hid (val z n=numV s p):=hv
   have HB:Hid (Below w.heap.size w wr):=hB
   clear hN hv hB
   go_wp2
   go_loop [4,5,6] (fun t4 t5 t6=>∃ (q:Nat) (S b:Int),p+q<=s.size/\q<=18/\t4=.int .i64 ((p+q:Nat):Int)/\t5=.int .u64 b/\t6=.int .u64 S/\Hid (S=10^q/\numV s (p+q)=numV s p*S+b)/\0<=b/\b<S) (fun i _ _=>s.size-(intOf i).toNat)
   case atStart=>exact ⟨0,1,0,by omega,by omega,rfl,rfl,rfl,⟨by simp,by simp⟩,by decide,by decide⟩
   case round =>
    obtain ⟨q,S,b,hpq,hq,rfl,rfl,rfl,hSb,hb0,hbS⟩:=hrel
    have hS18:S<=1000000000000000000:=by
     have:=p10_le hq
     rw [← hSb.out.1] at this
     exact this
    by_cases hgo:p+q<s.size/\q<18
    ·obtain ⟨hgo1,hgo2⟩:=hgo
     have hki:((p+q:Nat):Int)<s.size:=by omega
     have hS17:S<=100000000000000000:=by
      have:=p10_le (show q<=17 by omega)
      rw [← hSb.out.1] at this
      exact this
     have hsb:=sb_lt hgo1
     have hbd:=HDG.out (p+q) hgo1
     have HSB:Hid (10*S=10^(q+1)/\numV s (p+(q+1))=numV s p*(10*S)+(10*b+(sb s (p+q)-48))):=by
      show _/\_
      obtain ⟨e1,e2⟩:=hSb.out
      refine ⟨by rw [e1,Int.pow_succ];omega,?_⟩
      rw [← Nat.add_assoc]
      simp only [numV]
      rw [e2];grind
     have HPQ:Hid ((p+q:Nat)+1=p+(q+1)):=rfl
     clear hSb
     generalize p+q=r at *
     go_wp2
     go_round
     case rel=>exact ⟨q+1,10*S,10*b+(sb s r-48),by have:=HPQ.out;omega,by omega,by rw [← HPQ.out];go_num,by go_num,by go_num,HSB.out,by omega,by omega⟩
     case measure=>simp [intOf];omega
    ·have hstop:((p+q:Nat):Int)<s.size->S=1000000000000000000:=fun h=>by
      have:q=18:=by omega
      rw [hSb.out.1,this];rfl
     have hq0:0<q:=by omega
     have hN1:=num_one wr S (by omega)
     have hT:=times_raw g 0 n c wr.heap.size 0 1 1 z (oneW S) (wr.alloc (.cells #[.int .u64 S] 22)) (by omega) (by omega) (HN.out.next (below1 wr _)) hN1
     have HB1:Hid (Below w.heap.size w (wr.alloc (.cells #[.int .u64 S] 22))):=HB.out.trans ((below1 wr _).mono HB.out.size)
     have HSV:Hid (numV s (p+q)=val z n*S+b):=by show _=_;rw [hSb.out.2,HV.out]
     have HQ:Hid (0<q/\q<=18):=⟨hq0,hq⟩
     have hpr:p<p+q:=by omega
     have hnr:n+3<=3*(p+q):=by omega
     have hA:=fun (w1:World) (g1 k1 c1:Nat) (z1:Nat->Int) (hk1:k1<=n+1+1) (h1:Num w1 (some ⟨g1,0,none⟩) k1 c1 z1)=>radd_vt (some ⟨g1,0,none⟩) (some ⟨w1.heap.size,0,none⟩) k1 c1 1 1 z1 (oneW b) (w1.alloc (.cells #[.int .u64 b] 22)) (by omega) (by omega) (h1.next (below1 w1 _)) (num_one w1 b (by omega))
     clear hSb hgo hN1 hq hq0
     generalize p+q=r at *
     by_cases hrs:r<s.size
     ·have hri:(r:Int)<s.size:=by omega
      have hS:=hstop hri
      subst hS
      go_wp2_with (first | (go_at_call 24;refine hT.mono ?_;rintro e w1 ⟨g1,k1,c1,z1,rfl,hk1,hN1,hv1,hB1⟩;clear hT;have hA1:=hA w1 g1 k1 c1 z1 (by omega) hN1;clear hA) | (go_at_call 48;refine hA1.mono ?_;rintro e w2 ⟨g2,k2,c2,z2,rfl,hk2,hN2,hv2,hB2,ht2⟩;clear hA1;have HT2:Hid (sizeL z2 k2=k2):=ht2;clear ht2))
      go_roundw
      case rel =>
       refine ⟨r,k2,c2,g2,z2,hpq,rfl,rfl,by omega,hN2,?_,HT2,?_⟩
       ·rw [hv2,HSV.out,val_one _ 1 (by omega),← val_more hN1.2.2.2.1 (n+1+1) hk1,hv1,val_one _ 1 (by omega)]
       ·have b1:=HB1.out.trans (hB1.mono HB1.out.size)
        have b2:=b1.trans ((below1 w1 (.cells #[.int .u64 b] 22)).mono b1.size)
        exact b2.trans (hB2.mono b2.size)
      case measure=>simp [intOf];omega
     ·obtain rfl:r=s.size:=by omega
      clear hstop
      go_wp2_with (first | (go_at_call 24;refine hT.mono ?_;rintro e w1 ⟨g1,k1,c1,z1,rfl,hk1,hN1,hv1,hB1⟩;clear hT;have hA1:=hA w1 g1 k1 c1 z1 (by omega) hN1;clear hA) | (go_at_call 48;refine hA1.mono ?_;rintro e w2 ⟨g2,k2,c2,z2,rfl,hk2,hN2,hv2,hB2,ht2⟩;clear hA1;have HT2:Hid (sizeL z2 k2=k2):=ht2;clear ht2))
      go_roundw
      case rel =>
       refine ⟨s.size,k2,c2,g2,z2,Nat.le_refl _,rfl,rfl,by omega,hN2,?_,HT2,?_⟩
       ·rw [hv2,HSV.out,val_one _ 1 (by omega),← val_more hN1.2.2.2.1 (n+1+1) hk1,hv1,val_one _ 1 (by omega)]
       ·have b1:=HB1.out.trans (hB1.mono HB1.out.size)
        have b2:=b1.trans ((below1 w1 (.cells #[.int .u64 b] 22)).mono b1.size)
        exact b2.trans (hB2.mono b2.size)
      case measure=>simp [intOf];omega
  ·obtain rfl:p=s.size:=by omega
   have HN:Hid (Num wr (some ⟨g,0,none⟩) n c z):=hN
   have HV:Hid (val z n=numV s s.size):=hv
   have HB:Hid (Below w.heap.size w wr):=hB
   clear hN hv hB
   go_wp2
   go_ret
   exact ⟨g,n,c,z,rfl,by omega,HN.out,HV.out,HB.out,hts.out⟩
end
end Go.Proofs.YtpabnhlfbjkmaaaGreatDoor
