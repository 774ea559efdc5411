/-
  Texts that the proof leans on.
-/
import Derived.Test.YtahfkpjhlbiamaaGreatDoorR19
import Derived.Test.YtahfkpjhlbiamaaGreatDoorR1
set_option maxHeartbeats 8000000
set_option linter.unusedVariables false
set_option linter.unusedSectionVars false
set_option linter.unusedSimpArgs false
set_option maxRecDepth 20000
namespace Go.Proofs.YtahfkpjhlbiamaaGreatDoor
open Go.RowKit
section
attribute [local irreducible] W4 NT NV
section
variable (n:Int)(B:Nat)(f e Fr En S:Nat)(l m pay wd:Int)(nm:ByteArray)(w:World)(hf:2<=f/\f<=240)(he:e<=15)(hEn:En<9223372036854775808)(hS9:S<9223372036854775808)
 (c24:∀ w,CB 12 #[.int .i64 n,A4 B] w (.bool true))
 (c25:∀ w,CB 20 #[.int .i64 n] w (.tuple #[.agg #[.int .i64 n,.string nm,.int .i64 2,.int .i64 wd,.int .i64 ((f:Int)+1),.int .i64 e,.int .i64 l,.int .i64 m,.int .i64 pay,.bool false],.int .i64 0]))
 (c0:∀ w,CE 60 #[A4 B,.int .i64 0,.int .i64 f] w (NT 19 Fr))
 (c1:∀ w,CE 60 #[A4 B,.int .i64 f,.int .i64 e] w (NT 19 En))
 (c26:∀ w,CE 60 #[A4 B,.int .i64 ((f:Int)+e),.int .i64 1] w (NT 19 S))
include hf he hEn hS9 c24 c25 c0 c1 c26
theorem zCn (hE:((En:Int)==2^e-1)=false)(h0:((En:Int)==0)=false)(hl:-1000000<=l/\l<=0)(hEb:(En:Int)<=32768)(Pw:Nat)
 (c30:∀ w,CE 64 #[.int .u64 2,.int .i64 f] w (NV 50000 Pw)) :
  CB 28 #[.int .i64 n,A4 B] w (.tuple #[.agg #[.int .i64 1,.bool ((S:Int)==1),.bool false,.int .i64 (l-1+En),.int .u64 (W4 (Fr+Pw) 0),.int .u64 (W4 (Fr+Pw) 1),.int .u64 (W4 (Fr+Pw) 2),.int .u64 (W4 (Fr+Pw) 3)],.int .i64 0]):=by
 go_enter Tryz.func28,Tryz.ntmps28
 go_wp2_with (first
  | (go_at_call 12;refine wk w (c24 _) ?_;intro w1 hb1 _ _ _ _ hA1 _;obtain ⟨_,_⟩:=zf hb1 (w.heap.size+1);clear hb1)
  | (go_at_call 20;refine wk w (c25 _) ?_;intro w2 hb2 _ _ _ _ hA2 _;obtain ⟨_,_⟩:=zf hb2 (w.heap.size+1);clear hb2))
 have k0:w2.cell? ⟨w.heap.size,0,none⟩=some (.int .u64 (W4 B 0)):=(by go_simp)
 have k1:w2.cell? ⟨w.heap.size,1,none⟩=some (.int .u64 (W4 B 1)):=(by go_simp)
 have k2:w2.cell? ⟨w.heap.size,2,none⟩=some (.int .u64 (W4 B 2)):=(by go_simp)
 have k3:w2.cell? ⟨w.heap.size,3,none⟩=some (.int .u64 (W4 B 3)):=(by go_simp)
 refine reg5 (gb:=w.heap.size) (gi:=w2.heap.size) (f:=f) (e:=e) (B:=B) c0 c1 hEn rfl rfl rfl rfl (by simp;omega) (by simp) (fun i hi=>?_) (by go_simp) ?_
 ·have:i=0∨i=1∨i=2∨i=3:=by omega
  rcases this with rfl|rfl|rfl|rfl<;>go_simp
 intro a w3 v hv h9 h10 hsz hdf hF hb3
 have ha:=zBl zRg 11 rfl hsz hdf hF
 rw [ha]
 simp only [zRg,List.foldl_cons,List.foldl_nil,Act.put,List.setIfInBounds_toArray,List.set_cons_succ,List.set_cons_zero,h9,h10]
 generalize slot a 25=s25
 generalize slot a 26=s26
 generalize slot a 27=s27
 generalize slot a 28=s28
 generalize slot a 29=s29
 generalize slot a 30=s30
 generalize slot a 31=s31
 generalize slot a 32=s32
 generalize slot a 33=s33
 clear ha hF hsz hdf h9 h10 a
 obtain ⟨_,_,_,_,hA3,_⟩:=wz w hb3;obtain ⟨_,_,_,_⟩:=zg hb3 (w.heap.size+1) w2.heap.size;clear hb3
 obtain ⟨gv,kv,cv,rfl,hkv,hkz⟩:=hv.zero
 have hp:=zUq he
 have hE0:(0:Int)<=En:=by omega
 clear hkz hkv k0 k1 k2 k3 c0 c1
 have hsm:=zAa
 go_wp2_with (first
  | (go_at_call 60;refine (c26 _).mono ?_;rintro x w4 ⟨v4,rfl,hn4,hb4⟩;replace hv:=hv.next hb4;obtain ⟨_,_,_,_,hA4,_⟩:=wz w hb4;obtain ⟨_,_,_,_⟩:=zg hb4 (w.heap.size+1) w2.heap.size;clear hb4)
  | (go_at_call 61;refine (zLd hn4.nv (by decide) hS9).mono ?_;rintro x w5 ⟨rfl,rfl⟩))
 go_region_with (first
  | (go_at_call 64;refine (c30 _).mono ?_;rintro x w6 ⟨v6,rfl,hn6,hb6⟩;replace hv:=hv.next (zMe bgo hb6);obtain ⟨_,_,_,_,hA6,_⟩:=wz w hb6;obtain ⟨_,_,_,_,_,_⟩:=zh hb6 (w.heap.size+1) w2.heap.size w5.heap.size;clear hb6)
  | (go_at_call 63;refine (zJp (by decide) (by decide) hv.nv hn6).mono ?_;rintro x w7 ⟨v7,rfl,hn7,hb7⟩;obtain ⟨_,_,_,_,hA7,_⟩:=wz w hb7;obtain ⟨_,_,_,_,_,_⟩:=zh hb7 (w.heap.size+1) w2.heap.size w5.heap.size;clear hb7)
  | (go_at_call 62;refine wk w (zDc hn7) ?_;intro w9 hb9 _ _ _ _ hA9 _;obtain ⟨_,_,_,_,_,_⟩:=zh hb9 (w.heap.size+1) w2.heap.size w5.heap.size;clear hb9))
 all_goals
  go_wp2
  exact bodyPost_ret (v:=.tuple #[.agg #[.int .i64 1,.bool ((S:Int)==1),.bool false,.int .i64 (l-1+En),.int .u64 (W4 (Fr+Pw) 0),.int .u64 (W4 (Fr+Pw) 1),.int .u64 (W4 (Fr+Pw) 2),.int .u64 (W4 (Fr+Pw) 3)],.int .i64 0]) (by simp only [results,Tryz.results28];go_simp) rfl ⟨rfl,bgo⟩
end
theorem zO6 (f:Nat)(w:World)(hf:f<=12000):CE 64 #[.int .u64 2,.int .i64 f] w (NV 50000 (2^f)):=by
 refine (zOq 2 f w (by decide) (by omega)).mono ?_
 rintro x w' ⟨g,k,cap,z,rfl,hk,hN,hv,hb⟩
 refine ⟨_,rfl,?_,hb⟩
 unfold NV
 exact ⟨g,k,cap,z,rfl,by omega,hN,by rw [hv];simp⟩
theorem zN3 {n:Int}(h:zYk n):zCw n=n/\zZb n=false:=by
 rcases zMf h with rfl|rfl|rfl|rfl|rfl|rfl<;>exact ⟨by decide,by decide⟩
theorem zSs (n:Int)(B:Nat)(w:World)(hB:B<2^256)(h:zQd n B) :
  CB 28 #[.int .i64 n,A4 B] w (.tuple #[(unp (fN n) (eN n) (zZa n) B).v,.int .i64 0]):=by
 have hF:=zYr h.1
 obtain ⟨hok,hb2,hpr,hex,hwd,hpy⟩:=zNe h.1
 obtain ⟨hnum,hden⟩:=zN3 h.1
 have c24:=fun w=>zBj n B hB w
 rw [decide_eq_true h] at c24
 have c25:=fun w=>zPl n w
 rw [show zZc n=0 from if_pos hok,hnum,hb2,hpr,hex,hden] at c25
 have hf:2<=fN n/\fN n<=240:=⟨hF.f2,hF.f240⟩
 have he:=hF.e15
 have hfe:=hF.fe
 have hp:=zE1 hF.e2 hF.e15
 have hpc:((2:Int)^eN n)=((2^eN n:Nat):Int):=by simp
 have hEl:B/2^fN n%2^eN n<2^eN n:=Nat.mod_lt _ (Nat.two_pow_pos _)
 have c0:=fun w=>zKe B 0 (fN n) w hB (by decide) (by omega)
 rw [show ((0:Nat):Int)=0 from rfl,Nat.pow_zero,Nat.div_one] at c0
 have c1:=fun w=>zKe B (fN n) (eN n) w hB (by omega) (by omega)
 have c26:=fun w=>zKe B (fN n+eN n) 1 w hB (by omega) (by omega)
 rw [Int.natCast_add,show ((1:Nat):Int)=1 from rfl,Nat.pow_one] at c26
 have hS9:B/2^(fN n+eN n)%2<9223372036854775808:=by omega
 have hEn:B/2^fN n%2^eN n<9223372036854775808:=by rw [hpc] at hp;omega
 unfold unp
 by_cases h1:B/2^fN n%2^eN n=2^eN n-1
 ·rw [if_pos h1]
  have hE:(((B/2^fN n%2^eN n:Nat):Int)==2^eN n-1)=true:=by
   rw [hpc] at hp ⊢;rw [h1];simp;omega
  unfold spc
  by_cases h2:B%2^fN n=0
  ·rw [if_pos h2]
   have:=zBp n B (fN n) (eN n) _ _ _ _ _ _ _ _ w hf he hEn hS9 c24 c25 c0 c1 c26 hE h2
   have e:(Dat.mk 2 (sgB (fN n) (eN n) B) false 0 0).v=.agg #[.int .i64 2,.bool (((B/2^(fN n+eN n)%2:Nat):Int)==1),.bool false,.int .i64 0,.int .u64 0,.int .u64 0,.int .u64 0,.int .u64 0]:=by
    unfold Dat.v DV sgB;simp only [zNa]
   rw [e];exact this
  ·rw [if_neg h2]
   have c26b:=fun w=>zKe B (fN n-1) 1 w hB (by omega) (by omega)
   rw [show ((fN n-1:Nat):Int)=(fN n:Int)-1 by omega,show ((1:Nat):Int)=1 from rfl,Nat.pow_one] at c26b
   have c26c:=fun w=>zKe B 0 (fN n-1) w hB (by omega) (by omega)
   rw [show ((fN n-1:Nat):Int)=(fN n:Int)-1 by omega,show ((0:Nat):Int)=0 from rfl,Nat.pow_zero,Nat.div_one] at c26c
   have:=zAp n B (fN n) (eN n) _ _ _ _ _ _ _ _ w hf he hEn hS9 c24 c25 c0 c1 c26 hE h2 _ _ (by omega) c26b c26c
   have hm:B%2^fN n=B%2^(fN n-1)+2^(fN n-1)*(B/2^(fN n-1)%2):=by
    have:2^fN n=2^(fN n-1)*2:=by rw [← Nat.pow_succ];congr 1;omega
    rw [this];exact Nat.mod_mul
   have hpl:B%2^(fN n-1)<2^(fN n-1):=Nat.mod_lt _ (Nat.two_pow_pos _)
   have e:(if B%2^fN n<2^(fN n-1) then (Dat.mk 3 (sgB (fN n) (eN n) B) true 0 (B%2^fN n)) else ⟨3,sgB (fN n) (eN n) B,false,0,B%2^fN n-2^(fN n-1)⟩)=⟨3,sgB (fN n) (eN n) B,(((B/2^(fN n-1)%2:Nat):Int)==0),0,B%2^(fN n-1)⟩:=by
    have h01:B/2^(fN n-1)%2=0∨B/2^(fN n-1)%2=1:=by omega
    rcases h01 with h0|h0
    ·rw [h0,Nat.mul_zero,Nat.add_zero] at hm
     rw [if_pos (by omega),hm,h0];rfl
    ·rw [h0,Nat.mul_one] at hm
     rw [if_neg (by omega),h0,show B%2^fN n-2^(fN n-1)=B%2^(fN n-1) by omega];rfl
   rw [e]
   exact this
 ·rw [if_neg h1]
  have hE:(((B/2^fN n%2^eN n:Nat):Int)==2^eN n-1)=false:=by
   rw [hpc] at hp ⊢;rw [beq_eq_false_iff_ne];omega
  by_cases h2:B/2^fN n%2^eN n=0
  ·rw [if_pos h2]
   exact zZo n B (fN n) (eN n) _ _ _ _ _ _ _ _ w hf he hEn hS9 c24 c25 c0 c1 c26 hE (by omega)
  ·rw [if_neg h2]
   have:=zCn n B (fN n) (eN n) _ _ _ _ _ _ _ _ w hf he hEn hS9 c24 c25 c0 c1 c26 hE (by rw [beq_eq_false_iff_ne];omega) ⟨hF.l1,hF.l0⟩ (by rw [hpc] at hp;omega) (2^fN n) (fun w=>zO6 (fN n) w (by omega))
   rw [show zZa n-1+((B/2^fN n%2^eN n:Nat):Int)=zZa n+((B/2^fN n%2^eN n:Nat)-1:Int) by omega] at this
   exact this
theorem zDp (n:Int)(B:Nat)(w:World)(hB:B<2^256) :
  CB 28 #[.int .i64 n,A4 B] w (.tuple #[(unD n B).v,.int .i64 (unE n B)]):=by
 unfold unD unE
 by_cases h:zQd n B
 ·rw [if_pos h,if_pos h];exact zSs n B w hB h
 ·rw [if_neg h,if_neg h];exact zCp n B w hB h
end
end Go.Proofs.YtahfkpjhlbiamaaGreatDoor
