/-
  Texts that the proof leans on.
-/
import Derived.Test.YtahfkpjhlbiamaaGreatDoorL19
import Derived.Test.YtahfkpjhlbiamaaGreatDoorL6
import Derived.Test.YtahfkpjhlbiamaaGreatDoorL23
import Derived.Test.YtahfkpjhlbiamaaGreatDoorL1
set_option maxHeartbeats 8000000
set_option linter.unusedVariables false
set_option linter.unusedSectionVars false
set_option linter.unusedSimpArgs false
set_option maxRecDepth 20000
namespace Go.Proofs.YtahfkpjhlbiamaaGreatDoor
open Go.RowKit
section
attribute [local irreducible] W4
section
variable (dn:Bool)(g t bl:Int)(wo co pa:Nat)(le mo:Int)(w:World)
theorem split_w (B Ab Sh Fr:Nat)(S E cr:Int)
  (c1:∀ W,CB 72 #[A4 B,.int .i64 t] W (A4 Ab))
  (c2:∀ W,CB 74 #[A4 Ab,.int .i64 t] W (A4 Sh))
  (c3:∀ W,CB 73 #[A4 B,A4 Sh] W (.tuple #[A4 Fr,.int .u64 cr]))
  (c4:∀ W,CB 71 #[A4 Ab,.int .i64 g] W (.int .u64 S))
  (c5:∀ W,CB 187 #[.int .u64 (W4 Ab 0),.int .i64 g] W (.int .u64 E)) :
  CB 137 #[LD dn g t bl wo co pa le mo,A4 B] w (.tuple #[.bool (S==1),.int .u64 E,A4 Fr]):=by
 have hsm:=cell_set_map
 go_enter Tryz.func137,Tryz.ntmps137
 go_wp2_with (go_at_call 72;refine (c1 _).mono ?_;rintro r w1 ⟨rfl,hb1⟩;obtain ⟨_,_,_,_,hA1,_⟩:=wz w hb1;obtain ⟨_,_⟩:=zf hb1 (w.heap.size+1);obtain ⟨_,_⟩:=zf hb1 (w.heap.size+1+1);clear hb1)
 refine wp_tail 6 (by kernel_rfl) (by kernel_rfl) (by kernel_rfl) (fun _ _ d _ _ h=>by cases d<;>exact h) fun hne hcell=>?_
 simp only [List.take_succ_cons,List.take_zero,List.drop_succ_cons,List.drop_zero]
 repeat go_big_quiet_step (fail)
 go_big_quiet_step ((go_at_call 74;exact calls_wd _ bk_next (c2 _)))
 repeat go_big_quiet_step (fail)
 go_big_quiet_step ((go_at_call 73;exact calls_wd _ bk_next (c3 _)))
 repeat go_big_quiet_step (fail)
 refine wpQuiet_nil fun w2 hb2=>?_
 obtain ⟨_,_,_,_,hA2,_⟩:=wz w hb2;obtain ⟨_,_⟩:=zf hb2 (w.heap.size+1);obtain ⟨_,_⟩:=zf hb2 (w.heap.size+1+1);obtain ⟨_,_⟩:=zf hb2 w1.heap.size;clear hb2
 go_wp2
 refine wp_tail 13 (by kernel_rfl) (by kernel_rfl) (by kernel_rfl) (fun _ _ d _ _ h=>by cases d<;>exact h) fun hne hcell=>?_
 simp only [List.take_succ_cons,List.take_zero,List.drop_succ_cons,List.drop_zero]
 repeat go_big_quiet_step (fail)
 go_big_quiet_step ((go_at_call 71;exact calls_wd _ bk_next (c4 _)))
 repeat go_big_quiet_step (fail)
 go_big_quiet_step ((go_at_call 187;exact calls_wd _ bk_next (c5 _)))
 repeat go_big_quiet_step (fail)
 refine wpQuiet_nil fun w3 hb3=>?_
 obtain ⟨_,_,_,_,hA3,_⟩:=wz w hb3;obtain ⟨_,_⟩:=zf hb3 (w.heap.size+1);obtain ⟨_,_⟩:=zf hb3 (w.heap.size+1+1);obtain ⟨_,_⟩:=zf hb3 w1.heap.size;clear hb3
 go_wp2
 exact bodyPost_ret (v:=.tuple #[.bool (S==1),.int .u64 E,A4 Fr]) (by simp only [results,Tryz.results137];go_simp) rfl ⟨rfl,bgo⟩
end
section
variable (dn:Bool)(g t bl:Int)(wo co pa:Nat)(le mo:Int)(w:World)(E0 E:Int)(s:Bool)(F En Sh J:Nat)(cr:Int)
 (c49:∀ w,CB 78 #[.int .u64 E] w (A4 En))
 (c45:∀ w,CB 74 #[A4 En,.int .i64 t] w (A4 Sh))
 (c22:∀ w,CB 37 #[A4 Sh,A4 F] w (.tuple #[A4 J,.int .u64 cr]))
include c49 c45 c22
theorem djoin_n:CB 182 #[LD dn g t bl wo co pa le mo,.bool false,.int .u64 E,A4 F] w (A4 J):=by
 have hsm:=cell_set_map
 go_enter Tryz.func182,Tryz.ntmps182
 go_wp2
 refine wp_made 7 10 9 #[.int .u64 0,.int .u64 0,.int .u64 0,.int .u64 0] (by kernel_rfl) (by kernel_rfl) (by kernel_rfl) rfl (fun oa hoa a w=>?_) (by kernel_rfl) (by kernel_rfl) rfl rfl (fun _ _ d _ _ h=>by cases d<;>exact h) ?_
 ·cases hoa;exact ⟨23,by simp [go_sem]⟩
 apply Exists.intro
 refine ⟨fun al hne hcell=>?_,fun w1 hb1=>?_,fun g w1 hb1 hg0 hg1 hg2 hg3=>?_⟩
 ·simp only [List.take_succ_cons,List.take_zero]
  repeat go_big_quiet_step (fail)
  go_big_quiet_step ((go_at_call 78;exact calls_wd _ al_next (c49 _)))
  repeat go_big_quiet_step (fail)
  go_big_quiet_step ((go_at_call 74;exact calls_wd _ al_next (c45 _)))
  repeat go_big_quiet_step (fail)
  go_big_quiet_step ((go_at_call 37;exact calls_wd _ al_next (c22 _)))
  exact wpQuiet_nil rfl
 ·simp only [List.drop_succ_cons,List.drop_zero]
  obtain ⟨_,_,_,_,hA1,_⟩:=wz w hb1;obtain ⟨_,_⟩:=zf hb1 (w.heap.size+1);obtain ⟨_,_⟩:=zf hb1 (w.heap.size+1+1);clear hb1
  go_wp2
  exact bodyPost_ret (v:=A4 J) (by simp only [results,Tryz.results182];go_simp) rfl ⟨rfl,bgo⟩
 ·simp only [List.drop_succ_cons,List.drop_zero,Nat.reduceSub,List.eraseIdx_cons_succ,List.eraseIdx_cons_zero]
  simp only [World.size_alloc] at hg0
  have hz0:g≠w.heap.size:=by omega
  have hz1:g≠w.heap.size+1:=by omega
  have hz2:g≠w.heap.size+1+1:=by omega
  obtain ⟨_,_,_,_,hA1,_⟩:=wz w hb1;obtain ⟨_,_⟩:=zf hb1 (w.heap.size+1);obtain ⟨_,_⟩:=zf hb1 (w.heap.size+1+1);clear hb1
  go_wp2
  exact bodyPost_ret (v:=A4 J) (by simp only [results,Tryz.results182];go_simp) rfl ⟨rfl,bgo⟩
theorem djoin_s (n:Nat)(H:Int)(hg:g=(n:Int))(hn:n<=40)(hH:(2:Int)^n=H)(hH0:1<=H)(hH1:H<=1099511627776)(hE:bits .or .u64 E0 H=E) :
  CB 182 #[LD dn g t bl wo co pa le mo,.bool true,.int .u64 E0,A4 F] w (A4 J):=by
 have hsm:=cell_set_map
 subst hg
 have hn0:(0:Int)<=(n:Int):=by omega
 have hn1:(n:Int)<=40:=by omega
 go_enter Tryz.func182,Tryz.ntmps182
 go_wp2
 refine wp_made 7 10 9 #[.int .u64 0,.int .u64 0,.int .u64 0,.int .u64 0] (by kernel_rfl) (by kernel_rfl) (by kernel_rfl) rfl (fun oa hoa a w=>?_) (by kernel_rfl) (by kernel_rfl) rfl rfl (fun _ _ d _ _ h=>by cases d<;>exact h) ?_
 ·cases hoa;exact ⟨23,by simp [go_sem]⟩
 apply Exists.intro
 refine ⟨fun al hne hcell=>?_,fun w1 hb1=>?_,fun g w1 hb1 hg0 hg1 hg2 hg3=>?_⟩
 ·simp only [List.take_succ_cons,List.take_zero]
  repeat go_big_quiet_step (fail)
  go_big_quiet_step ((go_at_call 78;exact calls_wd _ al_next (c49 _)))
  repeat go_big_quiet_step (fail)
  go_big_quiet_step ((go_at_call 74;exact calls_wd _ al_next (c45 _)))
  repeat go_big_quiet_step (fail)
  go_big_quiet_step ((go_at_call 37;exact calls_wd _ al_next (c22 _)))
  exact wpQuiet_nil rfl
 ·simp only [List.drop_succ_cons,List.drop_zero]
  obtain ⟨_,_,_,_,hA1,_⟩:=wz w hb1;obtain ⟨_,_⟩:=zf hb1 (w.heap.size+1);obtain ⟨_,_⟩:=zf hb1 (w.heap.size+1+1);clear hb1
  go_wp2
  exact bodyPost_ret (v:=A4 J) (by simp only [results,Tryz.results182];go_simp) rfl ⟨rfl,bgo⟩
 ·simp only [List.drop_succ_cons,List.drop_zero,Nat.reduceSub,List.eraseIdx_cons_succ,List.eraseIdx_cons_zero]
  simp only [World.size_alloc] at hg0
  have hz0:g≠w.heap.size:=by omega
  have hz1:g≠w.heap.size+1:=by omega
  have hz2:g≠w.heap.size+1+1:=by omega
  obtain ⟨_,_,_,_,hA1,_⟩:=wz w hb1;obtain ⟨_,_⟩:=zf hb1 (w.heap.size+1);obtain ⟨_,_⟩:=zf hb1 (w.heap.size+1+1);clear hb1
  go_wp2
  exact bodyPost_ret (v:=A4 J) (by simp only [results,Tryz.results182];go_simp) rfl ⟨rfl,bgo⟩
end
theorem nought_v (A B:Nat)(w:World)(hA:A<2^256)(hB:B<2^256):CB 140 #[A4 A,A4 B] w (A4 (if A<B then A else 0)):=by
 have c:=fun W=>cmp4 A B W hA hB
 have hsm:=cell_set_map
 by_cases h:A<B
 ·rw [if_pos h]
  rw [show sgn (A:Int) (B:Int)=-1 by unfold sgn;rw [if_pos (by omega)]] at c
  clear hA hB h
  go_enter Tryz.func140,Tryz.ntmps140
  go_wp2_with (go_at_call 181;refine (c _).mono ?_;rintro r w1 ⟨rfl,hb1⟩;obtain ⟨_,_,_,_,hA1,_⟩:=wz w hb1;obtain ⟨_,_⟩:=zf hb1 (w.heap.size+1);obtain ⟨_,_⟩:=zf hb1 (w.heap.size+1+1);clear hb1)
  exact bodyPost_ret (v:=A4 A) (by simp only [results,Tryz.results140];go_simp) rfl ⟨rfl,bgo⟩
 ·rw [if_neg h]
  have hs:0<=sgn (A:Int) (B:Int):=by unfold sgn;rw [if_neg (by omega)];split<;>decide
  generalize sgn (A:Int) (B:Int)=q at *
  clear hA hB h
  go_enter Tryz.func140,Tryz.ntmps140
  go_wp2_with (go_at_call 181;refine (c _).mono ?_;rintro r w1 ⟨rfl,hb1⟩;obtain ⟨_,_,_,_,hA1,_⟩:=wz w hb1;obtain ⟨_,_⟩:=zf hb1 (w.heap.size+1);obtain ⟨_,_⟩:=zf hb1 (w.heap.size+1+1);clear hb1)
  exact bodyPost_ret (v:=A4 0) (by rw [Z4_eq];simp only [results,Tryz.results140];go_simp) rfl ⟨rfl,bgo⟩
theorem dten_w (n:Nat)(w:World)(P:Nat->Nat)(cr:Nat->Int)(hn:n<=60)(hP:P 0=1)
  (c1:∀ W,CB 78 #[.int .u64 1] W (A4 1))
  (cm:Hid (∀ i W,CB 143 #[A4 (P i),.int .u64 10] W (.tuple #[A4 (P (i+1)),.int .u64 (cr i)]))) :
  CB 122 #[.int .i64 (n:Int)] w (A4 (P n)):=by
 have hsm:=cell_set_map
 go_enter Tryz.func122,Tryz.ntmps122
 go_wp2_with (go_at_call 78;refine (c1 _).mono ?_;rintro r w1 ⟨rfl,hb1⟩;obtain ⟨_,_,_,_,hA1,_⟩:=wz w hb1;clear hb1)
 go_loopw [6,7,8,9,10,11,12,13] (fun t _ _ _ _ _ _ _ wr=>∃ (i:Nat),i<=n/\t=.int .i64 (i:Int)/\C4 w1.heap.size (P i) wr/\C4 w.heap.size 0 wr/\Below w.heap.size w wr) (fun t _ _ _ _ _ _ _ _=>n-(intOf t).toNat)
 case atStart =>
  refine ⟨0,Nat.zero_le _,rfl,?_,?_,bgo⟩
  ·rw [hP];refine ⟨by simp,?_,?_,?_,?_,?_,?_,?_,?_⟩<;>go_simp
  ·refine ⟨by simp;omega,?_,?_,?_,?_,?_,?_,?_,?_⟩<;>first|(rw [W4_zero];go_simp)|go_simp
 case round =>
  obtain ⟨i,hi,rfl,h3,h4,hbw⟩:=hrel
  have hl3:=h3.lt
  have hl4:=h4.lt
  obtain ⟨_,o0,o1,o2,o3,g0,g1,g2,g3⟩:=id h3
  obtain ⟨_,p0,p1,p2,p3,f0,f1,f2,f3⟩:=id h4
  by_cases hic:i<n
  ·have hl:(i:Int)<(n:Int):=by omega
   have hl':(i:Int)<=60:=by omega
   have dm:=cm.out i
   generalize P i=Pi at *
   go_wp2_with (go_at_call 143;refine (dm _).mono ?_;rintro r w2 ⟨rfl,hb2⟩;have hn3:=h3.next hb2;have hn4:=h4.next hb2;obtain ⟨_,_,_,_,hA2,_⟩:=wz w hb2;obtain ⟨_,_⟩:=zf hb2 w1.heap.size;clear hb2)
   go_roundw
   case rel=>exact ⟨i+1,by omega,by go_num,hn3.put,hn4.other (by omega),bgo⟩
   case measure=>simp [intOf];omega
  ·have hl:¬ (i:Int)<(n:Int):=by omega
   obtain rfl:i=n:=by omega
   go_wp2
   exact bodyPost_ret (v:=A4 (P i)) (by simp only [results,Tryz.results122];go_simp) rfl ⟨rfl,bgo⟩
theorem dten_v (n:Nat)(w:World)(hn:n<=60):CB 122 #[.int .i64 (n:Int)] w (A4 (10^n)):=by
 refine (dten_w n w (fun i=>10^i%2^256) (fun i=>((10^i%2^256*10/2^256:Nat):Int)) hn rfl (fun W=>of4 1 W (by decide)) ?_).mono ?_
 ·show ∀ _,_
  intro i W
  refine (mul4 (10^i%2^256) 10 W (Nat.mod_lt _ (by decide)) (by decide)).mono ?_
  rintro r w' ⟨rfl,hb⟩
  refine ⟨?_,hb⟩
  show Ending.returned (.tuple #[A4 (10^i%2^256*10),_])=Ending.returned (.tuple #[A4 (10^(i+1)%2^256),_])
  rw [A4_mod (10^(i+1)),← A4_mod (10^i%2^256*10),Nat.mod_mul_mod,A4_mod,show 10^(i+1)=10^i*10 from Nat.pow_succ _ _]
 ·rintro r w' ⟨rfl,hb⟩
  refine ⟨?_,hb⟩
  show Ending.returned (A4 (10^n%2^256))=_
  rw [A4_mod]
section
variable (g t bl:Int)(wo co pa:Nat)(le mo:Int)(w:World)
theorem read_p (R:Nat):CB 141 #[LD false g t bl wo co pa le mo,A4 R] w (A4 R):=by
 have hsm:=cell_set_map
 go_enter Tryz.func141,Tryz.ntmps141
 go_wp2
 exact bodyPost_ret (v:=A4 R) (by simp only [results,Tryz.results141];go_simp) rfl ⟨rfl,bgo⟩
theorem read_d (R U:Nat)(E j:Int)(ht0:0<=t)(ht1:t<=256)(hj:t/10=j)
  (c:∀ W,CB 188 #[A4 R,.int .i64 j] W (.tuple #[A4 U,.int .i64 E])) :
  CB 141 #[LD true g t bl wo co pa le mo,A4 R] w (A4 U):=by
 have hsm:=cell_set_map
 go_enter Tryz.func141,Tryz.ntmps141
 go_wp2_with (go_at_call 188;refine (c _).mono ?_;rintro r w1 ⟨rfl,hb1⟩;obtain ⟨_,_,_,_,hA1,_⟩:=wz w hb1;obtain ⟨_,_⟩:=zf hb1 (w.heap.size+1);obtain ⟨_,_⟩:=zf hb1 (w.heap.size+1+1);clear hb1)
 exact bodyPost_ret (v:=A4 U) (by simp only [results,Tryz.results141];go_simp) rfl ⟨rfl,bgo⟩
theorem write_p (R:Nat):CB 184 #[LD false g t bl wo co pa le mo,A4 R] w (A4 R):=by
 have hsm:=cell_set_map
 go_enter Tryz.func184,Tryz.ntmps184
 go_wp2
 exact bodyPost_ret (v:=A4 R) (by simp only [results,Tryz.results184];go_simp) rfl ⟨rfl,bgo⟩
theorem write_d (R U:Nat)(E j:Int)(ht0:0<=t)(ht1:t<=256)(hj:t/10=j)
  (c:∀ W,CB 211 #[A4 R,.int .i64 j] W (.tuple #[A4 U,.int .i64 E])) :
  CB 184 #[LD true g t bl wo co pa le mo,A4 R] w (A4 U):=by
 have hsm:=cell_set_map
 go_enter Tryz.func184,Tryz.ntmps184
 go_wp2_with (go_at_call 211;refine (c _).mono ?_;rintro r w1 ⟨rfl,hb1⟩;obtain ⟨_,_,_,_,hA1,_⟩:=wz w hb1;obtain ⟨_,_⟩:=zf hb1 (w.heap.size+1);obtain ⟨_,_⟩:=zf hb1 (w.heap.size+1+1);clear hb1)
 exact bodyPost_ret (v:=A4 U) (by simp only [results,Tryz.results184];go_simp) rfl ⟨rfl,bgo⟩
end
end
end Go.Proofs.YtahfkpjhlbiamaaGreatDoor
