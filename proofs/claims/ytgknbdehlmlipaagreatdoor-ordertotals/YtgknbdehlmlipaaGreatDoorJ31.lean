/-
  Texts that the proof leans on.
-/
import Derived.Test.YtgknbdehlmlipaaGreatDoorJ22
import Derived.Test.YtgknbdehlmlipaaGreatDoorJ8
import Derived.Test.YtgknbdehlmlipaaGreatDoorJ26
import Derived.Test.YtgknbdehlmlipaaGreatDoorJ2
import Derived.Test.YtgknbdehlmlipaaGreatDoorJ21
import Derived.Deep.MidRow
set_option maxHeartbeats 8000000
set_option linter.unusedVariables false
set_option linter.unusedSectionVars false
set_option linter.unusedSimpArgs false
set_option maxRecDepth 20000
namespace Go.Proofs.YtgknbdehlmlipaaGreatDoor
open Go.RowKit
section
attribute [local irreducible] W4
section
variable (dn:Bool)(g t bl:Int)(wo co pa:Nat)(le mo:Int)(w:World)
theorem split_w (B Ab Sh Fr:Nat)(S E cr:Int)
  (c1:∀ W,CB 149 #[A4 B,.int .i64 t] W (A4 Ab))
  (c2:∀ W,CB 150 #[A4 Ab,.int .i64 t] W (A4 Sh))
  (c3:∀ W,CB 85 #[A4 B,A4 Sh] W (.tuple #[A4 Fr,.int .u64 cr]))
  (c4:∀ W,CB 148 #[A4 Ab,.int .i64 g] W (.int .u64 S))
  (c5:∀ W,CB 153 #[.int .u64 (W4 Ab 0),.int .i64 g] W (.int .u64 E)) :
  CB 121 #[LD dn g t bl wo co pa le mo,A4 B] w (.tuple #[.bool (S==1),.int .u64 E,A4 Fr]):=by
 have hsm:=cell_set_map
 go_enter Tryz.func121,Tryz.ntmps121
 go_wp2_with (go_at_call 149;refine (c1 _).mono ?_;rintro r w1 ⟨rfl,hb1⟩;obtain ⟨_,_,_,_,hA1,_⟩:=wz w hb1;obtain ⟨_,_⟩:=zf hb1 (w.heap.size+1);obtain ⟨_,_⟩:=zf hb1 (w.heap.size+1+1);clear hb1)
 refine wp_tail 6 (by kernel_rfl) (by kernel_rfl) (by kernel_rfl) (fun _ _ d _ _ h=>by cases d<;>exact h) fun hne hcell=>?_
 simp only [List.take_succ_cons,List.take_zero,List.drop_succ_cons,List.drop_zero]
 repeat go_big_quiet_step (fail)
 go_big_quiet_step ((go_at_call 150;exact calls_wd _ bk_next (c2 _)))
 repeat go_big_quiet_step (fail)
 go_big_quiet_step ((go_at_call 85;exact calls_wd _ bk_next (c3 _)))
 repeat go_big_quiet_step (fail)
 refine wpQuiet_nil fun w2 hb2=>?_
 obtain ⟨_,_,_,_,hA2,_⟩:=wz w hb2;obtain ⟨_,_⟩:=zf hb2 (w.heap.size+1);obtain ⟨_,_⟩:=zf hb2 (w.heap.size+1+1);obtain ⟨_,_⟩:=zf hb2 w1.heap.size;clear hb2
 go_wp2
 refine wp_tail 13 (by kernel_rfl) (by kernel_rfl) (by kernel_rfl) (fun _ _ d _ _ h=>by cases d<;>exact h) fun hne hcell=>?_
 simp only [List.take_succ_cons,List.take_zero,List.drop_succ_cons,List.drop_zero]
 repeat go_big_quiet_step (fail)
 go_big_quiet_step ((go_at_call 148;exact calls_wd _ bk_next (c4 _)))
 repeat go_big_quiet_step (fail)
 go_big_quiet_step ((go_at_call 153;exact calls_wd _ bk_next (c5 _)))
 repeat go_big_quiet_step (fail)
 refine wpQuiet_nil fun w3 hb3=>?_
 obtain ⟨_,_,_,_,hA3,_⟩:=wz w hb3;obtain ⟨_,_⟩:=zf hb3 (w.heap.size+1);obtain ⟨_,_⟩:=zf hb3 (w.heap.size+1+1);obtain ⟨_,_⟩:=zf hb3 w1.heap.size;clear hb3
 go_wp2
 exact bodyPost_ret (v:=.tuple #[.bool (S==1),.int .u64 E,A4 Fr]) (by simp only [results,Tryz.results121];go_simp) rfl ⟨rfl,bgo⟩
end
section
variable (dn:Bool)(g t bl:Int)(wo co pa:Nat)(le mo:Int)(w:World)(E0 E:Int)(s:Bool)(F En Sh J:Nat)(cr:Int)
 (c49:∀ w,CB 84 #[.int .u64 E] w (A4 En))
 (c45:∀ w,CB 150 #[A4 En,.int .i64 t] w (A4 Sh))
 (c22:∀ w,CB 86 #[A4 Sh,A4 F] w (.tuple #[A4 J,.int .u64 cr]))
include c49 c45 c22
theorem djoin_n:CB 156 #[LD dn g t bl wo co pa le mo,.bool false,.int .u64 E,A4 F] w (A4 J):=by
 have hsm:=cell_set_map
 go_enter Tryz.func156,Tryz.ntmps156
 go_wp2
 refine wp_made 7 10 9 #[.int .u64 0,.int .u64 0,.int .u64 0,.int .u64 0] (by kernel_rfl) (by kernel_rfl) (by kernel_rfl) rfl (fun oa hoa a w=>?_) (by kernel_rfl) (by kernel_rfl) rfl rfl (fun _ _ d _ _ h=>by cases d<;>exact h) ?_
 ·cases hoa;exact ⟨23,by simp [go_sem]⟩
 apply Exists.intro
 refine ⟨fun al hne hcell=>?_,fun w1 hb1=>?_,fun g w1 hb1 hg0 hg1 hg2 hg3=>?_⟩
 ·simp only [List.take_succ_cons,List.take_zero]
  repeat go_big_quiet_step (fail)
  go_big_quiet_step ((go_at_call 84;exact calls_wd _ al_next (c49 _)))
  repeat go_big_quiet_step (fail)
  go_big_quiet_step ((go_at_call 150;exact calls_wd _ al_next (c45 _)))
  repeat go_big_quiet_step (fail)
  go_big_quiet_step ((go_at_call 86;exact calls_wd _ al_next (c22 _)))
  exact wpQuiet_nil rfl
 ·simp only [List.drop_succ_cons,List.drop_zero]
  obtain ⟨_,_,_,_,hA1,_⟩:=wz w hb1;obtain ⟨_,_⟩:=zf hb1 (w.heap.size+1);obtain ⟨_,_⟩:=zf hb1 (w.heap.size+1+1);clear hb1
  go_wp2
  exact bodyPost_ret (v:=A4 J) (by simp only [results,Tryz.results156];go_simp) rfl ⟨rfl,bgo⟩
 ·simp only [List.drop_succ_cons,List.drop_zero,Nat.reduceSub,List.eraseIdx_cons_succ,List.eraseIdx_cons_zero]
  simp only [World.size_alloc] at hg0
  have hz0:g≠w.heap.size:=by omega
  have hz1:g≠w.heap.size+1:=by omega
  have hz2:g≠w.heap.size+1+1:=by omega
  obtain ⟨_,_,_,_,hA1,_⟩:=wz w hb1;obtain ⟨_,_⟩:=zf hb1 (w.heap.size+1);obtain ⟨_,_⟩:=zf hb1 (w.heap.size+1+1);clear hb1
  go_wp2
  exact bodyPost_ret (v:=A4 J) (by simp only [results,Tryz.results156];go_simp) rfl ⟨rfl,bgo⟩
theorem djoin_s (n:Nat)(H:Int)(hg:g=(n:Int))(hn:n<=40)(hH:(2:Int)^n=H)(hH0:1<=H)(hH1:H<=1099511627776)(hE:bits .or .u64 E0 H=E) :
  CB 156 #[LD dn g t bl wo co pa le mo,.bool true,.int .u64 E0,A4 F] w (A4 J):=by
 have hsm:=cell_set_map
 subst hg
 have hn0:(0:Int)<=(n:Int):=by omega
 have hn1:(n:Int)<=40:=by omega
 go_enter Tryz.func156,Tryz.ntmps156
 go_wp2
 refine wp_made 7 10 9 #[.int .u64 0,.int .u64 0,.int .u64 0,.int .u64 0] (by kernel_rfl) (by kernel_rfl) (by kernel_rfl) rfl (fun oa hoa a w=>?_) (by kernel_rfl) (by kernel_rfl) rfl rfl (fun _ _ d _ _ h=>by cases d<;>exact h) ?_
 ·cases hoa;exact ⟨23,by simp [go_sem]⟩
 apply Exists.intro
 refine ⟨fun al hne hcell=>?_,fun w1 hb1=>?_,fun g w1 hb1 hg0 hg1 hg2 hg3=>?_⟩
 ·simp only [List.take_succ_cons,List.take_zero]
  repeat go_big_quiet_step (fail)
  go_big_quiet_step ((go_at_call 84;exact calls_wd _ al_next (c49 _)))
  repeat go_big_quiet_step (fail)
  go_big_quiet_step ((go_at_call 150;exact calls_wd _ al_next (c45 _)))
  repeat go_big_quiet_step (fail)
  go_big_quiet_step ((go_at_call 86;exact calls_wd _ al_next (c22 _)))
  exact wpQuiet_nil rfl
 ·simp only [List.drop_succ_cons,List.drop_zero]
  obtain ⟨_,_,_,_,hA1,_⟩:=wz w hb1;obtain ⟨_,_⟩:=zf hb1 (w.heap.size+1);obtain ⟨_,_⟩:=zf hb1 (w.heap.size+1+1);clear hb1
  go_wp2
  exact bodyPost_ret (v:=A4 J) (by simp only [results,Tryz.results156];go_simp) rfl ⟨rfl,bgo⟩
 ·simp only [List.drop_succ_cons,List.drop_zero,Nat.reduceSub,List.eraseIdx_cons_succ,List.eraseIdx_cons_zero]
  simp only [World.size_alloc] at hg0
  have hz0:g≠w.heap.size:=by omega
  have hz1:g≠w.heap.size+1:=by omega
  have hz2:g≠w.heap.size+1+1:=by omega
  obtain ⟨_,_,_,_,hA1,_⟩:=wz w hb1;obtain ⟨_,_⟩:=zf hb1 (w.heap.size+1);obtain ⟨_,_⟩:=zf hb1 (w.heap.size+1+1);clear hb1
  go_wp2
  exact bodyPost_ret (v:=A4 J) (by simp only [results,Tryz.results156];go_simp) rfl ⟨rfl,bgo⟩
end
theorem nought_v (A B:Nat)(w:World)(hA:A<2^256)(hB:B<2^256):CB 124 #[A4 A,A4 B] w (A4 (if A<B then A else 0)):=by
 have c:=fun W=>cmp4 A B W hA hB
 have hsm:=cell_set_map
 by_cases h:A<B
 ·rw [if_pos h]
  rw [show sgn (A:Int) (B:Int)=-1 by unfold sgn;rw [if_pos (by omega)]] at c
  clear hA hB h
  go_enter Tryz.func124,Tryz.ntmps124
  go_wp2_with (go_at_call 154;refine (c _).mono ?_;rintro r w1 ⟨rfl,hb1⟩;obtain ⟨_,_,_,_,hA1,_⟩:=wz w hb1;obtain ⟨_,_⟩:=zf hb1 (w.heap.size+1);obtain ⟨_,_⟩:=zf hb1 (w.heap.size+1+1);clear hb1)
  exact bodyPost_ret (v:=A4 A) (by simp only [results,Tryz.results124];go_simp) rfl ⟨rfl,bgo⟩
 ·rw [if_neg h]
  have hs:0<=sgn (A:Int) (B:Int):=by unfold sgn;rw [if_neg (by omega)];split<;>decide
  generalize sgn (A:Int) (B:Int)=q at *
  clear hA hB h
  go_enter Tryz.func124,Tryz.ntmps124
  go_wp2_with (go_at_call 154;refine (c _).mono ?_;rintro r w1 ⟨rfl,hb1⟩;obtain ⟨_,_,_,_,hA1,_⟩:=wz w hb1;obtain ⟨_,_⟩:=zf hb1 (w.heap.size+1);obtain ⟨_,_⟩:=zf hb1 (w.heap.size+1+1);clear hb1)
  exact bodyPost_ret (v:=A4 0) (by rw [Z4_eq];simp only [results,Tryz.results124];go_simp) rfl ⟨rfl,bgo⟩
theorem dten_w (n:Nat)(w:World)(P:Nat->Nat)(cr:Nat->Int)(hn:n<=60)(hP:P 0=1)
  (c1:∀ W,CB 84 #[.int .u64 1] W (A4 1))
  (cm:Hid (∀ i W,CB 127 #[A4 (P i),.int .u64 10] W (.tuple #[A4 (P (i+1)),.int .u64 (cr i)]))) :
  CB 152 #[.int .i64 (n:Int)] w (A4 (P n)):=by
 have hsm:=cell_set_map
 go_enter Tryz.func152,Tryz.ntmps152
 go_wp2_with (go_at_call 84;refine (c1 _).mono ?_;rintro r w1 ⟨rfl,hb1⟩;obtain ⟨_,_,_,_,hA1,_⟩:=wz w hb1;clear hb1)
 go_loopw [6,7,8,9,10,11,12,13] (fun t _ _ _ _ _ _ _ wr=>∃ (i:Nat),i<=n/\t=.int .i64 (i:Int)/\C4 w1.heap.size (P i) wr/\C4 w.heap.size 0 wr/\Below w.heap.size w wr) (fun t _ _ _ _ _ _ _ _=>n-(intOf t).toNat)
 case atStart =>
  refine ⟨0,Nat.zero_le _,rfl,?_,?_,bgo⟩
  ·rw [hP];refine ⟨by simp,?_,?_,?_,?_,?_,?_,?_,?_⟩<;>go_simp
  ·refine ⟨by simp;omega,?_,?_,?_,?_,?_,?_,?_,?_⟩<;>first|(rw [W4_zero];go_simp)|go_simp
 case round =>
  obtain ⟨i,hi,rfl,h3,h4,hbw⟩:=hrel
  have hl3:=h3.lt
  have hl4:=h4.lt
  obtain ⟨_,o0,o1,o2,o3,g0,g1,g2,g3⟩:=id h3
  obtain ⟨_,p0,p1,p2,p3,f0,f1,f2,f3⟩:=id h4
  by_cases hic:i<n
  ·have hl:(i:Int)<(n:Int):=by omega
   have hl':(i:Int)<=60:=by omega
   have dm:=cm.out i
   generalize P i=Pi at *
   go_wp2_with (go_at_call 127;refine (dm _).mono ?_;rintro r w2 ⟨rfl,hb2⟩;have hn3:=h3.next hb2;have hn4:=h4.next hb2;obtain ⟨_,_,_,_,hA2,_⟩:=wz w hb2;obtain ⟨_,_⟩:=zf hb2 w1.heap.size;clear hb2)
   go_roundw
   case rel=>exact ⟨i+1,by omega,by go_num,hn3.put,hn4.other (by omega),bgo⟩
   case measure=>simp [intOf];omega
  ·have hl:¬ (i:Int)<(n:Int):=by omega
   obtain rfl:i=n:=by omega
   go_wp2
   exact bodyPost_ret (v:=A4 (P i)) (by simp only [results,Tryz.results152];go_simp) rfl ⟨rfl,bgo⟩
theorem dten_v (n:Nat)(w:World)(hn:n<=60):CB 152 #[.int .i64 (n:Int)] w (A4 (10^n)):=by
 refine (dten_w n w (fun i=>10^i%2^256) (fun i=>((10^i%2^256*10/2^256:Nat):Int)) hn rfl (fun W=>of4 1 W (by decide)) ?_).mono ?_
 ·show ∀ _,_
  intro i W
  refine (mul4 (10^i%2^256) 10 W (Nat.mod_lt _ (by decide)) (by decide)).mono ?_
  rintro r w' ⟨rfl,hb⟩
  refine ⟨?_,hb⟩
  show Ending.returned (.tuple #[A4 (10^i%2^256*10),_])=Ending.returned (.tuple #[A4 (10^(i+1)%2^256),_])
  rw [A4_mod (10^(i+1)),← A4_mod (10^i%2^256*10),Nat.mod_mul_mod,A4_mod,show 10^(i+1)=10^i*10 from Nat.pow_succ _ _]
 ·rintro r w' ⟨rfl,hb⟩
  refine ⟨?_,hb⟩
  show Ending.returned (A4 (10^n%2^256))=_
  rw [A4_mod]
section
variable (g t bl:Int)(wo co pa:Nat)(le mo:Int)(w:World)
theorem read_p (R:Nat):CB 125 #[LD false g t bl wo co pa le mo,A4 R] w (A4 R):=by
 have hsm:=cell_set_map
 go_enter Tryz.func125,Tryz.ntmps125
 go_wp2
 exact bodyPost_ret (v:=A4 R) (by simp only [results,Tryz.results125];go_simp) rfl ⟨rfl,bgo⟩
theorem read_d (R U:Nat)(E j:Int)(ht0:0<=t)(ht1:t<=256)(hj:t/10=j)
  (c:∀ W,CB 155 #[A4 R,.int .i64 j] W (.tuple #[A4 U,.int .i64 E])) :
  CB 125 #[LD true g t bl wo co pa le mo,A4 R] w (A4 U):=by
 have hsm:=cell_set_map
 go_enter Tryz.func125,Tryz.ntmps125
 go_wp2_with (go_at_call 155;refine (c _).mono ?_;rintro r w1 ⟨rfl,hb1⟩;obtain ⟨_,_,_,_,hA1,_⟩:=wz w hb1;obtain ⟨_,_⟩:=zf hb1 (w.heap.size+1);obtain ⟨_,_⟩:=zf hb1 (w.heap.size+1+1);clear hb1)
 exact bodyPost_ret (v:=A4 U) (by simp only [results,Tryz.results125];go_simp) rfl ⟨rfl,bgo⟩
theorem write_p (R:Nat):CB 158 #[LD false g t bl wo co pa le mo,A4 R] w (A4 R):=by
 have hsm:=cell_set_map
 go_enter Tryz.func158,Tryz.ntmps158
 go_wp2
 exact bodyPost_ret (v:=A4 R) (by simp only [results,Tryz.results158];go_simp) rfl ⟨rfl,bgo⟩
theorem write_d (R U:Nat)(E j:Int)(ht0:0<=t)(ht1:t<=256)(hj:t/10=j)
  (c:∀ W,CB 172 #[A4 R,.int .i64 j] W (.tuple #[A4 U,.int .i64 E])) :
  CB 158 #[LD true g t bl wo co pa le mo,A4 R] w (A4 U):=by
 have hsm:=cell_set_map
 go_enter Tryz.func158,Tryz.ntmps158
 go_wp2_with (go_at_call 172;refine (c _).mono ?_;rintro r w1 ⟨rfl,hb1⟩;obtain ⟨_,_,_,_,hA1,_⟩:=wz w hb1;obtain ⟨_,_⟩:=zf hb1 (w.heap.size+1);obtain ⟨_,_⟩:=zf hb1 (w.heap.size+1+1);clear hb1)
 exact bodyPost_ret (v:=A4 U) (by simp only [results,Tryz.results158];go_simp) rfl ⟨rfl,bgo⟩
end
end
section
def ld18 (a:Addr):Sem (Array Value):=loadCellsFrom a 0 18 #[]
theorem ld18_eq (a:Addr):loadCellsFrom a 0 18 #[]=ld18 a:=rfl
theorem ld18_run {P:Program}(W:World)(b:Nat)(f:Nat->Value)(h:∀ i,i<18->W.cell? ⟨b,i,none⟩=some (f i)) :
  (ld18 ⟨b,0,none⟩).run P W=.ok ((List.range 18).map f).toArray W:=by
 have:=run_loadCellsFrom (P:=P) W ⟨b,0,none⟩ f 18 0 #[] (fun j hj=>by
  have hadd:(⟨b,0,none⟩:Addr).add (0+j)=⟨b,0+j,none⟩:=by unfold Addr.add;split<;>simp_all
  rw [hadd,Nat.zero_add]
  exact h j hj)
 unfold ld18
 rw [this]
 simp
def ld18x (a:Addr):Sem (Array Value):=loadCellsFrom a 0 18 #[]
theorem ld18_got {P:Program}(W:World)(b:Nat) :
  (ld18 ⟨b,0,none⟩).run P W=if (W.cell? ⟨b,0,none⟩).isSome=true/\(W.cell? ⟨b,1,none⟩).isSome=true/\(W.cell? ⟨b,2,none⟩).isSome=true/\(W.cell? ⟨b,3,none⟩).isSome=true/\(W.cell? ⟨b,4,none⟩).isSome=true/\(W.cell? ⟨b,5,none⟩).isSome=true/\(W.cell? ⟨b,6,none⟩).isSome=true/\(W.cell? ⟨b,7,none⟩).isSome=true/\(W.cell? ⟨b,8,none⟩).isSome=true/\(W.cell? ⟨b,9,none⟩).isSome=true/\(W.cell? ⟨b,10,none⟩).isSome=true/\(W.cell? ⟨b,11,none⟩).isSome=true/\(W.cell? ⟨b,12,none⟩).isSome=true/\(W.cell? ⟨b,13,none⟩).isSome=true/\(W.cell? ⟨b,14,none⟩).isSome=true/\(W.cell? ⟨b,15,none⟩).isSome=true/\(W.cell? ⟨b,16,none⟩).isSome=true/\(W.cell? ⟨b,17,none⟩).isSome=true then .ok #[(W.cell? ⟨b,0,none⟩).getD undef,(W.cell? ⟨b,1,none⟩).getD undef,(W.cell? ⟨b,2,none⟩).getD undef,(W.cell? ⟨b,3,none⟩).getD undef,(W.cell? ⟨b,4,none⟩).getD undef,(W.cell? ⟨b,5,none⟩).getD undef,(W.cell? ⟨b,6,none⟩).getD undef,(W.cell? ⟨b,7,none⟩).getD undef,(W.cell? ⟨b,8,none⟩).getD undef,(W.cell? ⟨b,9,none⟩).getD undef,(W.cell? ⟨b,10,none⟩).getD undef,(W.cell? ⟨b,11,none⟩).getD undef,(W.cell? ⟨b,12,none⟩).getD undef,(W.cell? ⟨b,13,none⟩).getD undef,(W.cell? ⟨b,14,none⟩).getD undef,(W.cell? ⟨b,15,none⟩).getD undef,(W.cell? ⟨b,16,none⟩).getD undef,(W.cell? ⟨b,17,none⟩).getD undef] W else (ld18x ⟨b,0,none⟩).run P W:=by
 split
 ·rename_i hc
  obtain ⟨h0,h1,h2,h3,h4,h5,h6,h7,h8,h9,h10,h11,h12,h13,h14,h15,h16,h17⟩:=hc
  have h:∀ i,i<18->W.cell? ⟨b,i,none⟩=some ((W.cell? ⟨b,i,none⟩).getD undef):=by
   intro i hi
   have hs:(W.cell? ⟨b,i,none⟩).isSome=true:=by
    rcases (show i=0∨i=1∨i=2∨i=3∨i=4∨i=5∨i=6∨i=7∨i=8∨i=9∨i=10∨i=11∨i=12∨i=13∨i=14∨i=15∨i=16∨i=17 by omega) with e|e|e|e|e|e|e|e|e|e|e|e|e|e|e|e|e|e<;>subst e<;>assumption
   cases hc:W.cell? ⟨b,i,none⟩ with
   | none=>rw [hc] at hs;cases hs
   | some v=>rfl
  exact ld18_run (P:=P) W b (fun i=>(W.cell? ⟨b,i,none⟩).getD undef) h
 ·rfl
attribute [local irreducible] W4
attribute [local go_sem ↓] ld18_eq
attribute [local go_sem] ld18_got
section
variable (dn:Bool)(g t bl:Int)(wo co pa:Nat)(le mo:Int)(w:World)(B Fr:Nat)(s:Bool)(G V:Int)
 (cs:∀ W,CB 121 #[LD dn g t bl wo co pa le mo,A4 B] W (.tuple #[.bool s,.int .u64 G,A4 Fr]))
 (ck:∀ W,CB 122 #[LD dn g t bl wo co pa le mo,.int .u64 G] W (.int .u64 V))
include cs ck
theorem dmean_i (h30:(V==30)=true):CB 93 #[LD dn g t bl wo co pa le mo,A4 B] w (DV 2 s false 0 0):=by
 have hsm:=cell_set_map
 have hz:DV 2 s false 0 0=.agg #[.int .i64 2,.bool s,.bool false,.int .i64 0,.int .u64 0,.int .u64 0,.int .u64 0,.int .u64 0]:=by unfold DV;simp only [W4_zero]
 rw [hz]
 go_enter Tryz.func93,Tryz.ntmps93
 go_wp2_with (first
  | (go_at_call 121;refine (cs _).mono ?_;rintro r w1 ⟨rfl,hb1⟩;obtain ⟨_,_,_,_,hA1,_⟩:=wz w hb1;obtain ⟨_,_⟩:=zf hb1 (w.heap.size+1);obtain ⟨_,_⟩:=zf hb1 (w.heap.size+1+1);clear hb1)
  | (go_at_call 122;refine (ck _).mono ?_;rintro r w2 ⟨rfl,hb2⟩;obtain ⟨_,_,_,_,hA2,_⟩:=wz w hb2;obtain ⟨_,_⟩:=zf hb2 (w.heap.size+1);obtain ⟨_,_⟩:=zf hb2 (w.heap.size+1+1);obtain ⟨_,_⟩:=zf hb2 w1.heap.size;clear hb2))
 exact bodyPost_ret (by simp only [results,Tryz.results93];go_simp) rfl ⟨rfl,bgo⟩
variable (U K:Nat)
 (cr:∀ W,CB 125 #[LD dn g t bl wo co pa le mo,A4 Fr] W (A4 U))
include cr
theorem dmean_n (q:Bool)(h30:(V==30)=false)(h31:(V==31)=true)
  (cq:∀ W,CB 123 #[LD dn g t bl wo co pa le mo,.int .u64 G] W (.bool q))
  (co':∀ W,CB 124 #[A4 U,A4 pa] W (A4 K)) :
  CB 93 #[LD dn g t bl wo co pa le mo,A4 B] w (DV 3 s q 0 K):=by
 have hsm:=cell_set_map
 go_enter Tryz.func93,Tryz.ntmps93
 go_wp2_with (first
  | (go_at_call 121;refine (cs _).mono ?_;rintro r w1 ⟨rfl,hb1⟩;obtain ⟨_,_,_,_,hA1,_⟩:=wz w hb1;obtain ⟨_,_⟩:=zf hb1 (w.heap.size+1);obtain ⟨_,_⟩:=zf hb1 (w.heap.size+1+1);clear hb1)
  | (go_at_call 122;refine (ck _).mono ?_;rintro r w2 ⟨rfl,hb2⟩;obtain ⟨_,_,_,_,hA2,_⟩:=wz w hb2;obtain ⟨_,_⟩:=zf hb2 (w.heap.size+1);obtain ⟨_,_⟩:=zf hb2 (w.heap.size+1+1);obtain ⟨_,_⟩:=zf hb2 w1.heap.size;clear hb2))
 refine wp_tail 10 (by kernel_rfl) (by kernel_rfl) (by kernel_rfl) (fun _ _ d _ _ h=>by cases d<;>exact h) fun hne hcell=>?_
 simp only [List.take_succ_cons,List.take_zero,List.drop_succ_cons,List.drop_zero]
 repeat go_big_quiet_step (fail)
 go_big_quiet_step ((go_at_call 123;exact calls_wd _ bk_next (cq _)))
 repeat go_big_quiet_step (fail)
 go_big_quiet_step ((go_at_call 125;exact calls_wd _ bk_next (cr _)))
 repeat go_big_quiet_step (fail)
 go_big_quiet_step ((go_at_call 124;exact calls_wd _ bk_next (co' _)))
 repeat go_big_quiet_step (fail)
 refine wpQuiet_nil fun w3 hb3=>?_
 obtain ⟨_,_,_,_,hA3,_⟩:=wz w hb3;obtain ⟨_,_⟩:=zf hb3 (w.heap.size+1);obtain ⟨_,_⟩:=zf hb3 (w.heap.size+1+1);obtain ⟨_,_⟩:=zf hb3 w1.heap.size;clear hb3
 go_wp2
 exact bodyPost_ret (v:=DV 3 s q 0 K) (by simp only [results,Tryz.results93];go_simp) rfl ⟨rfl,bgo⟩
theorem dmean_f (F L c1 c2:Int)(M C:Nat)(h30:(V==30)=false)(h31:(V==31)=false)(hF0:0<=F)(hF1:F<=1000000)(hl0:-1000000<=le)(hl1:le<=1000000)
  (cp:∀ W,CB 126 #[LD dn g t bl wo co pa le mo,.int .u64 G] W (.tuple #[.int .u64 F,.int .u64 L]))
  (cm:∀ W,CB 127 #[A4 wo,.int .u64 L] W (.tuple #[A4 M,.int .u64 c1]))
  (ca:∀ W,CB 86 #[A4 M,A4 U] W (.tuple #[A4 C,.int .u64 c2]))
  (co':∀ W,CB 124 #[A4 C,A4 co] W (A4 K)) :
  CB 93 #[LD dn g t bl wo co pa le mo,A4 B] w (DV 1 s false (F+le) K):=by
 have hsm:=cell_set_map
 go_enter Tryz.func93,Tryz.ntmps93
 go_wp2_with (first
  | (go_at_call 121;refine (cs _).mono ?_;rintro r w1 ⟨rfl,hb1⟩;obtain ⟨_,_,_,_,hA1,_⟩:=wz w hb1;obtain ⟨_,_⟩:=zf hb1 (w.heap.size+1);obtain ⟨_,_⟩:=zf hb1 (w.heap.size+1+1);clear hb1)
  | (go_at_call 122;refine (ck _).mono ?_;rintro r w2 ⟨rfl,hb2⟩;obtain ⟨_,_,_,_,hA2,_⟩:=wz w hb2;obtain ⟨_,_⟩:=zf hb2 (w.heap.size+1);obtain ⟨_,_⟩:=zf hb2 (w.heap.size+1+1);obtain ⟨_,_⟩:=zf hb2 w1.heap.size;clear hb2)
  | (go_at_call 126;refine (cp _).mono ?_;rintro r w3 ⟨rfl,hb3⟩;obtain ⟨_,_,_,_,hA3,_⟩:=wz w hb3;obtain ⟨_,_⟩:=zf hb3 (w.heap.size+1);obtain ⟨_,_⟩:=zf hb3 (w.heap.size+1+1);obtain ⟨_,_⟩:=zf hb3 w1.heap.size;clear hb3)
  | (go_at_call 127;refine (cm _).mono ?_;rintro r w4 ⟨rfl,hb4⟩;obtain ⟨_,_,_,_,hA4,_⟩:=wz w hb4;obtain ⟨_,_⟩:=zf hb4 (w.heap.size+1);obtain ⟨_,_⟩:=zf hb4 (w.heap.size+1+1);obtain ⟨_,_⟩:=zf hb4 w1.heap.size;clear hb4))
 refine wp_tail 5 (by kernel_rfl) (by kernel_rfl) (by kernel_rfl) (fun _ _ d _ _ h=>by cases d<;>exact h) fun hne hcell=>?_
 simp only [List.take_succ_cons,List.take_zero,List.drop_succ_cons,List.drop_zero]
 repeat go_big_quiet_step (fail)
 go_big_quiet_step ((go_at_call 125;exact calls_wd _ bk_next (cr _)))
 repeat go_big_quiet_step (fail)
 go_big_quiet_step ((go_at_call 86;exact calls_wd _ bk_next (ca _)))
 repeat go_big_quiet_step (fail)
 refine wpQuiet_nil fun w5 hb5=>?_
 obtain ⟨_,_,_,_,hA5,_⟩:=wz w hb5;obtain ⟨_,_⟩:=zf hb5 (w.heap.size+1);obtain ⟨_,_⟩:=zf hb5 (w.heap.size+1+1);obtain ⟨_,_⟩:=zf hb5 w1.heap.size;obtain ⟨_,_⟩:=zf hb5 w4.heap.size;clear hb5
 go_wp2
 refine wp_tail 10 (by kernel_rfl) (by kernel_rfl) (by kernel_rfl) (fun _ _ d _ _ h=>by cases d<;>exact h) fun hne hcell=>?_
 simp only [List.take_succ_cons,List.take_zero,List.drop_succ_cons,List.drop_zero]
 repeat go_big_quiet_step (fail)
 go_big_quiet_step ((go_at_call 124;exact calls_wd _ bk_next (co' _)))
 repeat go_big_quiet_step (fail)
 refine wpQuiet_nil fun w6 hb6=>?_
 obtain ⟨_,_,_,_,hA6,_⟩:=wz w hb6;obtain ⟨_,_⟩:=zf hb6 (w.heap.size+1);obtain ⟨_,_⟩:=zf hb6 (w.heap.size+1+1);obtain ⟨_,_⟩:=zf hb6 w1.heap.size;obtain ⟨_,_⟩:=zf hb6 w4.heap.size;clear hb6
 go_wp2
 exact bodyPost_ret (v:=DV 1 s false (F+le) K) (by simp only [results,Tryz.results93];go_simp) rfl ⟨rfl,bgo⟩
end
section
variable (dn:Bool)(g t bl:Int)(wo co pa:Nat)(le mo:Int)(w:World)(c x:Int)(s q:Bool)(k P:Nat)(E:Int)
theorem dpack_1 (h:∀ W,CB 128 #[LD dn g t bl wo co pa le mo,DV 1 s q x k] W (.tuple #[A4 P,.int .i64 E])) :
  CB 94 #[LD dn g t bl wo co pa le mo,DV 1 s q x k] w (.tuple #[A4 P,.int .i64 E]):=by
 have hsm:=cell_set_map
 go_enter Tryz.func94,Tryz.ntmps94
 go_wp2_with (go_at_call 128;refine (h _).mono ?_;rintro r w1 ⟨rfl,hb1⟩;obtain ⟨_,_,_,_,hA1,_⟩:=wz w hb1;obtain ⟨_,_⟩:=zf hb1 (w.heap.size+1);obtain ⟨_,_⟩:=zf hb1 (w.heap.size+1+1);clear hb1)
 exact bodyPost_ret (v:=.tuple #[A4 P,.int .i64 E]) (by simp only [results,Tryz.results94];go_simp) rfl ⟨rfl,bgo⟩
theorem dpack_2 (h:∀ W,CB 129 #[LD dn g t bl wo co pa le mo,DV 2 s q x k] W (.tuple #[A4 P,.int .i64 E])) :
  CB 94 #[LD dn g t bl wo co pa le mo,DV 2 s q x k] w (.tuple #[A4 P,.int .i64 E]):=by
 have hsm:=cell_set_map
 go_enter Tryz.func94,Tryz.ntmps94
 go_wp2_with (go_at_call 129;refine (h _).mono ?_;rintro r w1 ⟨rfl,hb1⟩;obtain ⟨_,_,_,_,hA1,_⟩:=wz w hb1;obtain ⟨_,_⟩:=zf hb1 (w.heap.size+1);obtain ⟨_,_⟩:=zf hb1 (w.heap.size+1+1);clear hb1)
 exact bodyPost_ret (v:=.tuple #[A4 P,.int .i64 E]) (by simp only [results,Tryz.results94];go_simp) rfl ⟨rfl,bgo⟩
theorem dpack_3 (h:∀ W,CB 130 #[LD dn g t bl wo co pa le mo,DV 3 s q x k] W (.tuple #[A4 P,.int .i64 E])) :
  CB 94 #[LD dn g t bl wo co pa le mo,DV 3 s q x k] w (.tuple #[A4 P,.int .i64 E]):=by
 have hsm:=cell_set_map
 go_enter Tryz.func94,Tryz.ntmps94
 go_wp2_with (go_at_call 130;refine (h _).mono ?_;rintro r w1 ⟨rfl,hb1⟩;obtain ⟨_,_,_,_,hA1,_⟩:=wz w hb1;obtain ⟨_,_⟩:=zf hb1 (w.heap.size+1);obtain ⟨_,_⟩:=zf hb1 (w.heap.size+1+1);clear hb1)
 exact bodyPost_ret (v:=.tuple #[A4 P,.int .i64 E]) (by simp only [results,Tryz.results94];go_simp) rfl ⟨rfl,bgo⟩
theorem dpack_0 (h1:(c==1)=false)(h2:(c==2)=false)(h3:(c==3)=false) :
  CB 94 #[LD dn g t bl wo co pa le mo,DV c s q x k] w (.tuple #[A4 0,.int .i64 3]):=by
 have hsm:=cell_set_map
 rw [Z4_eq]
 go_enter Tryz.func94,Tryz.ntmps94
 go_wp2
 exact bodyPost_ret (by simp only [results,Tryz.results94];go_simp) rfl ⟨rfl,bgo⟩
end
section
variable (dn:Bool)(g t bl:Int)(wo co pa:Nat)(le mo:Int)(w:World)(x:Int)(s q:Bool)(k J:Nat)(G:Int)
theorem dinf_s:CB 129 #[LD dn g t bl wo co pa le mo,DV 2 s true x k] w (.tuple #[A4 0,.int .i64 3]):=by
 have hsm:=cell_set_map
 rw [Z4_eq]
 go_enter Tryz.func129,Tryz.ntmps129
 go_wp2
 exact bodyPost_ret (by simp only [results,Tryz.results129];go_simp) rfl ⟨rfl,bgo⟩
theorem dinf_x (hx:(x != 0)=true):CB 129 #[LD dn g t bl wo co pa le mo,DV 2 s false x k] w (.tuple #[A4 0,.int .i64 3]):=by
 have hsm:=cell_set_map
 rw [Z4_eq]
 go_enter Tryz.func129,Tryz.ntmps129
 go_wp2
 exact bodyPost_ret (by simp only [results,Tryz.results129];go_simp) rfl ⟨rfl,bgo⟩
theorem dinf_k (hk:decide (W4 k 0=0/\W4 k 1=0/\W4 k 2=0/\W4 k 3=0)=false):CB 129 #[LD dn g t bl wo co pa le mo,DV 2 s false 0 k] w (.tuple #[A4 0,.int .i64 3]):=by
 have hsm:=cell_set_map
 have hq:=eq24 (W4 k 0) (W4 k 1) (W4 k 2) (W4 k 3) 0 0 0 0
 rw [hk] at hq
 rw [Z4_eq]
 go_enter Tryz.func129,Tryz.ntmps129
 go_wp2
 exact bodyPost_ret (by simp only [results,Tryz.results129];go_simp) rfl ⟨rfl,bgo⟩
theorem dinf_y
  (cp:∀ W,CB 159 #[LD dn g t bl wo co pa le mo,.int .u64 30,.bool false] W (.int .u64 G))
  (cj:∀ W,CB 156 #[LD dn g t bl wo co pa le mo,.bool s,.int .u64 G,Z4] W (A4 J)) :
  CB 129 #[LD dn g t bl wo co pa le mo,DV 2 s false 0 0] w (.tuple #[A4 J,.int .i64 0]):=by
 have hsm:=cell_set_map
 have hz:DV 2 s false 0 0=.agg #[.int .i64 2,.bool s,.bool false,.int .i64 0,.int .u64 0,.int .u64 0,.int .u64 0,.int .u64 0]:=by unfold DV;simp only [W4_zero]
 rw [hz]
 unfold Z4 at *
 have hq:=eq24 0 0 0 0 0 0 0 0
 simp only [and_self,decide_true] at hq
 go_enter Tryz.func129,Tryz.ntmps129
 go_wp2
 refine wp_tail 7 (by kernel_rfl) (by kernel_rfl) (by kernel_rfl) (fun _ _ d _ _ h=>by cases d<;>exact h) fun hne hcell=>?_
 simp only [List.take_succ_cons,List.take_zero,List.drop_succ_cons,List.drop_zero]
 repeat go_big_quiet_step (fail)
 go_big_quiet_step ((go_at_call 159;exact calls_wd _ bk_next (cp _)))
 repeat go_big_quiet_step (fail)
 go_big_quiet_step ((go_at_call 156;exact calls_wd _ bk_next (cj _)))
 repeat go_big_quiet_step (fail)
 refine wpQuiet_nil fun w1 hb1=>?_
 obtain ⟨_,_,_,_,hA1,_⟩:=wz w hb1;obtain ⟨_,_⟩:=zf hb1 (w.heap.size+1);obtain ⟨_,_⟩:=zf hb1 (w.heap.size+1+1);clear hb1
 go_wp2
 exact bodyPost_ret (v:=.tuple #[A4 J,.int .i64 0]) (by simp only [results,Tryz.results129];go_simp) rfl ⟨rfl,bgo⟩
theorem dnan_x (hx:(x != 0)=true):CB 130 #[LD dn g t bl wo co pa le mo,DV 3 s q x k] w (.tuple #[A4 0,.int .i64 3]):=by
 have hsm:=cell_set_map
 rw [Z4_eq]
 go_enter Tryz.func130,Tryz.ntmps130
 go_wp2
 exact bodyPost_ret (by simp only [results,Tryz.results130];go_simp) rfl ⟨rfl,bgo⟩
variable (Q:Int)(cc:∀ W,CB 154 #[A4 k,A4 pa] W (.int .i64 Q))
include cc
theorem dnan_k (hQ:0<=Q):CB 130 #[LD dn g t bl wo co pa le mo,DV 3 s q 0 k] w (.tuple #[A4 0,.int .i64 3]):=by
 have hsm:=cell_set_map
 rw [Z4_eq]
 go_enter Tryz.func130,Tryz.ntmps130
 go_wp2_with (go_at_call 154;refine (cc _).mono ?_;rintro r w1 ⟨rfl,hb1⟩;obtain ⟨_,_,_,_,hA1,_⟩:=wz w hb1;obtain ⟨_,_⟩:=zf hb1 (w.heap.size+1);obtain ⟨_,_⟩:=zf hb1 (w.heap.size+1+1);obtain ⟨_,_⟩:=zf hb1 (w.heap.size+1+1+1);clear hb1)
 exact bodyPost_ret (by simp only [results,Tryz.results130];go_simp) rfl ⟨rfl,bgo⟩
theorem dnan_y (R:Nat)(hQ:¬ 0<=Q)
  (cp:∀ W,CB 159 #[LD dn g t bl wo co pa le mo,.int .u64 31,.bool q] W (.int .u64 G))
  (cw:∀ W,CB 158 #[LD dn g t bl wo co pa le mo,A4 k] W (A4 R))
  (cj:∀ W,CB 156 #[LD dn g t bl wo co pa le mo,.bool s,.int .u64 G,A4 R] W (A4 J)) :
  CB 130 #[LD dn g t bl wo co pa le mo,DV 3 s q 0 k] w (.tuple #[A4 J,.int .i64 0]):=by
 have hsm:=cell_set_map
 go_enter Tryz.func130,Tryz.ntmps130
 go_wp2_with (go_at_call 154;refine (cc _).mono ?_;rintro r w1 ⟨rfl,hb1⟩;obtain ⟨_,_,_,_,hA1,_⟩:=wz w hb1;obtain ⟨_,_⟩:=zf hb1 (w.heap.size+1);obtain ⟨_,_⟩:=zf hb1 (w.heap.size+1+1);obtain ⟨_,_⟩:=zf hb1 (w.heap.size+1+1+1);clear hb1)
 refine wp_tail 11 (by kernel_rfl) (by kernel_rfl) (by kernel_rfl) (fun _ _ d _ _ h=>by cases d<;>exact h) fun hne hcell=>?_
 simp only [List.take_succ_cons,List.take_zero,List.drop_succ_cons,List.drop_zero]
 repeat go_big_quiet_step (fail)
 go_big_quiet_step ((go_at_call 159;exact calls_wd _ bk_next (cp _)))
 repeat go_big_quiet_step (fail)
 go_big_quiet_step ((go_at_call 158;exact calls_wd _ bk_next (cw _)))
 repeat go_big_quiet_step (fail)
 go_big_quiet_step ((go_at_call 156;exact calls_wd _ bk_next (cj _)))
 repeat go_big_quiet_step (fail)
 refine wpQuiet_nil fun w2 hb2=>?_
 obtain ⟨_,_,_,_,hA2,_⟩:=wz w hb2;obtain ⟨_,_⟩:=zf hb2 (w.heap.size+1);obtain ⟨_,_⟩:=zf hb2 (w.heap.size+1+1);obtain ⟨_,_⟩:=zf hb2 (w.heap.size+1+1+1);clear hb2
 go_wp2
 exact bodyPost_ret (v:=.tuple #[A4 J,.int .i64 0]) (by simp only [results,Tryz.results130];go_simp) rfl ⟨rfl,bgo⟩
end
end
section
theorem bcelln {n:Nat}{W w1:World}(hb:Below n W w1):(∀ b o,b<n->w1.cell? ⟨b,o,none⟩=W.cell? ⟨b,o,none⟩)/\(∀ b o,b<n->w1.frozen? ⟨b,o,none⟩=W.frozen? ⟨b,o,none⟩) :=
 ⟨fun b o h=>hb.cell (p:=⟨b,o,none⟩) h,fun b o h=>hb.frozen (p:=⟨b,o,none⟩) h⟩
theorem below_put {n g X:Nat}{a W:World}(h:Below n a W)(hg:n<=g):Below n a (put4C W g X) :=
 (((h.setCell hg _).setCell hg _).setCell hg _).setCell hg _
attribute [local irreducible] W4
attribute [local go_sem ↓] ld18_eq
attribute [local go_sem] ld18_got
section
variable (dn:Bool)(g t bl:Int)(wo co pa:Nat)(le mo:Int)(w:World)(x:Int)(s q:Bool)(k J:Nat)(G:Int)
theorem dfin_s:CB 128 #[LD dn g t bl wo co pa le mo,DV 1 s true x k] w (.tuple #[A4 0,.int .i64 3]):=by
 have hsm:=cell_set_map
 rw [Z4_eq]
 go_enter Tryz.func128,Tryz.ntmps128
 go_wp2
 exact bodyPost_ret (by simp only [results,Tryz.results128];go_simp) rfl ⟨rfl,bgo⟩
theorem dfin_l (h:x<le):CB 128 #[LD dn g t bl wo co pa le mo,DV 1 s false x k] w (.tuple #[A4 0,.int .i64 3]):=by
 have hsm:=cell_set_map
 rw [Z4_eq]
 go_enter Tryz.func128,Tryz.ntmps128
 go_wp2
 exact bodyPost_ret (by simp only [results,Tryz.results128];go_simp) rfl ⟨rfl,bgo⟩
theorem dfin_m (h1:¬ x<le)(h2:mo<x):CB 128 #[LD dn g t bl wo co pa le mo,DV 1 s false x k] w (.tuple #[A4 0,.int .i64 3]):=by
 have hsm:=cell_set_map
 rw [Z4_eq]
 go_enter Tryz.func128,Tryz.ntmps128
 go_wp2
 exact bodyPost_ret (by simp only [results,Tryz.results128];go_simp) rfl ⟨rfl,bgo⟩
variable (Q:Int)(cc:∀ W,CB 154 #[A4 k,A4 co] W (.int .i64 Q))(h1:¬ x<le)(h2:¬ mo<x)
include cc h1 h2
theorem dfin_k (hQ:0<=Q):CB 128 #[LD dn g t bl wo co pa le mo,DV 1 s false x k] w (.tuple #[A4 0,.int .i64 3]):=by
 have hsm:=cell_set_map
 rw [Z4_eq]
 go_enter Tryz.func128,Tryz.ntmps128
 go_wp2_with (go_at_call 154;refine (cc _).mono ?_;rintro r w1 ⟨rfl,hb1⟩;obtain ⟨_,_,_,_,hA1,_⟩:=wz w hb1;obtain ⟨_,_⟩:=zf hb1 (w.heap.size+1);obtain ⟨_,_⟩:=zf hb1 (w.heap.size+1+1);obtain ⟨_,_⟩:=zf hb1 (w.heap.size+1+1+1);clear hb1)
 exact bodyPost_ret (by simp only [results,Tryz.results128];go_simp) rfl ⟨rfl,bgo⟩
theorem dfin_y (hQ:¬ 0<=Q)(m:Nat)(hm:m<=100)(R:Nat->Nat)(qc cr:Nat->Int)(hR:R 0=k)(T:Nat)(hl0:-1000000<=le)(hl1:le<=1000000)(hx1:x<=1000000)(gl:Int)
  (cq:Hid (∀ i,i<=m->∀ W,CB 154 #[A4 (R i),A4 wo] W (.int .i64 (qc i))))
  (hq1:Hid (∀ i,i<m->0<=qc i)) (hq2:Hid (¬ 0<=qc m))
  (cu:Hid (∀ i,i<m->∀ W,CB 85 #[A4 (R i),A4 wo] W (.tuple #[A4 (R (i+1)),.int .u64 (cr i)])))
  (cn:∀ W,CB 157 #[LD dn g t bl wo co pa le mo,.int .u64 (x-le),.int .u64 (m:Int)] W (.int .u64 gl))
  (cw:∀ W,CB 158 #[LD dn g t bl wo co pa le mo,A4 (R m)] W (A4 T))
  (cj:∀ W,CB 156 #[LD dn g t bl wo co pa le mo,.bool s,.int .u64 gl,A4 T] W (A4 J)) :
  CB 128 #[LD dn g t bl wo co pa le mo,DV 1 s false x k] w (.tuple #[A4 J,.int .i64 0]):=by
 have hsm:=cell_set_map
 have hxl0:0<=x-le:=by omega
 have hxl1:x-le<=2000000:=by omega
 go_enter Tryz.func128,Tryz.ntmps128
 go_wp2_with (go_at_call 154;refine (cc _).mono ?_;rintro r w1 ⟨rfl,hb1⟩;clear cc;obtain ⟨_,_,_,_,hA1,_⟩:=wz w hb1;obtain ⟨_,_⟩:=zf hb1 (w.heap.size+1);obtain ⟨_,_⟩:=zf hb1 (w.heap.size+1+1);obtain ⟨_,_⟩:=zf hb1 (w.heap.size+1+1+1);clear hb1)
 go_loopw [7,34,35,36,37,38,39,40,41,42,43,44,45,46,47] (fun t _ _ _ _ _ _ _ _ _ _ _ _ _ _ wr=>∃ (i:Nat),i<=m/\t=.int .u64 (i:Int)/\C4 (w.heap.size+1+1+1) (R i) wr/\Below (w.heap.size+1+1+1) w1 wr/\Below w.heap.size w wr) (fun t _ _ _ _ _ _ _ _ _ _ _ _ _ _ _=>m-(intOf t).toNat)
 case atStart =>
  refine ⟨0,Nat.zero_le _,rfl,?_,Below.refl _ _,bgo⟩
  rw [hR];refine ⟨by omega,?_,?_,?_,?_,?_,?_,?_,?_⟩<;>go_simp
 case round =>
  obtain ⟨i,hi,rfl,h3,hbw,hbx⟩:=hrel
  have hl3:=h3.lt
  have hl2:w.heap.size+1+1<wr.heap.size:=by omega
  have hl1:w.heap.size+1<wr.heap.size:=by omega
  have hl0:w.heap.size<wr.heap.size:=by omega
  have z0:w.heap.size<w.heap.size+1+1+1:=by omega
  have z1:w.heap.size+1<w.heap.size+1+1+1:=by omega
  have z2:w.heap.size+1+1<w.heap.size+1+1+1:=by omega
  obtain ⟨hcw,hfw⟩:=bcelln hbw
  obtain ⟨_,o0,o1,o2,o3,g0,g1,g2,g3⟩:=id h3
  have dq:=cq.out i hi
  by_cases hic:i<m
  ·have du:=cu.out i hic
   have hq:=hq1.out i hic
   have hi0:(0:Int)<=(i:Int):=by omega
   have hi1:(i:Int)<=100:=by omega
   generalize R i=Ri at *
   generalize qc i=Qi at *
   go_wp2_with (first
    | (go_at_call 154;refine (dq _).mono ?_;rintro r w2 ⟨rfl,hb2⟩;have hn3:=h3.next hb2;have hbw2:=hbw.trans (hb2.mono (by omega));obtain ⟨_,_,_,_,hA2,_⟩:=wz w hb2;obtain ⟨_,_⟩:=zf hb2 (w.heap.size+1);obtain ⟨_,_⟩:=zf hb2 (w.heap.size+1+1);obtain ⟨_,_⟩:=zf hb2 (w.heap.size+1+1+1);clear hb2)
    | (go_at_call 85;refine (du _).mono ?_;rintro r w3 ⟨rfl,hb3⟩;have hm3:=hn3.next hb3;have hbw3:=hbw2.trans (hb3.mono (by omega));obtain ⟨_,_,_,_,hA3,_⟩:=wz w hb3;obtain ⟨_,_⟩:=zf hb3 (w.heap.size+1);obtain ⟨_,_⟩:=zf hb3 (w.heap.size+1+1);obtain ⟨_,_⟩:=zf hb3 (w.heap.size+1+1+1);clear hb3))
   go_roundw
   case rel=>exact ⟨i+1,by omega,by go_num,hm3.put,below_put hbw3 (by omega),bgo⟩
   case measure=>simp [intOf];omega
  ·obtain rfl:i=m:=by omega
   have hq:=hq2.out
   clear cq cu hq1 hq2
   generalize R i=Ri at *
   generalize qc i=Qi at *
   generalize (i:Int)=mi at *
   go_wp2_with (go_at_call 154;refine (dq _).mono ?_;rintro r w2 ⟨rfl,hb2⟩;clear dq;obtain ⟨_,_,_,_,hA2,_⟩:=wz w hb2;obtain ⟨_,_⟩:=zf hb2 (w.heap.size+1);obtain ⟨_,_⟩:=zf hb2 (w.heap.size+1+1);obtain ⟨_,_⟩:=zf hb2 (w.heap.size+1+1+1);clear hb2)
   refine wp_tail 16 (by kernel_rfl) (by kernel_rfl) (by kernel_rfl) (fun _ _ d _ _ h=>by cases d<;>exact h) fun hne hcell=>?_
   simp only [List.take_succ_cons,List.take_zero,List.drop_succ_cons,List.drop_zero]
   repeat go_big_quiet_step (fail)
   go_big_quiet_step ((go_at_call 157;exact calls_wd _ bk_next (cn _)))
   repeat go_big_quiet_step (fail)
   go_big_quiet_step ((go_at_call 158;exact calls_wd _ bk_next (cw _)))
   repeat go_big_quiet_step (fail)
   go_big_quiet_step ((go_at_call 156;exact calls_wd _ bk_next (cj _)))
   repeat go_big_quiet_step (fail)
   refine wpQuiet_nil fun w3 hb3=>?_
   obtain ⟨_,_,_,_,hA3,_⟩:=wz w hb3;obtain ⟨_,_⟩:=zf hb3 (w.heap.size+1);obtain ⟨_,_⟩:=zf hb3 (w.heap.size+1+1);obtain ⟨_,_⟩:=zf hb3 (w.heap.size+1+1+1);clear hb3
   go_wp2
   exact bodyPost_ret (v:=.tuple #[A4 J,.int .i64 0]) (by simp only [results,Tryz.results128];go_simp) rfl ⟨rfl,bgo⟩
end
end
end Go.Proofs.YtgknbdehlmlipaaGreatDoor
