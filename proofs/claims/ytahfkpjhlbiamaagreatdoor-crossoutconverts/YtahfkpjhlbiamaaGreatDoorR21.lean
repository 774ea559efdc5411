/-
  Texts that the proof leans on.
-/
import Derived.Test.YtahfkpjhlbiamaaGreatDoorR14
import Derived.Test.YtahfkpjhlbiamaaGreatDoorR2
import Derived.Test.YtahfkpjhlbiamaaGreatDoorR20
import Derived.Test.YtahfkpjhlbiamaaGreatDoorR1
import Derived.Test.YtahfkpjhlbiamaaGreatDoorR16
import Derived.Deep.MidRow
set_option maxHeartbeats 8000000
set_option linter.unusedVariables false
set_option linter.unusedSectionVars false
set_option linter.unusedSimpArgs false
set_option maxRecDepth 20000
namespace Go.Proofs.YtahfkpjhlbiamaaGreatDoor
open Go.RowKit
section
attribute [local irreducible] W4
section
variable (dn:Bool)(g t bl:Int)(wo co pa:Nat)(le mo:Int)(w:World)
theorem zD6 (B Ab Sh Fr:Nat)(S E cr:Int)
  (c1:∀ W,CB 72 #[A4 B,.int .i64 t] W (A4 Ab))
  (c2:∀ W,CB 74 #[A4 Ab,.int .i64 t] W (A4 Sh))
  (c3:∀ W,CB 73 #[A4 B,A4 Sh] W (.tuple #[A4 Fr,.int .u64 cr]))
  (c4:∀ W,CB 71 #[A4 Ab,.int .i64 g] W (.int .u64 S))
  (c5:∀ W,CB 187 #[.int .u64 (W4 Ab 0),.int .i64 g] W (.int .u64 E)) :
  CB 137 #[LD dn g t bl wo co pa le mo,A4 B] w (.tuple #[.bool (S==1),.int .u64 E,A4 Fr]):=by
 have hsm:=zAa
 go_enter Tryz.func137,Tryz.ntmps137
 go_wp2_with (go_at_call 72;refine wk w (c1 _) ?_;intro w1 hb1 _ _ _ _ hA1 _;obtain ⟨_,_,_,_⟩:=zg hb1 (w.heap.size+1) (w.heap.size+1+1);clear hb1)
 refine zGb 6 (by kernel_rfl) (by kernel_rfl) (by kernel_rfl) (fun _ _ d _ _ h=>by cases d<;>exact h) fun hne hcell=>?_
 simp only [List.take_succ_cons,List.take_zero,List.drop_succ_cons,List.drop_zero]
 repeat go_big_quiet_step (fail)
 go_big_quiet_step ((go_at_call 74;exact zEa _ zMa (c2 _)))
 repeat go_big_quiet_step (fail)
 go_big_quiet_step ((go_at_call 73;exact zEa _ zMa (c3 _)))
 repeat go_big_quiet_step (fail)
 refine wpQuiet_nil fun w2 hb2=>?_
 obtain ⟨_,_,_,_,hA2,_⟩:=wz w hb2;obtain ⟨_,_,_,_,_,_⟩:=zh hb2 (w.heap.size+1) (w.heap.size+1+1) w1.heap.size;clear hb2
 go_wp2
 refine zGb 13 (by kernel_rfl) (by kernel_rfl) (by kernel_rfl) (fun _ _ d _ _ h=>by cases d<;>exact h) fun hne hcell=>?_
 simp only [List.take_succ_cons,List.take_zero,List.drop_succ_cons,List.drop_zero]
 repeat go_big_quiet_step (fail)
 go_big_quiet_step ((go_at_call 71;exact zEa _ zMa (c4 _)))
 repeat go_big_quiet_step (fail)
 go_big_quiet_step ((go_at_call 187;exact zEa _ zMa (c5 _)))
 repeat go_big_quiet_step (fail)
 refine wpQuiet_nil fun w3 hb3=>?_
 obtain ⟨_,_,_,_,hA3,_⟩:=wz w hb3;obtain ⟨_,_,_,_,_,_⟩:=zh hb3 (w.heap.size+1) (w.heap.size+1+1) w1.heap.size;clear hb3
 go_wp2
 exact bodyPost_ret (v:=.tuple #[.bool (S==1),.int .u64 E,A4 Fr]) (by simp only [results,Tryz.results137];go_simp) rfl ⟨rfl,bgo⟩
end
section
variable (dn:Bool)(g t bl:Int)(wo co pa:Nat)(le mo:Int)(w:World)(E0 E:Int)(s:Bool)(F En Sh J:Nat)(cr:Int)
 (c49:∀ w,CB 78 #[.int .u64 E] w (A4 En))
 (c45:∀ w,CB 74 #[A4 En,.int .i64 t] w (A4 Sh))
 (c22:∀ w,CB 37 #[A4 Sh,A4 F] w (.tuple #[A4 J,.int .u64 cr]))
include c49 c45 c22
theorem zH9:CB 182 #[LD dn g t bl wo co pa le mo,.bool false,.int .u64 E,A4 F] w (A4 J):=by
 have hsm:=zAa
 go_enter Tryz.func182,Tryz.ntmps182
 go_wp2
 refine zSi 7 10 9 #[.int .u64 0,.int .u64 0,.int .u64 0,.int .u64 0] (by kernel_rfl) (by kernel_rfl) (by kernel_rfl) rfl (fun oa hoa a w=>?_) (by kernel_rfl) (by kernel_rfl) rfl rfl (fun _ _ d _ _ h=>by cases d<;>exact h) ?_
 ·cases hoa;exact ⟨23,by simp [go_sem]⟩
 apply Exists.intro
 refine ⟨fun al hne hcell=>?_,fun w1 hb1=>?_,fun g w1 hb1 hg0 hg1 hg2 hg3=>?_⟩
 ·simp only [List.take_succ_cons,List.take_zero]
  repeat go_big_quiet_step (fail)
  go_big_quiet_step ((go_at_call 78;exact zEa _ zXc (c49 _)))
  repeat go_big_quiet_step (fail)
  go_big_quiet_step ((go_at_call 74;exact zEa _ zXc (c45 _)))
  repeat go_big_quiet_step (fail)
  go_big_quiet_step ((go_at_call 37;exact zEa _ zXc (c22 _)))
  exact wpQuiet_nil rfl
 ·simp only [List.drop_succ_cons,List.drop_zero]
  obtain ⟨_,_,_,_,hA1,_⟩:=wz w hb1;obtain ⟨_,_,_,_⟩:=zg hb1 (w.heap.size+1) (w.heap.size+1+1);clear hb1
  go_wp2
  exact bodyPost_ret (v:=A4 J) (by simp only [results,Tryz.results182];go_simp) rfl ⟨rfl,bgo⟩
 ·simp only [List.drop_succ_cons,List.drop_zero,Nat.reduceSub,List.eraseIdx_cons_succ,List.eraseIdx_cons_zero]
  simp only [World.size_alloc] at hg0
  have hz0:g≠w.heap.size:=by omega
  have hz1:g≠w.heap.size+1:=by omega
  have hz2:g≠w.heap.size+1+1:=by omega
  obtain ⟨_,_,_,_,hA1,_⟩:=wz w hb1;obtain ⟨_,_,_,_⟩:=zg hb1 (w.heap.size+1) (w.heap.size+1+1);clear hb1
  go_wp2
  exact bodyPost_ret (v:=A4 J) (by simp only [results,Tryz.results182];go_simp) rfl ⟨rfl,bgo⟩
theorem zG9 (n:Nat)(H:Int)(hg:g=(n:Int))(hn:n<=40)(hH:(2:Int)^n=H)(hH0:1<=H)(hH1:H<=1099511627776)(hE:bits .or .u64 E0 H=E) :
  CB 182 #[LD dn g t bl wo co pa le mo,.bool true,.int .u64 E0,A4 F] w (A4 J):=by
 have hsm:=zAa
 subst hg
 have hn0:(0:Int)<=(n:Int):=by omega
 have hn1:(n:Int)<=40:=by omega
 go_enter Tryz.func182,Tryz.ntmps182
 go_wp2
 refine zSi 7 10 9 #[.int .u64 0,.int .u64 0,.int .u64 0,.int .u64 0] (by kernel_rfl) (by kernel_rfl) (by kernel_rfl) rfl (fun oa hoa a w=>?_) (by kernel_rfl) (by kernel_rfl) rfl rfl (fun _ _ d _ _ h=>by cases d<;>exact h) ?_
 ·cases hoa;exact ⟨23,by simp [go_sem]⟩
 apply Exists.intro
 refine ⟨fun al hne hcell=>?_,fun w1 hb1=>?_,fun g w1 hb1 hg0 hg1 hg2 hg3=>?_⟩
 ·simp only [List.take_succ_cons,List.take_zero]
  repeat go_big_quiet_step (fail)
  go_big_quiet_step ((go_at_call 78;exact zEa _ zXc (c49 _)))
  repeat go_big_quiet_step (fail)
  go_big_quiet_step ((go_at_call 74;exact zEa _ zXc (c45 _)))
  repeat go_big_quiet_step (fail)
  go_big_quiet_step ((go_at_call 37;exact zEa _ zXc (c22 _)))
  exact wpQuiet_nil rfl
 ·simp only [List.drop_succ_cons,List.drop_zero]
  obtain ⟨_,_,_,_,hA1,_⟩:=wz w hb1;obtain ⟨_,_,_,_⟩:=zg hb1 (w.heap.size+1) (w.heap.size+1+1);clear hb1
  go_wp2
  exact bodyPost_ret (v:=A4 J) (by simp only [results,Tryz.results182];go_simp) rfl ⟨rfl,bgo⟩
 ·simp only [List.drop_succ_cons,List.drop_zero,Nat.reduceSub,List.eraseIdx_cons_succ,List.eraseIdx_cons_zero]
  simp only [World.size_alloc] at hg0
  have hz0:g≠w.heap.size:=by omega
  have hz1:g≠w.heap.size+1:=by omega
  have hz2:g≠w.heap.size+1+1:=by omega
  obtain ⟨_,_,_,_,hA1,_⟩:=wz w hb1;obtain ⟨_,_,_,_⟩:=zg hb1 (w.heap.size+1) (w.heap.size+1+1);clear hb1
  go_wp2
  exact bodyPost_ret (v:=A4 J) (by simp only [results,Tryz.results182];go_simp) rfl ⟨rfl,bgo⟩
end
theorem zYq (A B:Nat)(w:World)(hA:A<2^256)(hB:B<2^256):CB 140 #[A4 A,A4 B] w (A4 (if A<B then A else 0)):=by
 have c:=fun W=>cmp4 A B W hA hB
 have hsm:=zAa
 by_cases h:A<B
 ·rw [if_pos h]
  rw [show sgn (A:Int) (B:Int)=-1 by unfold sgn;rw [if_pos (by omega)]] at c
  clear hA hB h
  go_enter Tryz.func140,Tryz.ntmps140
  go_wp2_with (go_at_call 181;refine wk w (c _) ?_;intro w1 hb1 _ _ _ _ hA1 _;obtain ⟨_,_,_,_⟩:=zg hb1 (w.heap.size+1) (w.heap.size+1+1);clear hb1)
  exact bodyPost_ret (v:=A4 A) (by simp only [results,Tryz.results140];go_simp) rfl ⟨rfl,bgo⟩
 ·rw [if_neg h]
  have hs:0<=sgn (A:Int) (B:Int):=by unfold sgn;rw [if_neg (by omega)];split<;>decide
  generalize sgn (A:Int) (B:Int)=q at *
  clear hA hB h
  go_enter Tryz.func140,Tryz.ntmps140
  go_wp2_with (go_at_call 181;refine wk w (c _) ?_;intro w1 hb1 _ _ _ _ hA1 _;obtain ⟨_,_,_,_⟩:=zg hb1 (w.heap.size+1) (w.heap.size+1+1);clear hb1)
  exact bodyPost_ret (v:=A4 0) (by rw [zEd];simp only [results,Tryz.results140];go_simp) rfl ⟨rfl,bgo⟩
theorem dten_w (n:Nat)(w:World)(P:Nat->Nat)(cr:Nat->Int)(hn:n<=60)(hP:P 0=1)
  (c1:∀ W,CB 78 #[.int .u64 1] W (A4 1))
  (cm:Hid (∀ i W,CB 143 #[A4 (P i),.int .u64 10] W (.tuple #[A4 (P (i+1)),.int .u64 (cr i)]))) :
  CB 122 #[.int .i64 (n:Int)] w (A4 (P n)):=by
 have hsm:=zAa
 go_enter Tryz.func122,Tryz.ntmps122
 go_wp2_with (go_at_call 78;refine wk w (c1 _) ?_;intro w1 hb1 _ _ _ _ hA1 _;clear hb1)
 go_loopw [6,7,8,9,10,11,12,13] (fun t _ _ _ _ _ _ _ wr=>∃ (i:Nat),i<=n/\t=.int .i64 (i:Int)/\C4 w1.heap.size (P i) wr/\C4 w.heap.size 0 wr/\Below w.heap.size w wr) (fun t _ _ _ _ _ _ _ _=>n-(intOf t).toNat)
 case atStart =>
  refine ⟨0,Nat.zero_le _,rfl,?_,?_,bgo⟩
  ·rw [hP];refine ⟨by simp,?_,?_,?_,?_,?_,?_,?_,?_⟩<;>go_simp
  ·refine ⟨by simp;omega,?_,?_,?_,?_,?_,?_,?_,?_⟩<;>first|(rw [zNa];go_simp)|go_simp
 case round =>
  obtain ⟨i,hi,rfl,h3,h4,hbw⟩:=hrel
  have hl3:=h3.lt
  have hl4:=h4.lt
  obtain ⟨_,o0,o1,o2,o3,g0,g1,g2,g3⟩:=id h3
  obtain ⟨_,p0,p1,p2,p3,f0,f1,f2,f3⟩:=id h4
  by_cases hic:i<n
  ·have hl:(i:Int)<(n:Int):=by omega
   have hl':(i:Int)<=60:=by omega
   have dm:=cm.out i
   generalize P i=Pi at *
   go_wp2_with (go_at_call 143;refine (dm _).mono ?_;rintro r w2 ⟨rfl,hb2⟩;have hn3:=h3.next hb2;have hn4:=h4.next hb2;obtain ⟨_,_,_,_,hA2,_⟩:=wz w hb2;obtain ⟨_,_⟩:=zf hb2 w1.heap.size;clear hb2)
   go_roundw
   case rel=>exact ⟨i+1,by omega,by go_num,hn3.put,hn4.other (by omega),bgo⟩
   case measure=>simp [intOf];omega
  ·have hl:¬ (i:Int)<(n:Int):=by omega
   obtain rfl:i=n:=by omega
   go_wp2
   exact bodyPost_ret (v:=A4 (P i)) (by simp only [results,Tryz.results122];go_simp) rfl ⟨rfl,bgo⟩
theorem zP4 (n:Nat)(w:World)(hn:n<=60):CB 122 #[.int .i64 (n:Int)] w (A4 (10^n)):=by
 refine (dten_w n w (fun i=>10^i%2^256) (fun i=>((10^i%2^256*10/2^256:Nat):Int)) hn rfl (fun W=>of4 1 W (by decide)) ?_).mono ?_
 ·show ∀ _,_
  intro i W
  refine (mul4 (10^i%2^256) 10 W (Nat.mod_lt _ (by decide)) (by decide)).mono ?_
  rintro r w' ⟨rfl,hb⟩
  refine ⟨?_,hb⟩
  show Ending.returned (.tuple #[A4 (10^i%2^256*10),_])=Ending.returned (.tuple #[A4 (10^(i+1)%2^256),_])
  rw [zCl (10^(i+1)),← zCl (10^i%2^256*10),Nat.mod_mul_mod,zCl,show 10^(i+1)=10^i*10 from Nat.pow_succ _ _]
 ·rintro r w' ⟨rfl,hb⟩
  refine ⟨?_,hb⟩
  show Ending.returned (A4 (10^n%2^256))=_
  rw [zCl]
section
variable (g t bl:Int)(wo co pa:Nat)(le mo:Int)(w:World)
theorem read_p (R:Nat):CB 141 #[LD false g t bl wo co pa le mo,A4 R] w (A4 R):=by
 have hsm:=zAa
 go_enter Tryz.func141,Tryz.ntmps141
 go_wp2
 exact bodyPost_ret (v:=A4 R) (by simp only [results,Tryz.results141];go_simp) rfl ⟨rfl,bgo⟩
theorem read_d (R U:Nat)(E j:Int)(ht0:0<=t)(ht1:t<=256)(hj:t/10=j)
  (c:∀ W,CB 188 #[A4 R,.int .i64 j] W (.tuple #[A4 U,.int .i64 E])) :
  CB 141 #[LD true g t bl wo co pa le mo,A4 R] w (A4 U):=by
 have hsm:=zAa
 go_enter Tryz.func141,Tryz.ntmps141
 go_wp2_with (go_at_call 188;refine wk w (c _) ?_;intro w1 hb1 _ _ _ _ hA1 _;obtain ⟨_,_,_,_⟩:=zg hb1 (w.heap.size+1) (w.heap.size+1+1);clear hb1)
 exact bodyPost_ret (v:=A4 U) (by simp only [results,Tryz.results141];go_simp) rfl ⟨rfl,bgo⟩
theorem zI5 (R:Nat):CB 184 #[LD false g t bl wo co pa le mo,A4 R] w (A4 R):=by
 have hsm:=zAa
 go_enter Tryz.func184,Tryz.ntmps184
 go_wp2
 exact bodyPost_ret (v:=A4 R) (by simp only [results,Tryz.results184];go_simp) rfl ⟨rfl,bgo⟩
theorem zJ5 (R U:Nat)(E j:Int)(ht0:0<=t)(ht1:t<=256)(hj:t/10=j)
  (c:∀ W,CB 211 #[A4 R,.int .i64 j] W (.tuple #[A4 U,.int .i64 E])) :
  CB 184 #[LD true g t bl wo co pa le mo,A4 R] w (A4 U):=by
 have hsm:=zAa
 go_enter Tryz.func184,Tryz.ntmps184
 go_wp2_with (go_at_call 211;refine wk w (c _) ?_;intro w1 hb1 _ _ _ _ hA1 _;obtain ⟨_,_,_,_⟩:=zg hb1 (w.heap.size+1) (w.heap.size+1+1);clear hb1)
 exact bodyPost_ret (v:=A4 U) (by simp only [results,Tryz.results184];go_simp) rfl ⟨rfl,bgo⟩
end
end
section
def ld18 (a:Addr):Sem (Array Value):=loadCellsFrom a 0 18 #[]
theorem zCe (a:Addr):loadCellsFrom a 0 18 #[]=ld18 a:=rfl
theorem zY1 {P:Program}(W:World)(b:Nat)(f:Nat->Value)(h:∀ i,i<18->W.cell? ⟨b,i,none⟩=some (f i)) :
  (ld18 ⟨b,0,none⟩).run P W=.ok ((List.range 18).map f).toArray W:=by
 have:=run_loadCellsFrom (P:=P) W ⟨b,0,none⟩ f 18 0 #[] (fun j hj=>by
  have hadd:(⟨b,0,none⟩:Addr).add (0+j)=⟨b,0+j,none⟩:=by unfold Addr.add;split<;>simp_all
  rw [hadd,Nat.zero_add]
  exact h j hj)
 unfold ld18
 rw [this]
 simp
def ld18x (a:Addr):Sem (Array Value):=loadCellsFrom a 0 18 #[]
theorem zQc {P:Program}(W:World)(b:Nat) :
  (ld18 ⟨b,0,none⟩).run P W=if (W.cell? ⟨b,0,none⟩).isSome=true/\(W.cell? ⟨b,1,none⟩).isSome=true/\(W.cell? ⟨b,2,none⟩).isSome=true/\(W.cell? ⟨b,3,none⟩).isSome=true/\(W.cell? ⟨b,4,none⟩).isSome=true/\(W.cell? ⟨b,5,none⟩).isSome=true/\(W.cell? ⟨b,6,none⟩).isSome=true/\(W.cell? ⟨b,7,none⟩).isSome=true/\(W.cell? ⟨b,8,none⟩).isSome=true/\(W.cell? ⟨b,9,none⟩).isSome=true/\(W.cell? ⟨b,10,none⟩).isSome=true/\(W.cell? ⟨b,11,none⟩).isSome=true/\(W.cell? ⟨b,12,none⟩).isSome=true/\(W.cell? ⟨b,13,none⟩).isSome=true/\(W.cell? ⟨b,14,none⟩).isSome=true/\(W.cell? ⟨b,15,none⟩).isSome=true/\(W.cell? ⟨b,16,none⟩).isSome=true/\(W.cell? ⟨b,17,none⟩).isSome=true then .ok #[(W.cell? ⟨b,0,none⟩).getD undef,(W.cell? ⟨b,1,none⟩).getD undef,(W.cell? ⟨b,2,none⟩).getD undef,(W.cell? ⟨b,3,none⟩).getD undef,(W.cell? ⟨b,4,none⟩).getD undef,(W.cell? ⟨b,5,none⟩).getD undef,(W.cell? ⟨b,6,none⟩).getD undef,(W.cell? ⟨b,7,none⟩).getD undef,(W.cell? ⟨b,8,none⟩).getD undef,(W.cell? ⟨b,9,none⟩).getD undef,(W.cell? ⟨b,10,none⟩).getD undef,(W.cell? ⟨b,11,none⟩).getD undef,(W.cell? ⟨b,12,none⟩).getD undef,(W.cell? ⟨b,13,none⟩).getD undef,(W.cell? ⟨b,14,none⟩).getD undef,(W.cell? ⟨b,15,none⟩).getD undef,(W.cell? ⟨b,16,none⟩).getD undef,(W.cell? ⟨b,17,none⟩).getD undef] W else (ld18x ⟨b,0,none⟩).run P W:=by
 split
 ·rename_i hc
  obtain ⟨h0,h1,h2,h3,h4,h5,h6,h7,h8,h9,h10,h11,h12,h13,h14,h15,h16,h17⟩:=hc
  have h:∀ i,i<18->W.cell? ⟨b,i,none⟩=some ((W.cell? ⟨b,i,none⟩).getD undef):=by
   intro i hi
   have hs:(W.cell? ⟨b,i,none⟩).isSome=true:=by
    rcases (show i=0∨i=1∨i=2∨i=3∨i=4∨i=5∨i=6∨i=7∨i=8∨i=9∨i=10∨i=11∨i=12∨i=13∨i=14∨i=15∨i=16∨i=17 by omega) with e|e|e|e|e|e|e|e|e|e|e|e|e|e|e|e|e|e<;>subst e<;>assumption
   cases hc:W.cell? ⟨b,i,none⟩ with
   | none=>rw [hc] at hs;cases hs
   | some v=>rfl
  exact zY1 (P:=P) W b (fun i=>(W.cell? ⟨b,i,none⟩).getD undef) h
 ·rfl
attribute [local irreducible] W4
attribute [local go_sem ↓] zCe
attribute [local go_sem] zQc
section
variable (dn:Bool)(g t bl:Int)(wo co pa:Nat)(le mo:Int)(w:World)(B Fr:Nat)(s:Bool)(G V:Int)
 (cs:∀ W,CB 137 #[LD dn g t bl wo co pa le mo,A4 B] W (.tuple #[.bool s,.int .u64 G,A4 Fr]))
 (ck:∀ W,CB 138 #[LD dn g t bl wo co pa le mo,.int .u64 G] W (.int .u64 V))
include cs ck
theorem zB9 (h30:(V==30)=true):CB 80 #[LD dn g t bl wo co pa le mo,A4 B] w (DV 2 s false 0 0):=by
 have hsm:=zAa
 have hz:DV 2 s false 0 0=.agg #[.int .i64 2,.bool s,.bool false,.int .i64 0,.int .u64 0,.int .u64 0,.int .u64 0,.int .u64 0]:=by unfold DV;simp only [zNa]
 rw [hz]
 go_enter Tryz.func80,Tryz.ntmps80
 go_wp2_with (first
  | (go_at_call 137;refine wk w (cs _) ?_;intro w1 hb1 _ _ _ _ hA1 _;obtain ⟨_,_,_,_⟩:=zg hb1 (w.heap.size+1) (w.heap.size+1+1);clear hb1)
  | (go_at_call 138;refine wk w (ck _) ?_;intro w2 hb2 _ _ _ _ hA2 _;obtain ⟨_,_,_,_,_,_⟩:=zh hb2 (w.heap.size+1) (w.heap.size+1+1) w1.heap.size;clear hb2))
 exact bodyPost_ret (by simp only [results,Tryz.results80];go_simp) rfl ⟨rfl,bgo⟩
variable (U K:Nat)
 (cr:∀ W,CB 141 #[LD dn g t bl wo co pa le mo,A4 Fr] W (A4 U))
include cr
theorem zA9 (q:Bool)(h30:(V==30)=false)(h31:(V==31)=true)
  (cq:∀ W,CB 139 #[LD dn g t bl wo co pa le mo,.int .u64 G] W (.bool q))
  (co':∀ W,CB 140 #[A4 U,A4 pa] W (A4 K)) :
  CB 80 #[LD dn g t bl wo co pa le mo,A4 B] w (DV 3 s q 0 K):=by
 have hsm:=zAa
 go_enter Tryz.func80,Tryz.ntmps80
 go_wp2_with (first
  | (go_at_call 137;refine wk w (cs _) ?_;intro w1 hb1 _ _ _ _ hA1 _;obtain ⟨_,_,_,_⟩:=zg hb1 (w.heap.size+1) (w.heap.size+1+1);clear hb1)
  | (go_at_call 138;refine wk w (ck _) ?_;intro w2 hb2 _ _ _ _ hA2 _;obtain ⟨_,_,_,_,_,_⟩:=zh hb2 (w.heap.size+1) (w.heap.size+1+1) w1.heap.size;clear hb2))
 refine zGb 10 (by kernel_rfl) (by kernel_rfl) (by kernel_rfl) (fun _ _ d _ _ h=>by cases d<;>exact h) fun hne hcell=>?_
 simp only [List.take_succ_cons,List.take_zero,List.drop_succ_cons,List.drop_zero]
 repeat go_big_quiet_step (fail)
 go_big_quiet_step ((go_at_call 139;exact zEa _ zMa (cq _)))
 repeat go_big_quiet_step (fail)
 go_big_quiet_step ((go_at_call 141;exact zEa _ zMa (cr _)))
 repeat go_big_quiet_step (fail)
 go_big_quiet_step ((go_at_call 140;exact zEa _ zMa (co' _)))
 repeat go_big_quiet_step (fail)
 refine wpQuiet_nil fun w3 hb3=>?_
 obtain ⟨_,_,_,_,hA3,_⟩:=wz w hb3;obtain ⟨_,_,_,_,_,_⟩:=zh hb3 (w.heap.size+1) (w.heap.size+1+1) w1.heap.size;clear hb3
 go_wp2
 exact bodyPost_ret (v:=DV 3 s q 0 K) (by simp only [results,Tryz.results80];go_simp) rfl ⟨rfl,bgo⟩
theorem zC9 (F L c1 c2:Int)(M C:Nat)(h30:(V==30)=false)(h31:(V==31)=false)(hF0:0<=F)(hF1:F<=1000000)(hl0:-1000000<=le)(hl1:le<=1000000)
  (cp:∀ W,CB 142 #[LD dn g t bl wo co pa le mo,.int .u64 G] W (.tuple #[.int .u64 F,.int .u64 L]))
  (cm:∀ W,CB 143 #[A4 wo,.int .u64 L] W (.tuple #[A4 M,.int .u64 c1]))
  (ca:∀ W,CB 37 #[A4 M,A4 U] W (.tuple #[A4 C,.int .u64 c2]))
  (co':∀ W,CB 140 #[A4 C,A4 co] W (A4 K)) :
  CB 80 #[LD dn g t bl wo co pa le mo,A4 B] w (DV 1 s false (F+le) K):=by
 have hsm:=zAa
 go_enter Tryz.func80,Tryz.ntmps80
 go_wp2_with (first
  | (go_at_call 137;refine wk w (cs _) ?_;intro w1 hb1 _ _ _ _ hA1 _;obtain ⟨_,_,_,_⟩:=zg hb1 (w.heap.size+1) (w.heap.size+1+1);clear hb1)
  | (go_at_call 138;refine wk w (ck _) ?_;intro w2 hb2 _ _ _ _ hA2 _;obtain ⟨_,_,_,_,_,_⟩:=zh hb2 (w.heap.size+1) (w.heap.size+1+1) w1.heap.size;clear hb2)
  | (go_at_call 142;refine wk w (cp _) ?_;intro w3 hb3 _ _ _ _ hA3 _;obtain ⟨_,_,_,_,_,_⟩:=zh hb3 (w.heap.size+1) (w.heap.size+1+1) w1.heap.size;clear hb3)
  | (go_at_call 143;refine wk w (cm _) ?_;intro w4 hb4 _ _ _ _ hA4 _;obtain ⟨_,_,_,_,_,_⟩:=zh hb4 (w.heap.size+1) (w.heap.size+1+1) w1.heap.size;clear hb4))
 refine zGb 5 (by kernel_rfl) (by kernel_rfl) (by kernel_rfl) (fun _ _ d _ _ h=>by cases d<;>exact h) fun hne hcell=>?_
 simp only [List.take_succ_cons,List.take_zero,List.drop_succ_cons,List.drop_zero]
 repeat go_big_quiet_step (fail)
 go_big_quiet_step ((go_at_call 141;exact zEa _ zMa (cr _)))
 repeat go_big_quiet_step (fail)
 go_big_quiet_step ((go_at_call 37;exact zEa _ zMa (ca _)))
 repeat go_big_quiet_step (fail)
 refine wpQuiet_nil fun w5 hb5=>?_
 obtain ⟨_,_,_,_,hA5,_⟩:=wz w hb5;obtain ⟨_,_,_,_,_,_⟩:=zh hb5 (w.heap.size+1) (w.heap.size+1+1) w1.heap.size;obtain ⟨_,_⟩:=zf hb5 w4.heap.size;clear hb5
 go_wp2
 refine zGb 10 (by kernel_rfl) (by kernel_rfl) (by kernel_rfl) (fun _ _ d _ _ h=>by cases d<;>exact h) fun hne hcell=>?_
 simp only [List.take_succ_cons,List.take_zero,List.drop_succ_cons,List.drop_zero]
 repeat go_big_quiet_step (fail)
 go_big_quiet_step ((go_at_call 140;exact zEa _ zMa (co' _)))
 repeat go_big_quiet_step (fail)
 refine wpQuiet_nil fun w6 hb6=>?_
 obtain ⟨_,_,_,_,hA6,_⟩:=wz w hb6;obtain ⟨_,_,_,_,_,_⟩:=zh hb6 (w.heap.size+1) (w.heap.size+1+1) w1.heap.size;obtain ⟨_,_⟩:=zf hb6 w4.heap.size;clear hb6
 go_wp2
 exact bodyPost_ret (v:=DV 1 s false (F+le) K) (by simp only [results,Tryz.results80];go_simp) rfl ⟨rfl,bgo⟩
end
section
variable (dn:Bool)(g t bl:Int)(wo co pa:Nat)(le mo:Int)(w:World)(c x:Int)(s q:Bool)(k P:Nat)(E:Int)
theorem zU8 (h:∀ W,CB 123 #[LD dn g t bl wo co pa le mo,DV 1 s q x k] W (.tuple #[A4 P,.int .i64 E])) :
  CB 59 #[LD dn g t bl wo co pa le mo,DV 1 s q x k] w (.tuple #[A4 P,.int .i64 E]):=by
 have hsm:=zAa
 go_enter Tryz.func59,Tryz.ntmps59
 go_wp2_with (go_at_call 123;refine wk w (h _) ?_;intro w1 hb1 _ _ _ _ hA1 _;obtain ⟨_,_,_,_⟩:=zg hb1 (w.heap.size+1) (w.heap.size+1+1);clear hb1)
 exact bodyPost_ret (v:=.tuple #[A4 P,.int .i64 E]) (by simp only [results,Tryz.results59];go_simp) rfl ⟨rfl,bgo⟩
theorem zT8 (h:∀ W,CB 124 #[LD dn g t bl wo co pa le mo,DV 2 s q x k] W (.tuple #[A4 P,.int .i64 E])) :
  CB 59 #[LD dn g t bl wo co pa le mo,DV 2 s q x k] w (.tuple #[A4 P,.int .i64 E]):=by
 have hsm:=zAa
 go_enter Tryz.func59,Tryz.ntmps59
 go_wp2_with (go_at_call 124;refine wk w (h _) ?_;intro w1 hb1 _ _ _ _ hA1 _;obtain ⟨_,_,_,_⟩:=zg hb1 (w.heap.size+1) (w.heap.size+1+1);clear hb1)
 exact bodyPost_ret (v:=.tuple #[A4 P,.int .i64 E]) (by simp only [results,Tryz.results59];go_simp) rfl ⟨rfl,bgo⟩
theorem zS8 (h:∀ W,CB 125 #[LD dn g t bl wo co pa le mo,DV 3 s q x k] W (.tuple #[A4 P,.int .i64 E])) :
  CB 59 #[LD dn g t bl wo co pa le mo,DV 3 s q x k] w (.tuple #[A4 P,.int .i64 E]):=by
 have hsm:=zAa
 go_enter Tryz.func59,Tryz.ntmps59
 go_wp2_with (go_at_call 125;refine wk w (h _) ?_;intro w1 hb1 _ _ _ _ hA1 _;obtain ⟨_,_,_,_⟩:=zg hb1 (w.heap.size+1) (w.heap.size+1+1);clear hb1)
 exact bodyPost_ret (v:=.tuple #[A4 P,.int .i64 E]) (by simp only [results,Tryz.results59];go_simp) rfl ⟨rfl,bgo⟩
theorem zV8 (h1:(c==1)=false)(h2:(c==2)=false)(h3:(c==3)=false) :
  CB 59 #[LD dn g t bl wo co pa le mo,DV c s q x k] w (.tuple #[A4 0,.int .i64 3]):=by
 have hsm:=zAa
 rw [zEd]
 go_enter Tryz.func59,Tryz.ntmps59
 go_wp2
 exact bodyPost_ret (by simp only [results,Tryz.results59];go_simp) rfl ⟨rfl,bgo⟩
end
section
variable (dn:Bool)(g t bl:Int)(wo co pa:Nat)(le mo:Int)(w:World)(x:Int)(s q:Bool)(k J:Nat)(G:Int)
theorem dinf_s:CB 124 #[LD dn g t bl wo co pa le mo,DV 2 s true x k] w (.tuple #[A4 0,.int .i64 3]):=by
 have hsm:=zAa
 rw [zEd]
 go_enter Tryz.func124,Tryz.ntmps124
 go_wp2
 exact bodyPost_ret (by simp only [results,Tryz.results124];go_simp) rfl ⟨rfl,bgo⟩
theorem dinf_x (hx:(x != 0)=true):CB 124 #[LD dn g t bl wo co pa le mo,DV 2 s false x k] w (.tuple #[A4 0,.int .i64 3]):=by
 have hsm:=zAa
 rw [zEd]
 go_enter Tryz.func124,Tryz.ntmps124
 go_wp2
 exact bodyPost_ret (by simp only [results,Tryz.results124];go_simp) rfl ⟨rfl,bgo⟩
theorem dinf_k (hk:decide (W4 k 0=0/\W4 k 1=0/\W4 k 2=0/\W4 k 3=0)=false):CB 124 #[LD dn g t bl wo co pa le mo,DV 2 s false 0 k] w (.tuple #[A4 0,.int .i64 3]):=by
 have hsm:=zAa
 have hq:=zO4 (W4 k 0) (W4 k 1) (W4 k 2) (W4 k 3) 0 0 0 0
 rw [hk] at hq
 rw [zEd]
 go_enter Tryz.func124,Tryz.ntmps124
 go_wp2
 exact bodyPost_ret (by simp only [results,Tryz.results124];go_simp) rfl ⟨rfl,bgo⟩
theorem dinf_y
  (cp:∀ W,CB 185 #[LD dn g t bl wo co pa le mo,.int .u64 30,.bool false] W (.int .u64 G))
  (cj:∀ W,CB 182 #[LD dn g t bl wo co pa le mo,.bool s,.int .u64 G,Z4] W (A4 J)) :
  CB 124 #[LD dn g t bl wo co pa le mo,DV 2 s false 0 0] w (.tuple #[A4 J,.int .i64 0]):=by
 have hsm:=zAa
 have hz:DV 2 s false 0 0=.agg #[.int .i64 2,.bool s,.bool false,.int .i64 0,.int .u64 0,.int .u64 0,.int .u64 0,.int .u64 0]:=by unfold DV;simp only [zNa]
 rw [hz]
 unfold Z4 at *
 have hq:=zO4 0 0 0 0 0 0 0 0
 simp only [and_self,decide_true] at hq
 go_enter Tryz.func124,Tryz.ntmps124
 go_wp2
 refine zGb 7 (by kernel_rfl) (by kernel_rfl) (by kernel_rfl) (fun _ _ d _ _ h=>by cases d<;>exact h) fun hne hcell=>?_
 simp only [List.take_succ_cons,List.take_zero,List.drop_succ_cons,List.drop_zero]
 repeat go_big_quiet_step (fail)
 go_big_quiet_step ((go_at_call 185;exact zEa _ zMa (cp _)))
 repeat go_big_quiet_step (fail)
 go_big_quiet_step ((go_at_call 182;exact zEa _ zMa (cj _)))
 repeat go_big_quiet_step (fail)
 refine wpQuiet_nil fun w1 hb1=>?_
 obtain ⟨_,_,_,_,hA1,_⟩:=wz w hb1;obtain ⟨_,_,_,_⟩:=zg hb1 (w.heap.size+1) (w.heap.size+1+1);clear hb1
 go_wp2
 exact bodyPost_ret (v:=.tuple #[A4 J,.int .i64 0]) (by simp only [results,Tryz.results124];go_simp) rfl ⟨rfl,bgo⟩
theorem dnan_x (hx:(x != 0)=true):CB 125 #[LD dn g t bl wo co pa le mo,DV 3 s q x k] w (.tuple #[A4 0,.int .i64 3]):=by
 have hsm:=zAa
 rw [zEd]
 go_enter Tryz.func125,Tryz.ntmps125
 go_wp2
 exact bodyPost_ret (by simp only [results,Tryz.results125];go_simp) rfl ⟨rfl,bgo⟩
variable (Q:Int)(cc:∀ W,CB 181 #[A4 k,A4 pa] W (.int .i64 Q))
include cc
theorem dnan_k (hQ:0<=Q):CB 125 #[LD dn g t bl wo co pa le mo,DV 3 s q 0 k] w (.tuple #[A4 0,.int .i64 3]):=by
 have hsm:=zAa
 rw [zEd]
 go_enter Tryz.func125,Tryz.ntmps125
 go_wp2_with (go_at_call 181;refine wk w (cc _) ?_;intro w1 hb1 _ _ _ _ hA1 _;obtain ⟨_,_,_,_,_,_⟩:=zh hb1 (w.heap.size+1) (w.heap.size+1+1) (w.heap.size+1+1+1);clear hb1)
 exact bodyPost_ret (by simp only [results,Tryz.results125];go_simp) rfl ⟨rfl,bgo⟩
theorem dnan_y (R:Nat)(hQ:¬ 0<=Q)
  (cp:∀ W,CB 185 #[LD dn g t bl wo co pa le mo,.int .u64 31,.bool q] W (.int .u64 G))
  (cw:∀ W,CB 184 #[LD dn g t bl wo co pa le mo,A4 k] W (A4 R))
  (cj:∀ W,CB 182 #[LD dn g t bl wo co pa le mo,.bool s,.int .u64 G,A4 R] W (A4 J)) :
  CB 125 #[LD dn g t bl wo co pa le mo,DV 3 s q 0 k] w (.tuple #[A4 J,.int .i64 0]):=by
 have hsm:=zAa
 go_enter Tryz.func125,Tryz.ntmps125
 go_wp2_with (go_at_call 181;refine wk w (cc _) ?_;intro w1 hb1 _ _ _ _ hA1 _;obtain ⟨_,_,_,_,_,_⟩:=zh hb1 (w.heap.size+1) (w.heap.size+1+1) (w.heap.size+1+1+1);clear hb1)
 refine zGb 11 (by kernel_rfl) (by kernel_rfl) (by kernel_rfl) (fun _ _ d _ _ h=>by cases d<;>exact h) fun hne hcell=>?_
 simp only [List.take_succ_cons,List.take_zero,List.drop_succ_cons,List.drop_zero]
 repeat go_big_quiet_step (fail)
 go_big_quiet_step ((go_at_call 185;exact zEa _ zMa (cp _)))
 repeat go_big_quiet_step (fail)
 go_big_quiet_step ((go_at_call 184;exact zEa _ zMa (cw _)))
 repeat go_big_quiet_step (fail)
 go_big_quiet_step ((go_at_call 182;exact zEa _ zMa (cj _)))
 repeat go_big_quiet_step (fail)
 refine wpQuiet_nil fun w2 hb2=>?_
 obtain ⟨_,_,_,_,hA2,_⟩:=wz w hb2;obtain ⟨_,_,_,_,_,_⟩:=zh hb2 (w.heap.size+1) (w.heap.size+1+1) (w.heap.size+1+1+1);clear hb2
 go_wp2
 exact bodyPost_ret (v:=.tuple #[A4 J,.int .i64 0]) (by simp only [results,Tryz.results125];go_simp) rfl ⟨rfl,bgo⟩
end
end
end Go.Proofs.YtahfkpjhlbiamaaGreatDoor
