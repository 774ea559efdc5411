/-
  Texts that the proof leans on.
-/
import Derived.Test.YtahfkpjhlbiamaaGreatDoorR12
import Derived.Test.YtahfkpjhlbiamaaGreatDoorR1
import Derived.Test.YtahfkpjhlbiamaaGreatDoorR4
set_option maxHeartbeats 8000000
set_option linter.unusedVariables false
set_option linter.unusedSectionVars false
set_option linter.unusedSimpArgs false
set_option maxRecDepth 20000
namespace Go.Proofs.YtahfkpjhlbiamaaGreatDoor
open Go.RowKit
def zYk (n:Int):Prop:=1<=n/\n<=6
instance (n:Int):Decidable (zYk n):=inferInstanceAs (Decidable (_/\_))
def fN (n:Int):Nat:=(zUe n-1).toNat
def eN (n:Int):Nat:=(zKi n).toNat
theorem zMf {n:Int}(h:zYk n):n=1∨n=2∨n=3∨n=4∨n=5∨n=6:=by unfold zYk at h;omega
theorem zYr {n:Int}(h:zYk n):Fm (fN n) (eN n) (zZa n) (zNc n):=by
 rcases zMf h with rfl|rfl|rfl|rfl|rfl|rfl<;>exact ⟨by decide,by decide,by decide,by decide,by decide,by decide,by decide,by decide⟩
theorem zNe {n:Int}(h:zYk n):okN n/\zDd n=2/\zUe n=(fN n:Int)+1/\zKi n=(eN n:Int)/\zVa n=((fN n+eN n+1:Nat):Int)/\zNk n=(fN n:Int)-1:=by
 rcases zMf h with rfl|rfl|rfl|rfl|rfl|rfl<;>exact ⟨by decide,by decide,by decide,by decide,by decide,by decide⟩
theorem zN7 {n:Int}(h:¬ zYk n):(okN n/\zDd n=10)∨¬ okN n:=by
 by_cases hk:okN n
 ·left
  refine ⟨hk,?_⟩
  rcases zGe hk with rfl|rfl|rfl|rfl|rfl|rfl|rfl|rfl|rfl|rfl|rfl|rfl<;>first|rfl|exact absurd (by decide) h
 ·exact Or.inr hk
abbrev LZ:Value:=.agg #[.int .i64 0,.int .i64 0,.int .i64 0,.int .i64 0]
theorem zPp (n:Int)(w:World)(hT:Tab w)(h:zYk n) :
  CB 49 #[.int .i64 n] w (.tuple #[LV (fN n) (eN n) (zZa n) (zNc n),.int .i64 0]):=by
 have c1:=fun w hT=>zBe n w hT
 obtain ⟨hk,hb,hp,he,hw,hy⟩:=zNe h
 have hE:zZc n=0:=if_pos hk
 have hF:=zYr h
 have hf1:=hF.f240
 simp only [hE,hb,hp,he] at c1
 clear hE hb hp he hw hy hk hF
 go_enter Tryz.func49,Tryz.ntmps49
 go_wp2_with (go_at_call 53;refine (c1 _ (hT.alloc _)).mono ?_;rintro x w1 ⟨rfl,hb1⟩;obtain ⟨_,hf1,_,_,hA1,_⟩:=wz w hb1;clear hb1)
 have hsm:=zAa
 exact bodyPost_ret (v:=.tuple #[LV (fN n) (eN n) (zZa n) (zNc n),.int .i64 0]) (by simp only [results,Tryz.results49];go_simp) rfl ⟨rfl,bgo⟩
theorem zQn (n:Int)(w:World)(hT:Tab w)(h:¬ zYk n) :
  CB 49 #[.int .i64 n] w (.tuple #[LZ,.int .i64 1]):=by
 have c1:=fun w hT=>zBe n w hT
 rcases zN7 h with ⟨hk,hb⟩|hk
 ·have hE:zZc n=0:=if_pos hk
  simp only [hE,hb] at c1
  clear hE hb hk h
  go_enter Tryz.func49,Tryz.ntmps49
  go_wp2_with (go_at_call 53;refine (c1 _ (hT.alloc _)).mono ?_;rintro x w1 ⟨rfl,hb1⟩;obtain ⟨_,hf1,_,_,hA1,_⟩:=wz w hb1;clear hb1)
  have hsm:=zAa
  exact bodyPost_ret (v:=.tuple #[LZ,.int .i64 1]) (by simp only [results,Tryz.results49];go_simp) rfl ⟨rfl,bgo⟩
 ·have hE:zZc n=1:=if_neg hk
  simp only [hE] at c1
  clear hE hk h
  go_enter Tryz.func49,Tryz.ntmps49
  go_wp2_with (go_at_call 53;refine (c1 _ (hT.alloc _)).mono ?_;rintro x w1 ⟨rfl,hb1⟩;obtain ⟨_,hf1,_,_,hA1,_⟩:=wz w hb1;clear hb1)
  have hsm:=zAa
  exact bodyPost_ret (v:=.tuple #[LZ,.int .i64 1]) (by simp only [results,Tryz.results49];go_simp) rfl ⟨rfl,bgo⟩
def zQd (n:Int)(B:Nat):Prop:=zYk n/\B<2^(fN n+eN n+1)
instance (n:Int) (B:Nat):Decidable (zQd n B):=inferInstanceAs (Decidable (_/\_))
theorem zDz (B:Nat):∀ i,i<4->(#[Value.int .u64 (W4 B 0),.int .u64 (W4 B 1),.int .u64 (W4 B 2),.int .u64 (W4 B 3)]:Array Value)[i]?=some (.int .u64 (W4 B i)):=fun i hi=>by
 have:i=0∨i=1∨i=2∨i=3:=by omega
 rcases this with rfl|rfl|rfl|rfl<;>rfl
theorem zH2 (n:Int)(B:Nat)(hB:B<2^256)(w:World)(hT:Tab w) :
  CB 70 #[.int .i64 n,A4 B] w (.bool (decide (okN n/\B<2^(zVa n).toNat))):=by
 refine (zG2 n (W4 B) (zHa B) _ (zDz B) rfl w hT).mono ?_
 rintro x w' ⟨rfl,hb⟩
 refine ⟨?_,hb⟩
 have hwd:=(zBd n).2.1
 have e:(zYh n (W4 B))↔(okN n/\B<2^(zVa n).toNat):=by
  unfold zYh
  rw [zGr]
  have:=zYl (k:=(zVa n).toNat) hB
  rw [show (((zVa n).toNat:Nat):Int)=zVa n by omega] at this
  rw [this]
 rw [decide_eq_decide.2 e]
theorem zRn (n:Int)(B:Nat)(w:World)(hT:Tab w)(hB:B<2^256)(h:zQd n B) :
  CB 33 #[.int .i64 n,A4 B] w (.tuple #[LV (fN n) (eN n) (zZa n) (zNc n),.int .i64 0]):=by
 have hF:=zNe h.1
 have c42:=fun w hT=>zH2 n B hB w hT
 rw [decide_eq_true (show okN n/\B<2^(zVa n).toNat from ⟨hF.1,by rw [hF.2.2.2.2.1,Int.toNat_natCast];exact h.2⟩)] at c42
 have c31:=fun w hT=>zPp n w hT h.1
 clear hF h hB
 go_enter Tryz.func33,Tryz.ntmps33
 go_wp2_with (first
  | (go_at_call 70;refine (c42 _ ((hT.alloc _).alloc _)).mono ?_;rintro x w1 ⟨rfl,hb1⟩;obtain ⟨_,hf1,_,_,hA1,_⟩:=wz w hb1;obtain ⟨_,_⟩:=zf hb1 (w.heap.size+1);clear hb1)
  | (go_at_call 49;refine wk w (c31 _ (hT.go hA1)) ?_;intro w2 hb2 _ _ _ _ hA2 _;obtain ⟨_,_⟩:=zf hb2 (w.heap.size+1);clear hb2))
 have hsm:=zAa
 exact bodyPost_ret (v:=.tuple #[LV (fN n) (eN n) (zZa n) (zNc n),.int .i64 0]) (by simp only [results,Tryz.results33];go_simp) rfl ⟨rfl,bgo⟩
theorem zZl (n:Int)(B:Nat)(w:World)(hT:Tab w)(hB:B<2^256)(h:¬ zQd n B) :
  CB 33 #[.int .i64 n,A4 B] w (.tuple #[LZ,.int .i64 1]):=by
 have c42:=fun w hT=>zH2 n B hB w hT
 by_cases hf:okN n/\B<2^(zVa n).toNat
 ·rw [decide_eq_true hf] at c42
  have hnb:¬ zYk n:=fun hb=>h ⟨hb,by have:=zNe hb;rw [this.2.2.2.2.1,Int.toNat_natCast] at hf;exact hf.2⟩
  have c31:=fun w hT=>zQn n w hT hnb
  clear h hB hf hnb
  go_enter Tryz.func33,Tryz.ntmps33
  go_wp2_with (first
   | (go_at_call 70;refine (c42 _ ((hT.alloc _).alloc _)).mono ?_;rintro x w1 ⟨rfl,hb1⟩;obtain ⟨_,hf1,_,_,hA1,_⟩:=wz w hb1;obtain ⟨_,_⟩:=zf hb1 (w.heap.size+1);clear hb1)
   | (go_at_call 49;refine wk w (c31 _ (hT.go hA1)) ?_;intro w2 hb2 _ _ _ _ hA2 _;obtain ⟨_,_⟩:=zf hb2 (w.heap.size+1);clear hb2))
  have hsm:=zAa
  exact bodyPost_ret (v:=.tuple #[LZ,.int .i64 1]) (by simp only [results,Tryz.results33];go_simp) rfl ⟨rfl,bgo⟩
 ·rw [decide_eq_false hf] at c42
  clear h hB hf
  go_enter Tryz.func33,Tryz.ntmps33
  go_wp2_with (go_at_call 70;refine (c42 _ ((hT.alloc _).alloc _)).mono ?_;rintro x w1 ⟨rfl,hb1⟩;obtain ⟨_,hf1,_,_,hA1,_⟩:=wz w hb1;obtain ⟨_,_⟩:=zf hb1 (w.heap.size+1);clear hb1)
  have hsm:=zAa
  exact bodyPost_ret (v:=.tuple #[LZ,.int .i64 1]) (by simp only [results,Tryz.results33];go_simp) rfl ⟨rfl,bgo⟩
section
def unp (f e:Nat)(l:Int)(B:Nat):Dat :=
 if B/2^f%2^e=2^e-1 then spc f (sgB f e B) (B%2^f)
 else if B/2^f%2^e=0 then ⟨1,sgB f e B,false,l,B%2^f⟩
 else ⟨1,sgB f e B,false,l+((B/2^f%2^e:Nat)-1:Int),B%2^f+2^f⟩
theorem zGs (n:Int)(B:Nat)(w:World)(hT:Tab w)(hB:B<2^256)(h:¬ zQd n B) :
  CB 13 #[.int .i64 n,A4 B] w (.tuple #[DV 0 false false 0 0,.int .i64 1]):=by
 have c18:=fun w hT=>zZl n B w hT hB h
 unfold DV
 simp only [zNa]
 clear h hB
 go_enter Tryz.func13,Tryz.ntmps13
 go_wp2_with (go_at_call 33;refine wk w (c18 _ ((hT.alloc _).alloc _)) ?_;intro w1 hb1 _ _ _ _ hA1 _;obtain ⟨_,_⟩:=zf hb1 (w.heap.size+1);clear hb1)
 have hsm:=zAa
 exact bodyPost_ret (v:=.tuple #[.agg #[.int .i64 0,.bool false,.bool false,.int .i64 0,.int .u64 0,.int .u64 0,.int .u64 0,.int .u64 0],.int .i64 1]) (by simp only [results,Tryz.results13];go_simp) rfl ⟨rfl,bgo⟩
section
variable (n:Int)(B:Nat)(f e:Nat)(l m:Int)(w:World)(hT:Tab w)(S:Bool)(E sp:Int)(Fr:Nat)
 (c18:∀ w,Tab w->CB 33 #[.int .i64 n,A4 B] w (.tuple #[LV f e l m,.int .i64 0]))
 (c19:∀ w,CB 34 #[LV f e l m,A4 B] w (.tuple #[.bool S,.int .u64 E,A4 Fr]))
 (c20:∀ w,CB 35 #[LV f e l m] w (.int .u64 sp))
include hT c18 c19 c20
theorem zHu (D:Dat)(c21:∀ w,CB 36 #[LV f e l m,.bool S,A4 Fr] w D.v)(hE:(E==sp)=true) :
  CB 13 #[.int .i64 n,A4 B] w (.tuple #[D.v,.int .i64 0]):=by
 obtain ⟨dc,ds,dg,dx,dk⟩:=D
 unfold Dat.v at *
 dsimp only at *
 go_enter Tryz.func13,Tryz.ntmps13
 go_wp2_with (first
  | (go_at_call 33;refine wk w (c18 _ ((hT.alloc _).alloc _)) ?_;intro w1 hb1 _ _ _ _ hA1 _;obtain ⟨_,_⟩:=zf hb1 (w.heap.size+1);clear hb1)
  | (go_at_call 34;refine wk w (c19 _) ?_;intro w2 hb2 _ _ _ _ hA2 _;obtain ⟨_,_,_,_⟩:=zg hb2 (w.heap.size+1) w1.heap.size;clear hb2)
  | (go_at_call 35;refine wk w (c20 _) ?_;intro w3 hb3 _ _ _ _ hA3 _;obtain ⟨_,_,_,_,_,_⟩:=zh hb3 (w.heap.size+1) w1.heap.size w2.heap.size;clear hb3)
  | (go_at_call 36;refine wk w (c21 _) ?_;intro w4 hb4 _ _ _ _ hA4 _;obtain ⟨_,_,_,_,_,_⟩:=zh hb4 (w.heap.size+1) w1.heap.size w2.heap.size;clear hb4))
 have hsm:=zAa
 exact bodyPost_ret (v:=.tuple #[DV dc ds dg dx dk,.int .i64 0]) (by simp only [results,Tryz.results13];go_simp) rfl ⟨rfl,bgo⟩
theorem zFs (hE:(E==sp)=false)(hE0:E=0) :
  CB 13 #[.int .i64 n,A4 B] w (.tuple #[DV 1 S false l Fr,.int .i64 0]):=by
 subst hE0
 go_enter Tryz.func13,Tryz.ntmps13
 go_wp2_with (first
  | (go_at_call 33;refine wk w (c18 _ ((hT.alloc _).alloc _)) ?_;intro w1 hb1 _ _ _ _ hA1 _;obtain ⟨_,_⟩:=zf hb1 (w.heap.size+1);clear hb1)
  | (go_at_call 34;refine wk w (c19 _) ?_;intro w2 hb2 _ _ _ _ hA2 _;obtain ⟨_,_,_,_⟩:=zg hb2 (w.heap.size+1) w1.heap.size;clear hb2)
  | (go_at_call 35;refine wk w (c20 _) ?_;intro w3 hb3 _ _ _ _ hA3 _;obtain ⟨_,_,_,_,_,_⟩:=zh hb3 (w.heap.size+1) w1.heap.size w2.heap.size;clear hb3))
 have hsm:=zAa
 exact bodyPost_ret (v:=.tuple #[DV 1 S false l Fr,.int .i64 0]) (by simp only [results,Tryz.results13];go_simp) rfl ⟨rfl,bgo⟩
theorem zSo (Pw Co:Nat)(cr:Int)(hl:-1000000<=l/\l<=0)(hE:(E==sp)=false)(hE0:0<E)(hE1:E<=32768)
  (c23:∀ w,CB 38 #[.int .i64 f] w (A4 Pw))
  (c22:∀ w,CB 37 #[A4 Fr,A4 Pw] w (.tuple #[A4 Co,.int .u64 cr])) :
  CB 13 #[.int .i64 n,A4 B] w (.tuple #[DV 1 S false (l+(E-1)) Co,.int .i64 0]):=by
 go_enter Tryz.func13,Tryz.ntmps13
 go_wp2_with (first
  | (go_at_call 33;refine wk w (c18 _ ((hT.alloc _).alloc _)) ?_;intro w1 hb1 _ _ _ _ hA1 _;obtain ⟨_,_⟩:=zf hb1 (w.heap.size+1);clear hb1)
  | (go_at_call 34;refine wk w (c19 _) ?_;intro w2 hb2 _ _ _ _ hA2 _;obtain ⟨_,_,_,_⟩:=zg hb2 (w.heap.size+1) w1.heap.size;clear hb2)
  | (go_at_call 35;refine wk w (c20 _) ?_;intro w3 hb3 _ _ _ _ hA3 _;obtain ⟨_,_,_,_,_,_⟩:=zh hb3 (w.heap.size+1) w1.heap.size w2.heap.size;clear hb3))
 have hn1:w1.heap.size≠w.heap.size:=by omega
 have hn2:w1.heap.size≠w.heap.size+1:=by omega
 have hn3:w2.heap.size≠w1.heap.size:=by omega
 refine zSi 5 8 12 #[.int .u64 0,.int .u64 0,.int .u64 0,.int .u64 0] (by kernel_rfl) (by kernel_rfl) (by kernel_rfl) rfl (fun oa hoa a w=>?_) (by kernel_rfl) (by kernel_rfl) rfl rfl (fun _ _ d _ _ h=>by cases d<;>exact h) ?_
 ·cases hoa;exact ⟨23,by simp [go_sem]⟩
 apply Exists.intro
 refine ⟨fun al hne hcell=>?_,fun w4 hb4=>?_,fun g w4 hb4 hg0 hg1 hg2 hg3=>?_⟩
 ·simp only [List.take_succ_cons,List.take_zero]
  repeat go_big_quiet_step (fail)
  go_big_quiet_step ((go_at_call 38;exact zEa _ zXc (c23 _)))
  repeat go_big_quiet_step (fail)
  go_big_quiet_step ((go_at_call 37;exact zEa _ zXc (c22 _)))
  exact wpQuiet_nil rfl
 ·simp only [List.drop_succ_cons,List.drop_zero]
  obtain ⟨_,_,_,_,hA4,_⟩:=wz w hb4;obtain ⟨_,_,_,_,_,_⟩:=zh hb4 (w.heap.size+1) w1.heap.size w2.heap.size;obtain ⟨_,_⟩:=zf hb4 w3.heap.size;clear hb4
  have hsm:=zAa
  go_wp2
  exact bodyPost_ret (v:=.tuple #[DV 1 S false (l+(E-1)) Co,.int .i64 0]) (by simp only [results,Tryz.results13];go_simp) rfl ⟨rfl,bgo⟩
 ·simp only [List.drop_succ_cons,List.drop_zero,Nat.reduceSub,List.eraseIdx_cons_succ,List.eraseIdx_cons_zero]
  simp only [World.size_alloc] at hg0
  have hgw:=hA3.size
  have hz0:g≠w.heap.size:=by omega
  have hz1:g≠w.heap.size+1:=by omega
  have hz2:g≠w1.heap.size:=by omega
  have hz3:g≠w2.heap.size:=by omega
  have hz4:g≠w3.heap.size:=by omega
  obtain ⟨_,_,_,_,hA4,_⟩:=wz w hb4;obtain ⟨_,_,_,_,_,_⟩:=zh hb4 (w.heap.size+1) w1.heap.size w2.heap.size;obtain ⟨_,_⟩:=zf hb4 w3.heap.size;clear hb4
  have hsm:=zAa
  go_wp2
  exact bodyPost_ret (v:=.tuple #[DV 1 S false (l+(E-1)) Co,.int .i64 0]) (by simp only [results,Tryz.results13];go_simp) rfl ⟨rfl,bgo⟩
end
theorem zIu (n:Int)(B:Nat)(w:World)(hT:Tab w)(hB:B<2^256)(h:zQd n B) :
  CB 13 #[.int .i64 n,A4 B] w (.tuple #[(unp (fN n) (eN n) (zZa n) B).v,.int .i64 0]):=by
 have hF:=zYr h.1
 have c18:=fun w hT=>zRn n B w hT hB h
 have c19:=fun w=>zTu (fN n) (eN n) (zZa n) (zNc n) B w hF hB
 have c20:=fun w=>zWi (fN n) (eN n) (zZa n) (zNc n) w hF
 have hf240:=hF.f240
 have hp:=zE1 hF.e2 hF.e15
 have hpc:((2:Int)^eN n)=((2^eN n:Nat):Int):=by simp
 have hmod:B/2^fN n%2^eN n<2^eN n:=Nat.mod_lt _ (Nat.two_pow_pos _)
 have hfr:B%2^fN n<2^fN n:=Nat.mod_lt _ (Nat.two_pow_pos _)
 have hf256:2^fN n<2^256:=Nat.pow_lt_pow_right (by decide) (by omega)
 unfold unp
 by_cases h1:B/2^fN n%2^eN n=2^eN n-1
 ·rw [if_pos h1]
  exact zHu n B _ _ _ _ w hT _ _ _ _ c18 c19 c20 _ (fun w=>zWo (fN n) (eN n) (zZa n) (zNc n) (sgB (fN n) (eN n) B) (B%2^fN n) w hF (by omega)) (by rw [h1];simp)
 ·rw [if_neg h1]
  have hE:(((B/2^fN n%2^eN n:Nat):Int)==((2^eN n-1:Nat):Int))=false:=by
   rw [beq_eq_false_iff_ne];omega
  by_cases h2:B/2^fN n%2^eN n=0
  ·rw [if_pos h2]
   exact zFs n B _ _ _ _ w hT _ _ _ _ c18 c19 c20 hE (by omega)
  ·rw [if_neg h2]
   have h256:(2:Nat)^256=115792089237316195423570985008687907853269984665640564039457584007913129639936:=by decide
   exact zSo n B _ _ _ _ w hT _ _ _ _ c18 c19 c20 (2^fN n) (B%2^fN n+2^fN n) _ ⟨hF.l1,hF.l0⟩ hE (by omega) (by rw [hpc] at hp;omega) (fun w=>zLn (fN n) w (by omega)) (fun w=>add4 (B%2^fN n) (2^fN n) w (by omega) hf256)
end
theorem zW0 (a a':Option Addr)(n c n' c':Nat)(x y:Nat->Int)(w:World)(hn:n<4294967290)(hn':n'<4294967290)(h:Num w a n c x)(h':Num w a' n' c' y) :
  Calls Tryz.prog 126 #[.slice a n c,.slice a' n' c'] w fun e w'=>∃ g k cap,e=.returned (.slice (some ⟨g,0,none⟩) k cap)/\k<=max n n'/\Num w' (some ⟨g,0,none⟩) k cap (zMo x y (max n n'))/\sizeL (zMo x y (max n n')) k=k/\Below w.heap.size w w':=by
 have hx:=h.2.2.1
 have hy:=h'.2.2.1
 have zx:=h.2.2.2.1
 have zy:=h'.2.2.2.1
 obtain ⟨M,hM⟩:∃ M,max n n'=M:=⟨_,rfl⟩
 have hMi:max (n:Int) n'=(M:Int):=by omega
 have hMb:M<4294967292:=by omega
 have hmk:=fun w=>zUa (max (n:Int) n') M hMi (by omega) w
 have hfin:∀ (ss:Array Value),ss.size=M->(∀ j h,ss[j]'h=Value.int .u64 (zVc x y j))->Num (w.alloc (.cells ss 22)) (some ⟨w.heap.size,0,none⟩) M M (zMo x y (max n n')):=fun ss h1 h2=>zXa (by omega) (zVk x y _) (fun i hi=>by unfold zMo;rw [if_neg (by omega)]) h1 (fun j hj=>by rw [h2 j hj];unfold zMo;rw [if_pos (by omega)])
 have hw1:=fun (i:Nat) (ss:Array Value)=>zUb a n c i x (w.alloc (.cells ss 22)) (h.next (zBa w _))
 have hw2:=fun (i:Nat) (ss:Array Value)=>zUb a' n' c' i y (w.alloc (.cells ss 22)) (h'.next (zBa w _))
 have HM:Hid (max n n'=M):=hM
 have HZ:Hid ((arrOf (fun _=>0) M).size=M/\∀ j h,(arrOf (fun _=>0) M)[j]'h=Value.int .u64 0):=⟨arrOf_size _ _,fun j h=>zJa _ _ _ _⟩
 clear h h' zx zy hM hMi
 generalize arrOf (fun _=>0) M=zz at *
 go_enter Tryz.func126,Tryz.ntmps126
 go_wp2
 go_loopw [6,7,16,19] (fun c u7 i u20 wr=>∃ (k:Nat) (ss:Array Value),k<=M/\i=.int .i64 k/\c=.int .u64 (zFf x y k)/\ss.size=M/\(∀ j h,ss[j]'h=Value.int .u64 (if j<k then zVc x y j else 0))/\wr=w.alloc (.cells ss 22)) (fun _ _ i _ _=>M-(intOf i).toNat)
 case atStart=>exact ⟨0,zz,Nat.zero_le _,rfl,rfl,HZ.out.1,fun j h=>by rw [HZ.out.2 j h];simp,rfl⟩
 case round =>
  obtain ⟨k,ss,hk,rfl,rfl,hsz,hss,rfl⟩:=hrel
  have hcar:=zLf x y k
  by_cases h8:k<M
  ·have h8i:(k:Int)<M:=by omega
   have h8s:k<ss.size:=by omega
   have bx:=hx k
   have b_y:=hy k
   have hsk:ss[k]?=some (.int .u64 0):=by rw [Array.getElem?_eq_getElem h8s,hss k h8s,if_neg (by omega)]
   have hadd:=fun w=>zNs (x k) (y k) (zFf x y k) bx.1 b_y.1 (by omega) hcar.1 hcar.2 w
   have hwa:=hw1 k ss
   have hwb:=hw2 k ss
   have HR:Hid (∀ (i:Nat) (h:i<(ss.setIfInBounds k (.int .u64 (zVc x y k))).size),(ss.setIfInBounds k (.int .u64 (zVc x y k)))[i]'h=Value.int .u64 (if i<k+1 then zVc x y i else 0)):=zYc hss
   clear hss hw1 hw2 hfin hmk hx hy
   go_wp2_with (first|(go_at_call_of 127 (Value.slice a n c);refine hwa.mono ?_;rintro e w' ⟨rfl,rfl⟩)|(go_at_call_of 127 (Value.slice a' n' c');refine hwb.mono ?_;rintro e w' ⟨rfl,rfl⟩))
   go_roundw
   case rel=>exact ⟨k+1,ss.setIfInBounds k (.int .u64 (zVc x y k)),by omega,by go_num,rfl,by simp [hsz],HR.out,rfl⟩
   case measure=>simp [intOf];omega
  ·obtain rfl:k=M:=by omega
   have hss':∀ j h,ss[j]'h=Value.int .u64 (zVc x y j):=by
    intro j h;rw [hss j h,if_pos (by omega)]
   have hT:=zHb _ _ _ _ _ (by omega) (hfin ss hsz hss')
   have hle:=zCa (zMo x y (max n n')) k
   clear hss hss' hw1 hw2 hfin hmk hx hy
   go_wp2_with (go_at_call 128;refine hT.mono ?_;rintro e w1 ⟨g,cap,rfl,hN,hB⟩)
   go_ret
   exact ⟨g,_,cap,rfl,Nat.le_trans hle (Nat.le_of_eq HM.out.symm),hN,zFa _ _,(zBa w _).trans (hB.mono (by simp))⟩
def NV (K V:Nat)(v:Value)(w:World):Prop:=∃ g k cap z,v=.slice (some ⟨g,0,none⟩) k cap/\k<=K/\Num w (some ⟨g,0,none⟩) k cap z/\val z k=(V:Int)
theorem NV.next {K V:Nat}{v:Value}{w w':World}(h:NV K V v w)(hb:Below w.heap.size w w'):NV K V v w':=by
 obtain ⟨g,k,cap,z,h1,h2,h3,h4⟩:=h
 exact ⟨g,k,cap,z,h1,h2,h3.next hb,h4⟩
theorem NV.more {K K' V:Nat}{v:Value}{w:World}(h:NV K V v w)(hk:K<=K'):NV K' V v w:=by
 obtain ⟨g,k,cap,z,h1,h2,h3,h4⟩:=h
 exact ⟨g,k,cap,z,h1,by omega,h3,h4⟩
theorem zDn {K A:Nat}{v:Value}{w:World}(s:Nat)(hK:K<1000)(hs:s<=600)(h:NV K A v w) :
  Calls Tryz.prog 93 #[v,.int .i64 s] w fun e w'=>∃ v' b,e=.returned (.tuple #[v',.bool b])/\NV K (A/2^s) v' w'/\Below w.heap.size w w':=by
 obtain ⟨g,k,cap,z,rfl,hk,hN,hv⟩:=h
 obtain ⟨q,hq⟩:∃ q:Nat,(s:Int)/64=q:=⟨((s:Int)/64).toNat,by omega⟩
 obtain ⟨r,hr⟩:∃ r:Nat,(s:Int)%64=r:=⟨((s:Int)%64).toNat,by omega⟩
 have hsn:s=64*q+r:=by omega
 have hr6:r<64:=by omega
 have key:∀ (w':World) (g' k' cap':Nat),k'<=k->Num w' (some ⟨g',0,none⟩) k' cap' (zXb z q r)->NV K (A/2^s) (.slice (some ⟨g',0,none⟩) k' cap') w':=fun w' g' k' cap' hk' hN'=>by
  refine ⟨g',k',cap',_,rfl,by omega,hN',?_⟩
  rw [← zLa hN'.2.2.2.1 k hk',hsn]
  exact zNl hN.2.2.1 hN.2.2.2.1 hr6 k (Nat.le_refl _) hv
 by_cases h0:r=0
 ·subst h0
  refine (zV6 g 0 k cap q s z w (by omega) (by omega) hq (by omega) (by omega) hN).mono ?_
  rintro e w' ⟨g',k',cap',b,rfl,hk',hN',hb⟩
  exact ⟨_,b,rfl,key w' g' k' cap' hk' hN',hb⟩
 ·refine (zW6 g 0 k cap q r s z w (by omega) (by omega) hr6 (by omega) hq hr (by omega) hN).mono ?_
  rintro e w' ⟨g',k',cap',b,rfl,hk',hN',hb⟩
  exact ⟨_,b,rfl,key w' g' k' cap' hk' hN',hb⟩
theorem zRq {K A:Nat}{v:Value}{w:World}(s:Nat)(hK:K<1000)(hs:s<=600)(h:NV K A v w) :
  Calls Tryz.prog 87 #[v,.int .i64 s] w fun e w'=>∃ v',e=.returned v'/\NV (K+11) (A*2^s) v' w'/\Below w.heap.size w w':=by
 obtain ⟨g,k,cap,z,rfl,hk,hN,hv⟩:=h
 obtain ⟨q,hq⟩:∃ q:Nat,(s:Int)/64=q:=⟨((s:Int)/64).toNat,by omega⟩
 obtain ⟨r,hr⟩:∃ r:Nat,(s:Int)%64=r:=⟨((s:Int)%64).toNat,by omega⟩
 have hsn:s=64*q+r:=by omega
 have hr6:r<64:=by omega
 have key:∀ (w':World) (g' k' cap':Nat),k'<=k+q+1->Num w' (some ⟨g',0,none⟩) k' cap' (zIc z q r)->NV (K+11) (A*2^s) (.slice (some ⟨g',0,none⟩) k' cap') w':=fun w' g' k' cap' hk' hN'=>by
  refine ⟨g',k',cap',_,rfl,by omega,hN',?_⟩
  rw [← zLa hN'.2.2.2.1 (k+q+1) hk',zBm hN.2.2.1 hN.2.2.2.1 q hr6,hv,hsn]
  simp
 by_cases h0:r=0
 ·subst h0
  refine (left_z g 0 k cap q s z w (by omega) (by omega) hq (by omega) (by omega) hN).mono ?_
  rintro e w' ⟨g',k',cap',rfl,hk',hN',hb⟩
  exact ⟨_,rfl,key w' g' k' cap' hk' hN',hb⟩
 ·refine (left_p g 0 k cap q r s z w (by omega) (by omega) hr6 (by omega) hq hr (by omega) hN).mono ?_
  rintro e w' ⟨g',k',cap',rfl,hk',hN',hb⟩
  exact ⟨_,rfl,key w' g' k' cap' hk' hN',hb⟩
def NT (K V:Nat)(v:Value)(w:World):Prop:=∃ g k cap z,v=.slice (some ⟨g,0,none⟩) k cap/\k<=K/\Num w (some ⟨g,0,none⟩) k cap z/\val z k=(V:Int)/\sizeL z k=k
theorem NT.nv {K V:Nat}{v:Value}{w:World}(h:NT K V v w):NV K V v w:=by
 obtain ⟨g,k,cap,z,h1,h2,h3,h4,_⟩:=h
 exact ⟨g,k,cap,z,h1,h2,h3,h4⟩
theorem NT.next {K V:Nat}{v:Value}{w w':World}(h:NT K V v w)(hb:Below w.heap.size w w'):NT K V v w':=by
 obtain ⟨g,k,cap,z,h1,h2,h3,h4,h5⟩:=h
 exact ⟨g,k,cap,z,h1,h2,h3.next hb,h4,h5⟩
theorem zQq {K K' A B:Nat}{v v':Value}{w:World}(hK:K<1000)(hK':K'<1000)(h:NV K A v w)(h':NV K' B v' w)(hv:B<=A) :
  CE 126 #[v,v'] w (NT (K+K') (A-B)):=by
 obtain ⟨g,k,c,z,rfl,hk,hN,hz⟩:=h
 obtain ⟨g2,k2,c2,z2,rfl,hk2,hN2,hz2⟩:=h'
 refine (zW0 _ _ k c k2 c2 z z2 w (by omega) (by omega) hN hN2).mono fun e w' ⟨g3,k3,cap3,e1,hk3,hN3,ht,hB⟩=>⟨_,e1,⟨g3,k3,cap3,_,rfl,by omega,hN3,?_,ht⟩,hB⟩
 have ex:=zLa hN.2.2.2.1 (max k k2) (by omega)
 have ey:=zLa hN2.2.2.2.1 (max k k2) (by omega)
 have e:=zAi hN.2.2.1 hN2.2.2.1 (max k k2)
 rw [zJm hN.2.2.1 hN2.2.2.1 (by omega),ex,ey] at e
 rw [← zLa hN3.2.2.2.1 _ hk3,zIa (y:=zVc z z2) (max k k2) fun i hi=>by unfold zMo;rw [if_pos hi]]
 omega
theorem zJp {K K' A B:Nat}{v v':Value}{w:World}(hK:K<1000000)(hK':K'<1000000)(h:NV K A v w)(h':NV K' B v' w) :
  CE 63 #[v,v'] w (NV (K+K'+1) (A+B)):=by
 obtain ⟨g,k,c,z,rfl,hk,hN,hz⟩:=h
 obtain ⟨g2,k2,c2,z2,rfl,hk2,hN2,hz2⟩:=h'
 refine (zB1 _ _ k c k2 c2 z z2 w (by omega) (by omega) hN hN2).mono fun e w' ⟨g3,k3,cap3,z3,e1,hk3,hN3,hv3,hB⟩=>⟨_,e1,⟨g3,k3,cap3,z3,rfl,by omega,hN3,?_⟩,hB⟩
 rw [hv3,hz,hz2];omega
theorem NT.zero {K V:Nat}{v:Value}{w:World}(h:NT K V v w):∃ g k cap,v=.slice (some ⟨g,0,none⟩) k cap/\k<=K/\(k=0↔V=0):=by
 obtain ⟨g,k,cap,z,h1,h2,h3,h4,h5⟩:=h
 refine ⟨g,k,cap,h1,h2,?_⟩
 constructor
 ·intro hk;subst hk
  have:val z 0=0:=rfl
  omega
 ·intro hV
  rcases Nat.eq_zero_or_pos k with hk|hk
  ·exact hk
  ·exfalso
   have ht:=zFc (x:=z) k (by omega)
   rw [h5] at ht
   obtain ⟨j,rfl⟩:∃ j,k=j+1:=⟨k-1,by omega⟩
   have hs:val z (j+1)=val z j+z j*18446744073709551616^j:=rfl
   have hb:=zOa h3.2.2.1 j
   have hp:=zPb j
   have hj:=h3.2.2.1 j
   have hz:z j≠0:=ht
   have:1*18446744073709551616^j<=z j*18446744073709551616^j:=Int.mul_le_mul_of_nonneg_right (by omega) (Int.le_of_lt hp)
   omega
section
attribute [local go_sem ↓] Go.wp_at_zero Go.wp_at_succ
theorem zBw {k V:Nat}{z:Nat->Int}(hz:zDa z)(h0:∀ i,k<=i->z i=0)(hv:val z k=(V:Int)):val z 4=((V%2^256:Nat):Int):=by
 have h1:val z (4+k)=(V:Int):=by rw [zLa h0 (4+k) (by omega),hv]
 rw [zSb z 4 k] at h1
 have hb:=zOa hz 4
 have e4:(18446744073709551616:Int)^4=((2^256:Nat):Int):=by decide
 rw [e4] at h1 hb
 have h5:=congrArg (·%((2^256:Nat):Int)) h1
 simp only [Int.add_mul_emod_self_right,Int.emod_eq_of_lt hb.1 hb.2] at h5
 rw [h5]
 rfl
theorem zM3 (g k cap:Nat)(z:Nat->Int)(w:World)(h:Num w (some ⟨g,0,none⟩) k cap z) :
  CB 62 #[.slice (some ⟨g,0,none⟩) k cap] w (.agg (arrOf z 4)):=by
 have hw:=fun (i:Nat) (o1 o2:Obj)=>zUb (some ⟨g,0,none⟩) k cap i z ((w.alloc o1).alloc o2) ((h.next (zBa w _)).next (zBa _ _))
 clear h
 go_enter Tryz.func62,Tryz.ntmps62
 go_wp2
 go_loopw [4,5] (fun u4 i wr=>∃ (j:Nat) (ss:Array Value),j<=4/\i=.int .i64 j/\ss.size=4/\(∀ q h,ss[q]'h=Value.int .u64 (if q<j then z q else 0))/\wr=(w.alloc (.cells #[.int .u64 0,.int .u64 0,.int .u64 0,.int .u64 0] 24)).alloc (.cells ss 24)) (fun _ i _=>4-(intOf i).toNat)
 case atStart=>exact ⟨0,_,Nat.zero_le _,rfl,rfl,by intro q h;have h':q<4:=h;match q,h' with|0,_=>rfl|1,_=>rfl|2,_=>rfl|3,_=>rfl,rfl⟩
 case round =>
  obtain ⟨j,ss,hj,rfl,hsz,hss,rfl⟩:=hrel
  by_cases h4:j<4
  ·have h4i:(j:Int)<4:=by omega
   have h4s:j<ss.size:=by omega
   have hsk:ss[j]?=some (.int .u64 0):=by rw [Array.getElem?_eq_getElem h4s,hss j h4s,if_neg (by omega)]
   have HR:Hid (∀ (i:Nat) (h:i<(ss.setIfInBounds j (.int .u64 (z j))).size),(ss.setIfInBounds j (.int .u64 (z j)))[i]'h=Value.int .u64 (if i<j+1 then z i else 0)):=zYc hss
   have hwj:=hw j (.cells #[.int .u64 0,.int .u64 0,.int .u64 0,.int .u64 0] 24) (.cells ss 24)
   clear hss hw
   go_wp2_with (go_at_call 127;refine hwj.mono ?_;rintro e w' ⟨rfl,rfl⟩)
   go_roundw
   case rel=>exact ⟨j+1,ss.setIfInBounds j (.int .u64 (z j)),by omega,by go_num,by simp [hsz],HR.out,rfl⟩
   case measure=>simp [intOf];omega
  ·obtain rfl:j=4:=by omega
   have hss':∀ q h,ss[q]'h=Value.int .u64 (z q):=by
    intro q h;rw [hss q h,if_pos (by omega)]
   clear hss hw
   go_wp2
   exact bodyPost_ret (v:=.agg (arrOf z 4)) (by simp [results,Tryz.results62,go_sem];rfl) rfl ⟨rfl,((Below.refl _ _).alloc (Nat.le_refl _) _).alloc (by simp) _⟩
theorem zDc {K V:Nat}{v:Value}{w:World}(h:NV K V v w) :
  CB 62 #[v] w (A4 V):=by
 obtain ⟨g,k,cap,z,rfl,hk,hN,hv⟩:=h
 refine (zM3 g k cap z w hN).mono ?_
 rintro e w' ⟨rfl,hb⟩
 refine ⟨?_,hb⟩
 rw [zMh hN.2.2.1 (zBw hN.2.2.1 hN.2.2.2.1 hv)]
theorem zLd {K V:Nat}{v:Value}{w:World}(h:NV K V v w)(hK:K<1000)(hV:V<9223372036854775808) :
    Calls Tryz.prog 61 #[v] w fun e w'=>e=.returned (.int .i64 V)/\w'=w:=by
  obtain ⟨g,k,cap,z,rfl,hk,hN,hv⟩:=h
  obtain ⟨h1,h2,h3,h4,h5⟩:=hN
  rcases h5 with ⟨h5,_⟩|⟨b,off,e,hb,hc⟩
  · cases h5
  · cases e
    rcases Nat.eq_zero_or_pos k with hk0|hk0
    · subst hk0
      have : V = 0 := by have : val z 0 = 0 := rfl
                         omega
      subst this
      go_enter Tryz.func61,Tryz.ntmps61
      go_wp2
      go_ret
      exact ⟨rfl,rfl⟩
    · have hc0:=hc 0 hk0
      have hz0:=h3 0
      have e0:z 0=(V:Int):=by
        have hl:=zBw h3 h4 hv
        obtain ⟨j,rfl⟩:∃ j,k=1+j:=⟨k-1,by omega⟩
        have hs:=zSb z 1 j
        have hb2:=zOa (zLb h3 1 j) j
        have h10:val z 1=z 0:=by show val z 0+z 0*18446744073709551616^0=z 0;simp [val]
        rw [hv,h10] at hs
        simp only [Int.pow_one] at hs
        have hm:0<=val (segW z 1 j) j:=hb2.1
        by_cases hp:0<val (segW z 1 j) j
        · exfalso;omega
        · have:val (segW z 1 j) j=0:=by omega
          rw [this] at hs;omega
      have hk1:¬ ((k:Int)=0):=by omega
      rw [e0] at hc0
      simp only [Nat.add_zero] at hc0
      have hkb:(k==0)=false:=by simp;omega
      have hki:(0:Int)<k:=by omega
      clear hc h3 h4 hv e0 hz0
      go_enter Tryz.func61,Tryz.ntmps61
      go_wp2
      go_ret
      exact ⟨rfl,rfl⟩
theorem zXr {w0 w:World}{B:Nat}{t:TypeId}(hB:B<2^256)(hb:Below (w0.alloc (.cells #[.int .u64 (W4 B 0),.int .u64 (W4 B 1),.int .u64 (W4 B 2),.int .u64 (W4 B 3)] t)).heap.size (w0.alloc (.cells #[.int .u64 (W4 B 0),.int .u64 (W4 B 1),.int .u64 (W4 B 2),.int .u64 (W4 B 3)] t)) w) :
  NV 4 B (.slice (some ⟨w0.heap.size,0,none⟩) 4 4) w :=
 ⟨_,4,4,_,rfl,Nat.le_refl _,zCq (zHa B) (zDz B) hb,by
  rw [zIa (x:=zDf (W4 B) 4) (y:=W4 B) 4 (fun i hi=>zMb hi),zOb hB]⟩
theorem zKe (B at_ n:Nat)(w:World)(hB:B<2^256)(ha:at_<=600)(hn:n<=600) :
  CE 60 #[A4 B,.int .i64 at_,.int .i64 n] w (NT 19 (B/2^at_%2^n)):=by
 have hbx:=zXr (w0:=w) (B:=B) (t:=24) hB (Below.refl _ _)
 go_enter Tryz.func60,Tryz.ntmps60
 go_wp2_with (first
  | (have:=hA2;go_at_call 87;refine (zRq n (by decide) hn hh).mono ?_;rintro e w3 ⟨v3,rfl,hl,hb3⟩;replace hx:=hx.next hb3;have hA3:=zMe hA2 hb3)
  | (have:=hA1;go_at_call 93;refine (zDn n (by decide) hn hx).mono ?_;rintro e w2 ⟨v2,b2,rfl,hh,hb2⟩;replace hx:=hx.next hb2;have hA2:=zMe hA1 hb2)
  | (go_at_call 93;refine (zDn at_ (by decide) ha hbx).mono ?_;rintro e w1 ⟨v1,b1,rfl,hx,hb1⟩;have hA1:=zMe (w0:=w) bgo hb1)
  | (go_at_call 126;refine (zQq (by decide) (by decide) hx hl (Nat.div_mul_le_self _ _)).mono ?_;rintro e w4 ⟨v4,rfl,hr,hb4⟩;have hA4:=zMe hA3 hb4))
 go_ret
 refine ⟨_,rfl,?_,hA4⟩
 rw [show B/2^at_%2^n=B/2^at_-B/2^at_/2^n*2^n by have:=Nat.div_add_mod' (B/2^at_) (2^n);omega]
 exact hr
end
theorem zG1 {w:World}{base g k cap n:Nat}{e:TypeId}{xs:List Value}(h:w.ownsRow base e 1 (.slice (some ⟨g,0,none⟩) k cap) n xs):base<=g:=by
 rcases h.2 with ⟨h,_⟩|⟨g',cap',cur,he,hb,_⟩
 ·cases h
 ·cases he;exact hb
theorem zJs (b off n c:Nat)(x:Nat->Int)(w:World)(hn:n<4294967296)(h:Num w (some ⟨b,off,none⟩) n c x) :
  Calls Tryz.prog 128 #[.slice (some ⟨b,off,none⟩) n c] w fun e w'=>∃ g cap,e=.returned (.slice (some ⟨g,0,none⟩) (sizeL x n) cap)/\Num w' (some ⟨g,0,none⟩) (sizeL x n) cap x/\Below w.heap.size w w'/\w.heap.size<=g:=by
 obtain ⟨h1,h2,h3,h4,h5⟩:=h
 have hc:b<w.heap.size/\∀ i,i<n->w.cell? ⟨b,off+i,none⟩=some (.int .u64 (x i)):=by
  rcases h5 with ⟨h,_⟩|⟨b',off',h,hbs,hc⟩
  ·cases h
  ·cases h;exact ⟨hbs,hc⟩
 obtain ⟨hbs,hc⟩:=hc
 clear h5
 obtain ⟨i0,hi,hz0,hz1,hz2⟩:=info_parts Tryz.info22
 unfold maxLen at h2
 go_enter Tryz.func128,Tryz.ntmps128
 go_wp2
 go_loop [3] (fun t=>∃ k:Nat,k<=n/\sizeL x k=sizeL x n/\(∀ i,k<=i->x i=0)/\t=.int .i64 k) (fun t=>(intOf t).toNat)
 case atStart=>exact ⟨n,Nat.le_refl _,rfl,h4,rfl⟩
 case round =>
  obtain ⟨k,hk,hs,hz,rfl⟩:=hrel
  clear h4
  by_cases h0:k=0
  ·subst h0
   have HS:Hid (sizeL x n=0):=hs.symm
   have HN:Hid (Num (w.alloc (.cells #[] 22)) (some ⟨w.heap.size,0,none⟩) 0 0 x):=⟨Nat.le_refl _,by unfold maxLen;omega,h3,hz,Or.inr ⟨w.heap.size,0,rfl,by simp,fun i hi=>by omega⟩⟩
   clear hs hz hc h3
   go_wp2
   go_ret
   refine ⟨w.heap.size,0,?_,?_,(Below.refl _ _).alloc (Nat.le_refl _) _,Nat.le_refl _⟩
   ·rw [HS.out];rfl
   ·rw [HS.out];exact HN.out
  ·obtain ⟨j,rfl⟩:∃ j,k=j+1:=⟨k-1,by omega⟩
   have hcj:=hc j (by omega)
   by_cases hzj:x j=0
   ·have HS:Hid (sizeL x j=sizeL x n):=by
     have:sizeL x (j+1)=sizeL x j:=by simp [sizeL,hzj]
     exact this.symm.trans hs
    have HZ:Hid (∀ i,j<=i->x i=0):=fun i hji=>by
     by_cases e:i=j
     ·rw [e];exact hzj
     ·exact hz i (by omega)
    clear hs hz hc
    go_wp2
    go_round
    case rel=>exact ⟨j,by omega,HS.out,HZ.out,by go_num⟩
    case measure=>simp [intOf]
   ·have HS:Hid (sizeL x n=j+1):=by
     have:sizeL x (j+1)=j+1:=by simp [sizeL,hzj]
     exact hs.symm.trans this
    have HZ:Hid (∀ i,j+1<=i->x i=0):=hz
    have HC:Hid (∀ i,i<n->w.cell? ⟨b,off+i,none⟩=some (.int .u64 (x i))):=hc
    clear hs hz hc
    have HOWN:(w.alloc (.cells #[] 22)).ownsRow w.heap.size 22 1 (.slice (some ⟨w.heap.size,0,none⟩) 0 0) 0 [] :=
     ⟨rfl,Or.inr ⟨w.heap.size,0,#[],rfl,Nat.le_refl _,(MapKept.heap_alloc w _).1,Nat.le_refl _,by unfold maxLen;omega,rfl,rfl⟩⟩
    have HNEWS:∀ (q:Nat) (u:Value),((List.range (j+1)).map fun i=>Value.int .u64 (x i))[q]?=some u->(w.alloc (.cells #[] 22)).cell? ((⟨b,off,none⟩:Addr).add q)=some u:=by
     intro q u hq
     have hql:q<j+1:=by
      rcases Nat.lt_or_ge q (j+1) with h|h
      ·exact h
      ·rw [List.getElem?_eq_none (by simpa using h)] at hq;cases hq
     have e2:u=.int .u64 (x q):=by simpa [hql] using hq.symm
     rw [e2]
     have ea:(⟨b,off,none⟩:Addr).add q=⟨b,off+q,none⟩:=by simp [Addr.add]
     rw [ea]
     exact (((Below.refl w.heap.size w).alloc (Nat.le_refl _) _).cell (p:=⟨b,off+q,none⟩) hbs).trans (HC.out q (by omega))
    have HONE:∀ u ∈ ((List.range (j+1)).map fun i=>Value.int .u64 (x i)),u.oneCell'=true:=by
     intro u hu
     obtain ⟨q,_,rfl⟩:=List.mem_map.1 hu
     rfl
    go_wp2_with (at_builtin;refine wpList_append_lies _ rfl (.tmp 18) (.tmp 21) 61 rfl w.heap.size 22 i0 (.int .u64 0) 1 8 Tryz.underlying61 hi hz0 hz1 hz2 rfl (by decide) (.slice (some ⟨w.heap.size,0,none⟩) 0 0) 0 [] rfl HOWN ⟨b,off,none⟩ (j+1) c ((List.range (j+1)).map fun i=>Value.int .u64 (x i)) rfl (by simp) HNEWS HONE (by omega) (by unfold maxLen;omega) (by omega) (by simp) (w.heap.size+1) (by simp) ?_;intro g cap w1 hown hgrow hat hlt;clear HOWN HNEWS HONE)
    have hown':w1.ownsRow w.heap.size 22 1 (.slice (some ⟨g,0,none⟩) (j+1) cap) (j+1) ((List.range (j+1)).map fun i=>Value.int .u64 (x i)):=by
     have e0:0+(j+1)=j+1:=by omega
     rw [e0] at hown
     simpa using hown
    have HG:=zG1 hown'
    have HN:=zXe (w:=w) h3 HZ.out hown' hlt
    have HB:Below w.heap.size w w1:=((Below.refl _ _).alloc (Nat.le_refl _) _).grown hgrow (by simp) (by intro k hk;cases hk;exact Nat.le_refl _)
    clear hown hown' hgrow
    go_wp2
    go_ret
    refine ⟨g,cap,?_,?_,HB,HG⟩
    ·rw [HS.out];simp
    ·rw [HS.out];exact HN
theorem zJu (x:Nat->Int)(w:World)(hx:∀ i,x i=0) :
  Calls Tryz.prog 128 #[.slice none 0 0] w fun e w'=>∃ g cap,e=.returned (.slice (some ⟨g,0,none⟩) 0 cap)/\Num w' (some ⟨g,0,none⟩) 0 cap x/\Below w.heap.size w w'/\w.heap.size<=g:=by
 go_enter Tryz.func128,Tryz.ntmps128
 go_wp2
 go_loop [3] (fun t=>t=.int .i64 0) (fun t=>(intOf t).toNat)
 case atStart=>rfl
 case round =>
  subst hrel
  go_wp2
  go_ret
  refine ⟨w.heap.size,0,rfl,?_,(Below.refl _ _).alloc (Nat.le_refl _) _,Nat.le_refl _⟩
  exact ⟨Nat.le_refl _,by unfold maxLen;omega,fun i=>by rw [hx i];decide,fun i _=>hx i,Or.inr ⟨w.heap.size,0,rfl,by simp,fun i hi=>by omega⟩⟩
theorem zQg (a:Option Addr)(n c:Nat)(x:Nat->Int)(w:World)(hn:n<4294967296)(h:Num w a n c x) :
  Calls Tryz.prog 128 #[.slice a n c] w fun e w'=>∃ g cap,e=.returned (.slice (some ⟨g,0,none⟩) (sizeL x n) cap)/\Num w' (some ⟨g,0,none⟩) (sizeL x n) cap x/\Below w.heap.size w w'/\w.heap.size<=g:=by
 have h':=h
 obtain ⟨h1,h2,h3,h4,h5⟩:=h'
 rcases h5 with ⟨rfl,rfl⟩|⟨b,off,rfl,_,_⟩
 ·obtain rfl:n=0:=by omega
  exact zJu x w (fun i=>h4 i (Nat.zero_le _))
 ·exact zJs b off n c x w hn h
theorem zG7 (c:Int)(w:World)(hc:0<=c/\c<=18446744073709551615) :
  Calls Tryz.prog 193 #[.int .u64 c] w fun e w'=>∃ g k cap z,e=.returned (.slice (some ⟨g,0,none⟩) k cap)/\k<=1/\Num w' (some ⟨g,0,none⟩) k cap z/\val z k=c/\Below w.heap.size w w'/\sizeL z k=k:=by
 have hN:=zMc w c hc
 have hT:=zHb _ 1 1 (zGc c) _ (by omega) hN
 have hle:=zCa (zGc c) 1
 have HV:Hid (val (zGc c) (sizeL (zGc c) 1)=c):=by show _=_;rw [zKa,zCu _ 1 (by omega)]
 have HB:=zBa w (.cells #[.int .u64 c] 22)
 have HST:Hid (sizeL (zGc c) (sizeL (zGc c) 1)=sizeL (zGc c) 1):=zFa _ _
 generalize sizeL (zGc c) 1=s at *
 clear hN
 go_enter Tryz.func193,Tryz.ntmps193
 go_wp2_with (go_at_call 128;refine hT.mono ?_;rintro e w1 ⟨g,cap,rfl,hN,hB⟩)
 go_ret
 exact ⟨g,s,cap,_,rfl,hle,hN,HV.out,HB.trans (hB.mono HB.size),HST.out⟩
def zUg (x:Nat->Int)(d:Int)(s k i:Nat):Int:=if k<=i/\i<s then quoW x d s i else 0
theorem zE6 (a:Option Addr)(s c:Nat)(x:Nat->Int)(d:Int)(w:World)(hs:s<100000)(h:Num w a s c x)(hd:0<d/\d<=18446744073709551615) :
  Calls Tryz.prog 156 #[.slice a s c,.int .u64 d] w fun e w'=>∃ g k cap z g' k' cap' z',e=.returned (.tuple #[.slice (some ⟨g,0,none⟩) k cap,.slice (some ⟨g',0,none⟩) k' cap'])/\k<=s/\k'<=1/\Num w' (some ⟨g,0,none⟩) k cap z/\Num w' (some ⟨g',0,none⟩) k' cap' z'/\val z k=val x s/d/\sizeL z k=k/\val z' k'=val x s%d/\sizeL z' k'=k'/\Below w.heap.size w w'/\w.heap.size<=g:=by
 have hx:=h.2.2.1
 have H:=fun j hj w=>zAh x d s hx hd j hj w
 have hd0:(d==0)=false:=by simp;omega
 have hmk:=fun w=>zUa (s:Int) s rfl (by omega) w
 have hA:=zYd h
 have hBW:=zBa w (.cells (arrOf (fun _=>0) s) 22)
 have hnx:=h.next hBW
 have hO:=Own.new w (fun _=>0) s
 have hqv:=zRl hx hd.1 s
 have HQW:Hid (zDa (quoW x d s)):=zQf hx hd.1 s
 have hrb:=zIf x d s s hd.1
 have HB:Hid (Below w.heap.size w (w.alloc (.cells (arrOf (fun _=>0) s) 22))):=hBW
 clear hBW h hx
 go_enter Tryz.func156,Tryz.ntmps156
 go_wp2
 generalize w.alloc (.cells (arrOf (fun _=>0) s) 22)=wA at *
 go_loopw [7,8,19] (fun c i u19 wr=>∃ (k:Nat),k<=s/\i=.int .i64 ((k:Int)-1)/\c=.int .u64 (remJ x d s (s-k))/\Own w.heap.size s (zUg x d s k) wr/\Upd w.heap.size wA wr) (fun _ i _ _=>(intOf i+1).toNat)
 case atStart=>exact ⟨s,Nat.le_refl _,by go_num,by rw [Nat.sub_self];rfl,hO.congr fun i _=>by unfold zUg;rw [if_neg (by omega)],Upd.refl _ _⟩
 case round =>
  clear hO
  obtain ⟨k,hk,rfl,rfl,hO,hU⟩:=hrel
  by_cases h0:k=0
  ·subst h0
   have hN:=hO.num (x:=zUg x d s 0) (fun i=>by unfold zUg;split;exact HQW.out i;decide) 0 s s (by omega) (Nat.le_refl _) (by unfold maxLen;omega)
   have hT:=zQg _ s s _ _ (by omega) hN
   have hle:=zCa (segW (zUg x d s 0) 0 s) s
   have HV:Hid (val (segW (zUg x d s 0) 0 s) (sizeL (segW (zUg x d s 0) 0 s) s)=val x s/d):=by
    show _=_
    rw [zKa,zIa (y:=quoW x d s) s fun i hi=>by rw [zSa _ _ _ i hi,Nat.zero_add];unfold zUg;rw [if_pos (by omega)],hqv.1]
   have HR:Hid (remJ x d s s=val x s%d):=hqv.2
   have HBr:Hid (Below w.heap.size w wr):=HB.out.trans (hU.below (Nat.le_refl _))
   have HST:Hid (sizeL (segW (zUg x d s 0) 0 s) (sizeL (segW (zUg x d s 0) 0 s) s)=sizeL (segW (zUg x d s 0) 0 s) s):=zFa _ _
   generalize segW (zUg x d s 0) 0 s=qz at *
   generalize sizeL qz s=k1 at *
   have hof:=fun wr=>zG7 (remJ x d s s) wr (by omega)
   rw [Nat.sub_zero]
   generalize remJ x d s s=rm at *
   clear hN hO hU H hqv
   go_wp2_with (go_at_call 128;refine hT.mono ?_;rintro e w1 ⟨g,cap,rfl,hN1,hB1,hG1⟩;clear hT)
   go_wp2_with (go_at_call 193;refine (hof _).mono ?_;rintro e w2 ⟨g2,k2,p2,z2,rfl,hk2,hN2,hv2,hB2,hS2⟩;clear hof)
   go_ret2
   exact ⟨g,k1,cap,qz,g2,k2,p2,z2,rfl,hle,hk2,hN1.next hB2,hN2,HV.out,HST.out,by rw [hv2,HR.out],hS2,(HBr.out.trans (hB1.mono HBr.out.size)).trans (hB2.mono (Nat.le_trans HBr.out.size hB1.size)),Nat.le_trans HBr.out.size hG1⟩
  ·obtain ⟨j,rfl⟩:∃ j,k=j+1:=⟨k-1,by omega⟩
   have hjm:(j:Int)<s:=by omega
   have ej:((j+1:Nat):Int)-1=j:=by omega
   have ej2:s-(j+1)=s-1-j:=by omega
   rw [ej,ej2]
   obtain ⟨b,off,rfl,hbs,hc⟩:=(hU.num' hA hnx).cells (by omega)
   have hcx:=hc j (by omega)
   have hcj:∃ u,wr.cell? ⟨w.heap.size,j,none⟩=some (.int .u64 u):=⟨_,hO.cell j (by omega)⟩
   obtain ⟨u,hcj⟩:=hcj
   have hfj:=hO.frozen j
   have HJ:=H j (by omega)
   have HO:Hid (Own w.heap.size s (zUg x d s j) (wr.setCell ⟨w.heap.size,j,none⟩ (.int .u64 (quoW x d s j)))):=(hO.set j (quoW x d s j)).congr fun i hi=>by
    unfold zUg
    by_cases e:i=j
    ·subst e;rw [if_pos rfl,if_pos (by omega)]
    ·rw [if_neg e]
     by_cases e2:j+1<=i/\i<s
     ·rw [if_pos e2,if_pos (by omega)]
     ·rw [if_neg e2,if_neg (by omega)]
   have HU:Hid (Upd w.heap.size wA (wr.setCell ⟨w.heap.size,j,none⟩ (.int .u64 (quoW x d s j)))):=hU.set j _
   clear hO hU H ej ej2 hc hqv hA hnx
   go_wp2_with (go_at_call 170;refine (HJ _).mono ?_;rintro e w' ⟨rfl,m',rfl⟩)
   go_roundw
   case rel=>exact ⟨j,by omega,by go_num,rfl,HO.out,HU.out.drewN m'⟩
   case measure=>simp [intOf]
theorem zCj (ga gb s c c':Nat)(x y:Nat->Int)(w:World)(hs:s<20001)(h:Num w (some ⟨ga,0,none⟩) s c x)(h':Num w (some ⟨gb,0,none⟩) 1 c' y)(hys:sizeL y 1=1) :
  Calls Tryz.prog 92 #[.slice (some ⟨ga,0,none⟩) s c,.slice (some ⟨gb,0,none⟩) 1 c'] w fun e w'=>∃ g k cap z g' k' cap' z',e=.returned (.tuple #[.slice (some ⟨g,0,none⟩) k cap,.slice (some ⟨g',0,none⟩) k' cap'])/\k<=s/\k'<=1/\Num w' (some ⟨g,0,none⟩) k cap z/\Num w' (some ⟨g',0,none⟩) k' cap' z'/\val z k=val x s/val y 1/\sizeL z k=k/\val z' k'=val x s%val y 1/\sizeL z' k'=k'/\Below w.heap.size w w'/\w.heap.size<=g:=by
 have hy:=h'.2.2.1
 have c31:=zSg _ 1 c' y w (by omega) h'
 rw [hys] at c31
 have hy0:y 0≠0:=by have:=zFc (x:=y) 1 (by omega);rw [hys] at this;exact this
 have hyb:=hy 0
 have ev:val y 1=y 0:=by simp [val]
 have c107:=zE6 (some ⟨ga,0,none⟩) s c x (y 0) w (by omega) h (by omega)
 have hc:gb<w.heap.size/\w.cell? ⟨gb,0,none⟩=some (.int .u64 (y 0)):=by
  rcases h'.2.2.2.2 with ⟨h,_⟩|⟨b',off',h,hbs,hc⟩
  ·cases h
  ·cases h;exact ⟨hbs,hc 0 (by omega)⟩
 obtain ⟨hgb,hcc⟩:=hc
 rw [ev]
 clear h h'
 go_enter Tryz.func92,Tryz.ntmps92
 go_wp2_with (first|(go_at_call 134;refine c31.mono ?_;rintro e w' ⟨rfl,rfl⟩)|(go_at_call 156;refine c107.mono ?_;rintro e w1 ⟨g,k,cap,z,g',k',cap',z',rfl,hk,hk',hN,hN',hv,hs1,hv',hs2,hB,hG⟩))
 go_ret2
 exact ⟨g,k,cap,z,g',k',cap',z',rfl,hk,hk',hN,hN',hv,hs1,hv',hs2,hB,hG⟩
theorem zI1 {K N D:Nat}{vn vd:Value}{w:World}(hK:K<=20000)(h:NT K N vn w)(h':NT 1 D vd w)(hD:D≠0) :
  Calls Tryz.prog 92 #[vn,vd] w fun e w'=>∃ g k cap r,e=.returned (.tuple #[.slice (some ⟨g,0,none⟩) k cap,r])/\w.heap.size<=g/\NT K (N/D) (.slice (some ⟨g,0,none⟩) k cap) w'/\NT 1 (N%D) r w'/\Below w.heap.size w w':=by
 obtain ⟨ga,s,c,x,rfl,hs,hN,hx,hxs⟩:=h
 obtain ⟨gb,t,c',y,rfl,ht,hN',hy,hys⟩:=h'
 have ht1:t=1:=by
  rcases Nat.eq_zero_or_pos t with e|e
  ·subst e
   have:val y 0=0:=rfl
   omega
  ·omega
 subst ht1
 refine (zCj ga gb s c c' x y w (by omega) hN hN' hys).mono ?_
 rintro e w' ⟨g,k,cap,z,g',k',cap',z',e1,hk,hk',hA,hB,hv,hs1,hv',hs2,hb,hg⟩
 refine ⟨g,k,cap,_,e1,hg,⟨g,k,cap,z,rfl,by omega,hA,?_,hs1⟩,⟨g',k',cap',z',rfl,hk',hB,?_,hs2⟩,hb⟩
 ·rw [hv,hx,hy];rfl
 ·rw [hv',hx,hy];rfl
def OvNew (X Y:Int)(w:World)(e:Ending)(w':World):Prop :=
 ∃ g k cap z g' k' cap' z',e=.returned (.tuple #[.slice (some ⟨g,0,none⟩) k cap,.slice (some ⟨g',0,none⟩) k' cap'])/\k<=41000/\k'<=41000/\Num w' (some ⟨g,0,none⟩) k cap z/\Num w' (some ⟨g',0,none⟩) k' cap' z'/\val z k=X/Y/\val z' k'=X%Y/\Below w.heap.size w w'/\sizeL z' k'=k'/\w.heap.size<=g
theorem zVv (ga gb s c t c':Nat)(x y:Nat->Int)(w:World)(hs:s<=20000)(ht2:t<=20000)(ht:2<=t)(h:Num w (some ⟨ga,0,none⟩) s c x)(h':Num w (some ⟨gb,0,none⟩) t c' y)(hxs:sizeL x s=s)(hys:sizeL y t=t) :
  Calls Tryz.prog 92 #[.slice (some ⟨ga,0,none⟩) s c,.slice (some ⟨gb,0,none⟩) t c'] w (OvNew (val x s) (val y t) w):=by
 have hx:=h.2.2.1
 have hy:=h'.2.2.1
 have HXS:Hid (sizeL x s=s):=hxs
 have c31:=zSg _ t c' y w (by omega) h'
 rw [hys] at c31
 have c20:=zTd _ s c x w (by omega) h
 have c20':=zTd _ t c' y w (by omega) h'
 have c45:=zHb _ s c x w (by omega) h
 rw [hxs] at c45
 have hlx:0<=lenL x s/\lenL x s<=64*s:=by
  unfold lenL;rw [hxs]
  split
  ·omega
  ·have:=zSc (x (s-1)).toNat;omega
 have hY0:0<val y t:=zUi hy t (by omega) hys
 have hX0:=(zOa hx s).1
 obtain ⟨Ly,hLy,hy1,hy2⟩:=zFg hy (n:=t) (by omega)
 have hne:((t:Int)==1)=false:=by simp;omega
 -- the number below the divisor times 2^(far + 1)
 have key:∀ F:Int,lenL x s-lenL y t=F->(F<0->val x s<val y t)/\(0<=F->val x s<val y t*2^(F.toNat+1)):=by
  intro F hF
  rcases Nat.eq_zero_or_pos s with h0|h0
  ·subst h0
   have e0:val x 0=0:=rfl
   refine ⟨fun _=>by rw [e0];exact hY0,fun _=>by rw [e0];exact Int.mul_pos hY0 (zDb _)⟩
  ·obtain ⟨Lx,hLx,hx1,hx2⟩:=zFg hx (n:=s) (by omega)
   have mono:∀ a b:Nat,a<=b->(2:Int)^a<=2^b:=fun a b hab=>by
    obtain ⟨k,rfl⟩:∃ k,b=a+k:=⟨b-a,by omega⟩
    rw [Int.pow_add]
    have:=zDb a
    have h3:=zDb k
    have:(2:Int)^a*1<=2^a*2^k:=Int.mul_le_mul_of_nonneg_left (by omega) (by omega)
    omega
   refine ⟨fun hneg=>?_,fun hpos=>?_⟩
   ·have:=mono (Lx+1) Ly (by omega);omega
   ·have e1:Lx+1=Ly+(F.toNat+1):=by omega
    have h5:2^Ly*2^(F.toNat+1)<=val y t*2^(F.toNat+1):=Int.mul_le_mul_of_nonneg_right hy1 (Int.le_of_lt (zDb _))
    rw [← Int.pow_add,← e1] at h5
    omega
 have hlyb:0<=lenL y t/\lenL y t<=64*t:=by
  unfold lenL;rw [hys]
  split
  ·omega
  ·have:=zSc (y (t-1)).toNat;omega
 obtain ⟨F,hF⟩:∃ F,lenL x s-lenL y t=F:=⟨_,rfl⟩
 have hk:=key F hF
 have hFb:F<=1280000:=by omega
 generalize lenL x s=LX at *
 generalize lenL y t=LY at *
 have HXN:Hid (Num w (some ⟨ga,0,none⟩) s c x):=h
 have HYN:Hid (Num w (some ⟨gb,0,none⟩) t c' y):=h'
 clear key h h' hy1 hy2 hLy hx hy
 obtain ⟨X,hX⟩:∃ X,val x s=X:=⟨_,rfl⟩
 obtain ⟨Y,hY⟩:∃ Y,val y t=Y:=⟨_,rfl⟩
 rw [hX,hY] at hk
 rw [hX] at hX0
 rw [hY] at hY0
 rw [hX,hY]
 have HX:Hid (val x s=X):=hX
 have HY:Hid (val y t=Y):=hY
 clear hX hY
 by_cases hneg:F<0
 ·have hXY:=hk.1 hneg
  have HV:Hid (X/Y=0/\X%Y=X):=⟨Int.ediv_eq_zero_of_lt hX0 hXY,Int.emod_eq_of_lt hX0 hXY⟩
  have HF:Hid (LX-LY=F):=hF
  have hFn:LX-LY<0:=by omega
  clear hk hF
  go_enter Tryz.func92,Tryz.ntmps92
  go_wp2_with (first|(go_at_call 134;refine c31.mono ?_;rintro e w' ⟨rfl,rfl⟩)|(go_at_call_of 69 (Value.slice (some ⟨ga,0,none⟩) s c);refine c20.mono ?_;rintro e w' ⟨rfl,rfl⟩;clear c20)|(go_at_call_of 69 (Value.slice (some ⟨gb,0,none⟩) t c');refine c20'.mono ?_;rintro e w' ⟨rfl,rfl⟩)|(go_at_call 128;refine c45.mono ?_;rintro e w1 ⟨g1,p1,rfl,hN1,hB1⟩))
  go_ret2
  have hb:=zBa w1 (.cells #[] 22)
  exact ⟨w1.heap.size,0,0,fun _=>0,g1,s,p1,x,rfl,by omega,by omega,⟨Nat.le_refl _,by unfold maxLen;omega,fun _=>(by decide:(0:Int)<=0/\(0:Int)<=18446744073709551615),fun _ _=>rfl,Or.inr ⟨w1.heap.size,0,rfl,by simp,fun i hi=>by omega⟩⟩,hN1.next hb,by rw [HV.out.1];rfl,by rw [HV.out.2];exact HX.out,hB1.trans (hb.mono hB1.size),HXS.out,hB1.size⟩
 ·obtain ⟨N,rfl⟩:=Int.eq_ofNat_of_zero_le (show 0<=F by omega)
  have hXb:=hk.2 (by omega)
  rw [Int.toNat_natCast] at hXb
  obtain ⟨m0,hm0⟩:∃ m0:Nat,(N:Int)/64=m0:=⟨N/64,by omega⟩
  have hmk:=fun w=>zUa ((m0:Int)+1) (m0+1) (by omega) (by omega) w
  have hm0b:m0<=20000:=by omega
  have hm0n:m0=N/64:=by omega
  have HM0:Hid (m0=N/64):=hm0n
  clear hk hm0n
  go_enter Tryz.func92,Tryz.ntmps92
  go_wp2_with (first|(go_at_call 134;refine c31.mono ?_;rintro e w' ⟨rfl,rfl⟩)|(go_at_call_of 69 (Value.slice (some ⟨ga,0,none⟩) s c);refine c20.mono ?_;rintro e w' ⟨rfl,rfl⟩;clear c20)|(go_at_call_of 69 (Value.slice (some ⟨gb,0,none⟩) t c');refine c20'.mono ?_;rintro e w' ⟨rfl,rfl⟩)|(go_at_call 128;refine c45.mono ?_;rintro e w1 ⟨g1,p1,rfl,hN1,hB1⟩))
  have hb1:=zBa w1 (.cells (arrOf (fun _=>0) (m0+1)) 22)
  have hBq:=hB1.trans (hb1.mono hB1.size)
  have c49:=zDh gb 0 t c' N y _ (by omega) (by omega) (by omega) (HYN.out.next hBq)
  rw [Int.toNat_natCast,HY.out] at c49
  have hO0:=Own.new w1 (fun _=>0) (m0+1)
  have hg1lt:g1<w1.heap.size:=by
   rcases hN1.2.2.2.2 with ⟨h,_⟩|⟨b,off,h,hb,_⟩
   ·cases h
   ·cases h;exact hb
  have hsz:(w1.alloc (.cells (arrOf (fun _=>0) (m0+1)) 22)).heap.size=w1.heap.size+1:=by simp
  go_wp2_with (go_at_call 87;refine c49.mono ?_;rintro e w2 ⟨g2,k2,p2,z2,rfl,hk2,hN2,hv2,hb2,hf2,htr2⟩;clear c49 htr2)
  rw [hsz] at hf2 hb2
  have hB2:=hBq.trans (hb2.mono (by have:=hB1.size;omega))
  have hNr:=(hN1.next hb1).next (by rw [hsz];exact hb2)
  have hO2:=Below.own hb2 (by omega) hO0
  generalize hgq:w1.heap.size=gq at *
  have hBsz:=hB1.size
  have HGq:Hid (w.heap.size<=gq):=by show _<=_;omega
  have hgq2:gq<w2.heap.size:=by have:=hb2.size;omega
  clear hN1 hB1 hb1 hBq hO0 hb2 hsz hBsz hgq
  go_loopw [7,9,10,65] (fun rv dv iv u65 wr=>∃ (k g1 k1 p1 g2 k2 p2:Nat) (z1 z2 q:Nat->Int),k<=N+1/\iv=.int .i64 ((k:Int)-1)/\rv=.slice (some ⟨g1,0,none⟩) k1 p1/\dv=.slice (some ⟨g2,0,none⟩) k2 p2/\k1<=40002/\k2<=40002/\g1≠gq/\g2≠gq/\gq<wr.heap.size/\Num wr (some ⟨g1,0,none⟩) k1 p1 z1/\Num wr (some ⟨g2,0,none⟩) k2 p2 z2/\Own gq (m0+1) q wr/\zDa q/\Hid (val q (m0+1)*Y+val z1 k1=X)/\Hid (val z1 k1<Y*2^k)/\Hid (0<k->val z2 k2=Y*2^(k-1))/\Hid (val q (m0+1)%2^k=0)/\Hid (sizeL z1 k1=k1)/\Below w.heap.size w wr) (fun _ _ iv _ _=>(intOf iv+1).toNat)
  case atStart=>exact ⟨N+1,g1,s,p1,g2,k2,p2,x,z2,fun _=>0,Nat.le_refl _,by go_num,rfl,rfl,by omega,by omega,by omega,by omega,hgq2,hNr,hN2,hO2,fun _=>(by decide:(0:Int)<=0/\(0:Int)<=18446744073709551615),by show _=_;rw [zRd,Int.zero_mul,Int.zero_add,HX.out],by show _<_;rw [HX.out];exact hXb,fun _=>hv2,by show _=_;rw [zRd];exact Int.zero_emod _,HXS,hB2⟩
  case round =>
   clear hNr hN2 hO2 hB2 hv2 hk2 hf2 hg1lt hgq2 hXb c31 c20' c45
   obtain ⟨k,g1,k1,p1,g2,k2,p2,z1,z2,q,hk,rfl,rfl,rfl,hk1,hk2,hg1,hg2,hgq,hN1,hN2,hO,hqw,hv,hlt,hd,hmod,htr,hB⟩:=hrel
   by_cases h0:k=0
   ·subst h0
    have hQN:=hO.num hqw 0 (m0+1) (m0+1) (by omega) (Nat.le_refl _) (by unfold maxLen;omega)
    have c45:=zQg _ (m0+1) (m0+1) _ _ (by omega) hQN
    have hle:=zCa (segW q 0 (m0+1)) (m0+1)
    have e1:val (segW q 0 (m0+1)) (sizeL (segW q 0 (m0+1)) (m0+1))=val q (m0+1):=by
     rw [zKa];exact zIa _ fun i hi=>by rw [zSa _ _ _ i hi,Nat.zero_add]
    have HFIN:Hid (val (segW q 0 (m0+1)) (sizeL (segW q 0 (m0+1)) (m0+1))=X/Y/\val z1 k1=X%Y):=by
     have h1:=hv.out
     have h2:=hlt.out
     rw [Int.pow_zero,Int.mul_one] at h2
     have:=(Int.ediv_emod_unique hY0 (a:=X) (r:=val z1 k1) (q:=val q (m0+1))).2 ⟨by rw [Int.mul_comm];omega,(zOa hN1.2.2.1 k1).1,h2⟩
     exact ⟨by rw [e1];exact this.1.symm,this.2.symm⟩
    have HN1:Hid (Num wr (some ⟨g1,0,none⟩) k1 p1 z1):=hN1
    generalize segW q 0 (m0+1)=qz at *
    generalize sizeL qz (m0+1)=kq at *
    clear hQN hO hqw hv hlt hd hmod hN1 hN2 e1
    go_wp2_with (go_at_call 128;refine c45.mono ?_;rintro e w3 ⟨g3,p3,rfl,hN3,hB3,hG3⟩)
    go_ret2
    exact ⟨g3,kq,p3,qz,g1,k1,p1,z1,rfl,by omega,by omega,hN3,HN1.out.next hB3,HFIN.out.1,HFIN.out.2,hB.trans (hB3.mono hB.size),htr.out,Nat.le_trans hB.size hG3⟩
   ·obtain ⟨j,rfl⟩:∃ j,k=j+1:=⟨k-1,by omega⟩
    have ej:((j+1:Nat):Int)-1=j:=by omega
    rw [ej]
    have hdv:val z2 k2=Y*2^j:=hd.out (by omega)
    have hT:=zDb j
    have hdp:0<val z2 k2:=by rw [hdv];exact Int.mul_pos hY0 hT
    have hk2p:=zKp hdp
    have c16:=zMi _ _ k1 p1 k2 p2 z1 z2 wr (by omega) (by omega) hN1 hN2
    have HLT:Hid (val z1 k1<Y*2^j*2):=by show _<_;have:=hlt.out;rw [Int.pow_succ,← Int.mul_assoc] at this;exact this
    have HMOD:Hid (val q (m0+1)%(2^j*2)=0):=by show _=_;have:=hmod.out;rw [Int.pow_succ] at this;exact this
    have HMODF:Hid (val q (m0+1)%2^(j+1)=0):=hmod
    have HN':Hid (∀ (z':Nat->Int) (k':Nat),(∀ V,val z2 k2=V*2->val z' k'=V)->0<j->val z' k'=Y*2^(j-1)):=fun z' k' hh hj=>hh _ (by rw [hdv,Int.mul_assoc,← Int.pow_succ];congr 2;omega)
    have HJ:Hid (j<=N):=by show _<=_;omega
    clear ej hd hlt hmod
    by_cases hge:Y*2^j<=val z1 k1
    ·have hsg:0<=sgn (val z1 k1) (val z2 k2):=by unfold sgn;rw [if_neg (by omega)];split<;>omega
     have c37:=zXh _ _ k1 p1 k2 p2 z1 z2 wr (by omega) (by omega) hN1 hN2 (by rw [hdv];exact hge)
     generalize sgn (val z1 k1) (val z2 k2)=sg at *
     obtain ⟨m,hmj⟩:∃ m:Nat,(j:Int)/64=m:=⟨j/64,by omega⟩
     obtain ⟨r,hrj⟩:∃ r:Nat,(j:Int)%64=r:=⟨j%64,by omega⟩
     have hr64:r<64:=by omega
     have hjm:j=64*m+r:=by omega
     have hmm:m<m0+1:=by have:=HJ.out;have:=HM0.out;omega
     have hmi:(m:Int)<((m0+1:Nat):Int):=by omega
     have hob:=zWv (hqw m) hr64 (zFl hqw hmm (show r+1<=64 by omega) (by have:=HMODF.out;rw [hjm] at this;exact this))
     have HOR:Hid (bits BinOp.or IntKind.u64 (q m) (2^r)=q m+2^r):=hob.1
     have hpr:=zDb r
     have hpl:=zTl hr64
     have HQ2:Hid (val (fun i=>if i=m then q m+2^r else q i) (m0+1)=val q (m0+1)+2^j):=by
      show _=_
      rw [zJd q m (q m+2^r) (m0+1) hmm]
      have e9:(2:Int)^j=2^r*18446744073709551616^m:=by rw [p64,← hjm]
      rw [e9];congr 1;congr 1;omega
     have HQW2:Hid (zDa (fun i=>if i=m then q m+2^r else q i)):=zTb hqw ⟨by have:=hqw m;omega,hob.2⟩
     have bq:=hqw m
     have HO:Hid (Own gq (m0+1) q wr):=hO
     have HN2:Hid (Num wr (some ⟨g2,0,none⟩) k2 p2 z2):=hN2
     have hob2:=hob.2
     have HD:Hid (val z2 k2=Y*2^j):=hdv
     clear hN1 hN2 hO hqw hob hjm HMODF
     go_wp2_with (first|(go_at_call 88;refine c16.mono ?_;rintro e w' ⟨rfl,rfl⟩)|(go_at_call 126;refine c37.mono ?_;rintro e w3 ⟨g3,k3,p3,z3,rfl,hk3,hN3,hv3,hb3,hf3,htr3⟩;have HT3:Hid (sizeL z3 k3=k3):=htr3;clear htr3;have hO3:=Below.own hb3 hgq HO.out;have hcq:=hO3.cell m hmm;have hfq:=hO3.frozen m))
     have hU3:Upd gq w3 (w3.setCell ⟨gq,m,none⟩ (.int .u64 (bits BinOp.or IntKind.u64 (q m) (2^r)))):=(Upd.refl gq w3).set m _
     have hO4:=hO3.set m (q m+2^r)
     rw [← HOR.out] at hO4
     have hN24:=hU3.num hg2 (HN2.out.next hb3)
     have hN34:=hU3.num (by omega) hN3
     have hB3:=(hB.trans (hb3.mono hB.size)).trans (hU3.below HGq.out)
     have hsz3:w3.heap.size<=(w3.setCell ⟨gq,m,none⟩ (.int .u64 (bits BinOp.or IntKind.u64 (q m) (2^r)))).heap.size:=Nat.le_of_eq hU3.size.symm
     have hgq3:=hb3.size
     have c51:=zUf g2 k2 p2 z2 _ hk2p (by omega) hN24
     clear hO3 hN3 hN24 hU3 hb3
     generalize w3.setCell ⟨gq,m,none⟩ (.int .u64 (bits BinOp.or IntKind.u64 (q m) (2^r)))=wS at *
     go_wp2_with (go_at_call 93;refine c51.mono ?_;rintro e w4 ⟨g4,k4,p4,bb,z4,rfl,hk4,hN4,hhf,hb4,hf4⟩)
     have hgS:gq<wS.heap.size:=by omega
     go_roundw
     case rel =>
      refine ⟨j,g3,k3,p3,g4,k4,p4,z3,z4,fun i=>if i=m then q m+2^r else q i,by have:=HJ.out;omega,by go_num,rfl,rfl,by omega,by omega,by omega,by omega,by have:=hb4.size;omega,hN34.next hb4,hN4,?_,HQW2.out,?_,?_,fun hj=>HN'.out z4 k4 hhf hj,?_,HT3,hB3.trans (hb4.mono hB3.size)⟩
      ·have:=Below.own hb4 hgS hO4
       rw [HOR.out] at this
       exact this
      ·show _=_
       rw [HQ2.out,hv3,HD.out,Int.add_mul,Int.mul_comm (2^j) Y]
       have:=hv.out
       omega
      ·show _<_
       rw [hv3,HD.out]
       have:=HLT.out
       omega
      ·show _=_
       rw [HQ2.out,Int.add_emod_right]
       exact zRf HMOD.out
     case measure=>simp [intOf]
    ·have hs1:sgn (val z1 k1) (val z2 k2)=-1:=by unfold sgn;rw [if_pos (by omega)]
     rw [hs1] at c16
     have c51:=zUf g2 k2 p2 z2 wr hk2p (by omega) hN2
     have HN1:Hid (Num wr (some ⟨g1,0,none⟩) k1 p1 z1):=hN1
     have HO:Hid (Own gq (m0+1) q wr):=hO
     have HQW:Hid (zDa q):=hqw
     clear hN1 hN2 hO hqw hs1
     go_wp2_with (first|(go_at_call 88;refine c16.mono ?_;rintro e w' ⟨rfl,rfl⟩)|(go_at_call 93;refine c51.mono ?_;rintro e w4 ⟨g4,k4,p4,bb,z4,rfl,hk4,hN4,hhf,hb4,hf4⟩))
     go_roundw
     case rel=>exact ⟨j,g1,k1,p1,g4,k4,p4,z1,z4,q,by have:=HJ.out;omega,by go_num,rfl,rfl,hk1,by omega,hg1,by omega,by have:=hb4.size;omega,HN1.out.next hb4,hN4,Below.own hb4 hgq HO.out,HQW.out,hv,by show _<_;omega,fun hj=>HN'.out z4 k4 hhf hj,zRf HMOD.out,htr,hB.trans (hb4.mono hB.size)⟩
     case measure=>simp [intOf]
theorem zY0 (b off n c q r:Nat)(s:Int)(x:Nat->Int)(w:World)(hn:n<4000000000)(hq0:q<100000)(hr0:r<64)(hrp:0<r)(hq:s/64=q)(hr:s%64=r)(hs:0<=s)(h:Num w (some ⟨b,off,none⟩) n c x) :
  Calls Tryz.prog 93 #[.slice (some ⟨b,off,none⟩) n c,.int .i64 s] w fun e w'=>∃ g k cap z,e=.returned (.tuple #[.slice (some ⟨g,0,none⟩) k cap,.bool z])/\k<=n/\Num w' (some ⟨g,0,none⟩) k cap (zXb x q r)/\Below w.heap.size w w'/\w.heap.size<=g:=by
 have hx:=h.2.2.1
 have zx:=h.2.2.2.1
 have hc:b<w.heap.size/\∀ i,i<n->w.cell? ⟨b,off+i,none⟩=some (.int .u64 (x i)):=by
  rcases h.2.2.2.2 with ⟨h,_⟩|⟨b',off',h,hbs,hc⟩
  ·cases h
  ·cases h;exact ⟨hbs,hc⟩
 obtain ⟨hbs,hc⟩:=hc
 have hcap:=h.1
 have hs6:s<6400064:=by omega
 obtain ⟨i0,hi,hz0,hz1,hz2⟩:=info_parts Tryz.info22
 have HX:Hid (Num w (some ⟨b,off,none⟩) n c x):=h
 clear h
 go_enter Tryz.func93,Tryz.ntmps93
 go_wp2
 go_loop [6,7,13] (fun g u7 i=>∃ (k:Nat) (z:Bool),k<=n/\i=.int .i64 k/\g=.bool z) (fun _ _ i=>n-(intOf i).toNat)
 case atStart=>exact ⟨0,false,Nat.zero_le _,rfl,rfl⟩
 case round =>
  obtain ⟨k,z,hk,rfl,rfl⟩:=hrel
  by_cases h8:k<n
  ·have h8i:(k:Int)<n:=by omega
   by_cases hkq:k<q
   ·have bx:=hx k
    have hcx:=hc k h8
    clear hc hx zx hi hz0 hz1 hz2
    have hkq':(k:Int)<q:=by omega
    by_cases hz:x k=0
    ·have hz':(x k != 0)=false:=by simp [hz]
     have hne:((k:Int)==q)=false:=by simp;omega
     go_wp2
     go_round
     case rel=>exact ⟨k+1,z,by omega,by go_num,rfl⟩
     case measure=>simp [intOf];omega
    ·have hz':(x k != 0)=true:=by simp [hz]
     go_wp2
     go_round
     case rel=>exact ⟨k+1,true,by omega,by go_num,rfl⟩
     case measure=>simp [intOf];omega
   ·have hkq':¬ (k:Int)<q:=by omega
    by_cases hke:k=q
    ·subst hke
     have bx:=hx k
     have hcx:=hc k h8
     clear hc hx zx hi hz0 hz1 hz2
     go_wp2
     all_goals
      go_round
      case rel=>first|exact ⟨k+1,true,by omega,by go_num,rfl⟩|exact ⟨k+1,z,by omega,by go_num,rfl⟩
      case measure=>simp [intOf];omega
    ·have hcx:=hc k h8
     clear hc hx zx hi hz0 hz1 hz2
     have hne:((k:Int)==q)=false:=by simp;omega
     go_wp2
     go_round
     case rel=>exact ⟨k+1,z,by omega,by go_num,rfl⟩
     case measure=>simp [intOf];omega
  ·obtain rfl:k=n:=by omega
   go_wp2
   go_loopw [8,9,10] (fun v i u10 wr=>∃ (j:Nat) (ao:Option Addr) (cp:Nat),j<=k-q/\i=.int .i64 ((q:Int)+j)/\v=.slice ao j cp/\wr.ownsRow w.heap.size 22 1 (.slice ao j cp) j (wl (zXb x q r) j)/\Below w.heap.size w wr) (fun _ i _ _=>k+1-(intOf i).toNat)
   case atStart=>exact ⟨0,none,0,Nat.zero_le _,by go_num,rfl,World.ownsRow_nil _ _ _ _,Below.refl _ _⟩
   case round =>
    obtain ⟨j,ao,cp,hj,rfl,rfl,hown,hB⟩:=hrel
    by_cases hlt:q+j<k
    ·have hlt':(q:Int)+j<k:=by omega
     have bx:=hx (q+j)
     have b_y:=hx (q+j+1)
     have e1:((q:Int)+j).toNat=q+j:=by omega
     have hcx:wr.cell? ⟨b,off+(q+j),none⟩=some (.int .u64 (x (q+j))):=(hB.cell (p:=⟨b,off+(q+j),none⟩) hbs).trans (hc (q+j) hlt)
     have HW:Hid (CQ 127 #[.slice (some ⟨b,off,none⟩) k c,.int .i64 ((q:Int)+j+1)] wr (.int .u64 (x (q+j+1)))):=by
      have:=zUb (some ⟨b,off,none⟩) k c (q+j+1) x wr (HX.out.next hB)
      rw [show ((q+j+1:Nat):Int)=(q:Int)+j+1 by omega] at this
      exact this.mono fun _ _ h=>⟨h.1,h.2.symm⟩
     have hbw:=hB.size
     have HO:Hid (wr.ownsRow w.heap.size 22 1 (.slice ao j cp) j (wl (zXb x q r) j)):=hown
     have HVAL:Hid (zXb x q r j=bits BinOp.or IntKind.u64 (x (q+j)/2^r) (IntKind.u64.wrap (x (q+j+1)*2^(64-r)))):=by show _=_;unfold zXb;rw [if_neg (by omega)];rfl
     have HOWN:(wr.alloc (.cells #[.int .u64 (bits BinOp.or IntKind.u64 (x (q+j)/2^r) (IntKind.u64.wrap (x (q+j+1)*2^(64-r))))] 22)).ownsRow w.heap.size 22 1 (.slice ao j cp) j (wl (zXb x q r) j):=hown.alloc _
     have HNEWS:∀ (p:Nat) (u:Value),[Value.int .u64 (bits BinOp.or IntKind.u64 (x (q+j)/2^r) (IntKind.u64.wrap (x (q+j+1)*2^(64-r))))][p]?=some u->(wr.alloc (.cells #[.int .u64 (bits BinOp.or IntKind.u64 (x (q+j)/2^r) (IntKind.u64.wrap (x (q+j+1)*2^(64-r))))] 22)).cell? ((⟨wr.heap.size,0,none⟩:Addr).add p)=some u:=by
      intro p u hp
      match p,hp with
      | 0,hp=>simp at hp;subst hp;simp [Addr.add]
     have HONE:∀ u ∈ [Value.int .u64 (bits BinOp.or IntKind.u64 (x (q+j)/2^r) (IntKind.u64.wrap (x (q+j+1)*2^(64-r))))],u.oneCell'=true:=by
      intro u hu;simp at hu;subst hu;rfl
     clear hc hx zx hown
     go_wp2_with (first|(at_builtin;refine wpList_append_lies _ rfl (.tmp 77) (.tmp 79) 61 rfl w.heap.size 22 i0 (.int .u64 0) 1 8 Tryz.underlying61 hi hz0 hz1 hz2 rfl (by decide) (.slice ao j cp) j (wl (zXb x q r) j) rfl HOWN ⟨wr.heap.size,0,none⟩ 1 1 [Value.int .u64 (bits BinOp.or IntKind.u64 (x (q+j)/2^r) (IntKind.u64.wrap (x (q+j+1)*2^(64-r))))] rfl rfl HNEWS HONE (by omega) (by unfold maxLen;omega) (by omega) (by simp;omega) (wr.heap.size+1) (by simp) ?_;intro g cap w1 hown1 hgrow hat hlt1;clear HOWN HNEWS HONE)|(go_at_call 127;refine HW.out.mono ?_;rintro e w' ⟨rfl,rfl⟩))
     have hown2:w1.ownsRow w.heap.size 22 1 (.slice (some ⟨g,0,none⟩) (j+1) cap) (j+1) (wl (zXb x q r) (j+1)):=by
      rw [← HVAL.out,zGl] at hown1;exact hown1
     have HB2:Below w.heap.size w w1:=(hB.alloc hbw _).grown hgrow (by simp;omega) (by
      intro p hp
      rcases ao with _|⟨bb,oo,sp⟩
      ·cases hp
      ·cases hp
       obtain ⟨_,h1⟩:=HO.out
       rcases h1 with ⟨h1,_⟩|⟨g',_,_,h1,h2,_⟩
       ·cases h1
       ·cases h1;exact h2)
     clear hown1 hgrow
     go_wp2
     go_roundw
     case rel=>exact ⟨j+1,some ⟨g,0,none⟩,cap,by omega,by go_num,rfl,hown2,HB2⟩
     case measure=>simp [intOf];omega
    ·have HZ:∀ i,j<=i->zXb x q r i=0:=fun i hi=>zFe zx q r i (by omega)
     have hT:=zQg ao j cp _ wr (by omega) (zWd (zGd hx q r) HZ hown)
     have hle:=zCa (zXb x q r) j
     have hlt':¬ (q:Int)+j<k:=by omega
     clear hc hx zx hown HZ
     go_wp2_with (go_at_call 128;refine hT.mono ?_;rintro e w1 ⟨g,cap,rfl,hN,hB1,hG1⟩)
     go_ret2
     exact ⟨g,_,cap,_,rfl,by omega,hN,hB.trans (hB1.mono hB.size),Nat.le_trans hB.size hG1⟩
theorem zKv {K N D:Nat}{vn vd:Value}{w:World}(hK:K<=20000)(h:NT K N vn w)(h':NT K D vd w)(hD:D≠0) :
  Calls Tryz.prog 92 #[vn,vd] w fun e w'=>∃ g k cap r,e=.returned (.tuple #[.slice (some ⟨g,0,none⟩) k cap,r])/\w.heap.size<=g/\NV 41000 (N/D) (.slice (some ⟨g,0,none⟩) k cap) w'/\NT 41000 (N%D) r w'/\Below w.heap.size w w':=by
 obtain ⟨ga,s,c,x,rfl,hs,hN,hx,hxs⟩:=h
 obtain ⟨gb,t,c',y,rfl,ht,hN',hy,hys⟩:=h'
 have ht0:t≠0:=by
  intro e;subst e
  have:val y 0=0:=rfl
  omega
 by_cases ht1:t=1
 ·subst ht1
  refine (zCj ga gb s c c' x y w (by omega) hN hN' hys).mono ?_
  rintro e w' ⟨g,k,cap,z,g',k',cap',z',e1,hk,hk',hA,hB,hv,hs1,hv',hs2,hb,hg⟩
  refine ⟨g,k,cap,_,e1,hg,⟨g,k,cap,z,rfl,by omega,hA,?_⟩,⟨g',k',cap',z',rfl,by omega,hB,?_,hs2⟩,hb⟩
  ·rw [hv,hx,hy];rfl
  ·rw [hv',hx,hy];rfl
 ·refine (zVv ga gb s c t c' x y w (by omega) (by omega) (by omega) hN hN' hxs hys).mono ?_
  rintro e w' ⟨g,k,cap,z,g',k',cap',z',e1,hk,hk',hA,hB,hv,hv',hb,htr,hg⟩
  refine ⟨g,k,cap,_,e1,hg,⟨g,k,cap,z,rfl,hk,hA,?_⟩,⟨g',k',cap',z',rfl,hk',hB,?_,htr⟩,hb⟩
  ·rw [hv,hx,hy];rfl
  ·rw [hv',hx,hy];rfl
theorem NV.updV {K V g b k c:Nat}{w w':World}(h:NV K V (.slice (some ⟨b,0,none⟩) k c) w)(hne:b≠g)(hU:Upd g w w'):NV K V (.slice (some ⟨b,0,none⟩) k c) w':=by
 obtain ⟨g',k',c',z,e,hk,hN,hv⟩:=h
 cases e
 exact ⟨b,k,c,z,rfl,hk,hU.num hne hN,hv⟩
theorem zXs {K A:Nat}{v:Value}{w:World}(s:Nat)(hK:K<1000)(hs:s<=600)(hs6:s%64≠0)(h:NV K A v w) :
  Calls Tryz.prog 93 #[v,.int .i64 (s:Int)] w fun e w'=>∃ g k cap b,e=.returned (.tuple #[.slice (some ⟨g,0,none⟩) k cap,.bool b])/\w.heap.size<=g/\NV K (A/2^s) (.slice (some ⟨g,0,none⟩) k cap) w'/\Below w.heap.size w w':=by
 obtain ⟨g,k,cap,z,rfl,hk,hN,hv⟩:=h
 obtain ⟨q,hq⟩:∃ q:Nat,(s:Int)/64=q:=⟨((s:Int)/64).toNat,by omega⟩
 obtain ⟨r,hr⟩:∃ r:Nat,(s:Int)%64=r:=⟨((s:Int)%64).toNat,by omega⟩
 have hsn:s=64*q+r:=by omega
 have hr6:r<64:=by omega
 refine (zY0 g 0 k cap q r s z w (by omega) (by omega) hr6 (by omega) hq hr (by omega) hN).mono ?_
 rintro e w' ⟨g',k',cap',b,rfl,hk',hN',hb,hg⟩
 refine ⟨g',k',cap',b,rfl,hg,⟨g',k',cap',_,rfl,by omega,hN',?_⟩,hb⟩
 rw [← zLa hN'.2.2.2.1 k hk',hsn]
 exact zNl hN.2.2.1 hN.2.2.2.1 hr6 k (Nat.le_refl _) hv
theorem zKf {t0 x t1 y t2 z:Int}(h0:0<=t0/\t0<4)(h1:0<=x/\x<2)(h2:0<=t1/\t1<4)(h3:0<=y/\y<2)(h4:0<=t2/\t2<8)(h5:0<=z/\z<2) :
  bits .or .i64 (bits .or .i64 (bits .or .i64 (bits .or .i64 (bits .or .i64 (t0*256) (x*128)) (t1*32)) (y*16)) (t2*2)) z=t0*256+x*128+t1*32+y*16+t2*2+z:=by
 obtain ⟨a,rfl⟩:=Int.eq_ofNat_of_zero_le h0.1
 obtain ⟨b,rfl⟩:=Int.eq_ofNat_of_zero_le h1.1
 obtain ⟨c,rfl⟩:=Int.eq_ofNat_of_zero_le h2.1
 obtain ⟨d,rfl⟩:=Int.eq_ofNat_of_zero_le h3.1
 obtain ⟨e,rfl⟩:=Int.eq_ofNat_of_zero_le h4.1
 obtain ⟨f,rfl⟩:=Int.eq_ofNat_of_zero_le h5.1
 have h:=zRe (f:=fun i=>decide (bits .or .i64 (bits .or .i64 (bits .or .i64 (bits .or .i64 (bits .or .i64 (((i/256:Nat):Int)*256) (((i/128%2:Nat):Int)*128)) (((i/32%4:Nat):Int)*32)) (((i/16%2:Nat):Int)*16)) (((i/2%8:Nat):Int)*2)) ((i%2:Nat):Int)=(i:Int))) (m:=1024) (by decide +kernel) (a*256+b*128+c*32+d*16+e*2+f) (by omega)
 have h':=of_decide_eq_true h
 obtain ⟨i,hi⟩:∃ i,i=a*256+b*128+c*32+d*16+e*2+f:=⟨_,rfl⟩
 rw [← hi] at h'
 rw [show i/256=a by omega,show i/128%2=b by omega,show i/32%4=c by omega,show i/16%2=d by omega,show i/2%8=e by omega,show i%2=f by omega] at h'
 rw [h',hi]
 omega
structure Thr (w:World) (g:Nat) (x y z:Int):Prop where
 c0:w.cell? ⟨g,0,none⟩=some (.int .i64 x)
 c1:w.cell? ⟨g,1,none⟩=some (.int .i64 y)
 c2:w.cell? ⟨g,2,none⟩=some (.int .i64 z)
theorem enc_0 (n a b c g:Nat)(w:World)(hn:n<1000)(ha:n/100=a)(hb:n/10%10=b)(hc:n%10=c)(hg:a/8*4+b/8*2+c/8=g)(R:Int)
  (hR:((((a:Int)/2%4):Int)*256+(a:Int)%2*128+((b:Int)/2%4)*32+(b:Int)%2*16+((c:Int)/2%4)*2+(c:Int)%2)=R)
  (c21:∀ W,CB 192 #[.int .i64 (g:Int)] W (.agg #[.int .i64 10,.int .i64 11,.int .i64 22])) :
  CB 155 #[.int .i64 (n:Int)] w (.tuple #[.int .i64 R,.int .i64 0]):=by
 have h0:¬ (n:Int)<0:=by omega
 have h9:¬ 999<(n:Int):=by omega
 have ea:(n:Int)/100=(a:Int):=by omega
 have eb:(n:Int)/10%10=(b:Int):=by omega
 have ec:(n:Int)%10=(c:Int):=by omega
 have eg:(a:Int)/8*4+(b:Int)/8*2+(c:Int)/8=(g:Int):=by omega
 have la:(a:Int)/8<=1:=by omega
 have lb:(b:Int)/8<=1:=by omega
 go_enter Tryz.func155,Tryz.ntmps155
 go_wp2_with (go_at_call 192;refine wk w (c21 _) ?_;intro w1 hb1 _ _ _ _ hA1 _;clear hb1)
 go_loopw [39] (fun t wr=>∃ i:Nat,i<=3/\t=.int .i64 i/\Thr wr w.heap.size a b c/\Thr wr w1.heap.size 10 11 22/\Thr wr (w1.heap.size+1) (if 0<i then ((a:Int)/2%4) else 0) (if 1<i then ((b:Int)/2%4) else 0) (if 2<i then ((c:Int)/2%4) else 0)/\(∀ j,wr.frozen? ⟨w1.heap.size+1,j,none⟩=false)/\Below w.heap.size w wr/\w1.heap.size+1<wr.heap.size) (fun t _=>3-(intOf t).toNat)
 case atStart=>exact ⟨0,by decide,rfl,⟨by go_simp,by go_simp,by go_simp⟩,⟨by go_simp,by go_simp,by go_simp⟩,⟨by go_simp,by go_simp,by go_simp⟩,fun j=>by go_simp,bgo,by simp⟩
 case round =>
  obtain ⟨i,hi,rfl,⟨p0,p1,p2⟩,⟨q0,q1,q2⟩,⟨s0,s1,s2⟩,hfr,hbw,hsz⟩:=hrel
  have hl0:w.heap.size<wr.heap.size:=by omega
  have hl1:w1.heap.size<wr.heap.size:=by omega
  have hne1:¬ w.heap.size=w1.heap.size+1:=by omega
  have hne2:¬ w1.heap.size=w1.heap.size+1:=by omega
  have hi':i=0∨i=1∨i=2∨i=3:=by omega
  rcases hi' with rfl|rfl|rfl|rfl
  ·go_wp2
   go_roundw
   case rel=>exact ⟨1,by omega,by go_num,⟨by go_simp,by go_simp,by go_simp⟩,⟨by go_simp,by go_simp,by go_simp⟩,⟨by go_simp,by go_simp,by go_simp⟩,fun j=>by go_simp,bgo,by simpa using hsz⟩
   case measure=>simp [intOf]
  ·go_wp2
   go_roundw
   case rel=>exact ⟨2,by omega,by go_num,⟨by go_simp,by go_simp,by go_simp⟩,⟨by go_simp,by go_simp,by go_simp⟩,⟨by go_simp,by go_simp,by go_simp⟩,fun j=>by go_simp,bgo,by simpa using hsz⟩
   case measure=>simp [intOf]
  ·go_wp2
   go_roundw
   case rel=>exact ⟨3,by omega,by go_num,⟨by go_simp,by go_simp,by go_simp⟩,⟨by go_simp,by go_simp,by go_simp⟩,⟨by go_simp,by go_simp,by go_simp⟩,fun j=>by go_simp,bgo,by simpa using hsz⟩
   case measure=>simp [intOf]
  ·go_wp2
   exact bodyPost_ret (v:=.tuple #[.int .i64 R,.int .i64 0]) (by
    simp only [results,Tryz.results155]
    go_simp
    rw [← hR]
    exact zKf (by omega) (by omega) (by omega) (by omega) (by omega) (by omega)) rfl ⟨rfl,hbw⟩
theorem enc_1 (n a b c g:Nat)(w:World)(hn:n<1000)(ha:n/100=a)(hb:n/10%10=b)(hc:n%10=c)(hg:a/8*4+b/8*2+c/8=g)(R:Int)(u2:Int)(hu2:0<=u2/\u2<8)(hv2:¬ 10<=u2)
  (hR:((((a:Int)/2%4):Int)*256+(a:Int)%2*128+((b:Int)/2%4)*32+(b:Int)%2*16+u2*2+(c:Int)%2)=R)
  (c21:∀ W,CB 192 #[.int .i64 (g:Int)] W (.agg #[.int .i64 10,.int .i64 11,.int .i64 u2])) :
  CB 155 #[.int .i64 (n:Int)] w (.tuple #[.int .i64 R,.int .i64 0]):=by
 have h0:¬ (n:Int)<0:=by omega
 have h9:¬ 999<(n:Int):=by omega
 have ea:(n:Int)/100=(a:Int):=by omega
 have eb:(n:Int)/10%10=(b:Int):=by omega
 have ec:(n:Int)%10=(c:Int):=by omega
 have eg:(a:Int)/8*4+(b:Int)/8*2+(c:Int)/8=(g:Int):=by omega
 have la:(a:Int)/8<=1:=by omega
 have lb:(b:Int)/8<=1:=by omega
 go_enter Tryz.func155,Tryz.ntmps155
 go_wp2_with (go_at_call 192;refine wk w (c21 _) ?_;intro w1 hb1 _ _ _ _ hA1 _;clear hb1)
 go_loopw [39] (fun t wr=>∃ i:Nat,i<=3/\t=.int .i64 i/\Thr wr w.heap.size a b c/\Thr wr w1.heap.size 10 11 u2/\Thr wr (w1.heap.size+1) (if 0<i then ((a:Int)/2%4) else 0) (if 1<i then ((b:Int)/2%4) else 0) (if 2<i then u2 else 0)/\(∀ j,wr.frozen? ⟨w1.heap.size+1,j,none⟩=false)/\Below w.heap.size w wr/\w1.heap.size+1<wr.heap.size) (fun t _=>3-(intOf t).toNat)
 case atStart=>exact ⟨0,by decide,rfl,⟨by go_simp,by go_simp,by go_simp⟩,⟨by go_simp,by go_simp,by go_simp⟩,⟨by go_simp,by go_simp,by go_simp⟩,fun j=>by go_simp,bgo,by simp⟩
 case round =>
  obtain ⟨i,hi,rfl,⟨p0,p1,p2⟩,⟨q0,q1,q2⟩,⟨s0,s1,s2⟩,hfr,hbw,hsz⟩:=hrel
  have hl0:w.heap.size<wr.heap.size:=by omega
  have hl1:w1.heap.size<wr.heap.size:=by omega
  have hne1:¬ w.heap.size=w1.heap.size+1:=by omega
  have hne2:¬ w1.heap.size=w1.heap.size+1:=by omega
  have hi':i=0∨i=1∨i=2∨i=3:=by omega
  rcases hi' with rfl|rfl|rfl|rfl
  ·go_wp2
   go_roundw
   case rel=>exact ⟨1,by omega,by go_num,⟨by go_simp,by go_simp,by go_simp⟩,⟨by go_simp,by go_simp,by go_simp⟩,⟨by go_simp,by go_simp,by go_simp⟩,fun j=>by go_simp,bgo,by simpa using hsz⟩
   case measure=>simp [intOf]
  ·go_wp2
   go_roundw
   case rel=>exact ⟨2,by omega,by go_num,⟨by go_simp,by go_simp,by go_simp⟩,⟨by go_simp,by go_simp,by go_simp⟩,⟨by go_simp,by go_simp,by go_simp⟩,fun j=>by go_simp,bgo,by simpa using hsz⟩
   case measure=>simp [intOf]
  ·go_wp2
   go_roundw
   case rel=>exact ⟨3,by omega,by go_num,⟨by go_simp,by go_simp,by go_simp⟩,⟨by go_simp,by go_simp,by go_simp⟩,⟨by go_simp,by go_simp,by go_simp⟩,fun j=>by go_simp,bgo,by simpa using hsz⟩
   case measure=>simp [intOf]
  ·go_wp2
   exact bodyPost_ret (v:=.tuple #[.int .i64 R,.int .i64 0]) (by
    simp only [results,Tryz.results155]
    go_simp
    rw [← hR]
    exact zKf (by omega) (by omega) (by omega) (by omega) (by omega) (by omega)) rfl ⟨rfl,hbw⟩
theorem enc_2 (n a b c g:Nat)(w:World)(hn:n<1000)(ha:n/100=a)(hb:n/10%10=b)(hc:n%10=c)(hg:a/8*4+b/8*2+c/8=g)(R:Int)(u2:Int)(hu2:0<=u2/\u2<8)(hv2:¬ 10<=u2)
  (hR:((((a:Int)/2%4):Int)*256+(a:Int)%2*128+((c:Int)/2%4)*32+(b:Int)%2*16+u2*2+(c:Int)%2)=R)
  (c21:∀ W,CB 192 #[.int .i64 (g:Int)] W (.agg #[.int .i64 10,.int .i64 12,.int .i64 u2])) :
  CB 155 #[.int .i64 (n:Int)] w (.tuple #[.int .i64 R,.int .i64 0]):=by
 have h0:¬ (n:Int)<0:=by omega
 have h9:¬ 999<(n:Int):=by omega
 have ea:(n:Int)/100=(a:Int):=by omega
 have eb:(n:Int)/10%10=(b:Int):=by omega
 have ec:(n:Int)%10=(c:Int):=by omega
 have eg:(a:Int)/8*4+(b:Int)/8*2+(c:Int)/8=(g:Int):=by omega
 have la:(a:Int)/8<=1:=by omega
 have lb:(b:Int)/8<=1:=by omega
 go_enter Tryz.func155,Tryz.ntmps155
 go_wp2_with (go_at_call 192;refine wk w (c21 _) ?_;intro w1 hb1 _ _ _ _ hA1 _;clear hb1)
 go_loopw [39] (fun t wr=>∃ i:Nat,i<=3/\t=.int .i64 i/\Thr wr w.heap.size a b c/\Thr wr w1.heap.size 10 12 u2/\Thr wr (w1.heap.size+1) (if 0<i then ((a:Int)/2%4) else 0) (if 1<i then ((c:Int)/2%4) else 0) (if 2<i then u2 else 0)/\(∀ j,wr.frozen? ⟨w1.heap.size+1,j,none⟩=false)/\Below w.heap.size w wr/\w1.heap.size+1<wr.heap.size) (fun t _=>3-(intOf t).toNat)
 case atStart=>exact ⟨0,by decide,rfl,⟨by go_simp,by go_simp,by go_simp⟩,⟨by go_simp,by go_simp,by go_simp⟩,⟨by go_simp,by go_simp,by go_simp⟩,fun j=>by go_simp,bgo,by simp⟩
 case round =>
  obtain ⟨i,hi,rfl,⟨p0,p1,p2⟩,⟨q0,q1,q2⟩,⟨s0,s1,s2⟩,hfr,hbw,hsz⟩:=hrel
  have hl0:w.heap.size<wr.heap.size:=by omega
  have hl1:w1.heap.size<wr.heap.size:=by omega
  have hne1:¬ w.heap.size=w1.heap.size+1:=by omega
  have hne2:¬ w1.heap.size=w1.heap.size+1:=by omega
  have hi':i=0∨i=1∨i=2∨i=3:=by omega
  rcases hi' with rfl|rfl|rfl|rfl
  ·go_wp2
   go_roundw
   case rel=>exact ⟨1,by omega,by go_num,⟨by go_simp,by go_simp,by go_simp⟩,⟨by go_simp,by go_simp,by go_simp⟩,⟨by go_simp,by go_simp,by go_simp⟩,fun j=>by go_simp,bgo,by simpa using hsz⟩
   case measure=>simp [intOf]
  ·go_wp2
   go_roundw
   case rel=>exact ⟨2,by omega,by go_num,⟨by go_simp,by go_simp,by go_simp⟩,⟨by go_simp,by go_simp,by go_simp⟩,⟨by go_simp,by go_simp,by go_simp⟩,fun j=>by go_simp,bgo,by simpa using hsz⟩
   case measure=>simp [intOf]
  ·go_wp2
   go_roundw
   case rel=>exact ⟨3,by omega,by go_num,⟨by go_simp,by go_simp,by go_simp⟩,⟨by go_simp,by go_simp,by go_simp⟩,⟨by go_simp,by go_simp,by go_simp⟩,fun j=>by go_simp,bgo,by simpa using hsz⟩
   case measure=>simp [intOf]
  ·go_wp2
   exact bodyPost_ret (v:=.tuple #[.int .i64 R,.int .i64 0]) (by
    simp only [results,Tryz.results155]
    go_simp
    rw [← hR]
    exact zKf (by omega) (by omega) (by omega) (by omega) (by omega) (by omega)) rfl ⟨rfl,hbw⟩
theorem enc_3 (n a b c g:Nat)(w:World)(hn:n<1000)(ha:n/100=a)(hb:n/10%10=b)(hc:n%10=c)(hg:a/8*4+b/8*2+c/8=g)(R:Int)(u1:Int)(hu1:0<=u1/\u1<4)(hv1:¬ 10<=u1)(u2:Int)(hu2:0<=u2/\u2<8)(hv2:¬ 10<=u2)
  (hR:((((a:Int)/2%4):Int)*256+(a:Int)%2*128+u1*32+(b:Int)%2*16+u2*2+(c:Int)%2)=R)
  (c21:∀ W,CB 192 #[.int .i64 (g:Int)] W (.agg #[.int .i64 10,.int .i64 u1,.int .i64 u2])) :
  CB 155 #[.int .i64 (n:Int)] w (.tuple #[.int .i64 R,.int .i64 0]):=by
 have h0:¬ (n:Int)<0:=by omega
 have h9:¬ 999<(n:Int):=by omega
 have ea:(n:Int)/100=(a:Int):=by omega
 have eb:(n:Int)/10%10=(b:Int):=by omega
 have ec:(n:Int)%10=(c:Int):=by omega
 have eg:(a:Int)/8*4+(b:Int)/8*2+(c:Int)/8=(g:Int):=by omega
 have la:(a:Int)/8<=1:=by omega
 have lb:(b:Int)/8<=1:=by omega
 go_enter Tryz.func155,Tryz.ntmps155
 go_wp2_with (go_at_call 192;refine wk w (c21 _) ?_;intro w1 hb1 _ _ _ _ hA1 _;clear hb1)
 go_loopw [39] (fun t wr=>∃ i:Nat,i<=3/\t=.int .i64 i/\Thr wr w.heap.size a b c/\Thr wr w1.heap.size 10 u1 u2/\Thr wr (w1.heap.size+1) (if 0<i then ((a:Int)/2%4) else 0) (if 1<i then u1 else 0) (if 2<i then u2 else 0)/\(∀ j,wr.frozen? ⟨w1.heap.size+1,j,none⟩=false)/\Below w.heap.size w wr/\w1.heap.size+1<wr.heap.size) (fun t _=>3-(intOf t).toNat)
 case atStart=>exact ⟨0,by decide,rfl,⟨by go_simp,by go_simp,by go_simp⟩,⟨by go_simp,by go_simp,by go_simp⟩,⟨by go_simp,by go_simp,by go_simp⟩,fun j=>by go_simp,bgo,by simp⟩
 case round =>
  obtain ⟨i,hi,rfl,⟨p0,p1,p2⟩,⟨q0,q1,q2⟩,⟨s0,s1,s2⟩,hfr,hbw,hsz⟩:=hrel
  have hl0:w.heap.size<wr.heap.size:=by omega
  have hl1:w1.heap.size<wr.heap.size:=by omega
  have hne1:¬ w.heap.size=w1.heap.size+1:=by omega
  have hne2:¬ w1.heap.size=w1.heap.size+1:=by omega
  have hi':i=0∨i=1∨i=2∨i=3:=by omega
  rcases hi' with rfl|rfl|rfl|rfl
  ·go_wp2
   go_roundw
   case rel=>exact ⟨1,by omega,by go_num,⟨by go_simp,by go_simp,by go_simp⟩,⟨by go_simp,by go_simp,by go_simp⟩,⟨by go_simp,by go_simp,by go_simp⟩,fun j=>by go_simp,bgo,by simpa using hsz⟩
   case measure=>simp [intOf]
  ·go_wp2
   go_roundw
   case rel=>exact ⟨2,by omega,by go_num,⟨by go_simp,by go_simp,by go_simp⟩,⟨by go_simp,by go_simp,by go_simp⟩,⟨by go_simp,by go_simp,by go_simp⟩,fun j=>by go_simp,bgo,by simpa using hsz⟩
   case measure=>simp [intOf]
  ·go_wp2
   go_roundw
   case rel=>exact ⟨3,by omega,by go_num,⟨by go_simp,by go_simp,by go_simp⟩,⟨by go_simp,by go_simp,by go_simp⟩,⟨by go_simp,by go_simp,by go_simp⟩,fun j=>by go_simp,bgo,by simpa using hsz⟩
   case measure=>simp [intOf]
  ·go_wp2
   exact bodyPost_ret (v:=.tuple #[.int .i64 R,.int .i64 0]) (by
    simp only [results,Tryz.results155]
    go_simp
    rw [← hR]
    exact zKf (by omega) (by omega) (by omega) (by omega) (by omega) (by omega)) rfl ⟨rfl,hbw⟩
theorem enc_4 (n a b c g:Nat)(w:World)(hn:n<1000)(ha:n/100=a)(hb:n/10%10=b)(hc:n%10=c)(hg:a/8*4+b/8*2+c/8=g)(R:Int)(u2:Int)(hu2:0<=u2/\u2<8)(hv2:¬ 10<=u2)
  (hR:((((c:Int)/2%4):Int)*256+(a:Int)%2*128+((b:Int)/2%4)*32+(b:Int)%2*16+u2*2+(c:Int)%2)=R)
  (c21:∀ W,CB 192 #[.int .i64 (g:Int)] W (.agg #[.int .i64 12,.int .i64 11,.int .i64 u2])) :
  CB 155 #[.int .i64 (n:Int)] w (.tuple #[.int .i64 R,.int .i64 0]):=by
 have h0:¬ (n:Int)<0:=by omega
 have h9:¬ 999<(n:Int):=by omega
 have ea:(n:Int)/100=(a:Int):=by omega
 have eb:(n:Int)/10%10=(b:Int):=by omega
 have ec:(n:Int)%10=(c:Int):=by omega
 have eg:(a:Int)/8*4+(b:Int)/8*2+(c:Int)/8=(g:Int):=by omega
 have la:(a:Int)/8<=1:=by omega
 have lb:(b:Int)/8<=1:=by omega
 go_enter Tryz.func155,Tryz.ntmps155
 go_wp2_with (go_at_call 192;refine wk w (c21 _) ?_;intro w1 hb1 _ _ _ _ hA1 _;clear hb1)
 go_loopw [39] (fun t wr=>∃ i:Nat,i<=3/\t=.int .i64 i/\Thr wr w.heap.size a b c/\Thr wr w1.heap.size 12 11 u2/\Thr wr (w1.heap.size+1) (if 0<i then ((c:Int)/2%4) else 0) (if 1<i then ((b:Int)/2%4) else 0) (if 2<i then u2 else 0)/\(∀ j,wr.frozen? ⟨w1.heap.size+1,j,none⟩=false)/\Below w.heap.size w wr/\w1.heap.size+1<wr.heap.size) (fun t _=>3-(intOf t).toNat)
 case atStart=>exact ⟨0,by decide,rfl,⟨by go_simp,by go_simp,by go_simp⟩,⟨by go_simp,by go_simp,by go_simp⟩,⟨by go_simp,by go_simp,by go_simp⟩,fun j=>by go_simp,bgo,by simp⟩
 case round =>
  obtain ⟨i,hi,rfl,⟨p0,p1,p2⟩,⟨q0,q1,q2⟩,⟨s0,s1,s2⟩,hfr,hbw,hsz⟩:=hrel
  have hl0:w.heap.size<wr.heap.size:=by omega
  have hl1:w1.heap.size<wr.heap.size:=by omega
  have hne1:¬ w.heap.size=w1.heap.size+1:=by omega
  have hne2:¬ w1.heap.size=w1.heap.size+1:=by omega
  have hi':i=0∨i=1∨i=2∨i=3:=by omega
  rcases hi' with rfl|rfl|rfl|rfl
  ·go_wp2
   go_roundw
   case rel=>exact ⟨1,by omega,by go_num,⟨by go_simp,by go_simp,by go_simp⟩,⟨by go_simp,by go_simp,by go_simp⟩,⟨by go_simp,by go_simp,by go_simp⟩,fun j=>by go_simp,bgo,by simpa using hsz⟩
   case measure=>simp [intOf]
  ·go_wp2
   go_roundw
   case rel=>exact ⟨2,by omega,by go_num,⟨by go_simp,by go_simp,by go_simp⟩,⟨by go_simp,by go_simp,by go_simp⟩,⟨by go_simp,by go_simp,by go_simp⟩,fun j=>by go_simp,bgo,by simpa using hsz⟩
   case measure=>simp [intOf]
  ·go_wp2
   go_roundw
   case rel=>exact ⟨3,by omega,by go_num,⟨by go_simp,by go_simp,by go_simp⟩,⟨by go_simp,by go_simp,by go_simp⟩,⟨by go_simp,by go_simp,by go_simp⟩,fun j=>by go_simp,bgo,by simpa using hsz⟩
   case measure=>simp [intOf]
  ·go_wp2
   exact bodyPost_ret (v:=.tuple #[.int .i64 R,.int .i64 0]) (by
    simp only [results,Tryz.results155]
    go_simp
    rw [← hR]
    exact zKf (by omega) (by omega) (by omega) (by omega) (by omega) (by omega)) rfl ⟨rfl,hbw⟩
theorem enc_5 (n a b c g:Nat)(w:World)(hn:n<1000)(ha:n/100=a)(hb:n/10%10=b)(hc:n%10=c)(hg:a/8*4+b/8*2+c/8=g)(R:Int)(u1:Int)(hu1:0<=u1/\u1<4)(hv1:¬ 10<=u1)(u2:Int)(hu2:0<=u2/\u2<8)(hv2:¬ 10<=u2)
  (hR:((((b:Int)/2%4):Int)*256+(a:Int)%2*128+u1*32+(b:Int)%2*16+u2*2+(c:Int)%2)=R)
  (c21:∀ W,CB 192 #[.int .i64 (g:Int)] W (.agg #[.int .i64 11,.int .i64 u1,.int .i64 u2])) :
  CB 155 #[.int .i64 (n:Int)] w (.tuple #[.int .i64 R,.int .i64 0]):=by
 have h0:¬ (n:Int)<0:=by omega
 have h9:¬ 999<(n:Int):=by omega
 have ea:(n:Int)/100=(a:Int):=by omega
 have eb:(n:Int)/10%10=(b:Int):=by omega
 have ec:(n:Int)%10=(c:Int):=by omega
 have eg:(a:Int)/8*4+(b:Int)/8*2+(c:Int)/8=(g:Int):=by omega
 have la:(a:Int)/8<=1:=by omega
 have lb:(b:Int)/8<=1:=by omega
 go_enter Tryz.func155,Tryz.ntmps155
 go_wp2_with (go_at_call 192;refine wk w (c21 _) ?_;intro w1 hb1 _ _ _ _ hA1 _;clear hb1)
 go_loopw [39] (fun t wr=>∃ i:Nat,i<=3/\t=.int .i64 i/\Thr wr w.heap.size a b c/\Thr wr w1.heap.size 11 u1 u2/\Thr wr (w1.heap.size+1) (if 0<i then ((b:Int)/2%4) else 0) (if 1<i then u1 else 0) (if 2<i then u2 else 0)/\(∀ j,wr.frozen? ⟨w1.heap.size+1,j,none⟩=false)/\Below w.heap.size w wr/\w1.heap.size+1<wr.heap.size) (fun t _=>3-(intOf t).toNat)
 case atStart=>exact ⟨0,by decide,rfl,⟨by go_simp,by go_simp,by go_simp⟩,⟨by go_simp,by go_simp,by go_simp⟩,⟨by go_simp,by go_simp,by go_simp⟩,fun j=>by go_simp,bgo,by simp⟩
 case round =>
  obtain ⟨i,hi,rfl,⟨p0,p1,p2⟩,⟨q0,q1,q2⟩,⟨s0,s1,s2⟩,hfr,hbw,hsz⟩:=hrel
  have hl0:w.heap.size<wr.heap.size:=by omega
  have hl1:w1.heap.size<wr.heap.size:=by omega
  have hne1:¬ w.heap.size=w1.heap.size+1:=by omega
  have hne2:¬ w1.heap.size=w1.heap.size+1:=by omega
  have hi':i=0∨i=1∨i=2∨i=3:=by omega
  rcases hi' with rfl|rfl|rfl|rfl
  ·go_wp2
   go_roundw
   case rel=>exact ⟨1,by omega,by go_num,⟨by go_simp,by go_simp,by go_simp⟩,⟨by go_simp,by go_simp,by go_simp⟩,⟨by go_simp,by go_simp,by go_simp⟩,fun j=>by go_simp,bgo,by simpa using hsz⟩
   case measure=>simp [intOf]
  ·go_wp2
   go_roundw
   case rel=>exact ⟨2,by omega,by go_num,⟨by go_simp,by go_simp,by go_simp⟩,⟨by go_simp,by go_simp,by go_simp⟩,⟨by go_simp,by go_simp,by go_simp⟩,fun j=>by go_simp,bgo,by simpa using hsz⟩
   case measure=>simp [intOf]
  ·go_wp2
   go_roundw
   case rel=>exact ⟨3,by omega,by go_num,⟨by go_simp,by go_simp,by go_simp⟩,⟨by go_simp,by go_simp,by go_simp⟩,⟨by go_simp,by go_simp,by go_simp⟩,fun j=>by go_simp,bgo,by simpa using hsz⟩
   case measure=>simp [intOf]
  ·go_wp2
   exact bodyPost_ret (v:=.tuple #[.int .i64 R,.int .i64 0]) (by
    simp only [results,Tryz.results155]
    go_simp
    rw [← hR]
    exact zKf (by omega) (by omega) (by omega) (by omega) (by omega) (by omega)) rfl ⟨rfl,hbw⟩
theorem enc_6 (n a b c g:Nat)(w:World)(hn:n<1000)(ha:n/100=a)(hb:n/10%10=b)(hc:n%10=c)(hg:a/8*4+b/8*2+c/8=g)(R:Int)(u1:Int)(hu1:0<=u1/\u1<4)(hv1:¬ 10<=u1)(u2:Int)(hu2:0<=u2/\u2<8)(hv2:¬ 10<=u2)
  (hR:((((c:Int)/2%4):Int)*256+(a:Int)%2*128+u1*32+(b:Int)%2*16+u2*2+(c:Int)%2)=R)
  (c21:∀ W,CB 192 #[.int .i64 (g:Int)] W (.agg #[.int .i64 12,.int .i64 u1,.int .i64 u2])) :
  CB 155 #[.int .i64 (n:Int)] w (.tuple #[.int .i64 R,.int .i64 0]):=by
 have h0:¬ (n:Int)<0:=by omega
 have h9:¬ 999<(n:Int):=by omega
 have ea:(n:Int)/100=(a:Int):=by omega
 have eb:(n:Int)/10%10=(b:Int):=by omega
 have ec:(n:Int)%10=(c:Int):=by omega
 have eg:(a:Int)/8*4+(b:Int)/8*2+(c:Int)/8=(g:Int):=by omega
 have la:(a:Int)/8<=1:=by omega
 have lb:(b:Int)/8<=1:=by omega
 go_enter Tryz.func155,Tryz.ntmps155
 go_wp2_with (go_at_call 192;refine wk w (c21 _) ?_;intro w1 hb1 _ _ _ _ hA1 _;clear hb1)
 go_loopw [39] (fun t wr=>∃ i:Nat,i<=3/\t=.int .i64 i/\Thr wr w.heap.size a b c/\Thr wr w1.heap.size 12 u1 u2/\Thr wr (w1.heap.size+1) (if 0<i then ((c:Int)/2%4) else 0) (if 1<i then u1 else 0) (if 2<i then u2 else 0)/\(∀ j,wr.frozen? ⟨w1.heap.size+1,j,none⟩=false)/\Below w.heap.size w wr/\w1.heap.size+1<wr.heap.size) (fun t _=>3-(intOf t).toNat)
 case atStart=>exact ⟨0,by decide,rfl,⟨by go_simp,by go_simp,by go_simp⟩,⟨by go_simp,by go_simp,by go_simp⟩,⟨by go_simp,by go_simp,by go_simp⟩,fun j=>by go_simp,bgo,by simp⟩
 case round =>
  obtain ⟨i,hi,rfl,⟨p0,p1,p2⟩,⟨q0,q1,q2⟩,⟨s0,s1,s2⟩,hfr,hbw,hsz⟩:=hrel
  have hl0:w.heap.size<wr.heap.size:=by omega
  have hl1:w1.heap.size<wr.heap.size:=by omega
  have hne1:¬ w.heap.size=w1.heap.size+1:=by omega
  have hne2:¬ w1.heap.size=w1.heap.size+1:=by omega
  have hi':i=0∨i=1∨i=2∨i=3:=by omega
  rcases hi' with rfl|rfl|rfl|rfl
  ·go_wp2
   go_roundw
   case rel=>exact ⟨1,by omega,by go_num,⟨by go_simp,by go_simp,by go_simp⟩,⟨by go_simp,by go_simp,by go_simp⟩,⟨by go_simp,by go_simp,by go_simp⟩,fun j=>by go_simp,bgo,by simpa using hsz⟩
   case measure=>simp [intOf]
  ·go_wp2
   go_roundw
   case rel=>exact ⟨2,by omega,by go_num,⟨by go_simp,by go_simp,by go_simp⟩,⟨by go_simp,by go_simp,by go_simp⟩,⟨by go_simp,by go_simp,by go_simp⟩,fun j=>by go_simp,bgo,by simpa using hsz⟩
   case measure=>simp [intOf]
  ·go_wp2
   go_roundw
   case rel=>exact ⟨3,by omega,by go_num,⟨by go_simp,by go_simp,by go_simp⟩,⟨by go_simp,by go_simp,by go_simp⟩,⟨by go_simp,by go_simp,by go_simp⟩,fun j=>by go_simp,bgo,by simpa using hsz⟩
   case measure=>simp [intOf]
  ·go_wp2
   exact bodyPost_ret (v:=.tuple #[.int .i64 R,.int .i64 0]) (by
    simp only [results,Tryz.results155]
    go_simp
    rw [← hR]
    exact zKf (by omega) (by omega) (by omega) (by omega) (by omega) (by omega)) rfl ⟨rfl,hbw⟩
theorem enc_7 (n a b c g:Nat)(w:World)(hn:n<1000)(ha:n/100=a)(hb:n/10%10=b)(hc:n%10=c)(hg:a/8*4+b/8*2+c/8=g)(R:Int)(u0:Int)(hu0:0<=u0/\u0<4)(hv0:¬ 10<=u0)(u1:Int)(hu1:0<=u1/\u1<4)(hv1:¬ 10<=u1)(u2:Int)(hu2:0<=u2/\u2<8)(hv2:¬ 10<=u2)
  (hR:((u0:Int)*256+(a:Int)%2*128+u1*32+(b:Int)%2*16+u2*2+(c:Int)%2)=R)
  (c21:∀ W,CB 192 #[.int .i64 (g:Int)] W (.agg #[.int .i64 u0,.int .i64 u1,.int .i64 u2])) :
  CB 155 #[.int .i64 (n:Int)] w (.tuple #[.int .i64 R,.int .i64 0]):=by
 have h0:¬ (n:Int)<0:=by omega
 have h9:¬ 999<(n:Int):=by omega
 have ea:(n:Int)/100=(a:Int):=by omega
 have eb:(n:Int)/10%10=(b:Int):=by omega
 have ec:(n:Int)%10=(c:Int):=by omega
 have eg:(a:Int)/8*4+(b:Int)/8*2+(c:Int)/8=(g:Int):=by omega
 have la:(a:Int)/8<=1:=by omega
 have lb:(b:Int)/8<=1:=by omega
 go_enter Tryz.func155,Tryz.ntmps155
 go_wp2_with (go_at_call 192;refine wk w (c21 _) ?_;intro w1 hb1 _ _ _ _ hA1 _;clear hb1)
 go_loopw [39] (fun t wr=>∃ i:Nat,i<=3/\t=.int .i64 i/\Thr wr w.heap.size a b c/\Thr wr w1.heap.size u0 u1 u2/\Thr wr (w1.heap.size+1) (if 0<i then u0 else 0) (if 1<i then u1 else 0) (if 2<i then u2 else 0)/\(∀ j,wr.frozen? ⟨w1.heap.size+1,j,none⟩=false)/\Below w.heap.size w wr/\w1.heap.size+1<wr.heap.size) (fun t _=>3-(intOf t).toNat)
 case atStart=>exact ⟨0,by decide,rfl,⟨by go_simp,by go_simp,by go_simp⟩,⟨by go_simp,by go_simp,by go_simp⟩,⟨by go_simp,by go_simp,by go_simp⟩,fun j=>by go_simp,bgo,by simp⟩
 case round =>
  obtain ⟨i,hi,rfl,⟨p0,p1,p2⟩,⟨q0,q1,q2⟩,⟨s0,s1,s2⟩,hfr,hbw,hsz⟩:=hrel
  have hl0:w.heap.size<wr.heap.size:=by omega
  have hl1:w1.heap.size<wr.heap.size:=by omega
  have hne1:¬ w.heap.size=w1.heap.size+1:=by omega
  have hne2:¬ w1.heap.size=w1.heap.size+1:=by omega
  have hi':i=0∨i=1∨i=2∨i=3:=by omega
  rcases hi' with rfl|rfl|rfl|rfl
  ·go_wp2
   go_roundw
   case rel=>exact ⟨1,by omega,by go_num,⟨by go_simp,by go_simp,by go_simp⟩,⟨by go_simp,by go_simp,by go_simp⟩,⟨by go_simp,by go_simp,by go_simp⟩,fun j=>by go_simp,bgo,by simpa using hsz⟩
   case measure=>simp [intOf]
  ·go_wp2
   go_roundw
   case rel=>exact ⟨2,by omega,by go_num,⟨by go_simp,by go_simp,by go_simp⟩,⟨by go_simp,by go_simp,by go_simp⟩,⟨by go_simp,by go_simp,by go_simp⟩,fun j=>by go_simp,bgo,by simpa using hsz⟩
   case measure=>simp [intOf]
  ·go_wp2
   go_roundw
   case rel=>exact ⟨3,by omega,by go_num,⟨by go_simp,by go_simp,by go_simp⟩,⟨by go_simp,by go_simp,by go_simp⟩,⟨by go_simp,by go_simp,by go_simp⟩,fun j=>by go_simp,bgo,by simpa using hsz⟩
   case measure=>simp [intOf]
  ·go_wp2
   exact bodyPost_ret (v:=.tuple #[.int .i64 R,.int .i64 0]) (by
    simp only [results,Tryz.results155]
    go_simp
    rw [← hR]
    exact zKf (by omega) (by omega) (by omega) (by omega) (by omega) (by omega)) rfl ⟨rfl,hbw⟩
theorem enc_v (n:Nat)(hn:n<1000)(w:World):CB 155 #[.int .i64 (n:Int)] w (.tuple #[.int .i64 (dlE n:Int),.int .i64 0]):=by
 have hg:=dlG_lt hn
 have c21:=fun W=>row_v (dlG n) hg W
 have hgg:n/100/8*4+n/10%10/8*2+n%10/8=dlG n:=rfl
 have h:dlG n=0∨dlG n=1∨dlG n=2∨dlG n=3∨dlG n=4∨dlG n=5∨dlG n=6∨dlG n=7:=by omega
 rcases h with h|h|h|h|h|h|h|h
 ·have e:dlE n=n/100/2%4*256+n/100%2*128+n/10%10/2%4*32+n/10%10%2*16+n%10/2%4*2+n%10%2:=by
   unfold dlE
   rw [h]
   rfl
  refine enc_0 n _ _ _ (dlG n) w hn rfl rfl rfl hgg _ (by rw [e];omega) (fun W=>?_)
  have:=c21 W
  rw [h] at this ⊢
  exact this
 ·have e:dlE n=n/100/2%4*256+n/100%2*128+n/10%10/2%4*32+n/10%10%2*16+4*2+n%10%2:=by
   unfold dlE
   rw [h]
   rfl
  refine enc_1 n _ _ _ (dlG n) w hn rfl rfl rfl hgg _ 4 (by decide) (by decide) (by rw [e];omega) (fun W=>?_)
  have:=c21 W
  rw [h] at this ⊢
  exact this
 ·have e:dlE n=n/100/2%4*256+n/100%2*128+n%10/2%4*32+n/10%10%2*16+5*2+n%10%2:=by
   unfold dlE
   rw [h]
   rfl
  refine enc_2 n _ _ _ (dlG n) w hn rfl rfl rfl hgg _ 5 (by decide) (by decide) (by rw [e];omega) (fun W=>?_)
  have:=c21 W
  rw [h] at this ⊢
  exact this
 ·have e:dlE n=n/100/2%4*256+n/100%2*128+2*32+n/10%10%2*16+7*2+n%10%2:=by
   unfold dlE
   rw [h]
   rfl
  refine enc_3 n _ _ _ (dlG n) w hn rfl rfl rfl hgg _ 2 (by decide) (by decide) 7 (by decide) (by decide) (by rw [e];omega) (fun W=>?_)
  have:=c21 W
  rw [h] at this ⊢
  exact this
 ·have e:dlE n=n%10/2%4*256+n/100%2*128+n/10%10/2%4*32+n/10%10%2*16+6*2+n%10%2:=by
   unfold dlE
   rw [h]
   rfl
  refine enc_4 n _ _ _ (dlG n) w hn rfl rfl rfl hgg _ 6 (by decide) (by decide) (by rw [e];omega) (fun W=>?_)
  have:=c21 W
  rw [h] at this ⊢
  exact this
 ·have e:dlE n=n/10%10/2%4*256+n/100%2*128+1*32+n/10%10%2*16+7*2+n%10%2:=by
   unfold dlE
   rw [h]
   rfl
  refine enc_5 n _ _ _ (dlG n) w hn rfl rfl rfl hgg _ 1 (by decide) (by decide) 7 (by decide) (by decide) (by rw [e];omega) (fun W=>?_)
  have:=c21 W
  rw [h] at this ⊢
  exact this
 ·have e:dlE n=n%10/2%4*256+n/100%2*128+0*32+n/10%10%2*16+7*2+n%10%2:=by
   unfold dlE
   rw [h]
   rfl
  refine enc_6 n _ _ _ (dlG n) w hn rfl rfl rfl hgg _ 0 (by decide) (by decide) 7 (by decide) (by decide) (by rw [e];omega) (fun W=>?_)
  have:=c21 W
  rw [h] at this ⊢
  exact this
 ·have e:dlE n=0*256+n/100%2*128+3*32+n/10%10%2*16+7*2+n%10%2:=by
   unfold dlE
   rw [h]
   rfl
  refine enc_7 n _ _ _ (dlG n) w hn rfl rfl rfl hgg _ 0 (by decide) (by decide) 3 (by decide) (by decide) 7 (by decide) (by decide) (by rw [e];omega) (fun W=>?_)
  have:=c21 W
  rw [h] at this ⊢
  exact this
end Go.Proofs.YtahfkpjhlbiamaaGreatDoor
