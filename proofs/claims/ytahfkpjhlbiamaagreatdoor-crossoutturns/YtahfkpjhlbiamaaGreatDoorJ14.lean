/-
  Texts that the proof leans on.
-/
import Derived.Test.YtahfkpjhlbiamaaGreatDoorJ11
import Derived.Test.YtahfkpjhlbiamaaGreatDoorJ1
set_option maxHeartbeats 8000000
set_option linter.unusedVariables false
set_option linter.unusedSectionVars false
set_option linter.unusedSimpArgs false
set_option maxRecDepth 20000
namespace Go.Proofs.YtahfkpjhlbiamaaGreatDoor
open Go.RowKit
section
section
variable (f e:Nat)(l m:Int)(w:World)(E F Sh J Pw K:Nat)(cr cr':Int)
 (c49:∀ w,CB 78 #[.int .u64 E] w (A4 E))
 (c45:∀ w,CB 74 #[A4 E,.int .i64 f] w (A4 Sh))
 (c22:∀ w,CB 37 #[A4 Sh,A4 F] w (.tuple #[A4 J,.int .u64 cr]))
include c49 c45 c22
theorem join_f:CB 107 #[LV f e l m,.bool false,.int .u64 E,A4 F] w (A4 J):=by
 generalize (E:Int)=Ei at *
 go_enter Tryz.func107,Tryz.ntmps107
 go_wp2
 refine zBg 7 10 9 #[.int .u64 0,.int .u64 0,.int .u64 0,.int .u64 0] (by kernel_rfl) (by kernel_rfl) (by kernel_rfl) rfl (fun oa hoa a w=>?_) (by kernel_rfl) (by kernel_rfl) rfl rfl (fun _ _ d _ _ h=>by cases d<;>exact h) ?_
 ·cases hoa;exact ⟨23,by simp [go_sem]⟩
 apply Exists.intro
 refine ⟨fun al hne hcell=>?_,fun w1 hb1=>?_,fun g w1 hb1 hg0 hg1 hg2 hg3=>?_⟩
 ·simp only [List.take_succ_cons,List.take_zero]
  repeat go_big_quiet_step (fail)
  go_big_quiet_step ((go_at_call 78;exact zBa _ zQb (c49 _)))
  repeat go_big_quiet_step (fail)
  go_big_quiet_step ((go_at_call 74;exact zBa _ zQb (c45 _)))
  repeat go_big_quiet_step (fail)
  go_big_quiet_step ((go_at_call 37;exact zBa _ zQb (c22 _)))
  exact wpQuiet_nil rfl
 ·simp only [List.drop_succ_cons,List.drop_zero]
  obtain ⟨_,_,_,_,hA1,_⟩:=wz w hb1;obtain ⟨_,_,_,_⟩:=zg hb1 (w.heap.size+1) (w.heap.size+1+1);clear hb1
  have hsm:=zAa
  go_wp2
  exact bodyPost_ret (v:=A4 J) (by simp only [results,Tryz.results107];go_simp) rfl ⟨rfl,bgo⟩
 ·simp only [List.drop_succ_cons,List.drop_zero,Nat.reduceSub,List.eraseIdx_cons_succ,List.eraseIdx_cons_zero]
  simp only [World.size_alloc] at hg0
  have hz0:g≠w.heap.size:=by omega
  have hz1:g≠w.heap.size+1:=by omega
  have hz2:g≠w.heap.size+1+1:=by omega
  obtain ⟨_,_,_,_,hA1,_⟩:=wz w hb1;obtain ⟨_,_,_,_⟩:=zg hb1 (w.heap.size+1) (w.heap.size+1+1);clear hb1
  have hsm:=zAa
  go_wp2
  exact bodyPost_ret (v:=A4 J) (by simp only [results,Tryz.results107];go_simp) rfl ⟨rfl,bgo⟩
theorem join_t (hf:f<=240)(he:e<=15)
 (c23:∀ w,CB 38 #[.int .i64 ((f:Int)+e)] w (A4 Pw))
 (c22b:∀ w,CB 37 #[A4 J,A4 Pw] w (.tuple #[A4 K,.int .u64 cr'])) :
  CB 107 #[LV f e l m,.bool true,.int .u64 E,A4 F] w (A4 K):=by
 generalize (E:Int)=Ei at *
 go_enter Tryz.func107,Tryz.ntmps107
 go_wp2
 refine zBg 7 10 9 #[.int .u64 0,.int .u64 0,.int .u64 0,.int .u64 0] (by kernel_rfl) (by kernel_rfl) (by kernel_rfl) rfl (fun oa hoa a w=>?_) (by kernel_rfl) (by kernel_rfl) rfl rfl (fun _ _ d _ _ h=>by cases d<;>exact h) ?_
 ·cases hoa;exact ⟨23,by simp [go_sem]⟩
 apply Exists.intro
 refine ⟨fun al hne hcell=>?_,fun w1 hb1=>?_,fun g w1 hb1 hg0 hg1 hg2 hg3=>?_⟩
 ·simp only [List.take_succ_cons,List.take_zero]
  repeat go_big_quiet_step (fail)
  go_big_quiet_step ((go_at_call 78;exact zBa _ zQb (c49 _)))
  repeat go_big_quiet_step (fail)
  go_big_quiet_step ((go_at_call 74;exact zBa _ zQb (c45 _)))
  repeat go_big_quiet_step (fail)
  go_big_quiet_step ((go_at_call 37;exact zBa _ zQb (c22 _)))
  exact wpQuiet_nil rfl
 ·simp only [List.drop_succ_cons,List.drop_zero]
  obtain ⟨_,_,_,_,hA1,_⟩:=wz w hb1;obtain ⟨_,_,_,_⟩:=zg hb1 (w.heap.size+1) (w.heap.size+1+1);clear hb1
  have hsm:=zAa
  go_wp2
  refine zZa 8 (by kernel_rfl) (by kernel_rfl) (by kernel_rfl) (fun _ _ d _ _ h=>by cases d<;>exact h) fun hne hcell=>?_
  simp only [List.take_succ_cons,List.take_zero,List.drop_succ_cons,List.drop_zero]
  repeat go_big_quiet_step (fail)
  go_big_quiet_step ((go_at_call 38;exact zBa _ zHa (c23 _)))
  repeat go_big_quiet_step (fail)
  go_big_quiet_step ((go_at_call 37;exact zBa _ zHa (c22b _)))
  refine wpQuiet_nil fun w2 hb2=>?_
  obtain ⟨_,_,_,_,hA2,_⟩:=wz w hb2;obtain ⟨_,_,_,_,_,_⟩:=zh hb2 (w.heap.size+1) (w.heap.size+1+1) w1.heap.size;clear hb2
  go_wp2
  exact bodyPost_ret (v:=A4 K) (by simp only [results,Tryz.results107];go_simp) rfl ⟨rfl,bgo⟩
 ·simp only [List.drop_succ_cons,List.drop_zero,Nat.reduceSub,List.eraseIdx_cons_succ,List.eraseIdx_cons_zero]
  simp only [World.size_alloc] at hg0
  have hz0:g≠w.heap.size:=by omega
  have hz1:g≠w.heap.size+1:=by omega
  have hz2:g≠w.heap.size+1+1:=by omega
  obtain ⟨_,_,_,_,hA1,_⟩:=wz w hb1;obtain ⟨_,_,_,_⟩:=zg hb1 (w.heap.size+1) (w.heap.size+1+1);clear hb1
  have hsm:=zAa
  go_wp2
  refine zZa 8 (by kernel_rfl) (by kernel_rfl) (by kernel_rfl) (fun _ _ d _ _ h=>by cases d<;>exact h) fun hne hcell=>?_
  simp only [List.take_succ_cons,List.take_zero,List.drop_succ_cons,List.drop_zero]
  repeat go_big_quiet_step (fail)
  go_big_quiet_step ((go_at_call 38;exact zBa _ zHa (c23 _)))
  repeat go_big_quiet_step (fail)
  go_big_quiet_step ((go_at_call 37;exact zBa _ zHa (c22b _)))
  refine wpQuiet_nil fun w2 hb2=>?_
  obtain ⟨_,_,_,_,hA2,_⟩:=wz w hb2;obtain ⟨_,_,_,_,_,_⟩:=zh hb2 (w.heap.size+1) (w.heap.size+1+1) g;clear hb2
  go_wp2
  exact bodyPost_ret (v:=A4 K) (by simp only [results,Tryz.results107];go_simp) rfl ⟨rfl,bgo⟩
end
theorem zJj (f e:Nat)(l m:Int)(s:Bool)(E F:Nat)(w:World)(h:Fm f e l m)(hE:E<=2^e)(hF:F<2^(f+1)) :
  CB 107 #[LV f e l m,.bool s,.int .u64 E,A4 F] w (A4 (E*2^f+F+if s then 2^(f+e) else 0)):=by
 have h2:=h.e2
 have h15:=h.e15
 have hf:=h.f240
 have hfe:=h.fe
 have hp:=zBu h2 h15
 have hpc:((2:Int)^e)=((2^e:Nat):Int):=by simp
 rw [hpc] at hp
 have hE1:E<18446744073709551616:=by omega
 have a1:E*2^f<=2^255:=Nat.le_trans (Nat.mul_le_mul_right _ hE) (by rw [← Nat.pow_add];exact Nat.pow_le_pow_right (by decide) (by omega))
 have a2:2^(f+1)<=2^241:=Nat.pow_le_pow_right (by decide) (by omega)
 have a3:2^(f+e)<=2^255:=Nat.pow_le_pow_right (by decide) (by omega)
 have e255:(2:Nat)^255=57896044618658097711785492504343953926634992332820282019728792003956564819968:=by decide
 have e241:(2:Nat)^241=3533694129556768659166595001485837031654967793751237916243212402585239552:=by decide
 have e256:(2:Nat)^256=115792089237316195423570985008687907853269984665640564039457584007913129639936:=by decide
 have c49:=fun w=>of4 E w hE1
 have c45:=fun w=>zS8 E f w (by omega) (by omega)
 have c22:=fun w=>zE7 (E*2^f) F w (by omega) (by omega)
 cases s with
 | false=>exact join_f f e l m w E F _ _ _ c49 c45 c22
 | true =>
  have c23:=fun w=>zSj (f+e) w (by omega)
  rw [Int.natCast_add] at c23
  exact join_t f e l m w E F _ _ _ _ _ _ c49 c45 c22 hf h15 c23 (fun w=>zE7 (E*2^f+F) (2^(f+e)) w (by omega) (by omega))
end
section
abbrev Z4:Value:=.agg #[.int .u64 0,.int .u64 0,.int .u64 0,.int .u64 0]
theorem zBc:A4 0=Z4:=by unfold A4 Z4;simp only [zOa]
section
variable (f e:Nat)(l m:Int)(w:World)(c x:Int)(s:Bool)(k:Nat)(L:Int)(hf:f<=240)
 (c46:∀ w,CB 75 #[A4 k] w (.int .i64 L))
include hf c46
theorem zDx:CB 50 #[LV f e l m,DV c s true x k] w (.tuple #[Z4,.int .i64 3]):=by
 go_enter Tryz.func50,Tryz.ntmps50
 go_wp2_with (go_at_call 75;refine wk w (c46 _) ?_;intro w1 hb1 _ _ _ _ hA1 _;obtain ⟨_,_,_,_,_,_⟩:=zh hb1 (w.heap.size+1) (w.heap.size+1+1) (w.heap.size+1+1+1);clear hb1)
 have hsm:=zAa
 exact bodyPost_ret (v:=.tuple #[Z4,.int .i64 3]) (by simp only [results,Tryz.results50];go_simp) rfl ⟨rfl,bgo⟩
theorem zHx (hL:(f:Int)+1<L):CB 50 #[LV f e l m,DV c s false x k] w (.tuple #[Z4,.int .i64 3]):=by
 go_enter Tryz.func50,Tryz.ntmps50
 go_wp2_with (go_at_call 75;refine wk w (c46 _) ?_;intro w1 hb1 _ _ _ _ hA1 _;obtain ⟨_,_,_,_,_,_⟩:=zh hb1 (w.heap.size+1) (w.heap.size+1+1) (w.heap.size+1+1+1);clear hb1)
 have hsm:=zAa
 exact bodyPost_ret (v:=.tuple #[Z4,.int .i64 3]) (by simp only [results,Tryz.results50];go_simp) rfl ⟨rfl,bgo⟩
theorem zGx (hL:¬ (f:Int)+1<L)(hx:x<l):CB 50 #[LV f e l m,DV c s false x k] w (.tuple #[Z4,.int .i64 3]):=by
 go_enter Tryz.func50,Tryz.ntmps50
 go_wp2_with (go_at_call 75;refine wk w (c46 _) ?_;intro w1 hb1 _ _ _ _ hA1 _;obtain ⟨_,_,_,_,_,_⟩:=zh hb1 (w.heap.size+1) (w.heap.size+1+1) (w.heap.size+1+1+1);clear hb1)
 have hsm:=zAa
 exact bodyPost_ret (v:=.tuple #[Z4,.int .i64 3]) (by simp only [results,Tryz.results50];go_simp) rfl ⟨rfl,bgo⟩
theorem zFx (hL:¬ (f:Int)+1<L)(hx:¬ x<l)(hm:m<x):CB 50 #[LV f e l m,DV c s false x k] w (.tuple #[Z4,.int .i64 3]):=by
 go_enter Tryz.func50,Tryz.ntmps50
 go_wp2_with (go_at_call 75;refine wk w (c46 _) ?_;intro w1 hb1 _ _ _ _ hA1 _;obtain ⟨_,_,_,_,_,_⟩:=zh hb1 (w.heap.size+1) (w.heap.size+1+1) (w.heap.size+1+1+1);clear hb1)
 have hsm:=zAa
 exact bodyPost_ret (v:=.tuple #[Z4,.int .i64 3]) (by simp only [results,Tryz.results50];go_simp) rfl ⟨rfl,bgo⟩
theorem zEx (hL:¬ (f:Int)+1<L)(hx:¬ x<l)(hm:¬ m<x)(hL2:L<=f)(hxl:x≠l):CB 50 #[LV f e l m,DV c s false x k] w (.tuple #[Z4,.int .i64 3]):=by
 go_enter Tryz.func50,Tryz.ntmps50
 go_wp2_with (go_at_call 75;refine wk w (c46 _) ?_;intro w1 hb1 _ _ _ _ hA1 _;obtain ⟨_,_,_,_,_,_⟩:=zh hb1 (w.heap.size+1) (w.heap.size+1+1) (w.heap.size+1+1+1);clear hb1)
 have hsm:=zAa
 exact bodyPost_ret (v:=.tuple #[Z4,.int .i64 3]) (by simp only [results,Tryz.results50];go_simp) rfl ⟨rfl,bgo⟩
theorem zEu (R:Nat)(hL:¬ (f:Int)+1<L)(hx:¬ x<l)(hm:¬ m<x)(hl:-1000000<=l/\l<=0)(hm2:m<=1000000)(h:¬ L<=f∨(L<=f/\x=l))
  (c40:∀ w,CB 107 #[LV f e l m,.bool s,.int .u64 (x-l),A4 k] w (A4 R)) :
  CB 50 #[LV f e l m,DV c s false x k] w (.tuple #[A4 R,.int .i64 0]):=by
 rcases h with h|⟨h,rfl⟩
 ·go_enter Tryz.func50,Tryz.ntmps50
  go_wp2_with (first
   | (go_at_call 75;refine wk w (c46 _) ?_;intro w1 hb1 _ _ _ _ hA1 _;obtain ⟨_,_,_,_,_,_⟩:=zh hb1 (w.heap.size+1) (w.heap.size+1+1) (w.heap.size+1+1+1);clear hb1)
   | (go_at_call 107;refine wk w (c40 _) ?_;intro w2 hb2 _ _ _ _ hA2 _;obtain ⟨_,_,_,_,_,_⟩:=zh hb2 (w.heap.size+1) (w.heap.size+1+1) (w.heap.size+1+1+1);clear hb2))
  have hsm:=zAa
  exact bodyPost_ret (v:=.tuple #[A4 R,.int .i64 0]) (by simp only [results,Tryz.results50];go_simp) rfl ⟨rfl,bgo⟩
 ·rw [Int.sub_self] at c40
  go_enter Tryz.func50,Tryz.ntmps50
  go_wp2_with (first
   | (go_at_call 75;refine wk w (c46 _) ?_;intro w1 hb1 _ _ _ _ hA1 _;obtain ⟨_,_,_,_,_,_⟩:=zh hb1 (w.heap.size+1) (w.heap.size+1+1) (w.heap.size+1+1+1);clear hb1)
   | (go_at_call 107;refine wk w (c40 _) ?_;intro w2 hb2 _ _ _ _ hA2 _;obtain ⟨_,_,_,_,_,_⟩:=zh hb2 (w.heap.size+1) (w.heap.size+1+1) (w.heap.size+1+1+1);clear hb2))
  have hsm:=zAa
  exact bodyPost_ret (v:=.tuple #[A4 R,.int .i64 0]) (by simp only [results,Tryz.results50];go_simp) rfl ⟨rfl,bgo⟩
end
def isD (f:Nat)(l m:Int)(d:Dat):Prop :=
 (d.c=1/\d.g=false/\d.k<2^(f+1)/\l<=d.x/\d.x<=m/\(2^f<=d.k∨d.x=l)) ∨
 (d.c=2/\d.g=false/\d.x=0/\d.k=0) ∨
 (d.c=3/\d.x=0/\d.k<2^(f-1)/\(d.k≠0∨d.g=false))
instance (f:Nat) (l m:Int) (d:Dat):Decidable (isD f l m d):=inferInstanceAs (Decidable (_∨_∨_))
def pk (f e:Nat)(l:Int)(d:Dat):Nat :=
 (if d.c=1 then (d.x-l).toNat*2^f+d.k else if d.c=2 then (2^e-1)*2^f+0 else (2^e-1)*2^f+(if d.g then d.k else d.k+2^(f-1)))+if d.s then 2^(f+e) else 0
theorem zPk (f e:Nat)(l m:Int)(w:World)(s g:Bool)(x:Int)(k:Nat)(h:Fm f e l m)(hk:k<2^256) :
  CB 50 #[LV f e l m,DV 1 s g x k] w (if isD f l m ⟨1,s,g,x,k⟩ then .tuple #[A4 (pk f e l ⟨1,s,g,x,k⟩),.int .i64 0] else .tuple #[Z4,.int .i64 3]):=by
 have hf:=h.f240
 have hp:=zBu h.e2 h.e15
 have hm:=h.m
 have c46:=fun w=>zEq k w
 have hL1:=zJg (k:=f+1) hk
 have hL0:=zJg (k:=f) hk
 have e1:((f+1:Nat):Int)=(f:Int)+1:=by omega
 rw [e1] at hL1
 cases g with
 | true =>
  rw [if_neg (by unfold isD;simp)]
  exact zDx f e l m w 1 x s k _ hf c46
 | false =>
  by_cases h1:k<2^(f+1)
  ·have hA:¬ (f:Int)+1<lenL (W4 k) 4:=Int.not_lt.2 (hL1.2 h1)
   by_cases h2:x<l
   ·rw [if_neg (by unfold isD;simp;omega)]
    exact zGx f e l m w 1 x s k _ hf c46 hA h2
   ·by_cases h3:m<x
    ·rw [if_neg (by unfold isD;simp;omega)]
     exact zFx f e l m w 1 x s k _ hf c46 hA h2 h3
    ·by_cases h4:k<2^f/\x≠l
     ·rw [if_neg (by unfold isD;simp;omega)]
      exact zEx f e l m w 1 x s k _ hf c46 hA h2 h3 (hL0.2 h4.1) h4.2
     ·rw [if_pos (by unfold isD;refine Or.inl ⟨rfl,rfl,h1,?_,?_,?_⟩<;>simp only []<;>omega)]
      have hE:((x-l).toNat:Int)=x-l:=by omega
      have hpc:((2:Int)^e)=((2^e:Nat):Int):=by simp
      have c40:=fun w=>zJj f e l m s (x-l).toNat k w h (by rw [hpc] at hm;omega) h1
      rw [hE] at c40
      refine zEu f e l m w 1 x s k _ hf c46 _ hA h2 h3 ⟨h.l1,h.l0⟩ (by have:=h.l0;omega) ?_ c40
      by_cases h5:k<2^f
      ·exact Or.inr ⟨hL0.2 h5,by omega⟩
      ·exact Or.inl fun h6=>h5 (hL0.1 h6)
  ·rw [if_neg (by unfold isD;simp;omega)]
   have hB:(f:Int)+1<lenL (W4 k) 4:=Int.not_le.1 fun h6=>h1 (hL1.1 h6)
   exact zHx f e l m w 1 x s k _ hf c46 hB
end
end Go.Proofs.YtahfkpjhlbiamaaGreatDoor
