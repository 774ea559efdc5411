/-
  Texts that the proof leans on.
-/
import Derived.Test.YtjfeaiaafbaobaaGreatDoorJ12
import Derived.Test.YtjfeaiaafbaobaaGreatDoorJ1
import Derived.DeepKeys
import Derived.Laws.IdiomCopy
import Derived.Deep.RegionWith
import Derived.Test.YtjfeaiaafbaobaaGreatDoorJ10
set_option maxHeartbeats 8000000
set_option linter.unusedVariables false
set_option linter.unusedSectionVars false
set_option linter.unusedSimpArgs false
set_option maxRecDepth 20000
namespace Go.Proofs.YtjfeaiaafbaobaaGreatDoor
open Go.RowKit
section
abbrev Z4:Value:=.agg #[.int .u64 0,.int .u64 0,.int .u64 0,.int .u64 0]
theorem Z4_eq:A4 0=Z4:=by unfold A4 Z4;simp only [W4_zero]
section
variable (f e:Nat)(l m:Int)(w:World)(c x:Int)(s:Bool)(k:Nat)(L:Int)(hf:f<=240)
 (c46:∀ w,CB 121 #[A4 k] w (.int .i64 L))
include hf c46
theorem packFin_g:CB 66 #[LV f e l m,DV c s true x k] w (.tuple #[Z4,.int .i64 3]):=by
 go_enter Tryz.func66,Tryz.ntmps66
 go_wp2_with (go_at_call 121;refine (c46 _).mono ?_;rintro x w1 ⟨rfl,hb1⟩;obtain ⟨_,_,_,_,hA1,_⟩:=wz w hb1;obtain ⟨_,_⟩:=zf hb1 (w.heap.size+1);obtain ⟨_,_⟩:=zf hb1 (w.heap.size+1+1);obtain ⟨_,_⟩:=zf hb1 (w.heap.size+1+1+1);clear hb1)
 have hsm:=cell_set_map
 exact bodyPost_ret (v:=.tuple #[Z4,.int .i64 3]) (by simp only [results,Tryz.results66];go_simp) rfl ⟨rfl,bgo⟩
theorem packFin_1 (hL:(f:Int)+1<L):CB 66 #[LV f e l m,DV c s false x k] w (.tuple #[Z4,.int .i64 3]):=by
 go_enter Tryz.func66,Tryz.ntmps66
 go_wp2_with (go_at_call 121;refine (c46 _).mono ?_;rintro x w1 ⟨rfl,hb1⟩;obtain ⟨_,_,_,_,hA1,_⟩:=wz w hb1;obtain ⟨_,_⟩:=zf hb1 (w.heap.size+1);obtain ⟨_,_⟩:=zf hb1 (w.heap.size+1+1);obtain ⟨_,_⟩:=zf hb1 (w.heap.size+1+1+1);clear hb1)
 have hsm:=cell_set_map
 exact bodyPost_ret (v:=.tuple #[Z4,.int .i64 3]) (by simp only [results,Tryz.results66];go_simp) rfl ⟨rfl,bgo⟩
theorem packFin_2 (hL:¬ (f:Int)+1<L)(hx:x<l):CB 66 #[LV f e l m,DV c s false x k] w (.tuple #[Z4,.int .i64 3]):=by
 go_enter Tryz.func66,Tryz.ntmps66
 go_wp2_with (go_at_call 121;refine (c46 _).mono ?_;rintro x w1 ⟨rfl,hb1⟩;obtain ⟨_,_,_,_,hA1,_⟩:=wz w hb1;obtain ⟨_,_⟩:=zf hb1 (w.heap.size+1);obtain ⟨_,_⟩:=zf hb1 (w.heap.size+1+1);obtain ⟨_,_⟩:=zf hb1 (w.heap.size+1+1+1);clear hb1)
 have hsm:=cell_set_map
 exact bodyPost_ret (v:=.tuple #[Z4,.int .i64 3]) (by simp only [results,Tryz.results66];go_simp) rfl ⟨rfl,bgo⟩
theorem packFin_3 (hL:¬ (f:Int)+1<L)(hx:¬ x<l)(hm:m<x):CB 66 #[LV f e l m,DV c s false x k] w (.tuple #[Z4,.int .i64 3]):=by
 go_enter Tryz.func66,Tryz.ntmps66
 go_wp2_with (go_at_call 121;refine (c46 _).mono ?_;rintro x w1 ⟨rfl,hb1⟩;obtain ⟨_,_,_,_,hA1,_⟩:=wz w hb1;obtain ⟨_,_⟩:=zf hb1 (w.heap.size+1);obtain ⟨_,_⟩:=zf hb1 (w.heap.size+1+1);obtain ⟨_,_⟩:=zf hb1 (w.heap.size+1+1+1);clear hb1)
 have hsm:=cell_set_map
 exact bodyPost_ret (v:=.tuple #[Z4,.int .i64 3]) (by simp only [results,Tryz.results66];go_simp) rfl ⟨rfl,bgo⟩
theorem packFin_4 (hL:¬ (f:Int)+1<L)(hx:¬ x<l)(hm:¬ m<x)(hL2:L<=f)(hxl:x≠l):CB 66 #[LV f e l m,DV c s false x k] w (.tuple #[Z4,.int .i64 3]):=by
 go_enter Tryz.func66,Tryz.ntmps66
 go_wp2_with (go_at_call 121;refine (c46 _).mono ?_;rintro x w1 ⟨rfl,hb1⟩;obtain ⟨_,_,_,_,hA1,_⟩:=wz w hb1;obtain ⟨_,_⟩:=zf hb1 (w.heap.size+1);obtain ⟨_,_⟩:=zf hb1 (w.heap.size+1+1);obtain ⟨_,_⟩:=zf hb1 (w.heap.size+1+1+1);clear hb1)
 have hsm:=cell_set_map
 exact bodyPost_ret (v:=.tuple #[Z4,.int .i64 3]) (by simp only [results,Tryz.results66];go_simp) rfl ⟨rfl,bgo⟩
theorem packFin_ok (R:Nat)(hL:¬ (f:Int)+1<L)(hx:¬ x<l)(hm:¬ m<x)(hl:-1000000<=l/\l<=0)(hm2:m<=1000000)(h:¬ L<=f∨(L<=f/\x=l))
  (c40:∀ w,CB 122 #[LV f e l m,.bool s,.int .u64 (x-l),A4 k] w (A4 R)) :
  CB 66 #[LV f e l m,DV c s false x k] w (.tuple #[A4 R,.int .i64 0]):=by
 rcases h with h|⟨h,rfl⟩
 ·go_enter Tryz.func66,Tryz.ntmps66
  go_wp2_with (first
   | (go_at_call 121;refine (c46 _).mono ?_;rintro x w1 ⟨rfl,hb1⟩;obtain ⟨_,_,_,_,hA1,_⟩:=wz w hb1;obtain ⟨_,_⟩:=zf hb1 (w.heap.size+1);obtain ⟨_,_⟩:=zf hb1 (w.heap.size+1+1);obtain ⟨_,_⟩:=zf hb1 (w.heap.size+1+1+1);clear hb1)
   | (go_at_call 122;refine (c40 _).mono ?_;rintro x w2 ⟨rfl,hb2⟩;obtain ⟨_,_,_,_,hA2,_⟩:=wz w hb2;obtain ⟨_,_⟩:=zf hb2 (w.heap.size+1);obtain ⟨_,_⟩:=zf hb2 (w.heap.size+1+1);obtain ⟨_,_⟩:=zf hb2 (w.heap.size+1+1+1);clear hb2))
  have hsm:=cell_set_map
  exact bodyPost_ret (v:=.tuple #[A4 R,.int .i64 0]) (by simp only [results,Tryz.results66];go_simp) rfl ⟨rfl,bgo⟩
 ·rw [Int.sub_self] at c40
  go_enter Tryz.func66,Tryz.ntmps66
  go_wp2_with (first
   | (go_at_call 121;refine (c46 _).mono ?_;rintro x w1 ⟨rfl,hb1⟩;obtain ⟨_,_,_,_,hA1,_⟩:=wz w hb1;obtain ⟨_,_⟩:=zf hb1 (w.heap.size+1);obtain ⟨_,_⟩:=zf hb1 (w.heap.size+1+1);obtain ⟨_,_⟩:=zf hb1 (w.heap.size+1+1+1);clear hb1)
   | (go_at_call 122;refine (c40 _).mono ?_;rintro x w2 ⟨rfl,hb2⟩;obtain ⟨_,_,_,_,hA2,_⟩:=wz w hb2;obtain ⟨_,_⟩:=zf hb2 (w.heap.size+1);obtain ⟨_,_⟩:=zf hb2 (w.heap.size+1+1);obtain ⟨_,_⟩:=zf hb2 (w.heap.size+1+1+1);clear hb2))
  have hsm:=cell_set_map
  exact bodyPost_ret (v:=.tuple #[A4 R,.int .i64 0]) (by simp only [results,Tryz.results66];go_simp) rfl ⟨rfl,bgo⟩
end
def isD (f:Nat)(l m:Int)(d:Dat):Prop :=
 (d.c=1/\d.g=false/\d.k<2^(f+1)/\l<=d.x/\d.x<=m/\(2^f<=d.k∨d.x=l)) ∨
 (d.c=2/\d.g=false/\d.x=0/\d.k=0) ∨
 (d.c=3/\d.x=0/\d.k<2^(f-1)/\(d.k≠0∨d.g=false))
instance (f:Nat) (l m:Int) (d:Dat):Decidable (isD f l m d):=inferInstanceAs (Decidable (_∨_∨_))
def pk (f e:Nat)(l:Int)(d:Dat):Nat :=
 (if d.c=1 then (d.x-l).toNat*2^f+d.k else if d.c=2 then (2^e-1)*2^f+0 else (2^e-1)*2^f+(if d.g then d.k else d.k+2^(f-1)))+if d.s then 2^(f+e) else 0
theorem packFinite_any (f e:Nat)(l m:Int)(w:World)(s g:Bool)(x:Int)(k:Nat)(h:Fm f e l m)(hk:k<2^256) :
  CB 66 #[LV f e l m,DV 1 s g x k] w (if isD f l m ⟨1,s,g,x,k⟩ then .tuple #[A4 (pk f e l ⟨1,s,g,x,k⟩),.int .i64 0] else .tuple #[Z4,.int .i64 3]):=by
 have hf:=h.f240
 have hp:=pow_e h.e2 h.e15
 have hm:=h.m
 have c46:=fun w=>len4' k w
 have hL1:=len4_le (k:=f+1) hk
 have hL0:=len4_le (k:=f) hk
 have e1:((f+1:Nat):Int)=(f:Int)+1:=by omega
 rw [e1] at hL1
 cases g with
 | true =>
  rw [if_neg (by unfold isD;simp)]
  exact packFin_g f e l m w 1 x s k _ hf c46
 | false =>
  by_cases h1:k<2^(f+1)
  ·have hA:¬ (f:Int)+1<lenL (W4 k) 4:=Int.not_lt.2 (hL1.2 h1)
   by_cases h2:x<l
   ·rw [if_neg (by unfold isD;simp;omega)]
    exact packFin_2 f e l m w 1 x s k _ hf c46 hA h2
   ·by_cases h3:m<x
    ·rw [if_neg (by unfold isD;simp;omega)]
     exact packFin_3 f e l m w 1 x s k _ hf c46 hA h2 h3
    ·by_cases h4:k<2^f/\x≠l
     ·rw [if_neg (by unfold isD;simp;omega)]
      exact packFin_4 f e l m w 1 x s k _ hf c46 hA h2 h3 (hL0.2 h4.1) h4.2
     ·rw [if_pos (by unfold isD;refine Or.inl ⟨rfl,rfl,h1,?_,?_,?_⟩<;>simp only []<;>omega)]
      have hE:((x-l).toNat:Int)=x-l:=by omega
      have hpc:((2:Int)^e)=((2^e:Nat):Int):=by simp
      have c40:=fun w=>join_any f e l m s (x-l).toNat k w h (by rw [hpc] at hm;omega) h1
      rw [hE] at c40
      refine packFin_ok f e l m w 1 x s k _ hf c46 _ hA h2 h3 ⟨h.l1,h.l0⟩ (by have:=h.l0;omega) ?_ c40
      by_cases h5:k<2^f
      ·exact Or.inr ⟨hL0.2 h5,by omega⟩
      ·exact Or.inl fun h6=>h5 (hL0.1 h6)
  ·rw [if_neg (by unfold isD;simp;omega)]
   have hB:(f:Int)+1<lenL (W4 k) 4:=Int.not_le.1 fun h6=>h1 (hL1.1 h6)
   exact packFin_1 f e l m w 1 x s k _ hf c46 hB
end
theorem eq24d (d:Nat)(a0 a1 a2 a3 b0 b1 b2 b3:Int)(w:World) :
  Sem.run Tryz.prog (Op.equalIn (d+2) 24 (.agg #[.int .u64 a0,.int .u64 a1,.int .u64 a2,.int .u64 a3]) (.agg #[.int .u64 b0,.int .u64 b1,.int .u64 b2,.int .u64 b3])) w=.ok (decide (a0=b0/\a1=b1/\a2=b2/\a3=b3)) w:=by
 obtain ⟨i22,hi⟩:∃ i,Tryz.prog.info? 22=some i:=⟨_,rfl⟩
 have h:=run_equalIn_array (P:=Tryz.prog) w (d+1) (t:=24) (e:=22) (n:=4) #[.int .u64 a0,.int .u64 a1,.int .u64 a2,.int .u64 a3] #[.int .u64 b0,.int .u64 b1,.int .u64 b2,.int .u64 b3] (by kernel_rfl) hi
 refine h.trans ?_
 have hc:Tryz.prog.cellsOf 22=1:=by kernel_rfl
 rw [hc]
 simp [List.range_succ,Op.eqItems,go_sem]
 by_cases h0:a0=b0<;>by_cases h1:a1=b1<;>by_cases h2:a2=b2<;>by_cases h3:a3=b3<;>simp [h0,h1,h2,h3]
theorem eq24 (a0 a1 a2 a3 b0 b1 b2 b3:Int)(w:World) :
  Sem.run Tryz.prog (Op.equalIn 10000 24 (.agg #[.int .u64 a0,.int .u64 a1,.int .u64 a2,.int .u64 a3]) (.agg #[.int .u64 b0,.int .u64 b1,.int .u64 b2,.int .u64 b3])) w=.ok (decide (a0=b0/\a1=b1/\a2=b2/\a3=b3)) w :=
 eq24d 9998 a0 a1 a2 a3 b0 b1 b2 b3 w
section
section
variable (f e:Nat)(l m:Int)(w:World)(c x:Int)(s:Bool)(k:Nat)
theorem packInf_g:CB 67 #[LV f e l m,DV c s true x k] w (.tuple #[Z4,.int .i64 3]):=by
 go_enter Tryz.func67,Tryz.ntmps67
 go_wp2
 have hsm:=cell_set_map
 exact bodyPost_ret (v:=.tuple #[Z4,.int .i64 3]) (by simp only [results,Tryz.results67];go_simp) rfl ⟨rfl,bgo⟩
theorem packInf_x (hx:(x != 0)=true):CB 67 #[LV f e l m,DV c s false x k] w (.tuple #[Z4,.int .i64 3]):=by
 go_enter Tryz.func67,Tryz.ntmps67
 go_wp2
 have hsm:=cell_set_map
 exact bodyPost_ret (v:=.tuple #[Z4,.int .i64 3]) (by simp only [results,Tryz.results67];go_simp) rfl ⟨rfl,bgo⟩
theorem packInf_k (hk:decide (W4 k 0=0/\W4 k 1=0/\W4 k 2=0/\W4 k 3=0)=false):CB 67 #[LV f e l m,DV c s false 0 k] w (.tuple #[Z4,.int .i64 3]):=by
 have h24:=eq24 (W4 k 0) (W4 k 1) (W4 k 2) (W4 k 3) 0 0 0 0
 rw [hk] at h24
 clear hk
 go_enter Tryz.func67,Tryz.ntmps67
 go_wp2
 have hsm:=cell_set_map
 exact bodyPost_ret (v:=.tuple #[Z4,.int .i64 3]) (by simp only [results,Tryz.results67];go_simp) rfl ⟨rfl,bgo⟩
theorem packInf_ok (sp:Int)(R:Nat)
  (c20:∀ w,CB 123 #[LV f e l m] w (.int .u64 sp))
  (c40:∀ w,CB 122 #[LV f e l m,.bool s,.int .u64 sp,Z4] w (A4 R)) :
  CB 67 #[LV f e l m,.agg #[.int .i64 c,.bool s,.bool false,.int .i64 0,.int .u64 0,.int .u64 0,.int .u64 0,.int .u64 0]] w (.tuple #[A4 R,.int .i64 0]):=by
 have h24:=eq24 0 0 0 0 0 0 0 0
 rw [decide_eq_true (by decide)] at h24
 go_enter Tryz.func67,Tryz.ntmps67
 go_wp2
 refine wp_tail 7 (by kernel_rfl) (by kernel_rfl) (by kernel_rfl) (fun _ _ d _ _ h=>by cases d<;>exact h) fun hne hcell=>?_
 simp only [List.take_succ_cons,List.take_zero,List.drop_succ_cons,List.drop_zero]
 repeat go_big_quiet_step (fail)
 go_big_quiet_step ((go_at_call 123;exact calls_wd _ bk_next (c20 _)))
 repeat go_big_quiet_step (fail)
 go_big_quiet_step ((go_at_call 122;exact calls_wd _ bk_next (c40 _)))
 refine wpQuiet_nil fun w1 hb1=>?_
 obtain ⟨_,_,_,_,hA1,_⟩:=wz w hb1;obtain ⟨_,_⟩:=zf hb1 (w.heap.size+1);obtain ⟨_,_⟩:=zf hb1 (w.heap.size+1+1);clear hb1
 have hsm:=cell_set_map
 go_wp2
 exact bodyPost_ret (v:=.tuple #[A4 R,.int .i64 0]) (by simp only [results,Tryz.results67];go_simp) rfl ⟨rfl,bgo⟩
end
end
section
section
variable (f e:Nat)(l m:Int)(w:World)(c x:Int)(s g:Bool)(k:Nat)(L:Int)(hf:2<=f/\f<=240)
 (c46:∀ w,CB 121 #[A4 k] w (.int .i64 L))
include hf c46
theorem packNaN_x (hx:(x != 0)=true):CB 68 #[LV f e l m,DV c s g x k] w (.tuple #[Z4,.int .i64 3]):=by
 go_enter Tryz.func68,Tryz.ntmps68
 go_wp2
 refine wp_whole (by kernel_rfl) (by kernel_rfl) fun hne hcell=>?_
 repeat go_big_quiet_step (fail)
 refine wpQuiet_nil fun w1 hb1=>?_
 obtain ⟨_,_,_,_,hA1,_⟩:=wz w hb1;obtain ⟨_,_⟩:=zf hb1 (w.heap.size+1);obtain ⟨_,_⟩:=zf hb1 (w.heap.size+1+1);obtain ⟨_,_⟩:=zf hb1 (w.heap.size+1+1+1);clear hb1
 have hsm:=cell_set_map
 go_wp2
 exact bodyPost_ret (v:=.tuple #[Z4,.int .i64 3]) (by simp only [results,Tryz.results68];go_simp) rfl ⟨rfl,bgo⟩
theorem packNaN_len (hL:(f:Int)-1<L):CB 68 #[LV f e l m,DV c s g 0 k] w (.tuple #[Z4,.int .i64 3]):=by
 go_enter Tryz.func68,Tryz.ntmps68
 go_wp2
 refine wp_whole (by kernel_rfl) (by kernel_rfl) fun hne hcell=>?_
 repeat go_big_quiet_step (fail)
 go_big_quiet_step ((go_at_call 121;exact calls_wd _ bk_next (c46 _)))
 repeat go_big_quiet_step (fail)
 refine wpQuiet_nil fun w1 hb1=>?_
 obtain ⟨_,_,_,_,hA1,_⟩:=wz w hb1;obtain ⟨_,_⟩:=zf hb1 (w.heap.size+1);obtain ⟨_,_⟩:=zf hb1 (w.heap.size+1+1);obtain ⟨_,_⟩:=zf hb1 (w.heap.size+1+1+1);clear hb1
 have hsm:=cell_set_map
 go_wp2
 exact bodyPost_ret (v:=.tuple #[Z4,.int .i64 3]) (by simp only [results,Tryz.results68];go_simp) rfl ⟨rfl,bgo⟩
theorem packNaN_0 (hL:¬ (f:Int)-1<L)(hL0:L=0):CB 68 #[LV f e l m,DV c s true 0 k] w (.tuple #[Z4,.int .i64 3]):=by
 subst hL0
 go_enter Tryz.func68,Tryz.ntmps68
 go_wp2
 refine wp_whole (by kernel_rfl) (by kernel_rfl) fun hne hcell=>?_
 repeat go_big_quiet_step (fail)
 go_big_quiet_step ((go_at_call 121;exact calls_wd _ bk_next (c46 _)))
 repeat go_big_quiet_step (fail)
 refine wpQuiet_nil fun w1 hb1=>?_
 obtain ⟨_,_,_,_,hA1,_⟩:=wz w hb1;obtain ⟨_,_⟩:=zf hb1 (w.heap.size+1);obtain ⟨_,_⟩:=zf hb1 (w.heap.size+1+1);obtain ⟨_,_⟩:=zf hb1 (w.heap.size+1+1+1);clear hb1
 have hsm:=cell_set_map
 go_wp2_with (go_at_call 121;refine (c46 _).mono ?_;rintro x w2 ⟨rfl,hb2⟩;obtain ⟨_,_,_,_,hA2,_⟩:=wz w hb2;obtain ⟨_,_⟩:=zf hb2 (w.heap.size+1);obtain ⟨_,_⟩:=zf hb2 (w.heap.size+1+1);obtain ⟨_,_⟩:=zf hb2 (w.heap.size+1+1+1);clear hb2)
 exact bodyPost_ret (v:=.tuple #[Z4,.int .i64 3]) (by simp only [results,Tryz.results68];go_simp) rfl ⟨rfl,bgo⟩
theorem packNaN_g (sp:Int)(R:Nat)(hL:¬ (f:Int)-1<L)(hL0:(L==0)=false)
  (c20:∀ w,CB 123 #[LV f e l m] w (.int .u64 sp))
  (c40:∀ w,CB 122 #[LV f e l m,.bool s,.int .u64 sp,A4 k] w (A4 R)) :
  CB 68 #[LV f e l m,DV c s true 0 k] w (.tuple #[A4 R,.int .i64 0]):=by
 go_enter Tryz.func68,Tryz.ntmps68
 go_wp2
 refine wp_whole (by kernel_rfl) (by kernel_rfl) fun hne hcell=>?_
 repeat go_big_quiet_step (fail)
 go_big_quiet_step ((go_at_call 121;exact calls_wd _ bk_next (c46 _)))
 repeat go_big_quiet_step (fail)
 refine wpQuiet_nil fun w1 hb1=>?_
 obtain ⟨_,_,_,_,hA1,_⟩:=wz w hb1;obtain ⟨_,_⟩:=zf hb1 (w.heap.size+1);obtain ⟨_,_⟩:=zf hb1 (w.heap.size+1+1);obtain ⟨_,_⟩:=zf hb1 (w.heap.size+1+1+1);clear hb1
 have hsm:=cell_set_map
 go_wp2_with (go_at_call 121;refine (c46 _).mono ?_;rintro x w2 ⟨rfl,hb2⟩;obtain ⟨_,_,_,_,hA2,_⟩:=wz w hb2;obtain ⟨_,_⟩:=zf hb2 (w.heap.size+1);obtain ⟨_,_⟩:=zf hb2 (w.heap.size+1+1);obtain ⟨_,_⟩:=zf hb2 (w.heap.size+1+1+1);clear hb2)
 refine wp_tail 7 (by kernel_rfl) (by kernel_rfl) (by kernel_rfl) (fun _ _ d _ _ h=>by cases d<;>exact h) fun hne hcell=>?_
 simp only [List.take_succ_cons,List.take_zero,List.drop_succ_cons,List.drop_zero]
 repeat go_big_quiet_step (fail)
 go_big_quiet_step ((go_at_call 123;exact calls_wd _ bk_next (c20 _)))
 repeat go_big_quiet_step (fail)
 go_big_quiet_step ((go_at_call 122;exact calls_wd _ bk_next (c40 _)))
 refine wpQuiet_nil fun w3 hb3=>?_
 obtain ⟨_,_,_,_,hA3,_⟩:=wz w hb3;obtain ⟨_,_⟩:=zf hb3 (w.heap.size+1);obtain ⟨_,_⟩:=zf hb3 (w.heap.size+1+1);obtain ⟨_,_⟩:=zf hb3 (w.heap.size+1+1+1);clear hb3
 go_wp2
 exact bodyPost_ret (v:=.tuple #[A4 R,.int .i64 0]) (by simp only [results,Tryz.results68];go_simp) rfl ⟨rfl,bgo⟩
theorem packNaN_q (sp cr:Int)(Qb Kq R:Nat)(hL:¬ (f:Int)-1<L)
  (c47:∀ w,CB 124 #[LV f e l m] w (A4 Qb))
  (c22:∀ w,CB 102 #[A4 k,A4 Qb] w (.tuple #[A4 Kq,.int .u64 cr]))
  (c20:∀ w,CB 123 #[LV f e l m] w (.int .u64 sp))
  (c40:∀ w,CB 122 #[LV f e l m,.bool s,.int .u64 sp,A4 Kq] w (A4 R)) :
  CB 68 #[LV f e l m,DV c s false 0 k] w (.tuple #[A4 R,.int .i64 0]):=by
 go_enter Tryz.func68,Tryz.ntmps68
 go_wp2
 refine wp_whole (by kernel_rfl) (by kernel_rfl) fun hne hcell=>?_
 repeat go_big_quiet_step (fail)
 go_big_quiet_step ((go_at_call 121;exact calls_wd _ bk_next (c46 _)))
 repeat go_big_quiet_step (fail)
 refine wpQuiet_nil fun w1 hb1=>?_
 obtain ⟨_,_,_,_,hA1,_⟩:=wz w hb1;obtain ⟨_,_⟩:=zf hb1 (w.heap.size+1);obtain ⟨_,_⟩:=zf hb1 (w.heap.size+1+1);obtain ⟨_,_⟩:=zf hb1 (w.heap.size+1+1+1);clear hb1
 have hsm:=cell_set_map
 go_wp2
 refine wp_tail 4 (by kernel_rfl) (by kernel_rfl) (by kernel_rfl) (fun _ _ d _ _ h=>by cases d<;>exact h) fun hne hcell=>?_
 simp only [List.take_succ_cons,List.take_zero,List.drop_succ_cons,List.drop_zero]
 repeat go_big_quiet_step (fail)
 go_big_quiet_step ((go_at_call 124;exact calls_wd _ bk_next (c47 _)))
 repeat go_big_quiet_step (fail)
 go_big_quiet_step ((go_at_call 102;exact calls_wd _ bk_next (c22 _)))
 refine wpQuiet_nil fun w2 hb2=>?_
 obtain ⟨_,_,_,_,hA2,_⟩:=wz w hb2;obtain ⟨_,_⟩:=zf hb2 (w.heap.size+1);obtain ⟨_,_⟩:=zf hb2 (w.heap.size+1+1);obtain ⟨_,_⟩:=zf hb2 (w.heap.size+1+1+1);clear hb2
 go_wp2
 refine wp_tail 7 (by kernel_rfl) (by kernel_rfl) (by kernel_rfl) (fun _ _ d _ _ h=>by cases d<;>exact h) fun hne hcell=>?_
 simp only [List.take_succ_cons,List.take_zero,List.drop_succ_cons,List.drop_zero]
 repeat go_big_quiet_step (fail)
 go_big_quiet_step ((go_at_call 123;exact calls_wd _ bk_next (c20 _)))
 repeat go_big_quiet_step (fail)
 go_big_quiet_step ((go_at_call 122;exact calls_wd _ bk_next (c40 _)))
 refine wpQuiet_nil fun w3 hb3=>?_
 obtain ⟨_,_,_,_,hA3,_⟩:=wz w hb3;obtain ⟨_,_⟩:=zf hb3 (w.heap.size+1);obtain ⟨_,_⟩:=zf hb3 (w.heap.size+1+1);obtain ⟨_,_⟩:=zf hb3 (w.heap.size+1+1+1);clear hb3
 go_wp2
 exact bodyPost_ret (v:=.tuple #[A4 R,.int .i64 0]) (by simp only [results,Tryz.results68];go_simp) rfl ⟨rfl,bgo⟩
end
theorem packInfinite_any (f e:Nat)(l m:Int)(w:World)(s g:Bool)(x:Int)(k:Nat)(h:Fm f e l m)(hk:k<2^256) :
  CB 67 #[LV f e l m,DV 2 s g x k] w (if isD f l m ⟨2,s,g,x,k⟩ then .tuple #[A4 (pk f e l ⟨2,s,g,x,k⟩),.int .i64 0] else .tuple #[Z4,.int .i64 3]):=by
 cases g with
 | true =>
  rw [if_neg (by unfold isD;simp)]
  exact packInf_g f e l m w 2 x s k
 | false =>
  by_cases hx:x=0
  ·subst hx
   by_cases h0:k=0
   ·subst h0
    rw [if_pos (by unfold isD;simp)]
    have hp1:1<=2^e:=Nat.one_le_two_pow
    have c40:=fun w=>join_any f e l m s (2^e-1) 0 w h (by omega) (Nat.two_pow_pos _)
    rw [Z4_eq] at c40
    have hd:DV 2 s false 0 0=.agg #[.int .i64 2,.bool s,.bool false,.int .i64 0,.int .u64 0,.int .u64 0,.int .u64 0,.int .u64 0]:=by
     unfold DV;simp only [W4_zero]
    rw [hd]
    exact packInf_ok f e l m w 2 s _ _ (fun w=>special_any f e l m w h) c40
   ·rw [if_neg (by unfold isD;simp [h0])]
    refine packInf_k f e l m w 2 s k (decide_eq_false fun hz=>h0 ?_)
    refine A4_inj hk (by decide) fun i hi=>?_
    rw [W4_zero]
    have:i=0∨i=1∨i=2∨i=3:=by omega
    rcases this with rfl|rfl|rfl|rfl
    ·exact hz.1
    ·exact hz.2.1
    ·exact hz.2.2.1
    ·exact hz.2.2.2
  ·rw [if_neg (by unfold isD;simp [hx])]
   exact packInf_x f e l m w 2 x s k (by simpa using hx)
theorem packNaN_any (f e:Nat)(l m:Int)(w:World)(s g:Bool)(x:Int)(k:Nat)(h:Fm f e l m)(hk:k<2^256) :
  CB 68 #[LV f e l m,DV 3 s g x k] w (if isD f l m ⟨3,s,g,x,k⟩ then .tuple #[A4 (pk f e l ⟨3,s,g,x,k⟩),.int .i64 0] else .tuple #[Z4,.int .i64 3]):=by
 have hf:2<=f/\f<=240:=⟨h.f2,h.f240⟩
 have c46:=fun w=>len4' k w
 have hL1:=len4_le (k:=f-1) hk
 have e1:((f-1:Nat):Int)=(f:Int)-1:=by omega
 rw [e1] at hL1
 have hp1:1<=2^e:=Nat.one_le_two_pow
 have hpf:2^(f-1)*4=2^(f+1):=by rw [show (4:Nat)=2^2 by decide,← Nat.pow_add];congr 1;omega
 by_cases hx:x=0
 ·subst hx
  by_cases hL:k<2^(f-1)
  ·have hA:¬ (f:Int)-1<lenL (W4 k) 4:=Int.not_lt.2 (hL1.2 hL)
   cases g with
   | true =>
    by_cases h0:k=0
    ·rw [if_neg (by unfold isD;simp [h0])]
     exact packNaN_0 f e l m w 3 s k _ hf c46 hA ((len4_zero hk).2 h0)
    ·rw [if_pos (by unfold isD;exact Or.inr (Or.inr ⟨rfl,rfl,hL,Or.inl h0⟩))]
     have c40:=fun w=>join_any f e l m s (2^e-1) k w h (by omega) (by omega)
     exact packNaN_g f e l m w 3 s k _ hf c46 _ _ hA (by rw [beq_eq_false_iff_ne];exact fun h1=>h0 ((len4_zero hk).1 h1)) (fun w=>special_any f e l m w h) c40
   | false =>
    rw [if_pos (by unfold isD;exact Or.inr (Or.inr ⟨rfl,rfl,hL,Or.inr rfl⟩))]
    have c40:=fun w=>join_any f e l m s (2^e-1) (k+2^(f-1)) w h (by omega) (by omega)
    exact packNaN_q f e l m w 3 s k _ hf c46 _ _ _ _ _ hA (fun w=>quiet_any f e l m w h) (fun w=>add4 k (2^(f-1)) w hk (Nat.pow_lt_pow_right (by decide) (by omega))) (fun w=>special_any f e l m w h) c40
  ·have hB:(f:Int)-1<lenL (W4 k) 4:=Int.not_le.1 fun h6=>hL (hL1.1 h6)
   rw [if_neg (by unfold isD;simp;omega)]
   exact packNaN_len f e l m w 3 s g k _ hf c46 hB
 ·rw [if_neg (by unfold isD;simp [hx])]
  exact packNaN_x f e l m w 3 x s g k _ hf c46 (by simpa using hx)
end
section
theorem pack_bad (n:Int)(d:Dat)(w:World)(hT:Tab w)(h:¬ binN n) :
  CB 32 #[.int .i64 n,d.v] w (.tuple #[Z4,.int .i64 1]):=by
 have c31:=fun w hT=>layoutOf_bad n w hT h
 obtain ⟨c,s,g,x,k⟩:=d
 unfold Dat.v
 dsimp only
 go_enter Tryz.func32,Tryz.ntmps32
 go_wp2_with (go_at_call 65;refine (c31 _ ((hT.alloc _).alloc _)).mono ?_;rintro x w1 ⟨rfl,hb1⟩;obtain ⟨_,_,_,_,hA1,_⟩:=wz w hb1;obtain ⟨_,_⟩:=zf hb1 (w.heap.size+1);clear hb1)
 have hsm:=cell_set_map
 exact bodyPost_ret (v:=.tuple #[Z4,.int .i64 1]) (by simp only [results,Tryz.results32];go_simp) rfl ⟨rfl,bgo⟩
section
variable (n:Int)(f e:Nat)(l m:Int)(w:World)(hT:Tab w)(c x:Int)(s g:Bool)(k:Nat)
 (c31:∀ w,Tab w->CB 65 #[.int .i64 n] w (.tuple #[LV f e l m,.int .i64 0]))
include hT c31
theorem pack_1 (R:Nat)(E:Int)(c32:∀ w,CB 66 #[LV f e l m,DV 1 s g x k] w (.tuple #[A4 R,.int .i64 E])) :
  CB 32 #[.int .i64 n,DV 1 s g x k] w (.tuple #[A4 R,.int .i64 E]):=by
 go_enter Tryz.func32,Tryz.ntmps32
 go_wp2_with (first
  | (go_at_call 65;refine (c31 _ ((hT.alloc _).alloc _)).mono ?_;rintro x w1 ⟨rfl,hb1⟩;obtain ⟨_,_,_,_,hA1,_⟩:=wz w hb1;obtain ⟨_,_⟩:=zf hb1 (w.heap.size+1);clear hb1)
  | (go_at_call 66;refine (c32 _).mono ?_;rintro x w2 ⟨rfl,hb2⟩;obtain ⟨_,_,_,_,hA2,_⟩:=wz w hb2;obtain ⟨_,_⟩:=zf hb2 (w.heap.size+1);obtain ⟨_,_⟩:=zf hb2 w1.heap.size;clear hb2))
 have hsm:=cell_set_map
 exact bodyPost_ret (v:=.tuple #[A4 R,.int .i64 E]) (by simp only [results,Tryz.results32];go_simp) rfl ⟨rfl,bgo⟩
theorem pack_2 (R:Nat)(E:Int)(c33:∀ w,CB 67 #[LV f e l m,DV 2 s g x k] w (.tuple #[A4 R,.int .i64 E])) :
  CB 32 #[.int .i64 n,DV 2 s g x k] w (.tuple #[A4 R,.int .i64 E]):=by
 go_enter Tryz.func32,Tryz.ntmps32
 go_wp2_with (first
  | (go_at_call 65;refine (c31 _ ((hT.alloc _).alloc _)).mono ?_;rintro x w1 ⟨rfl,hb1⟩;obtain ⟨_,_,_,_,hA1,_⟩:=wz w hb1;obtain ⟨_,_⟩:=zf hb1 (w.heap.size+1);clear hb1)
  | (go_at_call 67;refine (c33 _).mono ?_;rintro x w2 ⟨rfl,hb2⟩;obtain ⟨_,_,_,_,hA2,_⟩:=wz w hb2;obtain ⟨_,_⟩:=zf hb2 (w.heap.size+1);obtain ⟨_,_⟩:=zf hb2 w1.heap.size;clear hb2))
 have hsm:=cell_set_map
 exact bodyPost_ret (v:=.tuple #[A4 R,.int .i64 E]) (by simp only [results,Tryz.results32];go_simp) rfl ⟨rfl,bgo⟩
theorem pack_3 (R:Nat)(E:Int)(c34:∀ w,CB 68 #[LV f e l m,DV 3 s g x k] w (.tuple #[A4 R,.int .i64 E])) :
  CB 32 #[.int .i64 n,DV 3 s g x k] w (.tuple #[A4 R,.int .i64 E]):=by
 go_enter Tryz.func32,Tryz.ntmps32
 go_wp2_with (first
  | (go_at_call 65;refine (c31 _ ((hT.alloc _).alloc _)).mono ?_;rintro x w1 ⟨rfl,hb1⟩;obtain ⟨_,_,_,_,hA1,_⟩:=wz w hb1;obtain ⟨_,_⟩:=zf hb1 (w.heap.size+1);clear hb1)
  | (go_at_call 68;refine (c34 _).mono ?_;rintro x w2 ⟨rfl,hb2⟩;obtain ⟨_,_,_,_,hA2,_⟩:=wz w hb2;obtain ⟨_,_⟩:=zf hb2 (w.heap.size+1);obtain ⟨_,_⟩:=zf hb2 w1.heap.size;clear hb2))
 have hsm:=cell_set_map
 exact bodyPost_ret (v:=.tuple #[A4 R,.int .i64 E]) (by simp only [results,Tryz.results32];go_simp) rfl ⟨rfl,bgo⟩
theorem pack_0 (h1:(c==1)=false)(h2:(c==2)=false)(h3:(c==3)=false) :
  CB 32 #[.int .i64 n,DV c s g x k] w (.tuple #[Z4,.int .i64 3]):=by
 go_enter Tryz.func32,Tryz.ntmps32
 go_wp2_with (go_at_call 65;refine (c31 _ ((hT.alloc _).alloc _)).mono ?_;rintro x w1 ⟨rfl,hb1⟩;obtain ⟨_,_,_,_,hA1,_⟩:=wz w hb1;obtain ⟨_,_⟩:=zf hb1 (w.heap.size+1);clear hb1)
 have hsm:=cell_set_map
 exact bodyPost_ret (v:=.tuple #[Z4,.int .i64 3]) (by simp only [results,Tryz.results32];go_simp) rfl ⟨rfl,bgo⟩
theorem largest_ok (hf:f<=240)(P1 P0 Fr R:Nat)(cr sp:Int)(hsp:1<=sp/\sp<=1000000)
  (c23:∀ w,CB 175 #[.int .i64 f] w (A4 P1))
  (c230:∀ w,CB 175 #[.int .i64 0] w (A4 P0))
  (c39:∀ w,CB 155 #[A4 P1,A4 P0] w (.tuple #[A4 Fr,.int .u64 cr]))
  (c20:∀ w,CB 123 #[LV f e l m] w (.int .u64 sp))
  (c40:∀ w,CB 122 #[LV f e l m,.bool s,.int .u64 (sp-1),A4 Fr] w (A4 R)) :
  CB 172 #[.int .i64 n,.bool s] w (.tuple #[A4 R,.int .i64 0]):=by
 go_enter Tryz.func172,Tryz.ntmps172
 go_wp2_with (first
  | (go_at_call 65;refine (c31 _ (hT.alloc _)).mono ?_;rintro x w1 ⟨rfl,hb1⟩;obtain ⟨_,_,_,_,hA1,_⟩:=wz w hb1;clear hb1)
  | (go_at_call 175;refine (c23 _).mono ?_;rintro x w2 ⟨rfl,hb2⟩;obtain ⟨_,_,_,_,hA2,_⟩:=wz w hb2;obtain ⟨_,_⟩:=zf hb2 w1.heap.size;clear hb2)
  | (go_at_call 175;refine (c230 _).mono ?_;rintro x w3 ⟨rfl,hb3⟩;obtain ⟨_,_,_,_,hA3,_⟩:=wz w hb3;obtain ⟨_,_⟩:=zf hb3 w1.heap.size;clear hb3)
  | (go_at_call 155;refine (c39 _).mono ?_;rintro x w4 ⟨rfl,hb4⟩;obtain ⟨_,_,_,_,hA4,_⟩:=wz w hb4;obtain ⟨_,_⟩:=zf hb4 w1.heap.size;clear hb4))
 refine wp_tail 7 (by kernel_rfl) (by kernel_rfl) (by kernel_rfl) (fun _ _ d _ _ h=>by cases d<;>exact h) fun hne hcell=>?_
 simp only [List.take_succ_cons,List.take_zero,List.drop_succ_cons,List.drop_zero]
 repeat go_big_quiet_step (fail)
 go_big_quiet_step ((go_at_call 123;exact calls_wd _ bk_next (c20 _)))
 repeat go_big_quiet_step (fail)
 go_big_quiet_step ((go_at_call 122;exact calls_wd _ bk_next (c40 _)))
 refine wpQuiet_nil fun w5 hb5=>?_
 obtain ⟨_,_,_,_,hA5,_⟩:=wz w hb5;obtain ⟨_,_⟩:=zf hb5 w1.heap.size;obtain ⟨_,_⟩:=zf hb5 w4.heap.size;clear hb5
 have hsm:=cell_set_map
 go_wp2
 exact bodyPost_ret (v:=.tuple #[A4 R,.int .i64 0]) (by simp only [results,Tryz.results172];go_simp) rfl ⟨rfl,bgo⟩
end
theorem largest_bad (n:Int)(s:Bool)(w:World)(hT:Tab w)(h:¬ binN n) :
  CB 172 #[.int .i64 n,.bool s] w (.tuple #[Z4,.int .i64 1]):=by
 have c31:=fun w hT=>layoutOf_bad n w hT h
 go_enter Tryz.func172,Tryz.ntmps172
 go_wp2_with (go_at_call 65;refine (c31 _ (hT.alloc _)).mono ?_;rintro x w1 ⟨rfl,hb1⟩;obtain ⟨_,_,_,_,hA1,_⟩:=wz w hb1;clear hb1)
 have hsm:=cell_set_map
 exact bodyPost_ret (v:=.tuple #[Z4,.int .i64 1]) (by simp only [results,Tryz.results172];go_simp) rfl ⟨rfl,bgo⟩
def pkV (n:Int)(d:Dat):Nat:=if binN n/\isD (fN n) (leastN n) (mostN n) d then pk (fN n) (eN n) (leastN n) d else 0
def pkE (n:Int)(d:Dat):Int:=if binN n then (if isD (fN n) (leastN n) (mostN n) d then 0 else 3) else 1
theorem pack_any (n:Int)(d:Dat)(w:World)(hT:Tab w)(hk:d.k<2^256) :
  CB 32 #[.int .i64 n,d.v] w (.tuple #[A4 (pkV n d),.int .i64 (pkE n d)]):=by
 by_cases hb:binN n
 ·have hF:=bin_fm hb
  have c31:=fun w hT=>layoutOf_ok n w hT hb
  have key:∀ d:Dat,Value.tuple #[A4 (pkV n d),.int .i64 (pkE n d)]=if isD (fN n) (leastN n) (mostN n) d then .tuple #[A4 (pk (fN n) (eN n) (leastN n) d),.int .i64 0] else .tuple #[Z4,.int .i64 3]:=fun d=>by
   unfold pkV pkE
   by_cases hi:isD (fN n) (leastN n) (mostN n) d
   ·rw [if_pos ⟨hb,hi⟩,if_pos hb,if_pos hi,if_pos hi]
   ·rw [if_neg (fun h=>hi h.2),if_pos hb,if_neg hi,if_neg hi,Z4_eq]
  obtain ⟨c,s,g,x,k⟩:=d
  unfold Dat.v
  dsimp only at hk ⊢
  by_cases h1:c=1
  ·subst h1
   have c32:=fun w=>packFinite_any (fN n) (eN n) (leastN n) (mostN n) w s g x k hF hk
   simp only [← key] at c32
   exact pack_1 n _ _ _ _ w hT x s g k c31 _ _ c32
  ·by_cases h2:c=2
   ·subst h2
    have c33:=fun w=>packInfinite_any (fN n) (eN n) (leastN n) (mostN n) w s g x k hF hk
    simp only [← key] at c33
    exact pack_2 n _ _ _ _ w hT x s g k c31 _ _ c33
   ·by_cases h3:c=3
    ·subst h3
     have c34:=fun w=>packNaN_any (fN n) (eN n) (leastN n) (mostN n) w s g x k hF hk
     simp only [← key] at c34
     exact pack_3 n _ _ _ _ w hT x s g k c31 _ _ c34
    ·rw [key,if_neg (by unfold isD;simp [h1,h2,h3])]
     exact pack_0 n _ _ _ _ w hT c x s g k c31 (by simpa using h1) (by simpa using h2) (by simpa using h3)
 ·have e1:pkV n d=0:=if_neg fun h=>hb h.1
  have e2:pkE n d=1:=if_neg hb
  rw [e1,e2,Z4_eq]
  exact pack_bad n d w hT hb
def lgV (n:Int)(s:Bool):Nat:=if binN n then (2^eN n-2)*2^fN n+(2^fN n-1)+(if s then 2^(fN n+eN n) else 0) else 0
def lgE (n:Int):Int:=if binN n then 0 else 1
theorem largest_any (n:Int)(s:Bool)(w:World)(hT:Tab w) :
  CB 172 #[.int .i64 n,.bool s] w (.tuple #[A4 (lgV n s),.int .i64 (lgE n)]):=by
 unfold lgV lgE
 by_cases hb:binN n
 ·have hF:=bin_fm hb
  rw [if_pos hb,if_pos hb]
  have hf:=hF.f240
  have hp:=pow_e hF.e2 hF.e15
  have hpc:((2:Int)^eN n)=((2^eN n:Nat):Int):=by simp
  rw [hpc] at hp
  have hp1:1<=2^fN n:=Nat.one_le_two_pow
  have hp2:2^fN n<=2^(fN n+1):=Nat.pow_le_pow_right (by decide) (by omega)
  have h256:2^fN n<2^256:=Nat.pow_lt_pow_right (by decide) (by omega)
  have c39:=fun w=>sub4 (2^fN n) (2^0) w h256 (by decide)
  rw [A4_sub (show 2^0<=2^fN n from hp1),if_neg (show ¬ 2^fN n<2^0 by omega)] at c39
  have c40:=fun w=>join_any (fN n) (eN n) (leastN n) (mostN n) s (2^eN n-2) (2^fN n-1) w hF (by omega) (by omega)
  rw [show ((2^eN n-2:Nat):Int)=((2^eN n-1:Nat):Int)-1 by omega] at c40
  have c230:=fun w=>power_any 0 w (by decide)
  exact largest_ok n _ _ _ _ w hT s (fun w hT=>layoutOf_ok n w hT hb) hf _ _ _ _ _ _ (by omega) (fun w=>power_any (fN n) w (by omega)) c230 c39 (fun w=>special_any _ _ _ _ w hF) c40
 ·rw [if_neg hb,if_neg hb,Z4_eq]
  exact largest_bad n s w hT hb
def unD (n:Int)(B:Nat):Dat:=if goodN n B then unp (fN n) (eN n) (leastN n) B else ⟨0,false,false,0,0⟩
end
end Go.Proofs.YtjfeaiaafbaobaaGreatDoor

namespace Go.Proofs.YtjfeaiaafbaobaaGreatDoor
theorem fields_of {f e S E F:Nat}(hS:S<=1)(hE:E<2^e)(hF:F<2^f) :
  (E*2^f+F+S*2^(f+e))%2^f=F/\(E*2^f+F+S*2^(f+e))/2^f%2^e=E/\(E*2^f+F+S*2^(f+e))/2^(f+e)=S/\E*2^f+F+S*2^(f+e)<2^(f+e+1):=by
 have hP:0<2^f:=Nat.two_pow_pos f
 have hR:0<2^e:=Nat.two_pow_pos e
 have e1:E*2^f+F+S*2^(f+e)=F+(E+S*2^e)*2^f:=by
  rw [Nat.pow_add,Nat.add_mul,Nat.mul_assoc,Nat.mul_comm (2^e) (2^f)];omega
 have d1:(E*2^f+F+S*2^(f+e))/2^f=E+S*2^e:=by
  rw [e1,Nat.add_mul_div_right _ _ hP,Nat.div_eq_of_lt hF,Nat.zero_add]
 have d2:(E*2^f+F+S*2^(f+e))/2^(f+e)=S:=by
  rw [Nat.pow_add,← Nat.div_div_eq_div_mul,← Nat.pow_add,d1,Nat.add_mul_div_right _ _ hR,Nat.div_eq_of_lt hE,Nat.zero_add]
 refine ⟨?_,?_,d2,?_⟩
 ·rw [e1,Nat.add_mul_mod_self_right,Nat.mod_eq_of_lt hF]
 ·rw [d1,Nat.add_mul_mod_self_right,Nat.mod_eq_of_lt hE]
 ·have hp:0<2^(f+e):=Nat.two_pow_pos _
  refine Nat.lt_of_div_lt_div (c:=2^(f+e)) ?_
  rw [d2,Nat.pow_succ,Nat.mul_comm,Nat.mul_div_cancel _ hp]
  omega
theorem sg_of {f e S E F:Nat}(hS:S<=1)(hE:E<2^e)(hF:F<2^f):sgB f e (E*2^f+F+S*2^(f+e))=decide (S=1):=by
 unfold sgB
 rw [(fields_of hS hE hF).2.2.1]
 have:S=0∨S=1:=by omega
 rcases this with rfl|rfl<;>rfl
def mean (f e:Nat)(l:Int)(S E F:Nat):Dat :=
 if E=2^e-1 then spc f (decide (S=1)) F else if E=0 then ⟨1,decide (S=1),false,l,F⟩ else ⟨1,decide (S=1),false,l+((E:Int)-1),F+2^f⟩
theorem unp_mean {f e S E F:Nat}(l:Int)(hS:S<=1)(hE:E<2^e)(hF:F<2^f):unp f e l (E*2^f+F+S*2^(f+e))=mean f e l S E F:=by
 unfold unp mean
 obtain ⟨h1,h2,_,_⟩:=fields_of hS hE hF
 rw [h1,h2,sg_of hS hE hF]
theorem half {f:Nat}(h:2<=f):2^(f-1)+2^(f-1)=2^f/\1<=2^(f-1):=by
 refine ⟨?_,Nat.one_le_two_pow⟩
 have:f=f-1+1:=by omega
 conv=>rhs;rw [this,Nat.pow_succ]
 omega
theorem pk_mean {f e:Nat}{l m:Int}{d:Dat}(h:Fm f e l m)(hd:isD f l m d):∃ S E F,S<=1/\E<2^e/\F<2^f/\pk f e l d=E*2^f+F+S*2^(f+e)/\mean f e l S E F=d:=by
 have hp:=pow_e h.e2 h.e15
 have hpc:((2:Int)^e)=((2^e:Nat):Int):=by simp
 have hm:=h.m
 rw [hpc] at hp hm
 have hh:=half h.f2
 have hs1:2^(f+1)=2^f+2^f:=by rw [Nat.pow_succ];omega
 obtain ⟨c,s,g,x,k⟩:=d
 have hsg:∃ S,S<=1/\decide (S=1)=s/\∀ X,(if s then X else 0)=S*X:=by
  cases s
  ·exact ⟨0,by decide,rfl,fun X=>by simp⟩
  ·exact ⟨1,by decide,rfl,fun X=>by simp⟩
 obtain ⟨S,hS,hs,hsX⟩:=hsg
 rcases hd with ⟨hc,hg,hk,hx1,hx2,hx3⟩|⟨hc,hg,hx,hk⟩|⟨hc,hx,hk,hg⟩
 ·dsimp only at hc hg hk hx1 hx2 hx3
  subst hc hg
  by_cases hf:2^f<=k
  ·refine ⟨S,(x-l).toNat+1,k-2^f,hS,by omega,by omega,?_,?_⟩
   ·unfold pk
    simp only [if_true,hsX]
    rw [Nat.add_mul];omega
   ·unfold mean
    rw [if_neg (by omega),if_neg (by omega),hs,Nat.sub_add_cancel hf]
    congr 1
    omega
  ·obtain rfl:x=l:=by omega
   refine ⟨S,0,k,hS,by omega,by omega,?_,?_⟩
   ·unfold pk
    simp only [if_true,hsX,Int.sub_self,Int.toNat_zero]
   ·unfold mean
    rw [if_neg (by omega),if_pos rfl,hs]
 ·dsimp only at hc hg hx hk
  subst hc hg hx hk
  refine ⟨S,2^e-1,0,hS,by omega,by omega,?_,?_⟩
  ·unfold pk
   simp only [show ¬ ((2:Int)=1) by decide,if_false,if_true,hsX]
  ·unfold mean spc
   rw [if_pos rfl,if_pos rfl,hs]
 ·dsimp only at hc hx hk hg
  subst hc hx
  cases g with
  | true =>
   have hk0:k≠0:=hg.resolve_right (by decide)
   refine ⟨S,2^e-1,k,hS,by omega,by omega,?_,?_⟩
   ·unfold pk
    simp only [show ¬ ((3:Int)=1) by decide,show ¬ ((3:Int)=2) by decide,if_false,if_true,hsX]
   ·unfold mean spc
    rw [if_pos rfl,if_neg hk0,if_pos hk,hs]
  | false =>
   refine ⟨S,2^e-1,k+2^(f-1),hS,by omega,by omega,?_,?_⟩
   ·unfold pk
    simp only [show ¬ ((3:Int)=1) by decide,show ¬ ((3:Int)=2) by decide,if_false,Bool.false_eq_true,hsX]
   ·unfold mean spc
    rw [if_pos rfl,if_neg (by omega),if_neg (by omega),hs,Nat.add_sub_cancel]
theorem good_256 {n:Int}{B:Nat}(h:goodN n B):B<2^256:=by
 have:=(bin_fm h.1).fe
 exact Nat.lt_of_lt_of_le h.2 (Nat.pow_le_pow_right (by decide) (by omega))
theorem back_pk {n:Int}{d:Dat}(h:pkE n d=0):goodN n (pkV n d)/\unD n (pkV n d)=d:=by
 have hb:binN n:=by
  unfold pkE at h
  by_cases hb:binN n
  ·exact hb
  ·rw [if_neg hb] at h;cases h
 have hi:isD (fN n) (leastN n) (mostN n) d:=by
  unfold pkE at h
  rw [if_pos hb] at h
  by_cases hi:isD (fN n) (leastN n) (mostN n) d
  ·exact hi
  ·rw [if_neg hi] at h;cases h
 have hF:=bin_fm hb
 obtain ⟨S,E,F,hS,hE,hFr,hB,hm⟩:=pk_mean hF hi
 have hv:pkV n d=E*2^fN n+F+S*2^(fN n+eN n):=by
  unfold pkV;rw [if_pos ⟨hb,hi⟩,hB]
 have hg:goodN n (pkV n d):=⟨hb,by rw [hv];exact (fields_of hS hE hFr).2.2.2⟩
 refine ⟨hg,?_⟩
 unfold unD
 rw [if_pos hg,hv,unp_mean _ hS hE hFr,hm]
theorem pkV_256 (n:Int)(d:Dat):pkV n d<2^256:=by
 by_cases h:pkE n d=0
 ·exact good_256 (back_pk h).1
 ·have:pkV n d=0:=by
   unfold pkV pkE at *
   by_cases hb:binN n
   ·rw [if_pos hb] at h
    by_cases hi:isD (fN n) (leastN n) (mostN n) d
    ·rw [if_pos hi] at h;exact absurd rfl h
    ·exact if_neg fun hh=>hi hh.2
   ·exact if_neg fun hh=>hb hh.1
  rw [this];decide
end Go.Proofs.YtjfeaiaafbaobaaGreatDoor

namespace Go.Proofs.YtjfeaiaafbaobaaGreatDoor
open Go.RowKit
section
abbrev DI (n:Int)(nm:ByteArray)(wd:Int)(f e:Nat)(l m:Int):Value:=.agg #[.int .i64 n,.string nm,.int .i64 2,.int .i64 wd,.int .i64 ((f:Int)+1),.int .i64 e,.int .i64 l,.int .i64 m,.int .i64 ((f:Int)-1),.bool false]
theorem copy0 (W:World)(d a:Option Addr)(cap:Nat):Sem.run Tryz.prog (Builtin.copy_ #[40,40] 3 #[.slice d 4 4,.slice a 0 cap]) W=.ok (.int .i64 0) W :=
 run_copy_none (P:=Tryz.prog) W 40 40 3 22 d a 4 4 0 cap Tryz.underlying40 (by kernel_rfl) rfl
theorem copy1 (W:World)(g b off cap:Nat)(v0:Int)(h0:W.cell? ⟨b,off,none⟩=some (.int .u64 v0))(c0:(W.cell? ⟨g,4,none⟩).isSome=true)(f0:W.frozen? ⟨g,4,none⟩=false) :
  Sem.run Tryz.prog (Builtin.copy_ #[40,40] 3 #[.slice (some ⟨g,4,none⟩) 4 4,.slice (some ⟨b,off,none⟩) 1 cap]) W=.ok (.int .i64 1) (W.setCell ⟨g,4,none⟩ (.int .u64 v0)):=by
 have:=run_copy_cells (P:=Tryz.prog) W 40 40 3 22 g 4 4 4 ⟨b,off,none⟩ 1 cap [.int .u64 v0] Tryz.underlying40 (by kernel_rfl) rfl ?_ ?_ ?_ ?_
 ·exact this
 ·intro j v
  match j,v with
  | 0,_=>intro h;cases h;simpa [Addr.add] using h0
  | (j+1),_=>intro h;simp at h
 ·intro j hj
  match j,hj with
  | 0,_=>simpa using c0
  | (j+1),h=>exact absurd h (by simp only [List.length_cons,List.length_nil];omega)
 ·intro j hj
  match j,hj with
  | 0,_=>simpa using f0
  | (j+1),h=>exact absurd h (by simp only [List.length_cons,List.length_nil];omega)
 ·intro v hv
  simp at hv
  first|(subst hv;rfl)|(rcases hv with rfl|rfl<;>rfl)|(rcases hv with rfl|rfl|rfl<;>rfl)|(rcases hv with rfl|rfl|rfl|rfl<;>rfl)
theorem copy2 (W:World)(g b off cap:Nat)(v0 v1:Int)(h0:W.cell? ⟨b,off,none⟩=some (.int .u64 v0))(h1:W.cell? ⟨b,off+1,none⟩=some (.int .u64 v1))(c0:(W.cell? ⟨g,4,none⟩).isSome=true)(f0:W.frozen? ⟨g,4,none⟩=false)(c1:(W.cell? ⟨g,5,none⟩).isSome=true)(f1:W.frozen? ⟨g,5,none⟩=false) :
  Sem.run Tryz.prog (Builtin.copy_ #[40,40] 3 #[.slice (some ⟨g,4,none⟩) 4 4,.slice (some ⟨b,off,none⟩) 2 cap]) W=.ok (.int .i64 2) ((W.setCell ⟨g,4,none⟩ (.int .u64 v0)).setCell ⟨g,5,none⟩ (.int .u64 v1)):=by
 have:=run_copy_cells (P:=Tryz.prog) W 40 40 3 22 g 4 4 4 ⟨b,off,none⟩ 2 cap [.int .u64 v0,.int .u64 v1] Tryz.underlying40 (by kernel_rfl) rfl ?_ ?_ ?_ ?_
 ·exact this
 ·intro j v
  match j,v with
  | 0,_=>intro h;cases h;simpa [Addr.add] using h0
  | 1,_=>intro h;cases h;simpa [Addr.add] using h1
  | (j+2),_=>intro h;simp at h
 ·intro j hj
  match j,hj with
  | 0,_=>simpa using c0
  | 1,_=>simpa using c1
  | (j+2),h=>exact absurd h (by simp only [List.length_cons,List.length_nil];omega)
 ·intro j hj
  match j,hj with
  | 0,_=>simpa using f0
  | 1,_=>simpa using f1
  | (j+2),h=>exact absurd h (by simp only [List.length_cons,List.length_nil];omega)
 ·intro v hv
  simp at hv
  first|(subst hv;rfl)|(rcases hv with rfl|rfl<;>rfl)|(rcases hv with rfl|rfl|rfl<;>rfl)|(rcases hv with rfl|rfl|rfl|rfl<;>rfl)
theorem copy3 (W:World)(g b off cap:Nat)(v0 v1 v2:Int)(h0:W.cell? ⟨b,off,none⟩=some (.int .u64 v0))(h1:W.cell? ⟨b,off+1,none⟩=some (.int .u64 v1))(h2:W.cell? ⟨b,off+2,none⟩=some (.int .u64 v2))(c0:(W.cell? ⟨g,4,none⟩).isSome=true)(f0:W.frozen? ⟨g,4,none⟩=false)(c1:(W.cell? ⟨g,5,none⟩).isSome=true)(f1:W.frozen? ⟨g,5,none⟩=false)(c2:(W.cell? ⟨g,6,none⟩).isSome=true)(f2:W.frozen? ⟨g,6,none⟩=false) :
  Sem.run Tryz.prog (Builtin.copy_ #[40,40] 3 #[.slice (some ⟨g,4,none⟩) 4 4,.slice (some ⟨b,off,none⟩) 3 cap]) W=.ok (.int .i64 3) (((W.setCell ⟨g,4,none⟩ (.int .u64 v0)).setCell ⟨g,5,none⟩ (.int .u64 v1)).setCell ⟨g,6,none⟩ (.int .u64 v2)):=by
 have:=run_copy_cells (P:=Tryz.prog) W 40 40 3 22 g 4 4 4 ⟨b,off,none⟩ 3 cap [.int .u64 v0,.int .u64 v1,.int .u64 v2] Tryz.underlying40 (by kernel_rfl) rfl ?_ ?_ ?_ ?_
 ·exact this
 ·intro j v
  match j,v with
  | 0,_=>intro h;cases h;simpa [Addr.add] using h0
  | 1,_=>intro h;cases h;simpa [Addr.add] using h1
  | 2,_=>intro h;cases h;simpa [Addr.add] using h2
  | (j+3),_=>intro h;simp at h
 ·intro j hj
  match j,hj with
  | 0,_=>simpa using c0
  | 1,_=>simpa using c1
  | 2,_=>simpa using c2
  | (j+3),h=>exact absurd h (by simp only [List.length_cons,List.length_nil];omega)
 ·intro j hj
  match j,hj with
  | 0,_=>simpa using f0
  | 1,_=>simpa using f1
  | 2,_=>simpa using f2
  | (j+3),h=>exact absurd h (by simp only [List.length_cons,List.length_nil];omega)
 ·intro v hv
  simp at hv
  first|(subst hv;rfl)|(rcases hv with rfl|rfl<;>rfl)|(rcases hv with rfl|rfl|rfl<;>rfl)|(rcases hv with rfl|rfl|rfl|rfl<;>rfl)
theorem copy4 (W:World)(g b off cap:Nat)(v0 v1 v2 v3:Int)(h0:W.cell? ⟨b,off,none⟩=some (.int .u64 v0))(h1:W.cell? ⟨b,off+1,none⟩=some (.int .u64 v1))(h2:W.cell? ⟨b,off+2,none⟩=some (.int .u64 v2))(h3:W.cell? ⟨b,off+3,none⟩=some (.int .u64 v3))(c0:(W.cell? ⟨g,4,none⟩).isSome=true)(f0:W.frozen? ⟨g,4,none⟩=false)(c1:(W.cell? ⟨g,5,none⟩).isSome=true)(f1:W.frozen? ⟨g,5,none⟩=false)(c2:(W.cell? ⟨g,6,none⟩).isSome=true)(f2:W.frozen? ⟨g,6,none⟩=false)(c3:(W.cell? ⟨g,7,none⟩).isSome=true)(f3:W.frozen? ⟨g,7,none⟩=false) :
  Sem.run Tryz.prog (Builtin.copy_ #[40,40] 3 #[.slice (some ⟨g,4,none⟩) 4 4,.slice (some ⟨b,off,none⟩) 4 cap]) W=.ok (.int .i64 4) ((((W.setCell ⟨g,4,none⟩ (.int .u64 v0)).setCell ⟨g,5,none⟩ (.int .u64 v1)).setCell ⟨g,6,none⟩ (.int .u64 v2)).setCell ⟨g,7,none⟩ (.int .u64 v3)):=by
 have:=run_copy_cells (P:=Tryz.prog) W 40 40 3 22 g 4 4 4 ⟨b,off,none⟩ 4 cap [.int .u64 v0,.int .u64 v1,.int .u64 v2,.int .u64 v3] Tryz.underlying40 (by kernel_rfl) rfl ?_ ?_ ?_ ?_
 ·exact this
 ·intro j v
  match j,v with
  | 0,_=>intro h;cases h;simpa [Addr.add] using h0
  | 1,_=>intro h;cases h;simpa [Addr.add] using h1
  | 2,_=>intro h;cases h;simpa [Addr.add] using h2
  | 3,_=>intro h;cases h;simpa [Addr.add] using h3
  | (j+4),_=>intro h;simp at h
 ·intro j hj
  match j,hj with
  | 0,_=>simpa using c0
  | 1,_=>simpa using c1
  | 2,_=>simpa using c2
  | 3,_=>simpa using c3
  | (j+4),h=>exact absurd h (by simp only [List.length_cons,List.length_nil];omega)
 ·intro j hj
  match j,hj with
  | 0,_=>simpa using f0
  | 1,_=>simpa using f1
  | 2,_=>simpa using f2
  | 3,_=>simpa using f3
  | (j+4),h=>exact absurd h (by simp only [List.length_cons,List.length_nil];omega)
 ·intro v hv
  simp at hv
  first|(subst hv;rfl)|(rcases hv with rfl|rfl<;>rfl)|(rcases hv with rfl|rfl|rfl<;>rfl)|(rcases hv with rfl|rfl|rfl|rfl<;>rfl)
attribute [local irreducible] W4
section
variable (n:Int)(nm:ByteArray)(wd:Int)(f e:Nat)(l m:Int)(s:Bool)(x fl E:Int)(R:Nat)(z:Nat->Int)(w:World)(hT:Tab w)
include hT
theorem fin_n 
  (c56:∀ W,Tab W->CB 32 #[.int .i64 n,.agg #[.int .i64 1,.bool s,.bool false,.int .i64 x,.int .u64 0,.int .u64 0,.int .u64 0,.int .u64 0]] W (.tuple #[A4 R,.int .i64 E])) :
  CB 111 #[DI n nm wd f e l m,.bool s,.slice none 0 0,.int .i64 x,.int .i64 fl] w (.tuple #[A4 R,.int .i64 fl,.int .i64 E]):=by
 have hsm:=cell_set_map
 skip
 have hcp:=copy0
 go_enter Tryz.func111,Tryz.ntmps111
 go_wp2_with (go_at_call 32;refine (c56 _ (hT.go bgo)).mono ?_;rintro r w1 ⟨rfl,hb1⟩;obtain ⟨_,_,_,_,hA1,_⟩:=wz w hb1;obtain ⟨_,_⟩:=zf hb1 (w.heap.size+1);obtain ⟨_,_⟩:=zf hb1 (w.heap.size+2);obtain ⟨_,_⟩:=zf hb1 (w.heap.size+1+1);clear hb1)
 exact bodyPost_ret (v:=.tuple #[A4 R,.int .i64 fl,.int .i64 E]) (by simp only [results,Tryz.results111];go_simp) rfl ⟨rfl,bgo⟩
theorem fin_0 (b off cap:Nat)(hb:b<w.heap.size) 
  (c56:∀ W,Tab W->CB 32 #[.int .i64 n,.agg #[.int .i64 1,.bool s,.bool false,.int .i64 x,.int .u64 0,.int .u64 0,.int .u64 0,.int .u64 0]] W (.tuple #[A4 R,.int .i64 E])) :
  CB 111 #[DI n nm wd f e l m,.bool s,.slice (some ⟨b,off,none⟩) 0 cap,.int .i64 x,.int .i64 fl] w (.tuple #[A4 R,.int .i64 fl,.int .i64 E]):=by
 have hsm:=cell_set_map
 skip
 have hcp:=copy0
 go_enter Tryz.func111,Tryz.ntmps111
 go_wp2_with (go_at_call 32;refine (c56 _ (hT.go bgo)).mono ?_;rintro r w1 ⟨rfl,hb1⟩;obtain ⟨_,_,_,_,hA1,_⟩:=wz w hb1;obtain ⟨_,_⟩:=zf hb1 (w.heap.size+1);obtain ⟨_,_⟩:=zf hb1 (w.heap.size+2);obtain ⟨_,_⟩:=zf hb1 (w.heap.size+1+1);clear hb1)
 exact bodyPost_ret (v:=.tuple #[A4 R,.int .i64 fl,.int .i64 E]) (by simp only [results,Tryz.results111];go_simp) rfl ⟨rfl,bgo⟩
theorem fin_1 (b off cap:Nat)(hb:b<w.heap.size)(h0:w.cell? ⟨b,off+0,none⟩=some (.int .u64 (z 0)))
  (c56:∀ W,Tab W->CB 32 #[.int .i64 n,.agg #[.int .i64 1,.bool s,.bool false,.int .i64 x,.int .u64 (z 0),.int .u64 0,.int .u64 0,.int .u64 0]] W (.tuple #[A4 R,.int .i64 E])) :
  CB 111 #[DI n nm wd f e l m,.bool s,.slice (some ⟨b,off,none⟩) 1 cap,.int .i64 x,.int .i64 fl] w (.tuple #[A4 R,.int .i64 fl,.int .i64 E]):=by
 have hsm:=cell_set_map
 simp only [Nat.add_zero] at h0
 have hcp:=copy1
 have e0:b<=w.heap.size:=by omega
 have e1:b<w.heap.size+1:=by omega
 have e2:b<w.heap.size+1+1:=by omega
 have e3:b<w.heap.size+2:=by omega
 have e4:b<=w.heap.size+1:=by omega
 have n0:¬ b=w.heap.size:=by omega
 have n1:¬ b=w.heap.size+1:=by omega
 have n2:¬ b=w.heap.size+1+1:=by omega
 go_enter Tryz.func111,Tryz.ntmps111
 go_wp2_with (go_at_call 32;refine (c56 _ (hT.go bgo)).mono ?_;rintro r w1 ⟨rfl,hb1⟩;obtain ⟨_,_,_,_,hA1,_⟩:=wz w hb1;obtain ⟨_,_⟩:=zf hb1 (w.heap.size+1);obtain ⟨_,_⟩:=zf hb1 (w.heap.size+2);obtain ⟨_,_⟩:=zf hb1 (w.heap.size+1+1);clear hb1)
 exact bodyPost_ret (v:=.tuple #[A4 R,.int .i64 fl,.int .i64 E]) (by simp only [results,Tryz.results111];go_simp) rfl ⟨rfl,bgo⟩
theorem fin_2 (b off cap:Nat)(hb:b<w.heap.size)(h0:w.cell? ⟨b,off+0,none⟩=some (.int .u64 (z 0)))(h1:w.cell? ⟨b,off+1,none⟩=some (.int .u64 (z 1)))
  (c56:∀ W,Tab W->CB 32 #[.int .i64 n,.agg #[.int .i64 1,.bool s,.bool false,.int .i64 x,.int .u64 (z 0),.int .u64 (z 1),.int .u64 0,.int .u64 0]] W (.tuple #[A4 R,.int .i64 E])) :
  CB 111 #[DI n nm wd f e l m,.bool s,.slice (some ⟨b,off,none⟩) 2 cap,.int .i64 x,.int .i64 fl] w (.tuple #[A4 R,.int .i64 fl,.int .i64 E]):=by
 have hsm:=cell_set_map
 simp only [Nat.add_zero] at h0
 have hcp:=copy2
 have e0:b<=w.heap.size:=by omega
 have e1:b<w.heap.size+1:=by omega
 have e2:b<w.heap.size+1+1:=by omega
 have e3:b<w.heap.size+2:=by omega
 have e4:b<=w.heap.size+1:=by omega
 have n0:¬ b=w.heap.size:=by omega
 have n1:¬ b=w.heap.size+1:=by omega
 have n2:¬ b=w.heap.size+1+1:=by omega
 go_enter Tryz.func111,Tryz.ntmps111
 go_wp2_with (go_at_call 32;refine (c56 _ (hT.go bgo)).mono ?_;rintro r w1 ⟨rfl,hb1⟩;obtain ⟨_,_,_,_,hA1,_⟩:=wz w hb1;obtain ⟨_,_⟩:=zf hb1 (w.heap.size+1);obtain ⟨_,_⟩:=zf hb1 (w.heap.size+2);obtain ⟨_,_⟩:=zf hb1 (w.heap.size+1+1);clear hb1)
 exact bodyPost_ret (v:=.tuple #[A4 R,.int .i64 fl,.int .i64 E]) (by simp only [results,Tryz.results111];go_simp) rfl ⟨rfl,bgo⟩
theorem fin_3 (b off cap:Nat)(hb:b<w.heap.size)(h0:w.cell? ⟨b,off+0,none⟩=some (.int .u64 (z 0)))(h1:w.cell? ⟨b,off+1,none⟩=some (.int .u64 (z 1)))(h2:w.cell? ⟨b,off+2,none⟩=some (.int .u64 (z 2)))
  (c56:∀ W,Tab W->CB 32 #[.int .i64 n,.agg #[.int .i64 1,.bool s,.bool false,.int .i64 x,.int .u64 (z 0),.int .u64 (z 1),.int .u64 (z 2),.int .u64 0]] W (.tuple #[A4 R,.int .i64 E])) :
  CB 111 #[DI n nm wd f e l m,.bool s,.slice (some ⟨b,off,none⟩) 3 cap,.int .i64 x,.int .i64 fl] w (.tuple #[A4 R,.int .i64 fl,.int .i64 E]):=by
 have hsm:=cell_set_map
 simp only [Nat.add_zero] at h0
 have hcp:=copy3
 have e0:b<=w.heap.size:=by omega
 have e1:b<w.heap.size+1:=by omega
 have e2:b<w.heap.size+1+1:=by omega
 have e3:b<w.heap.size+2:=by omega
 have e4:b<=w.heap.size+1:=by omega
 have n0:¬ b=w.heap.size:=by omega
 have n1:¬ b=w.heap.size+1:=by omega
 have n2:¬ b=w.heap.size+1+1:=by omega
 go_enter Tryz.func111,Tryz.ntmps111
 go_wp2_with (go_at_call 32;refine (c56 _ (hT.go bgo)).mono ?_;rintro r w1 ⟨rfl,hb1⟩;obtain ⟨_,_,_,_,hA1,_⟩:=wz w hb1;obtain ⟨_,_⟩:=zf hb1 (w.heap.size+1);obtain ⟨_,_⟩:=zf hb1 (w.heap.size+2);obtain ⟨_,_⟩:=zf hb1 (w.heap.size+1+1);clear hb1)
 exact bodyPost_ret (v:=.tuple #[A4 R,.int .i64 fl,.int .i64 E]) (by simp only [results,Tryz.results111];go_simp) rfl ⟨rfl,bgo⟩
theorem fin_4 (b off cap:Nat)(hb:b<w.heap.size)(h0:w.cell? ⟨b,off+0,none⟩=some (.int .u64 (z 0)))(h1:w.cell? ⟨b,off+1,none⟩=some (.int .u64 (z 1)))(h2:w.cell? ⟨b,off+2,none⟩=some (.int .u64 (z 2)))(h3:w.cell? ⟨b,off+3,none⟩=some (.int .u64 (z 3)))
  (c56:∀ W,Tab W->CB 32 #[.int .i64 n,.agg #[.int .i64 1,.bool s,.bool false,.int .i64 x,.int .u64 (z 0),.int .u64 (z 1),.int .u64 (z 2),.int .u64 (z 3)]] W (.tuple #[A4 R,.int .i64 E])) :
  CB 111 #[DI n nm wd f e l m,.bool s,.slice (some ⟨b,off,none⟩) 4 cap,.int .i64 x,.int .i64 fl] w (.tuple #[A4 R,.int .i64 fl,.int .i64 E]):=by
 have hsm:=cell_set_map
 simp only [Nat.add_zero] at h0
 have hcp:=copy4
 have e0:b<=w.heap.size:=by omega
 have e1:b<w.heap.size+1:=by omega
 have e2:b<w.heap.size+1+1:=by omega
 have e3:b<w.heap.size+2:=by omega
 have e4:b<=w.heap.size+1:=by omega
 have n0:¬ b=w.heap.size:=by omega
 have n1:¬ b=w.heap.size+1:=by omega
 have n2:¬ b=w.heap.size+1+1:=by omega
 go_enter Tryz.func111,Tryz.ntmps111
 go_wp2_with (go_at_call 32;refine (c56 _ (hT.go bgo)).mono ?_;rintro r w1 ⟨rfl,hb1⟩;obtain ⟨_,_,_,_,hA1,_⟩:=wz w hb1;obtain ⟨_,_⟩:=zf hb1 (w.heap.size+1);obtain ⟨_,_⟩:=zf hb1 (w.heap.size+2);obtain ⟨_,_⟩:=zf hb1 (w.heap.size+1+1);clear hb1)
 exact bodyPost_ret (v:=.tuple #[A4 R,.int .i64 fl,.int .i64 E]) (by simp only [results,Tryz.results111];go_simp) rfl ⟨rfl,bgo⟩
end
end
theorem lay_any (B A at_ K:Nat)(v:Value)(w:World)(hB:B<2^256)(hK:K<900)(ha:at_<=600)(h:NV K A v w) :
  CB 40 #[A4 B,v,.int .i64 at_] w (A4 (B+A*2^at_)):=by
 have c52:∀ W,Below w.heap.size w W->Calls Tryz.prog 26 #[v,.int .i64 at_] W fun e w'=>∃ v',e=.returned v'/\NV (K+11) (A*2^at_) v' w'/\Below W.heap.size W w':=fun W hW=>rleft_nv at_ (by omega) ha (h.next hW)
 clear h
 go_enter Tryz.func40,Tryz.ntmps40
 go_wp2
 go_region_with (first
  | (go_at_call 26;refine (c52 _ bgo).mono ?_;rintro e w1 ⟨v1,rfl,hl,hb1⟩;have hbx:=box_nv (w0:=w) (B:=B) (t:=24) hB (bnext bgo hb1);obtain ⟨_,_,_,_,hA1,_⟩:=wz w hb1;obtain ⟨_,_⟩:=zf hb1 (w.heap.size+1);clear hb1)
  | (go_at_call 27;refine (radd_nv (by decide) (by omega) hbx hl).mono ?_;rintro e w2 ⟨v2,rfl,hs,hb2⟩;obtain ⟨_,_,_,_,hA2,_⟩:=wz w hb2;obtain ⟨_,_⟩:=zf hb2 (w.heap.size+1);clear hb2)
  | (go_at_call 15;refine (bits_nv hs).mono ?_;rintro e w3 ⟨rfl,hb3⟩;obtain ⟨_,_,_,_,hA3,_⟩:=wz w hb3;obtain ⟨_,_⟩:=zf hb3 (w.heap.size+1);clear hb3))
 have hsm:=cell_set_map
 go_wp2
 exact bodyPost_ret (v:=A4 (B+A*2^at_)) (by simp only [results,Tryz.results40];go_simp) rfl ⟨rfl,bgo⟩
theorem rbinary_any (n:Int)(w:World):Calls Tryz.prog 12 #[.int .i64 n] w fun e w'=>e=.returned (.bool (decide (binN n)))/\w'=w:=by
 by_cases h1:1<=n
 ·by_cases h2:n<=6
  ·rw [decide_eq_true (show binN n from ⟨h1,h2⟩)]
   go_enter Tryz.func12,Tryz.ntmps12
   go_wp2
   go_ret
   exact ⟨rfl,rfl⟩
  ·rw [decide_eq_false (show ¬ binN n from fun h=>h2 h.2)]
   go_enter Tryz.func12,Tryz.ntmps12
   go_wp2
   go_ret
   exact ⟨rfl,rfl⟩
 ·rw [decide_eq_false (show ¬ binN n from fun h=>h1 h.1)]
  go_enter Tryz.func12,Tryz.ntmps12
  go_wp2
  go_ret
  exact ⟨rfl,rfl⟩
theorem rfits4 (n:Int)(B:Nat)(hB:B<2^256)(w:World) :
  CB 47 #[.int .i64 n,A4 B] w (.bool (decide (okN n/\B<2^(widthN n).toNat))):=by
 refine (rfits_any n (W4 B) (W4_words B) _ (A4_get B) rfl w).mono ?_
 rintro x w' ⟨rfl,hb⟩
 refine ⟨?_,hb⟩
 have hwd:=(fields_bounds n).2.1
 have e:(fitsP n (W4 B))↔(okN n/\B<2^(widthN n).toNat):=by
  unfold fitsP
  rw [lenL_low]
  have:=len4_le (k:=(widthN n).toNat) hB
  rw [show (((widthN n).toNat:Nat):Int)=widthN n by omega] at this
  rw [this]
 rw [decide_eq_decide.2 e]
section
attribute [local irreducible] W4
abbrev IV (n:Int)(nm:ByteArray)(wd:Int)(f e:Nat)(l m:Int):Value:=.agg #[.int .i64 n,.string nm,.int .i64 2,.int .i64 wd,.int .i64 ((f:Int)+1),.int .i64 e,.int .i64 l,.int .i64 m,.int .i64 ((f:Int)-1),.bool false]
theorem dat_num {w0 w:World}{c:Int}{s g:Bool}{x:Int}{k:Nat}(hb:Below (w0.alloc (.cells #[.int .i64 c,.bool s,.bool g,.int .i64 x,.int .u64 (W4 k 0),.int .u64 (W4 k 1),.int .u64 (W4 k 2),.int .u64 (W4 k 3)] 38)).heap.size (w0.alloc (.cells #[.int .i64 c,.bool s,.bool g,.int .i64 x,.int .u64 (W4 k 0),.int .u64 (W4 k 1),.int .u64 (W4 k 2),.int .u64 (W4 k 3)] 38)) w) :
  Num w (some ⟨w0.heap.size,4,none⟩) 4 4 (lowW (W4 k) 4):=by
 refine ⟨Nat.le_refl _,by unfold maxLen;omega,lowW_words (W4_words k) 4,fun i hi=>lowW_ge hi,Or.inr ⟨_,_,rfl,lt_below hb (by simp),fun i hi=>?_⟩⟩
 rw [lowW_lt hi,(hb.cell (p:=⟨w0.heap.size,4+i,none⟩) (by simp)),World.cell?_alloc_new]
 have:i=0∨i=1∨i=2∨i=3:=by omega
 rcases this with rfl|rfl|rfl|rfl<;>rfl
section
variable (n:Int)(nm:ByteArray)(wd:Int)(f e:Nat)(l m:Int)(c x:Int)(s g:Bool)(k:Nat)(L:Int)(w:World)(hf:2<=f/\f<=240)
 (c38:∀ W,Num W (some ⟨w.heap.size+1,4,none⟩) 4 4 (lowW (W4 k) 4)->CQ 78 #[.slice (some ⟨w.heap.size+1,4,none⟩) 4 4] W (.int .i64 L))
include hf c38
theorem is1_g:CB 125 #[IV n nm wd f e l m,DV 1 s true x k] w (.bool false):=by
 have hN:=dat_num (w0:=w.alloc (.cells #[.int .i64 n,.string nm,.int .i64 2,.int .i64 wd,.int .i64 ((f:Int)+1),.int .i64 e,.int .i64 l,.int .i64 m,.int .i64 ((f:Int)-1),.bool false] 34)) (c:=1) (s:=s) (g:=true) (x:=x) (k:=k) (Below.refl _ _)
 rw [World.size_alloc] at hN
 have cl:=c38 _ hN
 clear hN c38
 go_enter Tryz.func125,Tryz.ntmps125
 go_wp2_with (go_at_call 78;refine cl.mono ?_;rintro e w1 ⟨rfl,rfl⟩)
 go_ret
 exact ⟨by first|rfl|simp [*],bgo⟩
theorem is1_l (h1:¬ L<=(f:Int)+1):CB 125 #[IV n nm wd f e l m,DV 1 s false x k] w (.bool false):=by
 have hN:=dat_num (w0:=w.alloc (.cells #[.int .i64 n,.string nm,.int .i64 2,.int .i64 wd,.int .i64 ((f:Int)+1),.int .i64 e,.int .i64 l,.int .i64 m,.int .i64 ((f:Int)-1),.bool false] 34)) (c:=1) (s:=s) (g:=false) (x:=x) (k:=k) (Below.refl _ _)
 rw [World.size_alloc] at hN
 have cl:=c38 _ hN
 clear hN c38
 go_enter Tryz.func125,Tryz.ntmps125
 go_wp2_with (go_at_call 78;refine cl.mono ?_;rintro e w1 ⟨rfl,rfl⟩)
 go_ret
 exact ⟨by first|rfl|simp [*],bgo⟩
theorem is1_x (h1:L<=(f:Int)+1)(h2:¬ l<=x):CB 125 #[IV n nm wd f e l m,DV 1 s false x k] w (.bool false):=by
 have hN:=dat_num (w0:=w.alloc (.cells #[.int .i64 n,.string nm,.int .i64 2,.int .i64 wd,.int .i64 ((f:Int)+1),.int .i64 e,.int .i64 l,.int .i64 m,.int .i64 ((f:Int)-1),.bool false] 34)) (c:=1) (s:=s) (g:=false) (x:=x) (k:=k) (Below.refl _ _)
 rw [World.size_alloc] at hN
 have cl:=c38 _ hN
 clear hN c38
 go_enter Tryz.func125,Tryz.ntmps125
 go_wp2_with (go_at_call 78;refine cl.mono ?_;rintro e w1 ⟨rfl,rfl⟩)
 go_ret
 exact ⟨by first|rfl|simp [*],bgo⟩
theorem is1_m (h1:L<=(f:Int)+1)(h2:l<=x)(h3:¬ x<=m):CB 125 #[IV n nm wd f e l m,DV 1 s false x k] w (.bool false):=by
 have hN:=dat_num (w0:=w.alloc (.cells #[.int .i64 n,.string nm,.int .i64 2,.int .i64 wd,.int .i64 ((f:Int)+1),.int .i64 e,.int .i64 l,.int .i64 m,.int .i64 ((f:Int)-1),.bool false] 34)) (c:=1) (s:=s) (g:=false) (x:=x) (k:=k) (Below.refl _ _)
 rw [World.size_alloc] at hN
 have cl:=c38 _ hN
 clear hN c38
 go_enter Tryz.func125,Tryz.ntmps125
 go_wp2_with (go_at_call 78;refine cl.mono ?_;rintro e w1 ⟨rfl,rfl⟩)
 go_ret
 exact ⟨by first|rfl|simp [*],bgo⟩
theorem is1_n (h1:L<=(f:Int)+1)(h2:l<=x)(h3:x<=m)(h4:(L==(f:Int)+1)=false)(h5:(x==l)=false):CB 125 #[IV n nm wd f e l m,DV 1 s false x k] w (.bool false):=by
 have hN:=dat_num (w0:=w.alloc (.cells #[.int .i64 n,.string nm,.int .i64 2,.int .i64 wd,.int .i64 ((f:Int)+1),.int .i64 e,.int .i64 l,.int .i64 m,.int .i64 ((f:Int)-1),.bool false] 34)) (c:=1) (s:=s) (g:=false) (x:=x) (k:=k) (Below.refl _ _)
 rw [World.size_alloc] at hN
 have cl:=c38 _ hN
 clear hN c38
 go_enter Tryz.func125,Tryz.ntmps125
 go_wp2_with (go_at_call 78;refine cl.mono ?_;rintro e w1 ⟨rfl,rfl⟩)
 go_ret
 exact ⟨by first|rfl|simp [*],bgo⟩
theorem is1_a (h1:L<=(f:Int)+1)(h2:l<=x)(h3:x<=m)(h4:(L==(f:Int)+1)=true):CB 125 #[IV n nm wd f e l m,DV 1 s false x k] w (.bool true):=by
 have hN:=dat_num (w0:=w.alloc (.cells #[.int .i64 n,.string nm,.int .i64 2,.int .i64 wd,.int .i64 ((f:Int)+1),.int .i64 e,.int .i64 l,.int .i64 m,.int .i64 ((f:Int)-1),.bool false] 34)) (c:=1) (s:=s) (g:=false) (x:=x) (k:=k) (Below.refl _ _)
 rw [World.size_alloc] at hN
 have cl:=c38 _ hN
 clear hN c38
 go_enter Tryz.func125,Tryz.ntmps125
 go_wp2_with (go_at_call 78;refine cl.mono ?_;rintro e w1 ⟨rfl,rfl⟩)
 go_ret
 exact ⟨by first|rfl|simp [*],bgo⟩
theorem is1_b (h1:L<=(f:Int)+1)(h2:l<=x)(h3:x<=m)(h4:(L==(f:Int)+1)=false)(h5:(x==l)=true):CB 125 #[IV n nm wd f e l m,DV 1 s false x k] w (.bool true):=by
 have hN:=dat_num (w0:=w.alloc (.cells #[.int .i64 n,.string nm,.int .i64 2,.int .i64 wd,.int .i64 ((f:Int)+1),.int .i64 e,.int .i64 l,.int .i64 m,.int .i64 ((f:Int)-1),.bool false] 34)) (c:=1) (s:=s) (g:=false) (x:=x) (k:=k) (Below.refl _ _)
 rw [World.size_alloc] at hN
 have cl:=c38 _ hN
 clear hN c38
 go_enter Tryz.func125,Tryz.ntmps125
 go_wp2_with (go_at_call 78;refine cl.mono ?_;rintro e w1 ⟨rfl,rfl⟩)
 go_ret
 exact ⟨by first|rfl|simp [*],bgo⟩
theorem is2_g:CB 125 #[IV n nm wd f e l m,DV 2 s true x k] w (.bool false):=by
 have hN:=dat_num (w0:=w.alloc (.cells #[.int .i64 n,.string nm,.int .i64 2,.int .i64 wd,.int .i64 ((f:Int)+1),.int .i64 e,.int .i64 l,.int .i64 m,.int .i64 ((f:Int)-1),.bool false] 34)) (c:=2) (s:=s) (g:=true) (x:=x) (k:=k) (Below.refl _ _)
 rw [World.size_alloc] at hN
 have cl:=c38 _ hN
 clear hN c38
 go_enter Tryz.func125,Tryz.ntmps125
 go_wp2_with (go_at_call 78;refine cl.mono ?_;rintro e w1 ⟨rfl,rfl⟩)
 go_ret
 exact ⟨by first|rfl|simp [*],bgo⟩
theorem is2_l (h1:(L==0)=false):CB 125 #[IV n nm wd f e l m,DV 2 s false x k] w (.bool false):=by
 have hN:=dat_num (w0:=w.alloc (.cells #[.int .i64 n,.string nm,.int .i64 2,.int .i64 wd,.int .i64 ((f:Int)+1),.int .i64 e,.int .i64 l,.int .i64 m,.int .i64 ((f:Int)-1),.bool false] 34)) (c:=2) (s:=s) (g:=false) (x:=x) (k:=k) (Below.refl _ _)
 rw [World.size_alloc] at hN
 have cl:=c38 _ hN
 clear hN c38
 go_enter Tryz.func125,Tryz.ntmps125
 go_wp2_with (go_at_call 78;refine cl.mono ?_;rintro e w1 ⟨rfl,rfl⟩)
 go_ret
 exact ⟨by first|rfl|simp [*],bgo⟩
theorem is2_x (h1:(L==0)=true)(h2:(x==0)=false):CB 125 #[IV n nm wd f e l m,DV 2 s false x k] w (.bool false):=by
 have hN:=dat_num (w0:=w.alloc (.cells #[.int .i64 n,.string nm,.int .i64 2,.int .i64 wd,.int .i64 ((f:Int)+1),.int .i64 e,.int .i64 l,.int .i64 m,.int .i64 ((f:Int)-1),.bool false] 34)) (c:=2) (s:=s) (g:=false) (x:=x) (k:=k) (Below.refl _ _)
 rw [World.size_alloc] at hN
 have cl:=c38 _ hN
 clear hN c38
 go_enter Tryz.func125,Tryz.ntmps125
 go_wp2_with (go_at_call 78;refine cl.mono ?_;rintro e w1 ⟨rfl,rfl⟩)
 go_ret
 exact ⟨by first|rfl|simp [*],bgo⟩
theorem is2_a (h1:(L==0)=true)(h2:(x==0)=true):CB 125 #[IV n nm wd f e l m,DV 2 s false x k] w (.bool true):=by
 have hN:=dat_num (w0:=w.alloc (.cells #[.int .i64 n,.string nm,.int .i64 2,.int .i64 wd,.int .i64 ((f:Int)+1),.int .i64 e,.int .i64 l,.int .i64 m,.int .i64 ((f:Int)-1),.bool false] 34)) (c:=2) (s:=s) (g:=false) (x:=x) (k:=k) (Below.refl _ _)
 rw [World.size_alloc] at hN
 have cl:=c38 _ hN
 clear hN c38
 go_enter Tryz.func125,Tryz.ntmps125
 go_wp2_with (go_at_call 78;refine cl.mono ?_;rintro e w1 ⟨rfl,rfl⟩)
 go_ret
 exact ⟨by first|rfl|simp [*],bgo⟩
theorem is3_x (h2:(x==0)=false):CB 125 #[IV n nm wd f e l m,DV 3 s g x k] w (.bool false):=by
 have hN:=dat_num (w0:=w.alloc (.cells #[.int .i64 n,.string nm,.int .i64 2,.int .i64 wd,.int .i64 ((f:Int)+1),.int .i64 e,.int .i64 l,.int .i64 m,.int .i64 ((f:Int)-1),.bool false] 34)) (c:=3) (s:=s) (g:=g) (x:=x) (k:=k) (Below.refl _ _)
 rw [World.size_alloc] at hN
 have cl:=c38 _ hN
 clear hN c38
 go_enter Tryz.func125,Tryz.ntmps125
 go_wp2_with (go_at_call 78;refine cl.mono ?_;rintro e w1 ⟨rfl,rfl⟩)
 go_ret
 exact ⟨by first|rfl|simp [*],bgo⟩
theorem is3_l (h2:(x==0)=true)(h1:¬ L<=(f:Int)-1):CB 125 #[IV n nm wd f e l m,DV 3 s g x k] w (.bool false):=by
 have hN:=dat_num (w0:=w.alloc (.cells #[.int .i64 n,.string nm,.int .i64 2,.int .i64 wd,.int .i64 ((f:Int)+1),.int .i64 e,.int .i64 l,.int .i64 m,.int .i64 ((f:Int)-1),.bool false] 34)) (c:=3) (s:=s) (g:=g) (x:=x) (k:=k) (Below.refl _ _)
 rw [World.size_alloc] at hN
 have cl:=c38 _ hN
 clear hN c38
 go_enter Tryz.func125,Tryz.ntmps125
 go_wp2_with (go_at_call 78;refine cl.mono ?_;rintro e w1 ⟨rfl,rfl⟩)
 go_ret
 exact ⟨by first|rfl|simp [*],bgo⟩
theorem is3_a (h2:(x==0)=true)(h1:L<=(f:Int)-1)(h3:0<L):CB 125 #[IV n nm wd f e l m,DV 3 s g x k] w (.bool true):=by
 have hN:=dat_num (w0:=w.alloc (.cells #[.int .i64 n,.string nm,.int .i64 2,.int .i64 wd,.int .i64 ((f:Int)+1),.int .i64 e,.int .i64 l,.int .i64 m,.int .i64 ((f:Int)-1),.bool false] 34)) (c:=3) (s:=s) (g:=g) (x:=x) (k:=k) (Below.refl _ _)
 rw [World.size_alloc] at hN
 have cl:=c38 _ hN
 clear hN c38
 go_enter Tryz.func125,Tryz.ntmps125
 go_wp2_with (go_at_call 78;refine cl.mono ?_;rintro e w1 ⟨rfl,rfl⟩)
 go_ret
 exact ⟨by first|rfl|simp [*],bgo⟩
theorem is3_q (h2:(x==0)=true)(h1:L<=(f:Int)-1)(h3:¬ 0<L):CB 125 #[IV n nm wd f e l m,DV 3 s false x k] w (.bool true):=by
 have hN:=dat_num (w0:=w.alloc (.cells #[.int .i64 n,.string nm,.int .i64 2,.int .i64 wd,.int .i64 ((f:Int)+1),.int .i64 e,.int .i64 l,.int .i64 m,.int .i64 ((f:Int)-1),.bool false] 34)) (c:=3) (s:=s) (g:=false) (x:=x) (k:=k) (Below.refl _ _)
 rw [World.size_alloc] at hN
 have cl:=c38 _ hN
 clear hN c38
 go_enter Tryz.func125,Tryz.ntmps125
 go_wp2_with (go_at_call 78;refine cl.mono ?_;rintro e w1 ⟨rfl,rfl⟩)
 go_ret
 exact ⟨by first|rfl|simp [*],bgo⟩
theorem is3_s (h2:(x==0)=true)(h1:L<=(f:Int)-1)(h3:¬ 0<L):CB 125 #[IV n nm wd f e l m,DV 3 s true x k] w (.bool false):=by
 have hN:=dat_num (w0:=w.alloc (.cells #[.int .i64 n,.string nm,.int .i64 2,.int .i64 wd,.int .i64 ((f:Int)+1),.int .i64 e,.int .i64 l,.int .i64 m,.int .i64 ((f:Int)-1),.bool false] 34)) (c:=3) (s:=s) (g:=true) (x:=x) (k:=k) (Below.refl _ _)
 rw [World.size_alloc] at hN
 have cl:=c38 _ hN
 clear hN c38
 go_enter Tryz.func125,Tryz.ntmps125
 go_wp2_with (go_at_call 78;refine cl.mono ?_;rintro e w1 ⟨rfl,rfl⟩)
 go_ret
 exact ⟨by first|rfl|simp [*],bgo⟩
theorem is_0 (h1:(c==1)=false)(h2:(c==2)=false)(h3:(c==3)=false):CB 125 #[IV n nm wd f e l m,DV c s g x k] w (.bool false):=by
 have hN:=dat_num (w0:=w.alloc (.cells #[.int .i64 n,.string nm,.int .i64 2,.int .i64 wd,.int .i64 ((f:Int)+1),.int .i64 e,.int .i64 l,.int .i64 m,.int .i64 ((f:Int)-1),.bool false] 34)) (c:=c) (s:=s) (g:=g) (x:=x) (k:=k) (Below.refl _ _)
 rw [World.size_alloc] at hN
 have cl:=c38 _ hN
 clear hN c38
 go_enter Tryz.func125,Tryz.ntmps125
 go_wp2_with (go_at_call 78;refine cl.mono ?_;rintro e w1 ⟨rfl,rfl⟩)
 go_ret
 exact ⟨by first|rfl|simp [*],bgo⟩
end
theorem ris_any (n:Int)(nm:ByteArray)(wd:Int)(f e:Nat)(l m:Int)(d:Dat)(w:World)(h:Fm f e l m)(hk:d.k<2^256) :
  CB 125 #[IV n nm wd f e l m,d.v] w (.bool (decide (isD f l m d))):=by
 obtain ⟨c,s,g,x,k⟩:=d
 unfold Dat.v
 dsimp only at hk ⊢
 have hf:2<=f/\f<=240:=⟨h.f2,h.f240⟩
 have c38:∀ W,Num W (some ⟨w.heap.size+1,4,none⟩) 4 4 (lowW (W4 k) 4)->CQ 78 #[.slice (some ⟨w.heap.size+1,4,none⟩) 4 4] W (.int .i64 (lenL (W4 k) 4)):=fun W hN=>by
  have:=rlen_num (some ⟨w.heap.size+1,4,none⟩) 4 4 (lowW (W4 k) 4) W (by decide) hN
  rw [lenL_low] at this
  exact this
 have hL1:=len4_le (k:=f+1) hk
 have hL0:=len4_le (k:=f) hk
 have hLp:=len4_le (k:=f-1) hk
 have hLz:=len4_zero hk
 have hz0:0<=lenL (W4 k) 4:=by
  by_cases hz:k=0
  ·rw [hLz.2 hz];exact Int.le_refl _
  ·have:=len4_le (k:=0) hk
   have h1:¬ lenL (W4 k) 4<=((0:Nat):Int):=fun hh=>hz (by have:=this.1 hh;omega)
   omega
 rw [show ((f+1:Nat):Int)=(f:Int)+1 by omega] at hL1
 rw [show ((f-1:Nat):Int)=(f:Int)-1 by omega] at hLp
 generalize lenL (W4 k) 4=L at *
 have D:∀ (p:Prop) [Decidable p] (b:Bool),(b=true↔p)->decide p=b:=fun p _ b hb=>by
  cases b
  ·exact decide_eq_false fun hp=>by simpa using hb.2 hp
  ·exact decide_eq_true (hb.1 rfl)
 by_cases h1:c=1
 ·subst h1
  cases g with
  | true=>rw [D _ false (by unfold isD;simp)];exact is1_g n nm wd f e l m x s k L w hf c38
  | false =>
   by_cases a1:L<=(f:Int)+1
   ·by_cases a2:l<=x
    ·by_cases a3:x<=m
     ·by_cases a4:L=(f:Int)+1
      ·rw [D _ true (by unfold isD;simp;refine ⟨hL1.1 a1,a2,a3,Or.inl ?_⟩;rcases Nat.lt_or_ge k (2^f) with hh|hh;(have:=hL0.2 hh;omega);exact hh)]
       exact is1_a n nm wd f e l m x s k L w hf c38 a1 a2 a3 (by simpa using a4)
      ·by_cases a5:x=l
       ·rw [D _ true (by unfold isD;simp;exact ⟨hL1.1 a1,a2,a3,Or.inr a5⟩)]
        exact is1_b n nm wd f e l m x s k L w hf c38 a1 a2 a3 (by simpa using a4) (by simpa using a5)
       ·rw [D _ false (by unfold isD;simp;intro _ _ _;have hkf:=hL0.1 (by omega);exact ⟨by omega,a5⟩)]
        exact is1_n n nm wd f e l m x s k L w hf c38 a1 a2 a3 (by simpa using a4) (by simpa using a5)
     ·rw [D _ false (by unfold isD;simp;intro _ _ h3;exact absurd h3 a3)]
      exact is1_m n nm wd f e l m x s k L w hf c38 a1 a2 a3
    ·rw [D _ false (by unfold isD;simp;intro _ h2;exact absurd h2 a2)]
     exact is1_x n nm wd f e l m x s k L w hf c38 a1 a2
   ·rw [D _ false (by unfold isD;simp;intro h3;exact absurd (hL1.2 h3) a1)]
    exact is1_l n nm wd f e l m x s k L w hf c38 a1
 ·by_cases h2:c=2
  ·subst h2
   cases g with
   | true=>rw [D _ false (by unfold isD;simp)];exact is2_g n nm wd f e l m x s k L w hf c38
   | false =>
    by_cases a1:L=0
    ·by_cases a2:x=0
     ·rw [D _ true (by unfold isD;simp;exact ⟨a2,hLz.1 a1⟩)]
      exact is2_a n nm wd f e l m x s k L w hf c38 (by simpa using a1) (by simpa using a2)
     ·rw [D _ false (by unfold isD;simp;intro h3;exact absurd h3 a2)]
      exact is2_x n nm wd f e l m x s k L w hf c38 (by simpa using a1) (by simpa using a2)
    ·rw [D _ false (by unfold isD;simp;intro _ h3;exact a1 (hLz.2 h3))]
     exact is2_l n nm wd f e l m x s k L w hf c38 (by simpa using a1)
  ·by_cases h3:c=3
   ·subst h3
    by_cases a2:x=0
    ·by_cases a1:L<=(f:Int)-1
     ·by_cases a3:0<L
      ·rw [D _ true (by unfold isD;simp;exact ⟨a2,hLp.1 a1,Or.inl fun hh=>by rw [hLz.2 hh] at a3;omega⟩)]
       exact is3_a n nm wd f e l m x s g k L w hf c38 (by simpa using a2) a1 a3
      ·have k0:k=0:=hLz.1 (by omega)
       cases g with
       | false =>
        rw [D _ true (by unfold isD;simp;exact ⟨a2,hLp.1 a1⟩)]
        exact is3_q n nm wd f e l m x s k L w hf c38 (by simpa using a2) a1 a3
       | true =>
        rw [D _ false (by unfold isD;simp;intro _ _;exact k0)]
        exact is3_s n nm wd f e l m x s k L w hf c38 (by simpa using a2) a1 a3
     ·rw [D _ false (by unfold isD;simp;intro _ h4;exact absurd (hLp.2 h4) a1)]
      exact is3_l n nm wd f e l m x s g k L w hf c38 (by simpa using a2) a1
    ·rw [D _ false (by unfold isD;simp;intro h4;exact absurd h4 a2)]
     exact is3_x n nm wd f e l m x s g k L w hf c38 (by simpa using a2)
   ·rw [D _ false (by unfold isD;simp [h1,h2,h3])]
    exact is_0 n nm wd f e l m c x s g k L w hf c38 (by simpa using h1) (by simpa using h2) (by simpa using h3)
end
section
structure Four (w:World) (g o k:Nat):Prop where
 cell:∀ i,i<4->w.cell? ⟨g,o+i,none⟩=some (.int .u64 (W4 k i))
theorem Four.of {w:World}{g o k:Nat}(h0:w.cell? ⟨g,o+0,none⟩=some (.int .u64 (W4 k 0)))(h1:w.cell? ⟨g,o+1,none⟩=some (.int .u64 (W4 k 1)))(h2:w.cell? ⟨g,o+2,none⟩=some (.int .u64 (W4 k 2)))(h3:w.cell? ⟨g,o+3,none⟩=some (.int .u64 (W4 k 3))):Four w g o k :=
 ⟨fun i hi=>by
  have:i=0∨i=1∨i=2∨i=3:=by omega
  rcases this with rfl|rfl|rfl|rfl<;>assumption⟩
theorem Four.next {w w':World}{g o k:Nat}(h:Four w g o k)(hg:g<w.heap.size)(hb:Below w.heap.size w w'):Four w' g o k :=
 ⟨fun i hi=>by rw [hb.cell (p:=⟨g,o+i,none⟩) hg];exact h.cell i hi⟩
structure Dc (w:World) (g:Nat) (c:Int) (s b:Bool) (x:Int) (k:Nat):Prop where
 c0:w.cell? ⟨g,0,none⟩=some (.int .i64 c)
 c1:w.cell? ⟨g,1,none⟩=some (.bool s)
 c2:w.cell? ⟨g,2,none⟩=some (.bool b)
 c3:w.cell? ⟨g,3,none⟩=some (.int .i64 x)
 c4:w.cell? ⟨g,4,none⟩=some (.int .u64 (W4 k 0))
 c5:w.cell? ⟨g,5,none⟩=some (.int .u64 (W4 k 1))
 c6:w.cell? ⟨g,6,none⟩=some (.int .u64 (W4 k 2))
 c7:w.cell? ⟨g,7,none⟩=some (.int .u64 (W4 k 3))
theorem Dc.next {w w':World}{g:Nat}{c:Int}{s b:Bool}{x:Int}{k:Nat}(h:Dc w g c s b x k)(hg:g<w.heap.size)(hb:Below w.heap.size w w'):Dc w' g c s b x k :=
  ⟨by rw [hb.cell (p:=⟨g,0,none⟩) hg,h.c0],by rw [hb.cell (p:=⟨g,1,none⟩) hg,h.c1],by rw [hb.cell (p:=⟨g,2,none⟩) hg,h.c2],by rw [hb.cell (p:=⟨g,3,none⟩) hg,h.c3],
   by rw [hb.cell (p:=⟨g,4,none⟩) hg,h.c4],by rw [hb.cell (p:=⟨g,5,none⟩) hg,h.c5],by rw [hb.cell (p:=⟨g,6,none⟩) hg,h.c6],by rw [hb.cell (p:=⟨g,7,none⟩) hg,h.c7]⟩
def mo (A B i:Nat):Bool:=decide (val (W4 B) i<val (W4 A) i)
attribute [local irreducible] W4 mo
end
end Go.Proofs.YtjfeaiaafbaobaaGreatDoor

set_option maxRecDepth 100000
namespace Go.Proofs.YtjfeaiaafbaobaaGreatDoor
open Go.ChangeShapes Go.WideShapes Go.ChangeAt Go.RowKit
section
variable {H:Type}{enc:TypeId×Value->H}{W:World}{r:Reach}{base b:Nat}{sp:Nat->Bool}{held:Bool}{t:TypeId}{n:Nat}{v:Value}{d:DataW H}{p:List MemPlace}
theorem open_bits (hok:Value.okWide Tryz.prog W r base 24 v)(h:DataW.Trod enc Tryz.prog W b sp held 24 v d p):∃ A,A<2^256/\v=A4 A/\p=[]:=by
 obtain ⟨x,hx,rfl,hp⟩:=open_words Tryz.underlying24 (by kernel_rfl) hok h
 obtain ⟨A,hA,he,_⟩:=words_A4 hx
 exact ⟨A,hA,he,hp⟩
theorem bits_stay {W':World}{sp':Nat->Bool}(h:DataW.Trod enc Tryz.prog W 0 (fun _=>true) true 24 v d []):DataW.Trod enc Tryz.prog W' 0 sp' true 24 v d [] :=
 WideElems.Trod_stays Tryz.laidOut (by kernel_rfl) (of_decide_eq_true (by kernel_rfl)) h (by simp) (by simp)
end
end Go.Proofs.YtjfeaiaafbaobaaGreatDoor
