/-
  Texts that the proof leans on.
-/
import Derived.Test.YtahfkpjhlbiamaaGreatDoorJ14
import Derived.DeepKeys
import Derived.Test.YtahfkpjhlbiamaaGreatDoorJ1
import Derived.Test.YtahfkpjhlbiamaaGreatDoorJ11
import Derived.Laws.IdiomCopy
import Derived.Test.YtahfkpjhlbiamaaGreatDoorJ13
import Derived.Deep.RegionWith
import Derived.Test.YtahfkpjhlbiamaaGreatDoorJ3
import Derived.Test.YtahfkpjhlbiamaaGreatDoorJ4
import Derived.Test.YtahfkpjhlbiamaaGreatDoorJ9
import Derived.Test.YtahfkpjhlbiamaaGreatDoorJ6
import Derived.Test.YtahfkpjhlbiamaaGreatDoorJ10
import Derived.Test.YtahfkpjhlbiamaaGreatDoorJ8
import Derived.Test.YtahfkpjhlbiamaaGreatDoorRows
import Derived.ProofKit
import Derived.OpenShut
import Derived.Carry
import Derived.Deep.DeepHandedRow
import Derived.LaidLaws
import Derived.ChangeMaps5
set_option linter.unusedVariables false
set_option linter.unusedSectionVars false
set_option linter.unusedSimpArgs false
set_option maxHeartbeats 8000000
set_option maxRecDepth 20000
namespace Go.Proofs.YtahfkpjhlbiamaaGreatDoor
open Go.RowKit
theorem eq24d (d:Nat)(a0 a1 a2 a3 b0 b1 b2 b3:Int)(w:World) :
  Sem.run Tryz.prog (Op.equalIn (d+2) 24 (.agg #[.int .u64 a0,.int .u64 a1,.int .u64 a2,.int .u64 a3]) (.agg #[.int .u64 b0,.int .u64 b1,.int .u64 b2,.int .u64 b3])) w=.ok (decide (a0=b0/\a1=b1/\a2=b2/\a3=b3)) w:=by
 obtain ⟨i22,hi⟩:∃ i,Tryz.prog.info? 22=some i:=⟨_,rfl⟩
 have h:=run_equalIn_array (P:=Tryz.prog) w (d+1) (t:=24) (e:=22) (n:=4) #[.int .u64 a0,.int .u64 a1,.int .u64 a2,.int .u64 a3] #[.int .u64 b0,.int .u64 b1,.int .u64 b2,.int .u64 b3] (by kernel_rfl) hi
 refine h.trans ?_
 have hc:Tryz.prog.cellsOf 22=1:=by kernel_rfl
 rw [hc]
 simp [List.range_succ,Op.eqItems,go_sem]
 by_cases h0:a0=b0<;>by_cases h1:a1=b1<;>by_cases h2:a2=b2<;>by_cases h3:a3=b3<;>simp [h0,h1,h2,h3]
theorem zPs (a0 a1 a2 a3 b0 b1 b2 b3:Int)(w:World) :
  Sem.run Tryz.prog (Op.equalIn 10000 24 (.agg #[.int .u64 a0,.int .u64 a1,.int .u64 a2,.int .u64 a3]) (.agg #[.int .u64 b0,.int .u64 b1,.int .u64 b2,.int .u64 b3])) w=.ok (decide (a0=b0/\a1=b1/\a2=b2/\a3=b3)) w :=
 eq24d 9998 a0 a1 a2 a3 b0 b1 b2 b3 w
theorem eq27d (d:Nat)(c c':Int)(s s' g g':Bool)(x x':Int)(a0 a1 a2 a3 b0 b1 b2 b3:Int)(w:World) :
  Sem.run Tryz.prog (Op.equalIn (d+2+1) 32 (.agg #[.int .i64 c,.bool s,.bool g,.int .i64 x,.int .u64 a0,.int .u64 a1,.int .u64 a2,.int .u64 a3]) (.agg #[.int .i64 c',.bool s',.bool g',.int .i64 x',.int .u64 b0,.int .u64 b1,.int .u64 b2,.int .u64 b3])) w=.ok (decide (c=c'/\s=s'/\g=g'/\x=x'/\a0=b0/\a1=b1/\a2=b2/\a3=b3)) w:=by
 have hst:Tryz.prog.stoodInHeld 32=false:=by kernel_rfl
 have h24:=eq24d d a0 a1 a2 a3 b0 b1 b2 b3 w
 have hp3:∀ (xs:Array Value) (o:Nat) (v:Value),xs[o]?=some v->Sem.run Tryz.prog (part 3 xs o) w=.ok v w:=fun xs o v h=>by simp [go_sem,part,h]
 rw [Op.equalIn]
 simp only [Sem.run_bind,run_underlying Tryz.underlying32,Result.andThen_ok]
 have hprog:Sem.run Tryz.prog program w=.ok Tryz.prog w:=rfl
 rw [hprog]
 simp only [Result.andThen_ok,hst,Bool.false_eq_true,if_false]
 simp [List.forIn_toArray,List.forIn_cons,go_sem,h24]
 by_cases h1:c=c'
 ·by_cases h2:s=s'
  ·by_cases h3:g=g'
   ·by_cases h4:x=x'
    ·by_cases h5:a0=b0<;>by_cases h6:a1=b1<;>by_cases h7:a2=b2<;>by_cases h8:a3=b3<;>simp [h1,h2,h3,h4,h5,h6,h7,h8]
    ·simp [h1,h2,h3,h4]
   ·simp [h1,h2,h3]
  ·simp [h1,h2]
 ·simp [h1]
theorem eq27 (c c':Int)(s s' g g':Bool)(x x':Int)(a0 a1 a2 a3 b0 b1 b2 b3:Int)(w:World) :
  Sem.run Tryz.prog (Op.equalIn 10000 32 (.agg #[.int .i64 c,.bool s,.bool g,.int .i64 x,.int .u64 a0,.int .u64 a1,.int .u64 a2,.int .u64 a3]) (.agg #[.int .i64 c',.bool s',.bool g',.int .i64 x',.int .u64 b0,.int .u64 b1,.int .u64 b2,.int .u64 b3])) w=.ok (decide (c=c'/\s=s'/\g=g'/\x=x'/\a0=b0/\a1=b1/\a2=b2/\a3=b3)) w :=
 eq27d 9997 c c' s s' g g' x x' a0 a1 a2 a3 b0 b1 b2 b3 w
section
section
variable (f e:Nat)(l m:Int)(w:World)(c x:Int)(s:Bool)(k:Nat)
theorem zCx:CB 51 #[LV f e l m,DV c s true x k] w (.tuple #[Z4,.int .i64 3]):=by
 go_enter Tryz.func51,Tryz.ntmps51
 go_wp2
 have hsm:=zAa
 exact bodyPost_ret (v:=.tuple #[Z4,.int .i64 3]) (by simp only [results,Tryz.results51];go_simp) rfl ⟨rfl,bgo⟩
theorem zAx (hx:(x != 0)=true):CB 51 #[LV f e l m,DV c s false x k] w (.tuple #[Z4,.int .i64 3]):=by
 go_enter Tryz.func51,Tryz.ntmps51
 go_wp2
 have hsm:=zAa
 exact bodyPost_ret (v:=.tuple #[Z4,.int .i64 3]) (by simp only [results,Tryz.results51];go_simp) rfl ⟨rfl,bgo⟩
theorem zBx (hk:decide (W4 k 0=0/\W4 k 1=0/\W4 k 2=0/\W4 k 3=0)=false):CB 51 #[LV f e l m,DV c s false 0 k] w (.tuple #[Z4,.int .i64 3]):=by
 have h24:=zPs (W4 k 0) (W4 k 1) (W4 k 2) (W4 k 3) 0 0 0 0
 rw [hk] at h24
 clear hk
 go_enter Tryz.func51,Tryz.ntmps51
 go_wp2
 have hsm:=zAa
 exact bodyPost_ret (v:=.tuple #[Z4,.int .i64 3]) (by simp only [results,Tryz.results51];go_simp) rfl ⟨rfl,bgo⟩
theorem zDu (sp:Int)(R:Nat)
  (c20:∀ w,CB 35 #[LV f e l m] w (.int .u64 sp))
  (c40:∀ w,CB 107 #[LV f e l m,.bool s,.int .u64 sp,Z4] w (A4 R)) :
  CB 51 #[LV f e l m,.agg #[.int .i64 c,.bool s,.bool false,.int .i64 0,.int .u64 0,.int .u64 0,.int .u64 0,.int .u64 0]] w (.tuple #[A4 R,.int .i64 0]):=by
 have h24:=zPs 0 0 0 0 0 0 0 0
 rw [decide_eq_true (by decide)] at h24
 go_enter Tryz.func51,Tryz.ntmps51
 go_wp2
 refine zZa 7 (by kernel_rfl) (by kernel_rfl) (by kernel_rfl) (fun _ _ d _ _ h=>by cases d<;>exact h) fun hne hcell=>?_
 simp only [List.take_succ_cons,List.take_zero,List.drop_succ_cons,List.drop_zero]
 repeat go_big_quiet_step (fail)
 go_big_quiet_step ((go_at_call 35;exact zBa _ zHa (c20 _)))
 repeat go_big_quiet_step (fail)
 go_big_quiet_step ((go_at_call 107;exact zBa _ zHa (c40 _)))
 refine wpQuiet_nil fun w1 hb1=>?_
 obtain ⟨_,_,_,_,hA1,_⟩:=wz w hb1;obtain ⟨_,_,_,_⟩:=zg hb1 (w.heap.size+1) (w.heap.size+1+1);clear hb1
 have hsm:=zAa
 go_wp2
 exact bodyPost_ret (v:=.tuple #[A4 R,.int .i64 0]) (by simp only [results,Tryz.results51];go_simp) rfl ⟨rfl,bgo⟩
end
end
section
section
variable (f e:Nat)(l m:Int)(w:World)(c x:Int)(s g:Bool)(k:Nat)(L:Int)(hf:2<=f/\f<=240)
 (c46:∀ w,CB 75 #[A4 k] w (.int .i64 L))
include hf c46
theorem zWw (hx:(x != 0)=true):CB 52 #[LV f e l m,DV c s g x k] w (.tuple #[Z4,.int .i64 3]):=by
 go_enter Tryz.func52,Tryz.ntmps52
 go_wp2
 refine zJf (by kernel_rfl) (by kernel_rfl) fun hne hcell=>?_
 repeat go_big_quiet_step (fail)
 refine wpQuiet_nil fun w1 hb1=>?_
 obtain ⟨_,_,_,_,hA1,_⟩:=wz w hb1;obtain ⟨_,_,_,_,_,_⟩:=zh hb1 (w.heap.size+1) (w.heap.size+1+1) (w.heap.size+1+1+1);clear hb1
 have hsm:=zAa
 go_wp2
 exact bodyPost_ret (v:=.tuple #[Z4,.int .i64 3]) (by simp only [results,Tryz.results52];go_simp) rfl ⟨rfl,bgo⟩
theorem zYp (hL:(f:Int)-1<L):CB 52 #[LV f e l m,DV c s g 0 k] w (.tuple #[Z4,.int .i64 3]):=by
 go_enter Tryz.func52,Tryz.ntmps52
 go_wp2
 refine zJf (by kernel_rfl) (by kernel_rfl) fun hne hcell=>?_
 repeat go_big_quiet_step (fail)
 go_big_quiet_step ((go_at_call 75;exact zBa _ zHa (c46 _)))
 repeat go_big_quiet_step (fail)
 refine wpQuiet_nil fun w1 hb1=>?_
 obtain ⟨_,_,_,_,hA1,_⟩:=wz w hb1;obtain ⟨_,_,_,_,_,_⟩:=zh hb1 (w.heap.size+1) (w.heap.size+1+1) (w.heap.size+1+1+1);clear hb1
 have hsm:=zAa
 go_wp2
 exact bodyPost_ret (v:=.tuple #[Z4,.int .i64 3]) (by simp only [results,Tryz.results52];go_simp) rfl ⟨rfl,bgo⟩
theorem zZw (hL:¬ (f:Int)-1<L)(hL0:L=0):CB 52 #[LV f e l m,DV c s true 0 k] w (.tuple #[Z4,.int .i64 3]):=by
 subst hL0
 go_enter Tryz.func52,Tryz.ntmps52
 go_wp2
 refine zJf (by kernel_rfl) (by kernel_rfl) fun hne hcell=>?_
 repeat go_big_quiet_step (fail)
 go_big_quiet_step ((go_at_call 75;exact zBa _ zHa (c46 _)))
 repeat go_big_quiet_step (fail)
 refine wpQuiet_nil fun w1 hb1=>?_
 obtain ⟨_,_,_,_,hA1,_⟩:=wz w hb1;obtain ⟨_,_,_,_,_,_⟩:=zh hb1 (w.heap.size+1) (w.heap.size+1+1) (w.heap.size+1+1+1);clear hb1
 have hsm:=zAa
 go_wp2_with (go_at_call 75;refine wk w (c46 _) ?_;intro w2 hb2 _ _ _ _ hA2 _;obtain ⟨_,_,_,_,_,_⟩:=zh hb2 (w.heap.size+1) (w.heap.size+1+1) (w.heap.size+1+1+1);clear hb2)
 exact bodyPost_ret (v:=.tuple #[Z4,.int .i64 3]) (by simp only [results,Tryz.results52];go_simp) rfl ⟨rfl,bgo⟩
theorem zYw (sp:Int)(R:Nat)(hL:¬ (f:Int)-1<L)(hL0:(L==0)=false)
  (c20:∀ w,CB 35 #[LV f e l m] w (.int .u64 sp))
  (c40:∀ w,CB 107 #[LV f e l m,.bool s,.int .u64 sp,A4 k] w (A4 R)) :
  CB 52 #[LV f e l m,DV c s true 0 k] w (.tuple #[A4 R,.int .i64 0]):=by
 go_enter Tryz.func52,Tryz.ntmps52
 go_wp2
 refine zJf (by kernel_rfl) (by kernel_rfl) fun hne hcell=>?_
 repeat go_big_quiet_step (fail)
 go_big_quiet_step ((go_at_call 75;exact zBa _ zHa (c46 _)))
 repeat go_big_quiet_step (fail)
 refine wpQuiet_nil fun w1 hb1=>?_
 obtain ⟨_,_,_,_,hA1,_⟩:=wz w hb1;obtain ⟨_,_,_,_,_,_⟩:=zh hb1 (w.heap.size+1) (w.heap.size+1+1) (w.heap.size+1+1+1);clear hb1
 have hsm:=zAa
 go_wp2_with (go_at_call 75;refine wk w (c46 _) ?_;intro w2 hb2 _ _ _ _ hA2 _;obtain ⟨_,_,_,_,_,_⟩:=zh hb2 (w.heap.size+1) (w.heap.size+1+1) (w.heap.size+1+1+1);clear hb2)
 refine zZa 7 (by kernel_rfl) (by kernel_rfl) (by kernel_rfl) (fun _ _ d _ _ h=>by cases d<;>exact h) fun hne hcell=>?_
 simp only [List.take_succ_cons,List.take_zero,List.drop_succ_cons,List.drop_zero]
 repeat go_big_quiet_step (fail)
 go_big_quiet_step ((go_at_call 35;exact zBa _ zHa (c20 _)))
 repeat go_big_quiet_step (fail)
 go_big_quiet_step ((go_at_call 107;exact zBa _ zHa (c40 _)))
 refine wpQuiet_nil fun w3 hb3=>?_
 obtain ⟨_,_,_,_,hA3,_⟩:=wz w hb3;obtain ⟨_,_,_,_,_,_⟩:=zh hb3 (w.heap.size+1) (w.heap.size+1+1) (w.heap.size+1+1+1);clear hb3
 go_wp2
 exact bodyPost_ret (v:=.tuple #[A4 R,.int .i64 0]) (by simp only [results,Tryz.results52];go_simp) rfl ⟨rfl,bgo⟩
theorem zXw (sp cr:Int)(Qb Kq R:Nat)(hL:¬ (f:Int)-1<L)
  (c47:∀ w,CB 76 #[LV f e l m] w (A4 Qb))
  (c22:∀ w,CB 37 #[A4 k,A4 Qb] w (.tuple #[A4 Kq,.int .u64 cr]))
  (c20:∀ w,CB 35 #[LV f e l m] w (.int .u64 sp))
  (c40:∀ w,CB 107 #[LV f e l m,.bool s,.int .u64 sp,A4 Kq] w (A4 R)) :
  CB 52 #[LV f e l m,DV c s false 0 k] w (.tuple #[A4 R,.int .i64 0]):=by
 go_enter Tryz.func52,Tryz.ntmps52
 go_wp2
 refine zJf (by kernel_rfl) (by kernel_rfl) fun hne hcell=>?_
 repeat go_big_quiet_step (fail)
 go_big_quiet_step ((go_at_call 75;exact zBa _ zHa (c46 _)))
 repeat go_big_quiet_step (fail)
 refine wpQuiet_nil fun w1 hb1=>?_
 obtain ⟨_,_,_,_,hA1,_⟩:=wz w hb1;obtain ⟨_,_,_,_,_,_⟩:=zh hb1 (w.heap.size+1) (w.heap.size+1+1) (w.heap.size+1+1+1);clear hb1
 have hsm:=zAa
 go_wp2
 refine zZa 4 (by kernel_rfl) (by kernel_rfl) (by kernel_rfl) (fun _ _ d _ _ h=>by cases d<;>exact h) fun hne hcell=>?_
 simp only [List.take_succ_cons,List.take_zero,List.drop_succ_cons,List.drop_zero]
 repeat go_big_quiet_step (fail)
 go_big_quiet_step ((go_at_call 76;exact zBa _ zHa (c47 _)))
 repeat go_big_quiet_step (fail)
 go_big_quiet_step ((go_at_call 37;exact zBa _ zHa (c22 _)))
 refine wpQuiet_nil fun w2 hb2=>?_
 obtain ⟨_,_,_,_,hA2,_⟩:=wz w hb2;obtain ⟨_,_,_,_,_,_⟩:=zh hb2 (w.heap.size+1) (w.heap.size+1+1) (w.heap.size+1+1+1);clear hb2
 go_wp2
 refine zZa 7 (by kernel_rfl) (by kernel_rfl) (by kernel_rfl) (fun _ _ d _ _ h=>by cases d<;>exact h) fun hne hcell=>?_
 simp only [List.take_succ_cons,List.take_zero,List.drop_succ_cons,List.drop_zero]
 repeat go_big_quiet_step (fail)
 go_big_quiet_step ((go_at_call 35;exact zBa _ zHa (c20 _)))
 repeat go_big_quiet_step (fail)
 go_big_quiet_step ((go_at_call 107;exact zBa _ zHa (c40 _)))
 refine wpQuiet_nil fun w3 hb3=>?_
 obtain ⟨_,_,_,_,hA3,_⟩:=wz w hb3;obtain ⟨_,_,_,_,_,_⟩:=zh hb3 (w.heap.size+1) (w.heap.size+1+1) (w.heap.size+1+1+1);clear hb3
 go_wp2
 exact bodyPost_ret (v:=.tuple #[A4 R,.int .i64 0]) (by simp only [results,Tryz.results52];go_simp) rfl ⟨rfl,bgo⟩
end
theorem zBj (f e:Nat)(l m:Int)(w:World)(s g:Bool)(x:Int)(k:Nat)(h:Fm f e l m)(hk:k<2^256) :
  CB 51 #[LV f e l m,DV 2 s g x k] w (if isD f l m ⟨2,s,g,x,k⟩ then .tuple #[A4 (pk f e l ⟨2,s,g,x,k⟩),.int .i64 0] else .tuple #[Z4,.int .i64 3]):=by
 cases g with
 | true =>
  rw [if_neg (by unfold isD;simp)]
  exact zCx f e l m w 2 x s k
 | false =>
  by_cases hx:x=0
  ·subst hx
   by_cases h0:k=0
   ·subst h0
    rw [if_pos (by unfold isD;simp)]
    have hp1:1<=2^e:=Nat.one_le_two_pow
    have c40:=fun w=>zJj f e l m s (2^e-1) 0 w h (by omega) (Nat.two_pow_pos _)
    rw [zBc] at c40
    have hd:DV 2 s false 0 0=.agg #[.int .i64 2,.bool s,.bool false,.int .i64 0,.int .u64 0,.int .u64 0,.int .u64 0,.int .u64 0]:=by
     unfold DV;simp only [zOa]
    rw [hd]
    exact zDu f e l m w 2 s _ _ (fun w=>zNd f e l m w h) c40
   ·rw [if_neg (by unfold isD;simp [h0])]
    refine zBx f e l m w 2 s k (decide_eq_false fun hz=>h0 ?_)
    refine zDp hk (by decide) fun i hi=>?_
    rw [zOa]
    have:i=0∨i=1∨i=2∨i=3:=by omega
    rcases this with rfl|rfl|rfl|rfl
    ·exact hz.1
    ·exact hz.2.1
    ·exact hz.2.2.1
    ·exact hz.2.2.2
  ·rw [if_neg (by unfold isD;simp [hx])]
   exact zAx f e l m w 2 x s k (by simpa using hx)
theorem zZp (f e:Nat)(l m:Int)(w:World)(s g:Bool)(x:Int)(k:Nat)(h:Fm f e l m)(hk:k<2^256) :
  CB 52 #[LV f e l m,DV 3 s g x k] w (if isD f l m ⟨3,s,g,x,k⟩ then .tuple #[A4 (pk f e l ⟨3,s,g,x,k⟩),.int .i64 0] else .tuple #[Z4,.int .i64 3]):=by
 have hf:2<=f/\f<=240:=⟨h.f2,h.f240⟩
 have c46:=fun w=>zEq k w
 have hL1:=zJg (k:=f-1) hk
 have e1:((f-1:Nat):Int)=(f:Int)-1:=by omega
 rw [e1] at hL1
 have hp1:1<=2^e:=Nat.one_le_two_pow
 have hpf:2^(f-1)*4=2^(f+1):=by rw [show (4:Nat)=2^2 by decide,← Nat.pow_add];congr 1;omega
 by_cases hx:x=0
 ·subst hx
  by_cases hL:k<2^(f-1)
  ·have hA:¬ (f:Int)-1<lenL (W4 k) 4:=Int.not_lt.2 (hL1.2 hL)
   cases g with
   | true =>
    by_cases h0:k=0
    ·rw [if_neg (by unfold isD;simp [h0])]
     exact zZw f e l m w 3 s k _ hf c46 hA ((zFf hk).2 h0)
    ·rw [if_pos (by unfold isD;exact Or.inr (Or.inr ⟨rfl,rfl,hL,Or.inl h0⟩))]
     have c40:=fun w=>zJj f e l m s (2^e-1) k w h (by omega) (by omega)
     exact zYw f e l m w 3 s k _ hf c46 _ _ hA (by rw [beq_eq_false_iff_ne];exact fun h1=>h0 ((zFf hk).1 h1)) (fun w=>zNd f e l m w h) c40
   | false =>
    rw [if_pos (by unfold isD;exact Or.inr (Or.inr ⟨rfl,rfl,hL,Or.inr rfl⟩))]
    have c40:=fun w=>zJj f e l m s (2^e-1) (k+2^(f-1)) w h (by omega) (by omega)
    exact zXw f e l m w 3 s k _ hf c46 _ _ _ _ _ hA (fun w=>zVn f e l m w h) (fun w=>zE7 k (2^(f-1)) w hk (Nat.pow_lt_pow_right (by decide) (by omega))) (fun w=>zNd f e l m w h) c40
  ·have hB:(f:Int)-1<lenL (W4 k) 4:=Int.not_le.1 fun h6=>hL (hL1.1 h6)
   rw [if_neg (by unfold isD;simp;omega)]
   exact zYp f e l m w 3 s g k _ hf c46 hB
 ·rw [if_neg (by unfold isD;simp [hx])]
  exact zWw f e l m w 3 x s g k _ hf c46 (by simpa using hx)
end
section
theorem zX2 (n:Int)(d:Dat)(w:World)(hT:Tab w)(h:¬ zHh n) :
  CB 23 #[.int .i64 n,d.v] w (.tuple #[Z4,.int .i64 1]):=by
 have c31:=fun w hT=>zUi n w hT h
 obtain ⟨c,s,g,x,k⟩:=d
 unfold Dat.v
 dsimp only
 go_enter Tryz.func23,Tryz.ntmps23
 go_wp2_with (go_at_call 49;refine wk w (c31 _ ((hT.alloc _).alloc _)) ?_;intro w1 hb1 _ _ _ _ hA1 _;obtain ⟨_,_⟩:=zf hb1 (w.heap.size+1);clear hb1)
 have hsm:=zAa
 exact bodyPost_ret (v:=.tuple #[Z4,.int .i64 1]) (by simp only [results,Tryz.results23];go_simp) rfl ⟨rfl,bgo⟩
section
variable (n:Int)(f e:Nat)(l m:Int)(w:World)(hT:Tab w)(c x:Int)(s g:Bool)(k:Nat)
 (c31:∀ w,Tab w->CB 49 #[.int .i64 n] w (.tuple #[LV f e l m,.int .i64 0]))
include hT c31
theorem pack_1 (R:Nat)(E:Int)(c32:∀ w,CB 50 #[LV f e l m,DV 1 s g x k] w (.tuple #[A4 R,.int .i64 E])) :
  CB 23 #[.int .i64 n,DV 1 s g x k] w (.tuple #[A4 R,.int .i64 E]):=by
 go_enter Tryz.func23,Tryz.ntmps23
 go_wp2_with (first
  | (go_at_call 49;refine wk w (c31 _ ((hT.alloc _).alloc _)) ?_;intro w1 hb1 _ _ _ _ hA1 _;obtain ⟨_,_⟩:=zf hb1 (w.heap.size+1);clear hb1)
  | (go_at_call 50;refine wk w (c32 _) ?_;intro w2 hb2 _ _ _ _ hA2 _;obtain ⟨_,_,_,_⟩:=zg hb2 (w.heap.size+1) w1.heap.size;clear hb2))
 have hsm:=zAa
 exact bodyPost_ret (v:=.tuple #[A4 R,.int .i64 E]) (by simp only [results,Tryz.results23];go_simp) rfl ⟨rfl,bgo⟩
theorem pack_2 (R:Nat)(E:Int)(c33:∀ w,CB 51 #[LV f e l m,DV 2 s g x k] w (.tuple #[A4 R,.int .i64 E])) :
  CB 23 #[.int .i64 n,DV 2 s g x k] w (.tuple #[A4 R,.int .i64 E]):=by
 go_enter Tryz.func23,Tryz.ntmps23
 go_wp2_with (first
  | (go_at_call 49;refine wk w (c31 _ ((hT.alloc _).alloc _)) ?_;intro w1 hb1 _ _ _ _ hA1 _;obtain ⟨_,_⟩:=zf hb1 (w.heap.size+1);clear hb1)
  | (go_at_call 51;refine wk w (c33 _) ?_;intro w2 hb2 _ _ _ _ hA2 _;obtain ⟨_,_,_,_⟩:=zg hb2 (w.heap.size+1) w1.heap.size;clear hb2))
 have hsm:=zAa
 exact bodyPost_ret (v:=.tuple #[A4 R,.int .i64 E]) (by simp only [results,Tryz.results23];go_simp) rfl ⟨rfl,bgo⟩
theorem pack_3 (R:Nat)(E:Int)(c34:∀ w,CB 52 #[LV f e l m,DV 3 s g x k] w (.tuple #[A4 R,.int .i64 E])) :
  CB 23 #[.int .i64 n,DV 3 s g x k] w (.tuple #[A4 R,.int .i64 E]):=by
 go_enter Tryz.func23,Tryz.ntmps23
 go_wp2_with (first
  | (go_at_call 49;refine wk w (c31 _ ((hT.alloc _).alloc _)) ?_;intro w1 hb1 _ _ _ _ hA1 _;obtain ⟨_,_⟩:=zf hb1 (w.heap.size+1);clear hb1)
  | (go_at_call 52;refine wk w (c34 _) ?_;intro w2 hb2 _ _ _ _ hA2 _;obtain ⟨_,_,_,_⟩:=zg hb2 (w.heap.size+1) w1.heap.size;clear hb2))
 have hsm:=zAa
 exact bodyPost_ret (v:=.tuple #[A4 R,.int .i64 E]) (by simp only [results,Tryz.results23];go_simp) rfl ⟨rfl,bgo⟩
theorem pack_0 (h1:(c==1)=false)(h2:(c==2)=false)(h3:(c==3)=false) :
  CB 23 #[.int .i64 n,DV c s g x k] w (.tuple #[Z4,.int .i64 3]):=by
 go_enter Tryz.func23,Tryz.ntmps23
 go_wp2_with (go_at_call 49;refine wk w (c31 _ ((hT.alloc _).alloc _)) ?_;intro w1 hb1 _ _ _ _ hA1 _;obtain ⟨_,_⟩:=zf hb1 (w.heap.size+1);clear hb1)
 have hsm:=zAa
 exact bodyPost_ret (v:=.tuple #[Z4,.int .i64 3]) (by simp only [results,Tryz.results23];go_simp) rfl ⟨rfl,bgo⟩
end
def pkV (n:Int)(d:Dat):Nat:=if zHh n/\isD (fN n) (zNa n) (zIb n) d then pk (fN n) (eN n) (zNa n) d else 0
def pkE (n:Int)(d:Dat):Int:=if zHh n then (if isD (fN n) (zNa n) (zIb n) d then 0 else 3) else 1
theorem zQr (n:Int)(d:Dat)(w:World)(hT:Tab w)(hk:d.k<2^256) :
  CB 23 #[.int .i64 n,d.v] w (.tuple #[A4 (pkV n d),.int .i64 (pkE n d)]):=by
 by_cases hb:zHh n
 ·have hF:=zTl hb
  have c31:=fun w hT=>zYj n w hT hb
  have key:∀ d:Dat,Value.tuple #[A4 (pkV n d),.int .i64 (pkE n d)]=if isD (fN n) (zNa n) (zIb n) d then .tuple #[A4 (pk (fN n) (eN n) (zNa n) d),.int .i64 0] else .tuple #[Z4,.int .i64 3]:=fun d=>by
   unfold pkV pkE
   by_cases hi:isD (fN n) (zNa n) (zIb n) d
   ·rw [if_pos ⟨hb,hi⟩,if_pos hb,if_pos hi,if_pos hi]
   ·rw [if_neg (fun h=>hi h.2),if_pos hb,if_neg hi,if_neg hi,zBc]
  obtain ⟨c,s,g,x,k⟩:=d
  unfold Dat.v
  dsimp only at hk ⊢
  by_cases h1:c=1
  ·subst h1
   have c32:=fun w=>zPk (fN n) (eN n) (zNa n) (zIb n) w s g x k hF hk
   simp only [← key] at c32
   exact pack_1 n _ _ _ _ w hT x s g k c31 _ _ c32
  ·by_cases h2:c=2
   ·subst h2
    have c33:=fun w=>zBj (fN n) (eN n) (zNa n) (zIb n) w s g x k hF hk
    simp only [← key] at c33
    exact pack_2 n _ _ _ _ w hT x s g k c31 _ _ c33
   ·by_cases h3:c=3
    ·subst h3
     have c34:=fun w=>zZp (fN n) (eN n) (zNa n) (zIb n) w s g x k hF hk
     simp only [← key] at c34
     exact pack_3 n _ _ _ _ w hT x s g k c31 _ _ c34
    ·rw [key,if_neg (by unfold isD;simp [h1,h2,h3])]
     exact pack_0 n _ _ _ _ w hT c x s g k c31 (by simpa using h1) (by simpa using h2) (by simpa using h3)
 ·have e1:pkV n d=0:=if_neg fun h=>hb h.1
  have e2:pkE n d=1:=if_neg hb
  rw [e1,e2,zBc]
  exact zX2 n d w hT hb
def unD (n:Int)(B:Nat):Dat:=if zRd n B then unp (fN n) (eN n) (zNa n) B else ⟨0,false,false,0,0⟩
def unE (n:Int)(B:Nat):Int:=if zRd n B then 0 else 1
theorem zYk (n:Int)(B:Nat)(w:World)(hT:Tab w)(hB:B<2^256) :
  CB 13 #[.int .i64 n,A4 B] w (.tuple #[(unD n B).v,.int .i64 (unE n B)]):=by
 unfold unD unE
 by_cases h:zRd n B
 ·rw [if_pos h,if_pos h];exact zPv n B w hT hB h
 ·rw [if_neg h,if_neg h];exact zJt n B w hT hB h
end
end Go.Proofs.YtahfkpjhlbiamaaGreatDoor

namespace Go.Proofs.YtahfkpjhlbiamaaGreatDoor
theorem zBk {f e S E F:Nat}(hS:S<=1)(hE:E<2^e)(hF:F<2^f) :
  (E*2^f+F+S*2^(f+e))%2^f=F/\(E*2^f+F+S*2^(f+e))/2^f%2^e=E/\(E*2^f+F+S*2^(f+e))/2^(f+e)=S/\E*2^f+F+S*2^(f+e)<2^(f+e+1):=by
 have hP:0<2^f:=Nat.two_pow_pos f
 have hR:0<2^e:=Nat.two_pow_pos e
 have e1:E*2^f+F+S*2^(f+e)=F+(E+S*2^e)*2^f:=by
  rw [Nat.pow_add,Nat.add_mul,Nat.mul_assoc,Nat.mul_comm (2^e) (2^f)];omega
 have d1:(E*2^f+F+S*2^(f+e))/2^f=E+S*2^e:=by
  rw [e1,Nat.add_mul_div_right _ _ hP,Nat.div_eq_of_lt hF,Nat.zero_add]
 have d2:(E*2^f+F+S*2^(f+e))/2^(f+e)=S:=by
  rw [Nat.pow_add,← Nat.div_div_eq_div_mul,← Nat.pow_add,d1,Nat.add_mul_div_right _ _ hR,Nat.div_eq_of_lt hE,Nat.zero_add]
 refine ⟨?_,?_,d2,?_⟩
 ·rw [e1,Nat.add_mul_mod_self_right,Nat.mod_eq_of_lt hF]
 ·rw [d1,Nat.add_mul_mod_self_right,Nat.mod_eq_of_lt hE]
 ·have hp:0<2^(f+e):=Nat.two_pow_pos _
  refine Nat.lt_of_div_lt_div (c:=2^(f+e)) ?_
  rw [d2,Nat.pow_succ,Nat.mul_comm,Nat.mul_div_cancel _ hp]
  omega
theorem zTy {f e B:Nat}(hB:B<2^(f+e+1)):∃ S E F,S<=1/\E<2^e/\F<2^f/\B=E*2^f+F+S*2^(f+e):=by
 refine ⟨B/2^(f+e),B/2^f%2^e,B%2^f,?_,Nat.mod_lt _ (Nat.two_pow_pos _),Nat.mod_lt _ (Nat.two_pow_pos _),?_⟩
 ·have:B/2^(f+e)<2:=Nat.div_lt_of_lt_mul (by rw [Nat.mul_comm];rw [Nat.pow_succ] at hB;omega)
  omega
 ·have h1:=Nat.div_add_mod' B (2^f)
  have h2:=Nat.div_add_mod' (B/2^f) (2^e)
  rw [Nat.div_div_eq_div_mul,← Nat.pow_add] at h2
  have h3:(B/2^(f+e)*2^e+B/2^f%2^e)*2^f=B/2^f*2^f:=by rw [h2]
  rw [Nat.add_mul,Nat.mul_assoc,Nat.mul_comm (2^e) (2^f),← Nat.pow_add] at h3
  omega
theorem sg_of {f e S E F:Nat}(hS:S<=1)(hE:E<2^e)(hF:F<2^f):sgB f e (E*2^f+F+S*2^(f+e))=decide (S=1):=by
 unfold sgB
 rw [(zBk hS hE hF).2.2.1]
 have:S=0∨S=1:=by omega
 rcases this with rfl|rfl<;>rfl
def zAs (f e:Nat)(l:Int)(S E F:Nat):Dat :=
 if E=2^e-1 then spc f (decide (S=1)) F else if E=0 then ⟨1,decide (S=1),false,l,F⟩ else ⟨1,decide (S=1),false,l+((E:Int)-1),F+2^f⟩
theorem zCr {f e S E F:Nat}(l:Int)(hS:S<=1)(hE:E<2^e)(hF:F<2^f):unp f e l (E*2^f+F+S*2^(f+e))=zAs f e l S E F:=by
 unfold unp zAs
 obtain ⟨h1,h2,_,_⟩:=zBk hS hE hF
 rw [h1,h2,sg_of hS hE hF]
theorem sel {S X:Nat}(hS:S<=1):(if decide (S=1)=true then X else 0)=S*X:=by
 have:S=0∨S=1:=by omega
 rcases this with rfl|rfl<;>simp
theorem half {f:Nat}(h:2<=f):2^(f-1)+2^(f-1)=2^f/\1<=2^(f-1):=by
 refine ⟨?_,Nat.one_le_two_pow⟩
 have:f=f-1+1:=by omega
 conv=>rhs;rw [this,Nat.pow_succ]
 omega
theorem zP3 {f e S E F:Nat}{l m:Int}(h:Fm f e l m)(hS:S<=1)(hE:E<2^e)(hF:F<2^f):isD f l m (zAs f e l S E F)/\pk f e l (zAs f e l S E F)=E*2^f+F+S*2^(f+e)/\(zAs f e l S E F).k<2^256:=by
 have hp:=zBu h.e2 h.e15
 have hpc:((2:Int)^e)=((2^e:Nat):Int):=by simp
 have hm:=h.m
 rw [hpc] at hp hm
 have hh:=half h.f2
 have h256:2^(f+1)<=2^256:=Nat.pow_le_pow_right (by decide) (by have:=h.f240;omega)
 have hs1:2^(f+1)=2^f+2^f:=by rw [Nat.pow_succ];omega
 unfold zAs
 by_cases h1:E=2^e-1
 ·rw [if_pos h1]
  unfold spc
  by_cases h2:F=0
  ·rw [if_pos h2]
   refine ⟨Or.inr (Or.inl ⟨rfl,rfl,rfl,rfl⟩),?_,by show 0<_;omega⟩
   unfold pk
   simp only [show ¬ ((2:Int)=1) by decide,if_false,if_true]
   rw [sel hS,← h1,h2]
  ·rw [if_neg h2]
   by_cases h3:F<2^(f-1)
   ·rw [if_pos h3]
    refine ⟨Or.inr (Or.inr ⟨rfl,rfl,h3,Or.inl h2⟩),?_,by show F<_;omega⟩
    unfold pk
    simp only [show ¬ ((3:Int)=1) by decide,show ¬ ((3:Int)=2) by decide,if_false,if_true]
    rw [sel hS,← h1]
   ·rw [if_neg h3]
    refine ⟨Or.inr (Or.inr ⟨rfl,rfl,by show F-2^(f-1)<_;omega,Or.inr rfl⟩),?_,by show F-2^(f-1)<_;omega⟩
    unfold pk
    simp only [show ¬ ((3:Int)=1) by decide,show ¬ ((3:Int)=2) by decide,if_false,Bool.false_eq_true]
    rw [sel hS,← h1,Nat.sub_add_cancel (by omega)]
 ·rw [if_neg h1]
  by_cases h2:E=0
  ·rw [if_pos h2]
   refine ⟨Or.inl ⟨rfl,rfl,by show F<_;omega,Int.le_refl _,by show l<=m;omega,Or.inr rfl⟩,?_,by show F<_;omega⟩
   unfold pk
   simp only [if_true,Int.sub_self,Int.toNat_zero,Nat.zero_mul]
   rw [sel hS,h2,Nat.zero_mul]
  ·rw [if_neg h2]
   refine ⟨Or.inl ⟨rfl,rfl,by show F+2^f<_;omega,by show l<=l+((E:Int)-1);omega,by show l+((E:Int)-1)<=m;omega,Or.inl (by show 2^f<=F+2^f;omega)⟩,?_,by show F+2^f<_;omega⟩
   unfold pk
   simp only [if_true]
   rw [sel hS,show (l+((E:Int)-1)-l).toNat=E-1 by omega]
   obtain ⟨E',rfl⟩:∃ E',E=E'+1:=⟨E-1,by omega⟩
   rw [Nat.add_sub_cancel,Nat.add_mul]
   omega
theorem zI9 {f e:Nat}{l m:Int}{d:Dat}(h:Fm f e l m)(hd:isD f l m d):∃ S E F,S<=1/\E<2^e/\F<2^f/\pk f e l d=E*2^f+F+S*2^(f+e)/\zAs f e l S E F=d:=by
 have hp:=zBu h.e2 h.e15
 have hpc:((2:Int)^e)=((2^e:Nat):Int):=by simp
 have hm:=h.m
 rw [hpc] at hp hm
 have hh:=half h.f2
 have hs1:2^(f+1)=2^f+2^f:=by rw [Nat.pow_succ];omega
 obtain ⟨c,s,g,x,k⟩:=d
 have hsg:∃ S,S<=1/\decide (S=1)=s/\∀ X,(if s then X else 0)=S*X:=by
  cases s
  ·exact ⟨0,by decide,rfl,fun X=>by simp⟩
  ·exact ⟨1,by decide,rfl,fun X=>by simp⟩
 obtain ⟨S,hS,hs,hsX⟩:=hsg
 rcases hd with ⟨hc,hg,hk,hx1,hx2,hx3⟩|⟨hc,hg,hx,hk⟩|⟨hc,hx,hk,hg⟩
 ·dsimp only at hc hg hk hx1 hx2 hx3
  subst hc hg
  by_cases hf:2^f<=k
  ·refine ⟨S,(x-l).toNat+1,k-2^f,hS,by omega,by omega,?_,?_⟩
   ·unfold pk
    simp only [if_true,hsX]
    rw [Nat.add_mul];omega
   ·unfold zAs
    rw [if_neg (by omega),if_neg (by omega),hs,Nat.sub_add_cancel hf]
    congr 1
    omega
  ·obtain rfl:x=l:=by omega
   refine ⟨S,0,k,hS,by omega,by omega,?_,?_⟩
   ·unfold pk
    simp only [if_true,hsX,Int.sub_self,Int.toNat_zero]
   ·unfold zAs
    rw [if_neg (by omega),if_pos rfl,hs]
 ·dsimp only at hc hg hx hk
  subst hc hg hx hk
  refine ⟨S,2^e-1,0,hS,by omega,by omega,?_,?_⟩
  ·unfold pk
   simp only [show ¬ ((2:Int)=1) by decide,if_false,if_true,hsX]
  ·unfold zAs spc
   rw [if_pos rfl,if_pos rfl,hs]
 ·dsimp only at hc hx hk hg
  subst hc hx
  cases g with
  | true =>
   have hk0:k≠0:=hg.resolve_right (by decide)
   refine ⟨S,2^e-1,k,hS,by omega,by omega,?_,?_⟩
   ·unfold pk
    simp only [show ¬ ((3:Int)=1) by decide,show ¬ ((3:Int)=2) by decide,if_false,if_true,hsX]
   ·unfold zAs spc
    rw [if_pos rfl,if_neg hk0,if_pos hk,hs]
  | false =>
   refine ⟨S,2^e-1,k+2^(f-1),hS,by omega,by omega,?_,?_⟩
   ·unfold pk
    simp only [show ¬ ((3:Int)=1) by decide,show ¬ ((3:Int)=2) by decide,if_false,Bool.false_eq_true,hsX]
   ·unfold zAs spc
    rw [if_pos rfl,if_neg (by omega),if_neg (by omega),hs,Nat.add_sub_cancel]
theorem zW3 {n:Int}{B:Nat}(h:zRd n B):B<2^256:=by
 have:=(zTl h.1).fe
 exact Nat.lt_of_lt_of_le h.2 (Nat.pow_le_pow_right (by decide) (by omega))
theorem zTq {n:Int}{d:Dat}(h:pkE n d=0):zRd n (pkV n d)/\unD n (pkV n d)=d:=by
 have hb:zHh n:=by
  unfold pkE at h
  by_cases hb:zHh n
  ·exact hb
  ·rw [if_neg hb] at h;cases h
 have hi:isD (fN n) (zNa n) (zIb n) d:=by
  unfold pkE at h
  rw [if_pos hb] at h
  by_cases hi:isD (fN n) (zNa n) (zIb n) d
  ·exact hi
  ·rw [if_neg hi] at h;cases h
 have hF:=zTl hb
 obtain ⟨S,E,F,hS,hE,hFr,hB,hm⟩:=zI9 hF hi
 have hv:pkV n d=E*2^fN n+F+S*2^(fN n+eN n):=by
  unfold pkV;rw [if_pos ⟨hb,hi⟩,hB]
 have hg:zRd n (pkV n d):=⟨hb,by rw [hv];exact (zBk hS hE hFr).2.2.2⟩
 refine ⟨hg,?_⟩
 unfold unD
 rw [if_pos hg,hv,zCr _ hS hE hFr,hm]
theorem zVw (n:Int)(d:Dat):pkV n d<2^256:=by
 by_cases h:pkE n d=0
 ·exact zW3 (zTq h).1
 ·have:pkV n d=0:=by
   unfold pkV pkE at *
   by_cases hb:zHh n
   ·rw [if_pos hb] at h
    by_cases hi:isD (fN n) (zNa n) (zIb n) d
    ·rw [if_pos hi] at h;exact absurd rfl h
    ·exact if_neg fun hh=>hi hh.2
   ·exact if_neg fun hh=>hb hh.1
  rw [this];decide
end Go.Proofs.YtahfkpjhlbiamaaGreatDoor

namespace Go.Proofs.YtahfkpjhlbiamaaGreatDoor
open Go.RowKit
section
abbrev DI (n:Int)(nm:ByteArray)(wd:Int)(f e:Nat)(l m:Int):Value:=.agg #[.int .i64 n,.string nm,.int .i64 2,.int .i64 wd,.int .i64 ((f:Int)+1),.int .i64 e,.int .i64 l,.int .i64 m,.int .i64 ((f:Int)-1),.bool false]
theorem copy0 (W:World)(d a:Option Addr)(cap:Nat):Sem.run Tryz.prog (Builtin.copy_ #[61,61] 3 #[.slice d 4 4,.slice a 0 cap]) W=.ok (.int .i64 0) W :=
 run_copy_none (P:=Tryz.prog) W 61 61 3 22 d a 4 4 0 cap Tryz.underlying61 (by kernel_rfl) rfl
theorem copy1 (W:World)(g b off cap:Nat)(v0:Int)(h0:W.cell? ⟨b,off,none⟩=some (.int .u64 v0))(c0:(W.cell? ⟨g,4,none⟩).isSome=true)(f0:W.frozen? ⟨g,4,none⟩=false) :
  Sem.run Tryz.prog (Builtin.copy_ #[61,61] 3 #[.slice (some ⟨g,4,none⟩) 4 4,.slice (some ⟨b,off,none⟩) 1 cap]) W=.ok (.int .i64 1) (W.setCell ⟨g,4,none⟩ (.int .u64 v0)):=by
 have:=run_copy_cells (P:=Tryz.prog) W 61 61 3 22 g 4 4 4 ⟨b,off,none⟩ 1 cap [.int .u64 v0] Tryz.underlying61 (by kernel_rfl) rfl ?_ ?_ ?_ ?_
 ·exact this
 ·intro j v
  match j,v with
  | 0,_=>intro h;cases h;simpa [Addr.add] using h0
  | (j+1),_=>intro h;simp at h
 ·intro j hj
  match j,hj with
  | 0,_=>simpa using c0
  | (j+1),h=>exact absurd h (by simp only [List.length_cons,List.length_nil];omega)
 ·intro j hj
  match j,hj with
  | 0,_=>simpa using f0
  | (j+1),h=>exact absurd h (by simp only [List.length_cons,List.length_nil];omega)
 ·intro v hv
  simp at hv
  first|(subst hv;rfl)|(rcases hv with rfl|rfl<;>rfl)|(rcases hv with rfl|rfl|rfl<;>rfl)|(rcases hv with rfl|rfl|rfl|rfl<;>rfl)
theorem copy2 (W:World)(g b off cap:Nat)(v0 v1:Int)(h0:W.cell? ⟨b,off,none⟩=some (.int .u64 v0))(h1:W.cell? ⟨b,off+1,none⟩=some (.int .u64 v1))(c0:(W.cell? ⟨g,4,none⟩).isSome=true)(f0:W.frozen? ⟨g,4,none⟩=false)(c1:(W.cell? ⟨g,5,none⟩).isSome=true)(f1:W.frozen? ⟨g,5,none⟩=false) :
  Sem.run Tryz.prog (Builtin.copy_ #[61,61] 3 #[.slice (some ⟨g,4,none⟩) 4 4,.slice (some ⟨b,off,none⟩) 2 cap]) W=.ok (.int .i64 2) ((W.setCell ⟨g,4,none⟩ (.int .u64 v0)).setCell ⟨g,5,none⟩ (.int .u64 v1)):=by
 have:=run_copy_cells (P:=Tryz.prog) W 61 61 3 22 g 4 4 4 ⟨b,off,none⟩ 2 cap [.int .u64 v0,.int .u64 v1] Tryz.underlying61 (by kernel_rfl) rfl ?_ ?_ ?_ ?_
 ·exact this
 ·intro j v
  match j,v with
  | 0,_=>intro h;cases h;simpa [Addr.add] using h0
  | 1,_=>intro h;cases h;simpa [Addr.add] using h1
  | (j+2),_=>intro h;simp at h
 ·intro j hj
  match j,hj with
  | 0,_=>simpa using c0
  | 1,_=>simpa using c1
  | (j+2),h=>exact absurd h (by simp only [List.length_cons,List.length_nil];omega)
 ·intro j hj
  match j,hj with
  | 0,_=>simpa using f0
  | 1,_=>simpa using f1
  | (j+2),h=>exact absurd h (by simp only [List.length_cons,List.length_nil];omega)
 ·intro v hv
  simp at hv
  first|(subst hv;rfl)|(rcases hv with rfl|rfl<;>rfl)|(rcases hv with rfl|rfl|rfl<;>rfl)|(rcases hv with rfl|rfl|rfl|rfl<;>rfl)
theorem copy3 (W:World)(g b off cap:Nat)(v0 v1 v2:Int)(h0:W.cell? ⟨b,off,none⟩=some (.int .u64 v0))(h1:W.cell? ⟨b,off+1,none⟩=some (.int .u64 v1))(h2:W.cell? ⟨b,off+2,none⟩=some (.int .u64 v2))(c0:(W.cell? ⟨g,4,none⟩).isSome=true)(f0:W.frozen? ⟨g,4,none⟩=false)(c1:(W.cell? ⟨g,5,none⟩).isSome=true)(f1:W.frozen? ⟨g,5,none⟩=false)(c2:(W.cell? ⟨g,6,none⟩).isSome=true)(f2:W.frozen? ⟨g,6,none⟩=false) :
  Sem.run Tryz.prog (Builtin.copy_ #[61,61] 3 #[.slice (some ⟨g,4,none⟩) 4 4,.slice (some ⟨b,off,none⟩) 3 cap]) W=.ok (.int .i64 3) (((W.setCell ⟨g,4,none⟩ (.int .u64 v0)).setCell ⟨g,5,none⟩ (.int .u64 v1)).setCell ⟨g,6,none⟩ (.int .u64 v2)):=by
 have:=run_copy_cells (P:=Tryz.prog) W 61 61 3 22 g 4 4 4 ⟨b,off,none⟩ 3 cap [.int .u64 v0,.int .u64 v1,.int .u64 v2] Tryz.underlying61 (by kernel_rfl) rfl ?_ ?_ ?_ ?_
 ·exact this
 ·intro j v
  match j,v with
  | 0,_=>intro h;cases h;simpa [Addr.add] using h0
  | 1,_=>intro h;cases h;simpa [Addr.add] using h1
  | 2,_=>intro h;cases h;simpa [Addr.add] using h2
  | (j+3),_=>intro h;simp at h
 ·intro j hj
  match j,hj with
  | 0,_=>simpa using c0
  | 1,_=>simpa using c1
  | 2,_=>simpa using c2
  | (j+3),h=>exact absurd h (by simp only [List.length_cons,List.length_nil];omega)
 ·intro j hj
  match j,hj with
  | 0,_=>simpa using f0
  | 1,_=>simpa using f1
  | 2,_=>simpa using f2
  | (j+3),h=>exact absurd h (by simp only [List.length_cons,List.length_nil];omega)
 ·intro v hv
  simp at hv
  first|(subst hv;rfl)|(rcases hv with rfl|rfl<;>rfl)|(rcases hv with rfl|rfl|rfl<;>rfl)|(rcases hv with rfl|rfl|rfl|rfl<;>rfl)
theorem copy4 (W:World)(g b off cap:Nat)(v0 v1 v2 v3:Int)(h0:W.cell? ⟨b,off,none⟩=some (.int .u64 v0))(h1:W.cell? ⟨b,off+1,none⟩=some (.int .u64 v1))(h2:W.cell? ⟨b,off+2,none⟩=some (.int .u64 v2))(h3:W.cell? ⟨b,off+3,none⟩=some (.int .u64 v3))(c0:(W.cell? ⟨g,4,none⟩).isSome=true)(f0:W.frozen? ⟨g,4,none⟩=false)(c1:(W.cell? ⟨g,5,none⟩).isSome=true)(f1:W.frozen? ⟨g,5,none⟩=false)(c2:(W.cell? ⟨g,6,none⟩).isSome=true)(f2:W.frozen? ⟨g,6,none⟩=false)(c3:(W.cell? ⟨g,7,none⟩).isSome=true)(f3:W.frozen? ⟨g,7,none⟩=false) :
  Sem.run Tryz.prog (Builtin.copy_ #[61,61] 3 #[.slice (some ⟨g,4,none⟩) 4 4,.slice (some ⟨b,off,none⟩) 4 cap]) W=.ok (.int .i64 4) ((((W.setCell ⟨g,4,none⟩ (.int .u64 v0)).setCell ⟨g,5,none⟩ (.int .u64 v1)).setCell ⟨g,6,none⟩ (.int .u64 v2)).setCell ⟨g,7,none⟩ (.int .u64 v3)):=by
 have:=run_copy_cells (P:=Tryz.prog) W 61 61 3 22 g 4 4 4 ⟨b,off,none⟩ 4 cap [.int .u64 v0,.int .u64 v1,.int .u64 v2,.int .u64 v3] Tryz.underlying61 (by kernel_rfl) rfl ?_ ?_ ?_ ?_
 ·exact this
 ·intro j v
  match j,v with
  | 0,_=>intro h;cases h;simpa [Addr.add] using h0
  | 1,_=>intro h;cases h;simpa [Addr.add] using h1
  | 2,_=>intro h;cases h;simpa [Addr.add] using h2
  | 3,_=>intro h;cases h;simpa [Addr.add] using h3
  | (j+4),_=>intro h;simp at h
 ·intro j hj
  match j,hj with
  | 0,_=>simpa using c0
  | 1,_=>simpa using c1
  | 2,_=>simpa using c2
  | 3,_=>simpa using c3
  | (j+4),h=>exact absurd h (by simp only [List.length_cons,List.length_nil];omega)
 ·intro j hj
  match j,hj with
  | 0,_=>simpa using f0
  | 1,_=>simpa using f1
  | 2,_=>simpa using f2
  | 3,_=>simpa using f3
  | (j+4),h=>exact absurd h (by simp only [List.length_cons,List.length_nil];omega)
 ·intro v hv
  simp at hv
  first|(subst hv;rfl)|(rcases hv with rfl|rfl<;>rfl)|(rcases hv with rfl|rfl|rfl<;>rfl)|(rcases hv with rfl|rfl|rfl|rfl<;>rfl)
attribute [local irreducible] W4
section
variable (n:Int)(nm:ByteArray)(wd:Int)(f e:Nat)(l m:Int)(s:Bool)(x fl E:Int)(R:Nat)(z:Nat->Int)(w:World)(hT:Tab w)
include hT
end
end
section
attribute [local irreducible] W4
section
variable (n:Int)(nm:ByteArray)(wd:Int)(f e:Nat)(l m d:Int)(s:Bool)(R:Nat)(E:Int)(w:World)(hT:Tab w)
include hT
end
abbrev IZ:Value:=.agg #[.int .i64 0,.string ⟨#[]⟩,.int .i64 0,.int .i64 0,.int .i64 0,.int .i64 0,.int .i64 0,.int .i64 0,.int .i64 0,.bool false]
section
variable (n d:Int)(nm:ByteArray)(wd:Int)(f e:Nat)(l m:Int)(N D:Nat)(vn vd I:Value)(w:World)(hT:Tab w)
 (c26:∀ W,Below w.heap.size w W->CQ 110 #[vn] W (.int .i64 (bl N:Int)))
 (c26d:∀ W,Below w.heap.size w W->CQ 110 #[vd] W (.int .i64 (bl D:Int)))
include hT c26 c26d
end
end
theorem zFq (B A at_ K:Nat)(v:Value)(w:World)(hB:B<2^256)(hK:K<900)(ha:at_<=600)(h:NV K A v w) :
  CB 90 #[A4 B,v,.int .i64 at_] w (A4 (B+A*2^at_)):=by
 have c52:∀ W,Below w.heap.size w W->Calls Tryz.prog 87 #[v,.int .i64 at_] W fun e w'=>∃ v',e=.returned v'/\NV (K+11) (A*2^at_) v' w'/\Below W.heap.size W w':=fun W hW=>zNr at_ (by omega) ha (h.next hW)
 clear h
 go_enter Tryz.func90,Tryz.ntmps90
 go_wp2
 go_region_with (first
  | (go_at_call 87;refine (c52 _ bgo).mono ?_;rintro e w1 ⟨v1,rfl,hl,hb1⟩;have hbx:=zSl (w0:=w) (B:=B) (t:=24) hB (zYc bgo hb1);obtain ⟨_,_,_,_,hA1,_⟩:=wz w hb1;obtain ⟨_,_⟩:=zf hb1 (w.heap.size+1);clear hb1)
  | (go_at_call 63;refine (zHg (by decide) (by omega) hbx hl).mono ?_;rintro e w2 ⟨v2,rfl,hs,hb2⟩;obtain ⟨_,_,_,_,hA2,_⟩:=wz w hb2;obtain ⟨_,_⟩:=zf hb2 (w.heap.size+1);clear hb2)
  | (go_at_call 62;refine wk w (zTd hs) ?_;intro w3 hb3 _ _ _ _ hA3 _;obtain ⟨_,_⟩:=zf hb3 (w.heap.size+1);clear hb3))
 have hsm:=zAa
 go_wp2
 exact bodyPost_ret (v:=A4 (B+A*2^at_)) (by simp only [results,Tryz.results90];go_simp) rfl ⟨rfl,bgo⟩
theorem zVp (n:Int)(w:World):Calls Tryz.prog 31 #[.int .i64 n] w fun e w'=>e=.returned (.bool (decide (zHh n)))/\w'=w:=by
 by_cases h1:1<=n
 ·by_cases h2:n<=6
  ·rw [decide_eq_true (show zHh n from ⟨h1,h2⟩)]
   go_enter Tryz.func31,Tryz.ntmps31
   go_wp2
   go_ret
   exact ⟨rfl,rfl⟩
  ·rw [decide_eq_false (show ¬ zHh n from fun h=>h2 h.2)]
   go_enter Tryz.func31,Tryz.ntmps31
   go_wp2
   go_ret
   exact ⟨rfl,rfl⟩
 ·rw [decide_eq_false (show ¬ zHh n from fun h=>h1 h.1)]
  go_enter Tryz.func31,Tryz.ntmps31
  go_wp2
  go_ret
  exact ⟨rfl,rfl⟩
theorem zY5 (n:Int)(B:Nat)(hB:B<2^256)(w:World) :
  CB 32 #[.int .i64 n,A4 B] w (.bool (decide (okN n/\B<2^(zUa n).toNat))):=by
 refine (zRw n (W4 B) (zJa B) _ (zY0 B) rfl w).mono ?_
 rintro x w' ⟨rfl,hb⟩
 refine ⟨?_,hb⟩
 have hwd:=(zHd n).2.1
 have e:(zXh n (W4 B))↔(okN n/\B<2^(zUa n).toNat):=by
  unfold zXh
  rw [zEs]
  have:=zJg (k:=(zUa n).toNat) hB
  rw [show (((zUa n).toNat:Nat):Int)=zUa n by omega] at this
  rw [this]
 rw [decide_eq_decide.2 e]
theorem zUn (n:Int)(B:Nat)(hB:B<2^256)(w:World) :
  CB 12 #[.int .i64 n,A4 B] w (.bool (decide (zRd n B))):=by
 have c35:=fun w=>zVp n w
 have c50:=fun w=>zY5 n B hB w
 by_cases hb:zHh n
 ·have hF:=zTf hb
  rw [decide_eq_true hb] at c35
  have e:(okN n/\B<2^(zUa n).toNat)↔zRd n B:=by
   rw [hF.2.2.2.2.1,Int.toNat_natCast]
   exact ⟨fun h=>⟨hb,h.2⟩,fun h=>⟨hF.1,h.2⟩⟩
  rw [decide_eq_decide.2 e] at c50
  generalize decide (zRd n B)=D at *
  clear hF e hb hB
  go_enter Tryz.func12,Tryz.ntmps12
  go_wp2_with (first
   | (go_at_call 31;refine (c35 _).mono ?_;rintro e w1 ⟨rfl,rfl⟩)
   | (go_at_call 32;refine (c50 _).mono ?_;rintro e w2 ⟨rfl,hb2⟩))
  go_ret
  exact ⟨rfl,zYc bgo hb2⟩
 ·rw [decide_eq_false hb] at c35
  rw [decide_eq_false (show ¬ zRd n B from fun h=>hb h.1)]
  clear hb hB c50
  go_enter Tryz.func12,Tryz.ntmps12
  go_wp2_with (go_at_call 31;refine (c35 _).mono ?_;rintro e w1 ⟨rfl,rfl⟩)
  go_ret
  exact ⟨rfl,bgo⟩
section
attribute [local irreducible] W4
abbrev IV (n:Int)(nm:ByteArray)(wd:Int)(f e:Nat)(l m:Int):Value:=.agg #[.int .i64 n,.string nm,.int .i64 2,.int .i64 wd,.int .i64 ((f:Int)+1),.int .i64 e,.int .i64 l,.int .i64 m,.int .i64 ((f:Int)-1),.bool false]
end
section
theorem NT.stays (K V:Nat):zX0 (NT K V):=fun v w w' h hb=>h.next hb
section
variable {a:Act}{w:World}{K:Act->World->Prop}{Q:Exit->Act->World->Prop}{d p q r:Nat}{ty:TypeId}{pos:String}{after:Array Edge}{gd:Option (Nat×Bool)}
end
end
section
theorem zWn (a:Act):∀ (D:List Nat) (b:Act),(D.foldl (fun b d=>b.put (some d) (slot a d)) b).tmps.size=b.tmps.size/\(D.foldl (fun b d=>b.put (some d) (slot a d)) b).defers=b.defers/\∀ t,t<b.tmps.size->slot (D.foldl (fun b d=>b.put (some d) (slot a d)) b) t=if t ∈ D then slot a t else slot b t
 | [],b=>⟨rfl,rfl,fun t ht=>by simp⟩
 | d::D,b=>by
  obtain ⟨h1,h2,h3⟩:=zWn a D (b.put (some d) (slot a d))
  have hs:(b.put (some d) (slot a d)).tmps.size=b.tmps.size:=by simp [Act.put]
  refine ⟨h1.trans hs,h2,fun t ht=>?_⟩
  rw [List.foldl_cons,h3 t (by rw [hs];exact ht)]
  by_cases hD:t ∈ D
  ·rw [if_pos hD,if_pos (List.mem_cons_of_mem _ hD)]
  ·rw [if_neg hD]
   by_cases hd:t=d
   ·subst hd
    rw [if_pos List.mem_cons_self,zRg ht]
   ·rw [if_neg (by simp [hd,hD]),zCc (fun h=>hd h.symm)]
theorem zBt {a a0:Act}(D:List Nat)(n:Nat)(hn:D.length=n)(hsz:a.tmps.size=a0.tmps.size)(hdf:a.defers=a0.defers)(hF:∀ t,(∀ i,i<n->D.getD i 0≠t)->slot a t=slot a0 t) :
  a=D.foldl (fun b d=>b.put (some d) (slot a d)) a0:=by
 obtain ⟨h1,h2,h3⟩:=zWn a D a0
 generalize D.foldl (fun b d=>b.put (some d) (slot a d)) a0=b at *
 have key:∀ t,t<a0.tmps.size->slot a t=slot b t:=fun t ht=>by
  rw [h3 t ht]
  by_cases hD:t ∈ D
  ·rw [if_pos hD]
  ·rw [if_neg hD]
   refine hF t fun i hi e=>hD ?_
   rw [← e,List.getD_eq_getElem?_getD,List.getElem?_eq_getElem (by omega)]
   exact List.getElem_mem _
 have ht:a.tmps=b.tmps:=by
  apply Array.ext (by omega)
  intro i h4 h5
  have:=key i (by omega)
  unfold slot at this
  rw [Array.getElem?_eq_getElem h4,Array.getElem?_eq_getElem h5] at this
  exact this
 cases a;cases b
 simp only at ht hdf h2 ⊢
 rw [ht,hdf,h2]
attribute [local irreducible] W4 NT NV
section
variable (n:Int)(B:Nat)(f e Fr En S:Nat)(l m pay wd:Int)(nm:ByteArray)(w:World)(hf:2<=f/\f<=240)(he:e<=15)(hEn:En<9223372036854775808)(hS9:S<9223372036854775808)
 (c24:∀ w,CB 12 #[.int .i64 n,A4 B] w (.bool true))
 (c25:∀ w,CB 20 #[.int .i64 n] w (.tuple #[.agg #[.int .i64 n,.string nm,.int .i64 2,.int .i64 wd,.int .i64 ((f:Int)+1),.int .i64 e,.int .i64 l,.int .i64 m,.int .i64 pay,.bool false],.int .i64 0]))
 (c0:∀ w,CE 60 #[A4 B,.int .i64 0,.int .i64 f] w (NT 19 Fr))
 (c1:∀ w,CE 60 #[A4 B,.int .i64 f,.int .i64 e] w (NT 19 En))
 (c26:∀ w,CE 60 #[A4 B,.int .i64 ((f:Int)+e),.int .i64 1] w (NT 19 S))
include hf he hEn hS9 c24 c25 c0 c1 c26
end
end
section
structure Four (w:World) (g o k:Nat):Prop where
 cell:∀ i,i<4->w.cell? ⟨g,o+i,none⟩=some (.int .u64 (W4 k i))
theorem Four.of {w:World}{g o k:Nat}(h0:w.cell? ⟨g,o+0,none⟩=some (.int .u64 (W4 k 0)))(h1:w.cell? ⟨g,o+1,none⟩=some (.int .u64 (W4 k 1)))(h2:w.cell? ⟨g,o+2,none⟩=some (.int .u64 (W4 k 2)))(h3:w.cell? ⟨g,o+3,none⟩=some (.int .u64 (W4 k 3))):Four w g o k :=
 ⟨fun i hi=>by
  have:i=0∨i=1∨i=2∨i=3:=by omega
  rcases this with rfl|rfl|rfl|rfl<;>assumption⟩
theorem Four.next {w w':World}{g o k:Nat}(h:Four w g o k)(hg:g<w.heap.size)(hb:Below w.heap.size w w'):Four w' g o k :=
 ⟨fun i hi=>by rw [hb.cell (p:=⟨g,o+i,none⟩) hg];exact h.cell i hi⟩
structure Dc (w:World) (g:Nat) (c:Int) (s b:Bool) (x:Int) (k:Nat):Prop where
 c0:w.cell? ⟨g,0,none⟩=some (.int .i64 c)
 c1:w.cell? ⟨g,1,none⟩=some (.bool s)
 c2:w.cell? ⟨g,2,none⟩=some (.bool b)
 c3:w.cell? ⟨g,3,none⟩=some (.int .i64 x)
 c4:w.cell? ⟨g,4,none⟩=some (.int .u64 (W4 k 0))
 c5:w.cell? ⟨g,5,none⟩=some (.int .u64 (W4 k 1))
 c6:w.cell? ⟨g,6,none⟩=some (.int .u64 (W4 k 2))
 c7:w.cell? ⟨g,7,none⟩=some (.int .u64 (W4 k 3))
theorem Dc.next {w w':World}{g:Nat}{c:Int}{s b:Bool}{x:Int}{k:Nat}(h:Dc w g c s b x k)(hg:g<w.heap.size)(hb:Below w.heap.size w w'):Dc w' g c s b x k :=
  ⟨by rw [hb.cell (p:=⟨g,0,none⟩) hg,h.c0],by rw [hb.cell (p:=⟨g,1,none⟩) hg,h.c1],by rw [hb.cell (p:=⟨g,2,none⟩) hg,h.c2],by rw [hb.cell (p:=⟨g,3,none⟩) hg,h.c3],
   by rw [hb.cell (p:=⟨g,4,none⟩) hg,h.c4],by rw [hb.cell (p:=⟨g,5,none⟩) hg,h.c5],by rw [hb.cell (p:=⟨g,6,none⟩) hg,h.c6],by rw [hb.cell (p:=⟨g,7,none⟩) hg,h.c7]⟩
def mo (A B i:Nat):Bool:=decide (val (W4 B) i<val (W4 A) i)
attribute [local irreducible] W4 mo
end
section
theorem dl_and (d:Nat)(hd:d<1024):((bits .and .i64 (d:Int) 110=110)↔(d/32%4=3/\d/2%8=7))/\bits .and .i64 (d:Int) 255=((d%256:Nat):Int):=by
 have h:=zUd (f:=fun d=>decide (((bits .and .i64 (d:Int) 110=110)↔(d/32%4=3/\d/2%8=7))/\bits .and .i64 (d:Int) 255=((d%256:Nat):Int))) (m:=1024) (by decide +kernel) d hd
 exact of_decide_eq_true h
theorem zHz {d:Nat}(hd:d<1024)(n:Nat):dlM d n=true↔((dlE n:Int)=(d:Int)∨bits .and .i64 (d:Int) 110=110/\(dlE n:Int)=bits .and .i64 (d:Int) 255):=by
 obtain ⟨h1,h2⟩:=dl_and d hd
 rw [h1,h2]
 unfold dlM
 simp only [Bool.or_eq_true,Bool.and_eq_true,beq_iff_eq]
 omega
section
variable (d:Nat)(w:World)(N:Nat)(E:Nat->Int)(A B:Int)(hA:bits .and .i64 (d:Int) 110=A)(hB:bits .and .i64 (d:Int) 255=B)(hd:d<1024)(hN:N<1000)
 (hy:E N=(d:Int)∨A=110/\E N=B) (hn:Hid (∀ i,i<N->¬ (E i=(d:Int)∨A=110/\E i=B)))
 (c10:∀ i:Nat,i<1000->∀ W,CB 155 #[.int .i64 (i:Int)] W (.tuple #[.int .i64 (E i),.int .i64 0]))
include hA hB hd hN hy hn c10
theorem dcd_w:CB 152 #[.int .i64 (d:Int)] w (.tuple #[.int .i64 (N:Int),.int .i64 0]):=by
 have h0:¬ (d:Int)<0:=by omega
 have h9:¬ 1023<(d:Int):=by omega
 go_enter Tryz.func152,Tryz.ntmps152
 go_wp2
 go_loopw [2,3,13] (fun _ _ t wr=>∃ i:Nat,i<=N/\t=.int .i64 (i:Int)/\Below w.heap.size w wr) (fun _ _ t _=>1000-(intOf t).toNat)
 case atStart=>exact ⟨0,Nat.zero_le _,rfl,bgo⟩
 case round =>
  obtain ⟨i,hi,rfl,hbw⟩:=hrel
  have hl:(i:Int)<1000:=by omega
  have c:=c10 i (by omega)
  have hsz:=hbw.size
  by_cases hiN:i=N
  ·subst hiN
   by_cases e1:E i=(d:Int)
   ·have e2:(E i==(d:Int))=true:=by simpa using e1
    clear hy e1
    generalize E i=Ei at *
    go_wp2_with (go_at_call 155;refine (c _).mono ?_;rintro r w1 ⟨rfl,hb1⟩;obtain ⟨_,_,hA1,_⟩:=wf w hb1;clear hb1)
    exact bodyPost_ret (by simp only [results,Tryz.results152];go_simp) rfl ⟨rfl,bgo⟩
   ·obtain ⟨a1,a2⟩:=hy.resolve_left e1
    have e2:(E i==(d:Int))=false:=by simpa using e1
    have e3:(E i==B)=true:=by simpa using a2
    subst a1
    clear a2 e1 hy
    generalize E i=Ei at *
    go_wp2_with (go_at_call 155;refine (c _).mono ?_;rintro r w1 ⟨rfl,hb1⟩;obtain ⟨_,_,hA1,_⟩:=wf w hb1;clear hb1)
    exact bodyPost_ret (by simp only [results,Tryz.results152];go_simp) rfl ⟨rfl,bgo⟩
  ·have q:=(show ∀ i,i<N->¬ (E i=(d:Int)∨A=110/\E i=B) from hn) i (by omega)
   have e2:(E i==(d:Int))=false:=by simpa using fun e=>q (Or.inl e)
   clear hy
   by_cases a1:A=110
   ·have e3:(E i==B)=false:=by simpa using fun e=>q (Or.inr ⟨a1,e⟩)
    subst a1
    clear q
    generalize E i=Ei at *
    go_wp2_with (go_at_call 155;refine (c _).mono ?_;rintro r w1 ⟨rfl,hb1⟩;obtain ⟨_,_,hA1,_⟩:=wf w hb1;clear hb1)
    go_roundw
    case rel=>exact ⟨i+1,by omega,by go_num,bgo⟩
    case measure=>simp [intOf];omega
   ·have e3:(A==110)=false:=by simpa using a1
    clear q a1
    generalize E i=Ei at *
    go_wp2_with (go_at_call 155;refine (c _).mono ?_;rintro r w1 ⟨rfl,hb1⟩;obtain ⟨_,_,hA1,_⟩:=wf w hb1;clear hb1)
    go_roundw
    case rel=>exact ⟨i+1,by omega,by go_num,bgo⟩
    case measure=>simp [intOf];omega
end
theorem dcd_v (d:Nat)(hd:d<1024)(w:World):CB 152 #[.int .i64 (d:Int)] w (.tuple #[.int .i64 (dlD d:Int),.int .i64 0]):=by
 obtain ⟨h1,h2,h3⟩:=zXd d hd
 exact dcd_w d w (dlD d) (fun i=>(dlE i:Int)) _ _ rfl rfl hd h1 ((zHz hd _).1 h2) (fun i hi q=>by
  have:=(yIb hd (by omega:i<1000)).1 ((zHz hd i).2 q)
  omega) (fun i hi W=>enc_v i hi W)
end
section
structure C4 (g X:Nat) (w:World):Prop where
 lt:g<w.heap.size
 c0:w.cell? ⟨g,0,none⟩=some (.int .u64 (W4 X 0))
 c1:w.cell? ⟨g,1,none⟩=some (.int .u64 (W4 X 1))
 c2:w.cell? ⟨g,2,none⟩=some (.int .u64 (W4 X 2))
 c3:w.cell? ⟨g,3,none⟩=some (.int .u64 (W4 X 3))
 f0:w.frozen? ⟨g,0,none⟩=false
 f1:w.frozen? ⟨g,1,none⟩=false
 f2:w.frozen? ⟨g,2,none⟩=false
 f3:w.frozen? ⟨g,3,none⟩=false
theorem C4.next {g X:Nat}{w w':World}(h:C4 g X w)(hb:Below w.heap.size w w'):C4 g X w' :=
 ⟨Nat.lt_of_lt_of_le h.lt hb.size,(hb.cell (p:=⟨g,0,none⟩) h.lt).trans h.c0,(hb.cell (p:=⟨g,1,none⟩) h.lt).trans h.c1,(hb.cell (p:=⟨g,2,none⟩) h.lt).trans h.c2,(hb.cell (p:=⟨g,3,none⟩) h.lt).trans h.c3,
  (hb.frozen (p:=⟨g,0,none⟩) h.lt).trans h.f0,(hb.frozen (p:=⟨g,1,none⟩) h.lt).trans h.f1,(hb.frozen (p:=⟨g,2,none⟩) h.lt).trans h.f2,(hb.frozen (p:=⟨g,3,none⟩) h.lt).trans h.f3⟩
theorem C4.new (w:World)(t:TypeId):C4 w.heap.size 0 (w.alloc (.cells #[.int .u64 0,.int .u64 0,.int .u64 0,.int .u64 0] t)):=by
 refine ⟨by simp,?_,?_,?_,?_,?_,?_,?_,?_⟩<;>first|(rw [zOa];go_simp)|go_simp
abbrev zJm (w:World)(g X:Nat):World:=(((w.setCell ⟨g,0,none⟩ (.int .u64 (W4 X 0))).setCell ⟨g,1,none⟩ (.int .u64 (W4 X 1))).setCell ⟨g,2,none⟩ (.int .u64 (W4 X 2))).setCell ⟨g,3,none⟩ (.int .u64 (W4 X 3))
theorem C4.put {g X Y:Nat}{w:World}(h:C4 g X w):C4 g Y (zJm w g Y):=by
 have hsm:=zAa
 obtain ⟨h0,h1,h2,h3,h4,h5,h6,h7,h8⟩:=h
 refine ⟨by simp;exact h0,?_,?_,?_,?_,?_,?_,?_,?_⟩<;>go_simp
theorem zEb (w:World)(g X:Nat):Upd g w (zJm w g X):=((((Upd.refl g w).set 0 _).set 1 _).set 2 _).set 3 _
theorem NT.upd {K V g b k c:Nat}{w w':World}(h:NT K V (.slice (some ⟨b,0,none⟩) k c) w)(hne:b≠g)(hU:Upd g w w'):NT K V (.slice (some ⟨b,0,none⟩) k c) w':=by
 obtain ⟨g',k',c',z,e,hk,hN,hv,hs⟩:=h
 cases e
 exact ⟨b,k,c,z,rfl,hk,hU.num hne hN,hv,hs⟩
theorem NT.lt {K V b k c:Nat}{w:World}(h:NT K V (.slice (some ⟨b,0,none⟩) k c) w):b<w.heap.size:=by
 obtain ⟨g',k',c',z,e,hk,hN,hv,hs⟩:=h
 cases e
 rcases hN.2.2.2.2 with ⟨h,_⟩|⟨b',off',h,hbs,_⟩
 ·cases h
 ·cases h;exact hbs
theorem zOx {W:World}{g:Nat}(hg:g=W.heap.size):NT 1 1000 (.slice (some ⟨g,0,none⟩) 1 1) (W.alloc (.cells #[.int .u64 1000] 22)):=by
 subst hg
 exact ⟨_,1,1,zEd 1000,rfl,Nat.le_refl _,zOd W 1000 (by omega),by simp [val,zEd],by simp [sizeL,zEd]⟩
theorem zXa {W:World}{g V:Nat}{vi:Int}(hg:g=W.heap.size)(hv:vi=(V:Int))(hb:V<18446744073709551616):NV 1 V (.slice (some ⟨g,0,none⟩) 1 1) (W.alloc (.cells #[.int .u64 vi] 22)):=by
 subst hg hv
 exact ⟨_,1,1,zEd V,rfl,Nat.le_refl _,zOd W V (by omega),by simp [val,zEd]⟩
attribute [local irreducible] W4 NT NV
theorem zX5 (k:Nat)(w:World)(hk:k<2^256) :
  Calls Tryz.prog 66 #[A4 k] w fun r w'=>∃ g n cap,r=.returned (.slice (some ⟨g,0,none⟩) n cap)/\w.heap.size<g/\NT 4 k (.slice (some ⟨g,0,none⟩) n cap) w'/\Below w.heap.size w w':=by
 have hn0:=zSl (w0:=w) (B:=k) (t:=24) hk (Below.refl _ _)
 have c49:Calls Tryz.prog 128 #[.slice (some ⟨w.heap.size,0,none⟩) 4 4] (w.alloc (.cells #[.int .u64 (W4 k 0),.int .u64 (W4 k 1),.int .u64 (W4 k 2),.int .u64 (W4 k 3)] 24)) fun r w'=>∃ g n cap,r=.returned (.slice (some ⟨g,0,none⟩) n cap)/\w.heap.size<g/\NT 4 k (.slice (some ⟨g,0,none⟩) n cap) w'/\Below (w.alloc (.cells #[.int .u64 (W4 k 0),.int .u64 (W4 k 1),.int .u64 (W4 k 2),.int .u64 (W4 k 3)] 24)).heap.size (w.alloc (.cells #[.int .u64 (W4 k 0),.int .u64 (W4 k 1),.int .u64 (W4 k 2),.int .u64 (W4 k 3)] 24)) w':=by
  unfold NV at hn0
  obtain ⟨g,n,cap,z,e,hn,hN,hv⟩:=hn0
  cases e
  refine (zAf _ 4 4 z _ (by decide) hN).mono ?_
  rintro r w' ⟨g,cap,rfl,hN',hB,hG⟩
  refine ⟨g,_,cap,rfl,by simp at hG;omega,?_,hB⟩
  unfold NT
  exact ⟨g,_,cap,z,rfl,zCa _ _,hN',by rw [zMa,hv],zGa _ _⟩
 have hb0:=zEa w (.cells #[.int .u64 (W4 k 0),.int .u64 (W4 k 1),.int .u64 (W4 k 2),.int .u64 (W4 k 3)] 24)
 clear hn0
 unfold A4
 go_enter Tryz.func66,Tryz.ntmps66
 go_wp2_with (go_at_call 128;refine c49.mono ?_;rintro r w1 ⟨g,n,cap,rfl,hg,hv,hb1⟩)
 go_ret
 exact ⟨g,n,cap,rfl,hg,hv,hb0.trans (hb1.mono hb0.size)⟩
theorem zN2 (C:Nat)(n:Int)(h:n<0∨11<n)(w:World):CB 91 #[A4 C,.int .i64 n] w (.tuple #[A4 0,.int .i64 1]):=by
 rw [zBc]
 have hsm:=zAa
 by_cases h0:n<0
 ·go_enter Tryz.func91,Tryz.ntmps91
  go_wp2
  exact bodyPost_ret (by simp only [results,Tryz.results91];go_simp) rfl ⟨rfl,bgo⟩
 ·have h1:11<n:=by omega
  go_enter Tryz.func91,Tryz.ntmps91
  go_wp2
  exact bodyPost_ret (by simp only [results,Tryz.results91];go_simp) rfl ⟨rfl,bgo⟩
section
variable (C c:Nat)(w:World)(A P D:Nat->Nat)(hc:c<=11)
 (c22:∀ W,Calls Tryz.prog 66 #[A4 C] W fun r w'=>∃ g n cap,r=.returned (.slice (some ⟨g,0,none⟩) n cap)/\W.heap.size<g/\NT 4 (A 0) (.slice (some ⟨g,0,none⟩) n cap) w'/\Below W.heap.size W w')
 (c23:Hid (∀ i,i<c->∀ W vn vd,NT 4 (A i) vn W->NT 1 1000 vd W->Calls Tryz.prog 92 #[vn,vd] W fun r w'=>∃ g k cap v,r=.returned (.tuple #[.slice (some ⟨g,0,none⟩) k cap,v])/\W.heap.size<=g/\NT 4 (A (i+1)) (.slice (some ⟨g,0,none⟩) k cap) w'/\NT 1 (A i%1000) v w'/\Below W.heap.size W w'))
 (c24:Hid (∀ i W v,NT 1 (A i%1000) v W->CQ 61 #[v] W (.int .i64 ((A i%1000:Nat):Int))))
 (c10:Hid (∀ i W,CB 155 #[.int .i64 ((A i%1000:Nat):Int)] W (.tuple #[.int .i64 (D i:Int),.int .i64 0])))
 (hD:Hid (∀ i,D i<1024))
 (c25:Hid (∀ i,i<c->∀ W v,NV 1 (D i) v W->CB 90 #[A4 (P i),v,.int .i64 (10*(i:Int))] W (A4 (P (i+1)))))
 (hP:P 0=0)
include hc c22 c23 c24 c10 hD c25 hP
theorem rpck_w (R:Nat)(E:Int)(hR:(A c=0/\R=P c/\E=0)∨(A c≠0/\R=0/\E=3)):CB 91 #[A4 C,.int .i64 (c:Int)] w (.tuple #[A4 R,.int .i64 E]):=by
 have h0:¬ (c:Int)<0:=by omega
 have h9:¬ 11<(c:Int):=by omega
 have hsm:=zAa
 go_enter Tryz.func91,Tryz.ntmps91
 go_wp2_with (go_at_call 66;refine (c22 _).mono ?_;rintro r w1 ⟨ga,na,ca,rfl,hga,hna,hb1⟩;obtain ⟨_,_,_,_,hA1,_⟩:=wz w hb1;obtain ⟨_,_⟩:=zf hb1 (w.heap.size+1);clear hb1)
 go_loopw [6,9,10,11,12,8,23] (fun t6 _ _ _ _ _ t wr=>∃ (i g k cap:Nat),i<=c/\t=.int .i64 (i:Int)/\t6=.slice (some ⟨g,0,none⟩) k cap/\g≠w1.heap.size/\NT 4 (A i) (.slice (some ⟨g,0,none⟩) k cap) wr/\C4 w1.heap.size (P i) wr/\C4 (w.heap.size+1) 0 wr/\Below w.heap.size w wr) (fun _ _ _ _ _ _ t _=>c-(intOf t).toNat)
 case atStart =>
  have hga1:=hna.lt
  exact ⟨0,ga,na,ca,Nat.zero_le _,rfl,rfl,by omega,hna.next (zEa _ _),by rw [hP];exact C4.new _ _,by refine ⟨by simp;omega,?_,?_,?_,?_,?_,?_,?_,?_⟩<;>first|(rw [zOa];go_simp)|go_simp,bgo⟩
 case round =>
  obtain ⟨i,g,k,cap,hi,rfl,rfl,hg,hn,h4,h5,hbw⟩:=hrel
  have hl4:=h4.lt
  have hl5:=h5.lt
  have hl6:w.heap.size<wr.heap.size:=by omega
  have hge:w.heap.size<=w1.heap.size:=hA1.size
  obtain ⟨_,p0,p1,p2,p3,f0,f1,f2,f3⟩:=id h4
  obtain ⟨_,q0,q1,q2,q3,e0,e1,e2,e3⟩:=id h5
  by_cases hic:i<c
  ·have hl:(i:Int)<(c:Int):=by omega
   have d23:=c23.out i hic
   have d24:=c24.out i
   have d10:=c10.out i
   have dD:=hD.out i
   have d25:=c25.out i hic
   have dd0:(0:Int)<=(D i:Int):=by omega
   have dd1:(D i:Int)<=1023:=by omega
   clear hR
   generalize D i=Di at *
   generalize A i%1000=Xi at *
   generalize P i=Pi at *
   go_wp2_with (first
    | (go_at_call 92;refine (d23 _ _ _ (hn.next (zEa _ _)) (zOx rfl)).mono ?_;rintro r w2 ⟨g2,k2,cap2,v2,rfl,hg2,hn2,hr2,hb2⟩;have hq2:=(h4.next (zEa _ _)).next hb2;have ho2:=(h5.next (zEa _ _)).next hb2;obtain ⟨_,_,_,_,hA2,_⟩:=wz w hb2 w1.heap.size;obtain ⟨_,_,_,_⟩:=zg hb2 w.heap.size (w.heap.size+1);clear hb2)
    | (go_at_call 61;refine (d24 _ _ hr2).mono ?_;rintro r w3 ⟨rfl,rfl⟩)
    | (go_at_call 155;refine (d10 _).mono ?_;rintro r w4 ⟨rfl,hb4⟩;have hn4:=hn2.next hb4;have hq4:=hq2.next hb4;have ho4:=ho2.next hb4;obtain ⟨_,_,_,_,hA4,_⟩:=wz w hb4 w1.heap.size;obtain ⟨_,_,_,_⟩:=zg hb4 w.heap.size (w.heap.size+1);clear hb4)
    | (go_at_call 90;refine (d25 _ _ (zXa rfl rfl (by omega))).mono ?_;rintro r w5 ⟨rfl,hb5⟩;have hn5:=(hn4.next (zEa _ _)).next hb5;have hq5:=(hq4.next (zEa _ _)).next hb5;have ho5:=(ho4.next (zEa _ _)).next hb5;obtain ⟨_,_,_,_,hA5,_⟩:=wz w hb5 w1.heap.size;obtain ⟨_,_,_,_⟩:=zg hb5 w.heap.size (w.heap.size+1);clear hb5))
   have hgs:w1.heap.size<g2:=by simp at hg2;omega
   go_roundw
   case rel=>exact ⟨i+1,g2,k2,cap2,by omega,by go_num,rfl,by omega,hn5.upd (by omega) (zEb _ _ _),hq5.put,⟨by simp;exact ho5.lt,by go_simp,by go_simp,by go_simp,by go_simp,by go_simp,by go_simp,by go_simp,by go_simp⟩,bgo⟩
   case measure=>simp [intOf];omega
  ·have hl:¬ (i:Int)<(c:Int):=by omega
   obtain rfl:i=c:=by omega
   obtain ⟨g',k',cap',e',hk',hz⟩:=hn.zero
   cases e'
   rcases hR with ⟨hA0,rfl,rfl⟩|⟨hA0,rfl,rfl⟩
   ·obtain rfl:k=0:=hz.2 hA0
    clear hz hA0 hn hk'
    go_wp2
    exact bodyPost_ret (by simp only [results,Tryz.results91];go_simp) rfl ⟨rfl,bgo⟩
   ·have hk0:(0:Int)<(k:Int):=by
     have:k≠0:=fun e=>hA0 (hz.1 e)
     omega
    clear hz hA0 hn hk'
    go_wp2
    exact bodyPost_ret (v:=.tuple #[A4 0,.int .i64 3]) (by rw [zBc];simp only [results,Tryz.results91];go_simp) rfl ⟨rfl,bgo⟩
end
theorem zLr (C:Nat)(n:Int)(w:World)(hC:C<2^256):CB 91 #[A4 C,.int .i64 n] w (.tuple #[A4 (dPv C n),.int .i64 (dPe C n)]):=by
 unfold dPv dPe
 by_cases h:0<=n/\n<=11
 ·obtain ⟨c,rfl⟩:=Int.eq_ofNat_of_zero_le h.1
  have hc:c<=11:=by omega
  rw [if_pos h,if_pos h,Int.toNat_natCast]
  refine rpck_w C c w (fun i=>C/1000^i) (fun i=>dlP i C) (fun i=>dlE (C/1000^i%1000)) hc (fun W=>?_) (fun i hi W vn vd h1 h2=>?_) (fun i W v h1=>?_) (fun i W=>?_) (fun i=>?_) (fun i hi W v h1=>?_) rfl _ _ ?_
  ·have:=zX5 C W hC
   simpa only [Nat.pow_zero,Nat.div_one] using this
  ·have:=zA3 (by decide) h1 h2 (by decide)
   rw [Nat.div_div_eq_div_mul,← Nat.pow_succ] at this
   exact this
  ·refine (zCo h1.nv (by decide) (by have:=Nat.mod_lt (C/1000^i) (show 0<1000 by decide);omega)).mono ?_
   rintro r w' ⟨rfl,rfl⟩
   exact ⟨rfl,rfl⟩
  ·exact enc_v _ (Nat.mod_lt _ (by decide)) W
  ·exact (zKg _ (Nat.mod_lt _ (by decide))).2
  ·have:=zFq (dlP i C) (dlE (C/1000^i%1000)) (10*i) 1 v W (zGz i C (by omega)) (by decide) (by omega) h1
   rw [show ((10*i:Nat):Int)=10*(i:Int) by omega,Nat.pow_mul,show (2:Nat)^10=1024 from rfl,← zUm] at this
   exact this
  ·by_cases hq:C<1000^c
   ·rw [if_pos hq,if_pos hq]
    exact Or.inl ⟨Nat.div_eq_of_lt hq,rfl,rfl⟩
   ·rw [if_neg hq,if_neg hq]
    refine Or.inr ⟨?_,rfl,rfl⟩
    have:=(Nat.div_pos_iff (a:=C) (b:=1000^c)).2 ⟨Nat.pow_pos (by decide),by omega⟩
    omega
 ·rw [if_neg h,if_neg h]
  exact zN2 C n (by omega) w
end
section
theorem zGt:∀ M,val (fun _=>0) M=0:=fun M=>by
 induction M with
 | zero=>rfl
 | succ M ih=>simp only [val];rw [ih];simp
def NN (K X:Nat)(v:Value)(w:World):Prop:=(v=.slice none 0 0/\X=0)∨NT K X v w
theorem NN.next {K X:Nat}{v:Value}{w w':World}(h:NN K X v w)(hb:Below w.heap.size w w'):NN K X v w':=by
 rcases h with h|h
 ·exact Or.inl h
 ·exact Or.inr (h.next hb)
theorem trim13 {K V:Nat}{v:Value}{w:World}(hK:K<1000000)(h:NV K V v w):Calls Tryz.prog 128 #[v] w fun r w'=>∃ v',r=.returned v'/\NT K V v' w'/\Below w.heap.size w w':=by
 obtain ⟨g,n,cap,z,rfl,hn,hN,hv⟩:=h
 refine (zAf _ n cap z _ (by omega) hN).mono ?_
 rintro r w' ⟨g,cap,rfl,hN',hB,hG⟩
 have:=zCa z n
 exact ⟨_,rfl,⟨g,_,cap,z,rfl,by omega,hN',by rw [zMa,hv],zGa _ _⟩,hB⟩
theorem zNt (g:Nat)(w:World):CE 86 #[.slice none 0 0,.slice (some ⟨g,0,none⟩) 1 1] w (NT 2 0):=by
 have hmk:=fun w=>zAb 2 2 rfl (by omega) w
 have hNt:NV 2 0 (.slice (some ⟨w.heap.size,0,none⟩) 2 2) (w.alloc (.cells (arrOf (fun _=>0) 2) 22)):=by
  refine ⟨_,2,2,fun _=>0,rfl,Nat.le_refl _,zQa (by omega) (fun _=>⟨Int.le_refl _,show (0:Int)<=_ by decide⟩) (fun _ _=>rfl) (arrOf_size _ _) (fun j h=>zIa _ _ _ _),?_⟩
  rw [zGt]
  rfl
 have c40:=trim13 (by decide) hNt
 have hb0:=zEa w (.cells (arrOf (fun _=>0) 2) 22)
 clear hNt
 generalize arrOf (fun _=>0) 2=zz at *
 go_enter Tryz.func86,Tryz.ntmps86
 go_wp2
 go_loopw [22] (fun t22 wr=>t22=.int .i64 0/\wr=w.alloc (.cells zz 22)) (fun _ _=>0)
 case atStart=>exact ⟨rfl,rfl⟩
 case round =>
  obtain ⟨rfl,rfl⟩:=hrel
  go_wp2_with (go_at_call 128;refine c40.mono ?_;rintro r w1 ⟨v1,rfl,hv1,hb1⟩)
  go_ret
  exact ⟨v1,rfl,hv1,hb0.trans (hb1.mono hb0.size)⟩
theorem zD8 {K X g:Nat}{v:Value}{w:World}(hK:K<1000)(h:NN K X v w)(h':NT 1 1000 (.slice (some ⟨g,0,none⟩) 1 1) w):CE 86 #[v,.slice (some ⟨g,0,none⟩) 1 1] w (NT (K+2) (X*1000)):=by
 rcases h with ⟨rfl,rfl⟩|h
 ·refine (zNt g w).mono ?_
  rintro r w' ⟨v,rfl,⟨g1,k1,c1,z1,rfl,hk1,hN1,hv1,hs1⟩,hb⟩
  exact ⟨_,rfl,⟨g1,k1,c1,z1,rfl,by omega,hN1,by rw [hv1],hs1⟩,hb⟩
 ·obtain ⟨ga,k,c,z,rfl,hk,hN,hz,_⟩:=h
  obtain ⟨gb,k2,c2,z2,e,hk2,hN2,hz2,_⟩:=h'
  cases e
  refine (zFr ga 0 k c g 0 1 1 z z2 w (by omega) (by omega) hN hN2).mono fun e w' ⟨g3,k3,cap3,z3,e1,hk3,hN3,hv3,hB,ht⟩=>⟨_,e1,⟨g3,k3,cap3,z3,rfl,by omega,hN3,?_,ht⟩,hB⟩
  have:=zLa hN3.2.2.2.1 (k+1+1) hk3
  rw [hv3,hz,hz2] at this
  rw [← this]
  simp
theorem add13 {K K' X Y:Nat}{v v':Value}{w:World}(hK:K<=100000)(hK':K'<=100000)(h:NT K X v w)(h':NV K' Y v' w):CE 63 #[v,v'] w (NT (K+K'+1) (X+Y)):=by
 obtain ⟨a,k,c,z,rfl,hk,hN,hz,_⟩:=h
 obtain ⟨a',k',c',z',rfl,hk',hN',hz'⟩:=h'
 refine (zF9 _ _ k c k' c' z z' w (by omega) (by omega) hN hN').mono fun r w' ⟨g,k2,cap,y,e1,e2,e3,e4,e5,e6⟩=>⟨_,e1,⟨g,k2,cap,y,rfl,by omega,e3,?_,e6⟩,e5⟩
 rw [e4,hz,hz']
 omega
theorem zH0 (a:Option Addr)(k cap:Nat)(z:Nat->Int)(w:World)(h:Num w a k cap z) :
  CB 62 #[.slice a k cap] w (.agg (arrOf z 4)):=by
 have hw:=fun (i:Nat) (o1 o2:Obj)=>zJb a k cap i z ((w.alloc o1).alloc o2) ((h.next (zEa w _)).next (zEa _ _))
 clear h
 go_enter Tryz.func62,Tryz.ntmps62
 go_wp2
 go_loopw [4,5] (fun u4 i wr=>∃ (j:Nat) (ss:Array Value),j<=4/\i=.int .i64 j/\ss.size=4/\(∀ q h,ss[q]'h=Value.int .u64 (if q<j then z q else 0))/\wr=(w.alloc (.cells #[.int .u64 0,.int .u64 0,.int .u64 0,.int .u64 0] 24)).alloc (.cells ss 24)) (fun _ i _=>4-(intOf i).toNat)
 case atStart=>exact ⟨0,_,Nat.zero_le _,rfl,rfl,by intro q h;have h':q<4:=h;match q,h' with|0,_=>rfl|1,_=>rfl|2,_=>rfl|3,_=>rfl,rfl⟩
 case round =>
  obtain ⟨j,ss,hj,rfl,hsz,hss,rfl⟩:=hrel
  by_cases h4:j<4
  ·have h4i:(j:Int)<4:=by omega
   have h4s:j<ss.size:=by omega
   have hsk:ss[j]?=some (.int .u64 0):=by rw [Array.getElem?_eq_getElem h4s,hss j h4s,if_neg (by omega)]
   have HR:Hid (∀ (i:Nat) (h:i<(ss.setIfInBounds j (.int .u64 (z j))).size),(ss.setIfInBounds j (.int .u64 (z j)))[i]'h=Value.int .u64 (if i<j+1 then z i else 0)):=zIc hss
   have hwj:=hw j (.cells #[.int .u64 0,.int .u64 0,.int .u64 0,.int .u64 0] 24) (.cells ss 24)
   clear hss hw
   go_wp2_with (go_at_call 127;refine hwj.mono ?_;rintro e w' ⟨rfl,rfl⟩)
   go_roundw
   case rel=>exact ⟨j+1,ss.setIfInBounds j (.int .u64 (z j)),by omega,by go_num,by simp [hsz],HR.out,rfl⟩
   case measure=>simp [intOf];omega
  ·obtain rfl:j=4:=by omega
   have hss':∀ q h,ss[q]'h=Value.int .u64 (z q):=by
    intro q h;rw [hss q h,if_pos (by omega)]
   clear hss hw
   go_wp2
   exact bodyPost_ret (v:=.agg (arrOf z 4)) (by simp [results,Tryz.results62,go_sem];rfl) rfl ⟨rfl,((Below.refl _ _).alloc (Nat.le_refl _) _).alloc (by simp) _⟩
theorem zHk (w:World):CB 62 #[.slice none 0 0] w (A4 0):=by
 refine (zH0 none 0 0 (fun _=>0) w ⟨Nat.le_refl _,by unfold maxLen;omega,fun _=>⟨Int.le_refl _,show (0:Int)<=_ by decide⟩,fun _ _=>rfl,Or.inl ⟨rfl,rfl⟩⟩).mono ?_
 rintro r w' ⟨rfl,hb⟩
 refine ⟨?_,hb⟩
 rw [zBc]
 rfl
theorem bits13 {K X:Nat}{v:Value}{w:World}(h:NN K X v w):CB 62 #[v] w (A4 X):=by
 rcases h with ⟨rfl,rfl⟩|h
 ·exact zHk w
 ·exact zTd h.nv
attribute [local irreducible] W4 NT NV NN
theorem zJ2 (B:Nat)(n:Int)(h:n<0∨11<n)(w:World):CB 84 #[A4 B,.int .i64 n] w (.tuple #[A4 0,.int .i64 1]):=by
 rw [zBc]
 have hsm:=zAa
 by_cases h0:n<0
 ·go_enter Tryz.func84,Tryz.ntmps84
  go_wp2
  exact bodyPost_ret (by simp only [results,Tryz.results84];go_simp) rfl ⟨rfl,bgo⟩
 ·have h1:11<n:=by omega
  go_enter Tryz.func84,Tryz.ntmps84
  go_wp2
  exact bodyPost_ret (by simp only [results,Tryz.results84];go_simp) rfl ⟨rfl,bgo⟩
section
variable (B c:Nat)(w:World)(L:Int)(hc:c<=11)
 (c26:∀ W,NV 4 B (.slice (some ⟨w.heap.size,0,none⟩) 4 4) W->CQ 69 #[.slice (some ⟨w.heap.size,0,none⟩) 4 4] W (.int .i64 L)) (hB:B<2^256)
include hc c26 hB
theorem rupk_l (hL:10*(c:Int)<L):CB 84 #[A4 B,.int .i64 (c:Int)] w (.tuple #[A4 0,.int .i64 3]):=by
 rw [zBc]
 have h0:¬ (c:Int)<0:=by omega
 have h9:¬ 11<(c:Int):=by omega
 have hsm:=zAa
 have hbx:=fun W hW=>zSl (w0:=w) (w:=W) (B:=B) (t:=24) hB hW
 go_enter Tryz.func84,Tryz.ntmps84
 go_wp2_with (go_at_call 69;refine (c26 _ (hbx _ bgo)).mono ?_;rintro r w1 ⟨rfl,rfl⟩)
 exact bodyPost_ret (by simp only [results,Tryz.results84];go_simp) rfl ⟨rfl,bgo⟩
variable (U X D:Nat->Nat)
 (c27:Hid (∀ i,i<c->∀ W,CE 60 #[A4 B,.int .i64 (10*((c:Int)-1-(i:Int))),.int .i64 10] W (NT 19 (X i))))
 (c24:Hid (∀ i W v,NT 19 (X i) v W->CQ 61 #[v] W (.int .i64 (X i:Int))))
 (c12:Hid (∀ i W,CB 152 #[.int .i64 (X i:Int)] W (.tuple #[.int .i64 (D i:Int),.int .i64 0])))
 (hD:Hid (∀ i,D i<1000))
 (c29:Hid (∀ i,i<c->∀ W v g,NN (4*i) (U i) v W->NT 1 1000 (.slice (some ⟨g,0,none⟩) 1 1) W->CE 86 #[v,.slice (some ⟨g,0,none⟩) 1 1] W (NT (4*i+2) (U i*1000))))
 (c28:Hid (∀ i,i<c->∀ W v v',NT (4*i+2) (U i*1000) v W->NV 1 (D i) v' W->Calls Tryz.prog 63 #[v,v'] W fun r w'=>∃ v,r=.returned v/\NN (4*(i+1)) (U (i+1)) v w'/\Below W.heap.size W w'))
 (c30:Hid (∀ W v,NN (4*c) (U c) v W->CB 62 #[v] W (A4 (U c))))
 (hU:NN (4*0) (U 0) (.slice none 0 0) w)
include c27 c24 c12 hD c29 c28 c30 hU
theorem rupk_w (hL:¬ 10*(c:Int)<L):CB 84 #[A4 B,.int .i64 (c:Int)] w (.tuple #[A4 (U c),.int .i64 0]):=by
 have h0:¬ (c:Int)<0:=by omega
 have h9:¬ 11<(c:Int):=by omega
 have hsm:=zAa
 have hbx:=fun W hW=>zSl (w0:=w) (w:=W) (B:=B) (t:=24) hB hW
 go_enter Tryz.func84,Tryz.ntmps84
 go_wp2_with (go_at_call 69;refine (c26 _ (hbx _ bgo)).mono ?_;rintro r w1 ⟨rfl,rfl⟩)
 clear hbx
 go_loopw [6,7,8,9,24] (fun t6 _ _ _ t wr=>∃ (i:Nat),i<=c/\t=.int .i64 (i:Int)/\NN (4*i) (U i) t6 wr/\C4 w.heap.size B wr/\C4 (w.heap.size+1) 0 wr/\Below w.heap.size w wr) (fun _ _ _ _ t _=>c-(intOf t).toNat)
 case atStart =>
  exact ⟨0,Nat.zero_le _,rfl,hU.next bgo,by refine ⟨by (simp<;>omega),?_,?_,?_,?_,?_,?_,?_,?_⟩<;>go_simp,by refine ⟨by (simp<;>omega),?_,?_,?_,?_,?_,?_,?_,?_⟩<;>first|(rw [zOa];go_simp)|go_simp,bgo⟩
 case round =>
  obtain ⟨i,hi,rfl,hn,h4,h5,hbw⟩:=hrel
  have hl4:=h4.lt
  have hl5:=h5.lt
  obtain ⟨_,p0,p1,p2,p3,f0,f1,f2,f3⟩:=id h4
  obtain ⟨_,q0,q1,q2,q3,e0,e1,e2,e3⟩:=id h5
  by_cases hic:i<c
  ·have hl:(i:Int)<(c:Int):=by omega
   have hci:(c:Int)<=11:=by omega
   have d27:=c27.out i hic
   have d24:=c24.out i
   have d12:=c12.out i
   have dD:=hD.out i
   have d29:=c29.out i hic
   have d28:=c28.out i hic
   have dd0:(0:Int)<=(D i:Int):=by omega
   have dd1:(D i:Int)<=999:=by omega
   generalize D i=Di at *
   generalize X i=Xi at *
   go_wp2_with (first
    | (go_at_call 60;refine (d27 _).mono ?_;rintro r w2 ⟨v2,rfl,hr2,hb2⟩;have hn2:=hn.next hb2;have hq2:=h4.next hb2;have ho2:=h5.next hb2;obtain ⟨_,_,_,_,hA2,_⟩:=wz w hb2;obtain ⟨_,_⟩:=zf hb2 (w.heap.size+1);clear hb2)
    | (go_at_call 61;refine (d24 _ _ hr2).mono ?_;rintro r w3 ⟨rfl,rfl⟩)
    | (go_at_call 152;refine (d12 _).mono ?_;rintro r w4 ⟨rfl,hb4⟩;have hn4:=hn2.next hb4;have hq4:=hq2.next hb4;have ho4:=ho2.next hb4;obtain ⟨_,_,_,_,hA4,_⟩:=wz w hb4;obtain ⟨_,_⟩:=zf hb4 (w.heap.size+1);clear hb4)
    | (go_at_call 86;refine (d29 _ _ _ (hn4.next (zEa _ _)) (zOx rfl)).mono ?_;rintro r w5 ⟨v5,rfl,hr5,hb5⟩;have hq5:=(hq4.next (zEa _ _)).next hb5;have ho5:=(ho4.next (zEa _ _)).next hb5;obtain ⟨_,_,_,_,hA5,_⟩:=wz w hb5;obtain ⟨_,_⟩:=zf hb5 (w.heap.size+1);clear hb5)
    | (go_at_call 63;refine (d28 _ _ _ (hr5.next (zEa _ _)) (zXa rfl rfl (by omega))).mono ?_;rintro r w6 ⟨v6,rfl,hr6,hb6⟩;have hq6:=(hq5.next (zEa _ _)).next hb6;have ho6:=(ho5.next (zEa _ _)).next hb6;obtain ⟨_,_,_,_,hA6,_⟩:=wz w hb6;obtain ⟨_,_⟩:=zf hb6 (w.heap.size+1);clear hb6))
   go_roundw
   case rel=>exact ⟨i+1,by omega,by go_num,hr6,hq6,ho6,bgo⟩
   case measure=>simp [intOf];omega
  ·have hl:¬ (i:Int)<(c:Int):=by omega
   obtain rfl:i=c:=by omega
   have d30:=c30.out
   go_wp2_with (go_at_call 62;refine wk w (d30 _ _ hn) ?_;intro w2 hb2 _ _ _ _ hA2 _;obtain ⟨_,_⟩:=zf hb2 (w.heap.size+1);clear hb2)
   exact bodyPost_ret (by simp only [results,Tryz.results84];go_simp) rfl ⟨rfl,bgo⟩
end
theorem zK2 (B:Nat)(n:Int)(w:World)(hB:B<2^256):CB 84 #[A4 B,.int .i64 n] w (.tuple #[A4 (dUv B n),.int .i64 (dUe B n)]):=by
 unfold dUv dUe
 by_cases h:0<=n/\n<=11
 ·obtain ⟨c,rfl⟩:=Int.eq_ofNat_of_zero_le h.1
  have hc:c<=11:=by omega
  rw [if_pos h,if_pos h,Int.toNat_natCast]
  have c26:∀ W,NV 4 B (.slice (some ⟨w.heap.size,0,none⟩) 4 4) W->CQ 69 #[.slice (some ⟨w.heap.size,0,none⟩) 4 4] W (.int .i64 (bl B:Int)):=fun W hN=>by
   unfold NV at hN
   obtain ⟨g,k,cap,z,e,hk,hN,hv⟩:=hN
   cases e
   have:=zGj _ 4 4 z W (by decide) hN
   rw [zEy hN.2.2.1 hv] at this
   exact this
  have hp:(1024:Nat)^c=2^(10*c):=by rw [Nat.pow_mul]
  have hbl:=bl_le (V:=B) (k:=10*c)
  rw [← hp] at hbl
  by_cases hq:B<1024^c
  ·rw [if_pos hq,if_pos hq]
   have:=rupk_w B c w (bl B:Int) hc c26 hB (fun i=>dlU i (B/1024^(c-i))) (fun i=>B/2^(10*(c-1-i))%1024) (fun i=>dlD (B/2^(10*(c-1-i))%1024))
    (fun i hi W=>?_) (fun i W v hv=>?_) (fun i W=>?_) (fun i=>?_) (fun i hi W v g h1 h2=>?_) (fun i hi W v v' h1 h2=>?_) (fun W v hv=>?_) ?_ (by have:=hbl.2 hq;omega)
   ·simp only [Nat.sub_self,Nat.pow_zero,Nat.div_one] at this
    exact this
   ·have:=zGf B (10*(c-1-i)) 10 W hB (by omega) (by decide)
    rw [show ((10*(c-1-i):Nat):Int)=10*((c:Int)-1-(i:Int)) by omega] at this
    exact this
   ·refine (zCo hv.nv (by decide) (by have:=Nat.mod_lt (B/2^(10*(c-1-i))) (show 0<1024 by decide);omega)).mono ?_
    rintro r w' ⟨rfl,rfl⟩
    exact ⟨rfl,rfl⟩
   ·exact dcd_v _ (Nat.mod_lt _ (by decide)) W
   ·exact (zXd _ (Nat.mod_lt _ (by decide))).1
   ·exact zD8 (by omega) h1 h2
   ·refine (add13 (by omega) (by decide) h1 h2).mono ?_
    rintro r w' ⟨v,rfl,hv,hb⟩
    refine ⟨v,rfl,?_,hb⟩
    have e:dlU i (B/1024^(c-i))*1000+dlD (B/2^(10*(c-1-i))%1024)=dlU (i+1) (B/1024^(c-(i+1))):=by
     have e2:(2:Nat)^(10*(c-1-i))=1024^(c-(i+1)):=by
      rw [Nat.pow_mul,show c-1-i=c-(i+1) by omega]
     have e1:B/1024^(c-i)=B/1024^(c-(i+1))/1024:=by
      rw [Nat.div_div_eq_div_mul,← Nat.pow_succ,show (c-(i+1)).succ=c-i by omega]
     rw [zTs,e1,e2]
    rw [e,show 4*i+2+1+1=4*(i+1) by omega] at hv
    unfold NN
    exact Or.inr hv
   ·exact bits13 hv
   ·unfold NN
    exact Or.inl ⟨rfl,rfl⟩
  ·rw [if_neg hq,if_neg hq]
   exact rupk_l B c w (bl B:Int) hc c26 hB (by
    have:¬ bl B<=10*c:=fun q=>hq (hbl.1 q)
    omega)
 ·rw [if_neg h,if_neg h]
  exact zJ2 B n (by omega) w
end
section
theorem C4.other {g g' X Y:Nat}{w:World}(h:C4 g X w)(hne:g≠g'):C4 g X (zJm w g' Y):=by
 have hU:=zEb w g' Y
 have hb:=hU.block g hne
 have hl:g<(zJm w g' Y).heap.size:=by rw [hU.size];exact h.lt
 exact ⟨hl,(World.cell?_of_block (a:=⟨g,0,none⟩) hb).trans h.c0,(World.cell?_of_block (a:=⟨g,1,none⟩) hb).trans h.c1,(World.cell?_of_block (a:=⟨g,2,none⟩) hb).trans h.c2,(World.cell?_of_block (a:=⟨g,3,none⟩) hb).trans h.c3,(World.frozen?_of_block (a:=⟨g,0,none⟩) hb).trans h.f0,(World.frozen?_of_block (a:=⟨g,1,none⟩) hb).trans h.f1,(World.frozen?_of_block (a:=⟨g,2,none⟩) hb).trans h.f2,(World.frozen?_of_block (a:=⟨g,3,none⟩) hb).trans h.f3⟩
attribute [local irreducible] W4
section
variable (C c:Nat)(n:Int)(w:World)
theorem dpck_n (ck:∀ W,CQ 212 #[.int .i64 n] W (.bool false)) :
  CB 211 #[A4 C,.int .i64 n] w (.tuple #[A4 0,.int .i64 1]):=by
 rw [zBc]
 have hsm:=zAa
 go_enter Tryz.func211,Tryz.ntmps211
 go_wp2_with (go_at_call 212;refine (ck _).mono ?_;rintro r w1 ⟨rfl,rfl⟩)
 exact bodyPost_ret (by simp only [results,Tryz.results211];go_simp) rfl ⟨rfl,bgo⟩
theorem dupk_n (ck:∀ W,CQ 212 #[.int .i64 n] W (.bool false)) :
  CB 188 #[A4 C,.int .i64 n] w (.tuple #[A4 0,.int .i64 1]):=by
 rw [zBc]
 have hsm:=zAa
 go_enter Tryz.func188,Tryz.ntmps188
 go_wp2_with (go_at_call 212;refine (ck _).mono ?_;rintro r w1 ⟨rfl,rfl⟩)
 exact bodyPost_ret (by simp only [results,Tryz.results188];go_simp) rfl ⟨rfl,bgo⟩
end
section
variable (C c:Nat)(w:World)(A P X D T:Nat->Nat)(cr:Nat->Int)(L:Int)(hc:c<=11)
 (ck:∀ W,CQ 212 #[.int .i64 (c:Int)] W (.bool true))
 (cd:Hid (∀ i,i<c->∀ W,CB 230 #[A4 (A i),.int .u64 1000] W (.tuple #[A4 (A (i+1)),.int .u64 (X i:Int)])))
 (hX:Hid (∀ i,X i<1000))
 (ce:Hid (∀ i W,CQ 231 #[.int .i64 (X i:Int)] W (.tuple #[.int .i64 (D i:Int),.int .i64 0])))
 (hD:Hid (∀ i,D i<1024))
 (co:Hid (∀ i W,CB 78 #[.int .u64 (D i:Int)] W (A4 (D i))))
 (cs:Hid (∀ i,i<c->∀ W,CB 74 #[A4 (D i),.int .i64 (10*(i:Int))] W (A4 (T i))))
 (ca:Hid (∀ i,i<c->∀ W,CB 37 #[A4 (P i),A4 (T i)] W (.tuple #[A4 (P (i+1)),.int .u64 (cr i)])))
 (cl:∀ W,CB 75 #[A4 (A c)] W (.int .i64 L))
 (hA:A 0=C) (hP:P 0=0)
include hc ck cd hX ce hD co cs ca cl hA hP
theorem dpck_w (R:Nat)(E:Int)(hR:(¬ 0<L/\R=P c/\E=0)∨(0<L/\R=0/\E=3)):CB 211 #[A4 C,.int .i64 (c:Int)] w (.tuple #[A4 R,.int .i64 E]):=by
 have hsm:=zAa
 go_enter Tryz.func211,Tryz.ntmps211
 go_wp2_with (go_at_call 212;refine (ck _).mono ?_;rintro r w1 ⟨rfl,rfl⟩)
 go_loopw [8,9,10,11,18] (fun _ _ _ _ t wr=>∃ (i:Nat),i<=c/\t=.int .i64 (i:Int)/\C4 (w.heap.size+1+1) (A i) wr/\C4 (w.heap.size+1+1+1) (P i) wr/\C4 (w.heap.size+1) 0 wr/\Below w.heap.size w wr) (fun _ _ _ _ t _=>c-(intOf t).toNat)
 case atStart =>
  refine ⟨0,Nat.zero_le _,rfl,?_,?_,?_,bgo⟩
  ·rw [hA];refine ⟨by simp,?_,?_,?_,?_,?_,?_,?_,?_⟩<;>go_simp
  ·rw [hP];refine ⟨by simp,?_,?_,?_,?_,?_,?_,?_,?_⟩<;>first|(rw [zOa];go_simp)|go_simp
  ·refine ⟨by simp,?_,?_,?_,?_,?_,?_,?_,?_⟩<;>first|(rw [zOa];go_simp)|go_simp
 case round =>
  obtain ⟨i,hi,rfl,h3,h4,h5,hbw⟩:=hrel
  have hl3:=h3.lt
  have hl4:=h4.lt
  have hl5:=h5.lt
  have hl6:w.heap.size<wr.heap.size:=by omega
  obtain ⟨_,o0,o1,o2,o3,g0,g1,g2,g3⟩:=id h3
  obtain ⟨_,p0,p1,p2,p3,f0,f1,f2,f3⟩:=id h4
  obtain ⟨_,q0,q1,q2,q3,e0,e1,e2,e3⟩:=id h5
  by_cases hic:i<c
  ·have hl:(i:Int)<(c:Int):=by omega
   have dd:=cd.out i hic
   have de:=ce.out i
   have do':=co.out i
   have ds:=cs.out i hic
   have da:=ca.out i hic
   have dX:=hX.out i
   have dD:=hD.out i
   have x0:(0:Int)<=(X i:Int):=by omega
   have x1:(X i:Int)<1000:=by omega
   have d0:(0:Int)<=(D i:Int):=by omega
   have d1:(D i:Int)<1024:=by omega
   clear hR cl dX dD
   generalize D i=Di at *
   generalize X i=Xi at *
   generalize P i=Pi at *
   generalize A i=Ai at *
   generalize T i=Ti at *
   go_wp2_with (first
    | (go_at_call 230;refine (dd _).mono ?_;rintro r w2 ⟨rfl,hb2⟩;have hn3:=h3.next hb2;have hn4:=h4.next hb2;have hn5:=h5.next hb2;obtain ⟨_,_,_,_,hA2,_⟩:=wz w hb2;obtain ⟨_,_,_,_,_,_⟩:=zh hb2 (w.heap.size+1) (w.heap.size+1+1) (w.heap.size+1+1+1);clear hb2)
    | (go_at_call 231;refine (de _).mono ?_;rintro r w3 ⟨rfl,rfl⟩))
   have hn3':=hn3.put (Y:=A (i+1))
   have hn4':=hn4.other (g':=w.heap.size+1+1) (Y:=A (i+1)) (by omega)
   have hn5':=hn5.other (g':=w.heap.size+1+1) (Y:=A (i+1)) (by omega)
   refine zZa 8 (by kernel_rfl) (by kernel_rfl) (by kernel_rfl) (fun _ _ d _ _ h=>by cases d<;>exact h) fun hne hcell=>?_
   simp only [List.take_succ_cons,List.take_zero,List.drop_succ_cons,List.drop_zero]
   repeat go_big_quiet_step (fail)
   go_big_quiet_step ((go_at_call 78;exact zBa _ zHa (do' _)))
   repeat go_big_quiet_step (fail)
   go_big_quiet_step ((go_at_call 74;exact zBa _ zHa (ds _)))
   repeat go_big_quiet_step (fail)
   go_big_quiet_step ((go_at_call 37;exact zBa _ zHa (da _)))
   refine wpQuiet_nil fun w4 hb4=>?_
   have hm3:=hn3'.next hb4
   have hm4:=hn4'.next hb4
   have hm5:=hn5'.next hb4
   obtain ⟨_,_,_,_,hA4,_⟩:=wz w hb4;obtain ⟨_,_,_,_,_,_⟩:=zh hb4 (w.heap.size+1) (w.heap.size+1+1) (w.heap.size+1+1+1);clear hb4
   go_wp2
   go_roundw
   case rel=>exact ⟨i+1,by omega,by go_num,hm3.other (by omega),hm4.put,hm5.other (by omega),bgo⟩
   case measure=>simp [intOf];omega
  ·have hl:¬ (i:Int)<(c:Int):=by omega
   obtain rfl:i=c:=by omega
   rcases hR with ⟨hA0,rfl,rfl⟩|⟨hA0,rfl,rfl⟩
   ·go_wp2_with (go_at_call 75;refine wk w (cl _) ?_;intro w2 hb2 _ _ _ _ hA2 _;obtain ⟨_,_,_,_,_,_⟩:=zh hb2 (w.heap.size+1) (w.heap.size+1+1) (w.heap.size+1+1+1);clear hb2)
    exact bodyPost_ret (by simp only [results,Tryz.results211];go_simp) rfl ⟨rfl,bgo⟩
   ·go_wp2_with (go_at_call 75;refine wk w (cl _) ?_;intro w2 hb2 _ _ _ _ hA2 _;obtain ⟨_,_,_,_,_,_⟩:=zh hb2 (w.heap.size+1) (w.heap.size+1+1) (w.heap.size+1+1+1);clear hb2)
    exact bodyPost_ret (v:=.tuple #[A4 0,.int .i64 3]) (by rw [zBc];simp only [results,Tryz.results211];go_simp) rfl ⟨rfl,bgo⟩
end
section
variable (B c:Nat)(w:World)(L:Int)(hc:c<=11)
 (ck:∀ W,CQ 212 #[.int .i64 (c:Int)] W (.bool true))
 (cl:∀ W,CB 75 #[A4 B] W (.int .i64 L))
include hc ck cl
theorem dupk_l (hL:10*(c:Int)<L):CB 188 #[A4 B,.int .i64 (c:Int)] w (.tuple #[A4 0,.int .i64 3]):=by
 rw [zBc]
 have hsm:=zAa
 have hc0:(0:Int)<=(c:Int):=by omega
 have hc1:(c:Int)<=11:=by omega
 go_enter Tryz.func188,Tryz.ntmps188
 go_wp2_with (first
  | (go_at_call 212;refine (ck _).mono ?_;rintro r w1 ⟨rfl,rfl⟩)
  | (go_at_call 75;refine wk w (cl _) ?_;intro w2 hb2 _ _ _ _ hA2 _;obtain ⟨_,_⟩:=zf hb2 (w.heap.size+1);clear hb2))
 exact bodyPost_ret (by simp only [results,Tryz.results188];go_simp) rfl ⟨rfl,bgo⟩
variable (U X D S M:Nat->Nat)(cr cm:Nat->Int)
 (cs:Hid (∀ k,k<c->∀ W,CB 72 #[A4 B,.int .i64 (10*(k:Int))] W (A4 (S k))))
 (hX:Hid (∀ k,W4 (S k) 0%1024=(X k:Int)/\X k<1024/\0<=W4 (S k) 0))
 (ce:Hid (∀ k W,CQ 213 #[.int .i64 (X k:Int)] W (.tuple #[.int .i64 (D k:Int),.int .i64 0])))
 (hD:Hid (∀ k,D k<1000))
 (cu:Hid (∀ k,k<c->∀ W,CB 143 #[A4 (U (k+1)),.int .u64 1000] W (.tuple #[A4 (M k),.int .u64 (cm k)])))
 (co:Hid (∀ k W,CB 78 #[.int .u64 (D k:Int)] W (A4 (D k))))
 (ca:Hid (∀ k,k<c->∀ W,CB 37 #[A4 (M k),A4 (D k)] W (.tuple #[A4 (U k),.int .u64 (cr k)])))
 (hU:U c=0)
include cs hX ce hD cu co ca hU
theorem dupk_w (hL:¬ 10*(c:Int)<L):CB 188 #[A4 B,.int .i64 (c:Int)] w (.tuple #[A4 (U 0),.int .i64 0]):=by
 have hsm:=zAa
 have hc0:(0:Int)<=(c:Int):=by omega
 have hc1:(c:Int)<=11:=by omega
 go_enter Tryz.func188,Tryz.ntmps188
 go_wp2_with (first
  | (go_at_call 212;refine (ck _).mono ?_;rintro r w1 ⟨rfl,rfl⟩)
  | (go_at_call 75;refine wk w (cl _) ?_;intro w2 hb2 _ _ _ _ hA2 _;obtain ⟨_,_⟩:=zf hb2 (w.heap.size+1);clear hb2))
 go_loopw [7,8,9,10] (fun t _ _ _ wr=>∃ (k:Nat),k<=c/\t=.int .i64 ((k:Int)-1)/\C4 w2.heap.size (U k) wr/\C4 w.heap.size B wr/\C4 (w.heap.size+1) 0 wr/\Below w.heap.size w wr) (fun t _ _ _ _=>(intOf t+1).toNat)
 case atStart =>
  refine ⟨c,Nat.le_refl _,rfl,?_,?_,?_,bgo⟩
  ·rw [hU];exact C4.new _ _
  ·refine ⟨by simp;omega,?_,?_,?_,?_,?_,?_,?_,?_⟩<;>go_simp
  ·refine ⟨by simp;omega,?_,?_,?_,?_,?_,?_,?_,?_⟩<;>first|(rw [zOa];go_simp)|go_simp
 case round =>
  obtain ⟨k,hk,rfl,h3,h4,h5,hbw⟩:=hrel
  have hl3:=h3.lt
  have hl4:=h4.lt
  have hl5:=h5.lt
  have hz3:w.heap.size+1<w2.heap.size:=by omega
  obtain ⟨_,o0,o1,o2,o3,g0,g1,g2,g3⟩:=id h3
  obtain ⟨_,p0,p1,p2,p3,f0,f1,f2,f3⟩:=id h4
  obtain ⟨_,q0,q1,q2,q3,e0,e1,e2,e3⟩:=id h5
  by_cases hk0:k=0
  ·subst hk0
   go_wp2
   exact bodyPost_ret (by simp only [results,Tryz.results188];go_simp) rfl ⟨rfl,bgo⟩
  ·obtain ⟨j,rfl⟩:∃ j,k=j+1:=⟨k-1,by omega⟩
   have ej:((j+1:Nat):Int)-1=(j:Int):=by omega
   rw [ej]
   have hj:j<c:=by omega
   have hj0:¬ (j:Int)<0:=by omega
   have hj1:(j:Int)<=11:=by omega
   have ds:=cs.out j hj
   obtain ⟨x2,x3,x4⟩:=hX.out j
   have de:=ce.out j
   have du:=cu.out j hj
   have do':=co.out j
   have da:=ca.out j hj
   have dD:=hD.out j
   have d0:(0:Int)<=(D j:Int):=by omega
   have d1:(D j:Int)<1000:=by omega
   have x0:(0:Int)<=(X j:Int):=by omega
   have x1:(X j:Int)<1024:=by omega
   clear ej dD x3 hL ck cl
   generalize D j=Dj at *
   generalize X j=Xj at *
   generalize S j=Sj at *
   generalize M j=Mj at *
   generalize U (j+1)=Uj at *
   go_wp2_with (first
    | (go_at_call 72;refine (ds _).mono ?_;rintro r w3 ⟨rfl,hb3⟩;have hn3:=h3.next hb3;have hn4:=h4.next hb3;have hn5:=h5.next hb3;obtain ⟨_,_,_,_,hA3,_⟩:=wz w hb3;obtain ⟨_,_,_,_⟩:=zg hb3 (w.heap.size+1) w2.heap.size;clear hb3)
    | (go_at_call 213;refine (de _).mono ?_;rintro r w4 ⟨rfl,rfl⟩)
    | (go_at_call 143;refine wk w (du _) ?_;intro w5 hb5 _ _ _ _ hA5 _;obtain ⟨_,_,_,_⟩:=zg hb5 (w.heap.size+1) w2.heap.size;clear hb5))
   refine zZa 5 (by kernel_rfl) (by kernel_rfl) (by kernel_rfl) (fun _ _ d _ _ h=>by cases d<;>exact h) fun hne hcell=>?_
   simp only [List.take_succ_cons,List.take_zero,List.drop_succ_cons,List.drop_zero]
   repeat go_big_quiet_step (fail)
   go_big_quiet_step ((go_at_call 78;exact zBa _ zHa (do' _)))
   repeat go_big_quiet_step (fail)
   go_big_quiet_step ((go_at_call 37;exact zBa _ zHa (da _)))
   refine wpQuiet_nil fun w6 hb6=>?_
   obtain ⟨_,_,_,_,hA6,_⟩:=wz w hb6;obtain ⟨_,_,_,_⟩:=zg hb6 (w.heap.size+1) w2.heap.size;clear hb6
   go_wp2
   go_roundw
   case rel =>
    refine ⟨j,by omega,by go_num,?_,?_,?_,bgo⟩
    ·refine ⟨by simp;omega,?_,?_,?_,?_,?_,?_,?_,?_⟩<;>go_simp
    ·refine ⟨by simp;omega,?_,?_,?_,?_,?_,?_,?_,?_⟩<;>go_simp
    ·refine ⟨by simp;omega,?_,?_,?_,?_,?_,?_,?_,?_⟩<;>go_simp
   case measure=>simp [intOf]
end
theorem zJ9 (i:Nat):(1024:Nat)^i=2^(10*i):=by rw [Nat.pow_mul]
theorem zS4 (C:Nat)(n:Int)(w:World)(hC:C<2^256):CB 211 #[A4 C,.int .i64 n] w (.tuple #[A4 (dPv C n),.int .i64 (dPe C n)]):=by
 unfold dPv dPe
 by_cases h:0<=n/\n<=11
 ·obtain ⟨c,rfl⟩:=Int.eq_ofNat_of_zero_le h.1
  have hc:c<=11:=by omega
  rw [if_pos h,if_pos h,Int.toNat_natCast]
  have hA:∀ i,C/1000^i<2^256:=fun i=>Nat.lt_of_le_of_lt (Nat.div_le_self _ _) hC
  have hL0:=zFf (hA c)
  have hL1:0<=lenL (W4 (C/1000^c)) 4:=by
   by_cases h0:0<sizeL (W4 (C/1000^c)) 4
   ·obtain ⟨L,h1,_⟩:=zHl (zJa _) h0
    omega
   ·unfold lenL;rw [if_pos (by omega)];exact Int.le_refl _
  refine dpck_w C c w (fun i=>C/1000^i) (fun i=>dlP i C) (fun i=>C/1000^i%1000) (fun i=>dlE (C/1000^i%1000)) (fun i=>dlE (C/1000^i%1000)*2^(10*i)) (fun i=>(((dlP i C+dlE (C/1000^i%1000)*2^(10*i))/2^256:Nat):Int)) (lenL (W4 (C/1000^c)) 4) hc ?_ ?_ ?_ ?_ ?_ ?_ ?_ ?_ (fun W=>zEq _ W) (by simp) rfl _ _ ?_
  ·intro W
   have:=zPm (c:Int) W
   rw [decide_eq_true h] at this
   exact this
  ·intro i hi W
   have:=div4 (C/1000^i) 1000 W (hA i) (by decide) (by decide)
   rw [Nat.div_div_eq_div_mul,← Nat.pow_succ] at this
   exact this
  ·intro i
   exact Nat.mod_lt _ (by decide)
  ·intro i W
   exact denc_v _ (Nat.mod_lt _ (by decide)) W
  ·intro i
   exact (zKg _ (Nat.mod_lt _ (by decide))).2
  ·intro i W
   have:=(zKg (C/1000^i%1000) (Nat.mod_lt _ (by decide))).2
   exact of4 _ W (by omega)
  ·intro i hi W
   have h2:=(zKg (C/1000^i%1000) (Nat.mod_lt _ (by decide))).2
   have:=zS8 (dlE (C/1000^i%1000)) (10*i) W (Nat.lt_trans h2 (by decide)) (by omega)
   rw [show ((10*i:Nat):Int)=10*(i:Int) by omega] at this
   exact this
  ·intro i hi W
   have e:=zUm i C
   rw [zJ9] at e
   have h1:=zGz (i+1) C (by omega)
   have:=zE7 (dlP i C) (dlE (C/1000^i%1000)*2^(10*i)) W (by omega) (by omega)
   rw [show A4 (dlP i C+dlE (C/1000^i%1000)*2^(10*i))=A4 (dlP (i+1) C) by rw [e]] at this
   exact this
  ·by_cases hlt:C<1000^c
   ·rw [if_pos hlt,if_pos hlt]
    exact Or.inl ⟨by rw [hL0.2 (Nat.div_eq_of_lt hlt)];decide,rfl,rfl⟩
   ·rw [if_neg hlt,if_neg hlt]
    have h1:C/1000^c≠0:=by
     have:=(Nat.le_div_iff_mul_le (Nat.pow_pos (n:=c) (show 0<1000 by decide))).2 (show 1*1000^c<=C by omega)
     omega
    have h2:lenL (W4 (C/1000^c)) 4≠0:=fun e=>h1 (hL0.1 e)
    exact Or.inr ⟨by omega,rfl,rfl⟩
 ·rw [if_neg h,if_neg h]
  refine dpck_n C n w fun W=>?_
  have:=zPm n W
  rw [decide_eq_false h] at this
  exact this
theorem zQ4 (B:Nat)(n:Int)(w:World)(hB:B<2^256):CB 188 #[A4 B,.int .i64 n] w (.tuple #[A4 (dUv B n),.int .i64 (dUe B n)]):=by
 unfold dUv dUe
 by_cases h:0<=n/\n<=11
 ·obtain ⟨c,rfl⟩:=Int.eq_ofNat_of_zero_le h.1
  have hc:c<=11:=by omega
  rw [if_pos h,if_pos h,Int.toNat_natCast]
  have hk:∀ W,CQ 212 #[.int .i64 (c:Int)] W (.bool true):=fun W=>by
   have:=zPm (c:Int) W
   rw [decide_eq_true h] at this
   exact this
  have hL:=zJg (k:=10*c) hB
  rw [← zJ9] at hL
  by_cases hlt:B<1024^c
  ·rw [if_pos hlt,if_pos hlt]
   have hU:∀ k,dlU (c-k) (B/1024^k)<1000^11:=fun k=>Nat.lt_of_lt_of_le (zLl _ _) (Nat.pow_le_pow_right (by decide) (by omega))
   have e11:(1000:Nat)^11=1000000000000000000000000000000000:=by decide
   have e256:(2:Nat)^256=115792089237316195423570985008687907853269984665640564039457584007913129639936:=by decide
   have:=dupk_w B c w (lenL (W4 B) 4) hc hk (fun W=>zEq _ W) (fun k=>dlU (c-k) (B/1024^k)) (fun k=>B/1024^k%1024) (fun k=>dlD (B/1024^k%1024)) (fun k=>B/2^(10*k)) (fun k=>dlU (c-(k+1)) (B/1024^(k+1))*1000) (fun k=>(((dlU (c-(k+1)) (B/1024^(k+1))*1000+dlD (B/1024^k%1024))/2^256:Nat):Int)) (fun k=>((dlU (c-(k+1)) (B/1024^(k+1))*1000/2^256:Nat):Int)) (fun k hk W=>?_) (fun k=>?_) (fun k W=>?_) (fun k=>?_) (fun k hk W=>?_) (fun k W=>?_) (fun k hk W=>?_) (by rw [Nat.sub_self];rfl) (by have:=hL.2 hlt;omega)
   ·simp only [Nat.sub_zero,Nat.pow_zero,Nat.div_one] at this
    exact this
   ·have:=shr4 B (10*k) W hB (by omega)
    rw [show ((10*k:Nat):Int)=10*(k:Int) by omega] at this
    exact this
   ·refine ⟨?_,Nat.mod_lt _ (by decide),(zJa _ 0).1⟩
    unfold W4
    rw [← zJ9,Nat.mul_zero,Nat.pow_zero,Nat.div_one]
    omega
   ·exact ddcd_v _ (Nat.mod_lt _ (by decide)) W
   ·exact (zXd _ (Nat.mod_lt _ (by decide))).1
   ·have h1:=hU (k+1)
    exact mul4 _ 1000 W (by omega) (by decide)
   ·have:=(zXd (B/1024^k%1024) (Nat.mod_lt _ (by decide))).1
    exact of4 _ W (by omega)
   ·have h1:=hU (k+1)
    have h2:=(zXd (B/1024^k%1024) (Nat.mod_lt _ (by decide))).1
    have e:=zTs (c-(k+1)) (B/1024^k)
    rw [Nat.div_div_eq_div_mul,← Nat.pow_succ,show c-(k+1)+1=c-k by omega] at e
    have:=zE7 (dlU (c-(k+1)) (B/1024^(k+1))*1000) (dlD (B/1024^k%1024)) W (by omega) (by omega)
    rw [show A4 (dlU (c-(k+1)) (B/1024^(k+1))*1000+dlD (B/1024^k%1024))=A4 (dlU (c-k) (B/1024^k)) by rw [e]] at this
    exact this
  ·rw [if_neg hlt,if_neg hlt]
   exact dupk_l B c w (lenL (W4 B) 4) hc hk (fun W=>zEq _ W) (by
    have:¬ lenL (W4 B) 4<=((10*c:Nat):Int):=fun q=>hlt (hL.1 q)
    omega)
 ·rw [if_neg h,if_neg h]
  refine dupk_n B n w fun W=>?_
  have:=zPm n W
  rw [decide_eq_false h] at this
  exact this
end
end Go.Proofs.YtahfkpjhlbiamaaGreatDoor

set_option maxRecDepth 100000
namespace Go.Proofs.YtahfkpjhlbiamaaGreatDoor
open Go.ChangeShapes Go.WideShapes Go.ChangeAt Go.RowKit
section
variable {H:Type}{enc:TypeId×Value->H}{W:World}{r:Reach}{base b:Nat}{sp:Nat->Bool}{held:Bool}{t:TypeId}{n:Nat}{v:Value}{d:DataW H}{p:List MemPlace}
theorem zAo (hok:Value.okWide Tryz.prog W r base 24 v)(h:DataW.Trod enc Tryz.prog W b sp held 24 v d p):∃ A,A<2^256/\v=A4 A/\p=[]:=by
 obtain ⟨x,hx,rfl,hp⟩:=zGu Tryz.underlying24 (by kernel_rfl) hok h
 obtain ⟨A,hA,he,_⟩:=zC1 hx
 exact ⟨A,hA,he,hp⟩
theorem zAp {W':World}{sp':Nat->Bool}(h:DataW.Trod enc Tryz.prog W 0 (fun _=>true) true 24 v d []):DataW.Trod enc Tryz.prog W' 0 sp' true 24 v d [] :=
 WideElems.Trod_stays Tryz.laidOut (by kernel_rfl) (of_decide_eq_true (by kernel_rfl)) h (by simp) (by simp)
end
end Go.Proofs.YtahfkpjhlbiamaaGreatDoor

namespace Go.Proofs.YtahfkpjhlbiamaaGreatDoor
open Go.ChangeShapes Go.WideShapes Go.ChangeAt Go.RowKit
def zTu:Array Value:=(((List.replicate 128 240++List.replicate 66 241++List.replicate 30 2++[19]++List.replicate 12 3++[35]++List.replicate 2 3++[52]++List.replicate 3 4++[68]++List.replicate 11 241:List Int)).map fun n=>Value.int .u8 n).toArray
def zZt:Array Value:=((([128,191,160,191,128,159,144,191,128,143]++List.replicate 22 0:List Int)).map fun n=>Value.int .u8 n).toArray
def zZz:Array Value:=(([0,1,28,2,29,14,24,3,30,22,20,15,25,17,4,8,31,27,13,23,21,19,16,7,26,12,18,6,11,5,10,9]:List Int).map fun n=>Value.int .u8 n).toArray
def zYz:Array Value:=((([0,1,56,2,57,49,28,3,61,58,42,50,38,29,17,4,62,47,59,36,45,43,51,22,53,39,33,30,24,18,12,5]++[63,55,48,27,60,41,37,16,46,35,44,21,52,32,23,11,54,26,40,15,34,20,31,10,25,14,19,9,13,8,7,6]:List Int)).map fun n=>Value.int .u8 n).toArray
def zCu:Array Value:=((List.range 20).map fun k=>Value.int .u64 ((10^k:Nat):Int)).toArray
noncomputable def zXb (os:Os):World :=
 { World.holding Tryz.prog os ⟨#[],#[],[]⟩ with heap:=((((((World.holding Tryz.prog os ⟨#[],#[],[]⟩).heap.modify 0 (zOf zE2)).modify 4 (zOf zCu)).modify 7 (zOf zZz)).modify 8 (zOf zYz)).modify 5 (zOf zTu)).modify 6 (zOf zZt) }
theorem zGe {P:Program}{W:World}{x:String×DataW Unit}{r:List (String×DataW Unit)}(h:laidMet P (x::r) W):laidMet P r W:=by
 obtain ⟨ps,⟨g,t,cs,fuel,p,q,_,_,_,_,hr,rfl⟩,hn,hc⟩:=h
 refine ⟨q,hr,?_,fun b off hm=>hc b off (by simp [hm])⟩
 exact (List.nodup_append.1 hn).2.1
theorem zDf {W:World}{x y:String×DataW Unit}{r:List (String×DataW Unit)}(h:laidMet Tryz.prog (x::y::("internal/strconv.uint64pow10",Lib.tabData .u64 Lib.pow10Tab)::r) W):Tb10 W :=
 Lib.tabIs_of_head (P:=Tryz.prog) (name := "internal/strconv.uint64pow10") (k:=.u64) (zs:=Lib.pow10Tab) (g:=4) (t:=244) (e:=22) (n:=20) (by kernel_rfl) (by kernel_rfl) (by kernel_rfl) (by kernel_rfl) (by kernel_rfl) (by kernel_rfl) (zGe (zGe h))
theorem zCg {W:World}{x0 x1 x2 x3:String×DataW Unit}{r:List (String×DataW Unit)}(h:laidMet Tryz.prog (x0::x1::x2::x3::("caliper/desc.rows",Rows.laid_caliper_desc_rows)::r) W):Tab W :=
 tab_of_laid (zGe (zGe (zGe (zGe h))))
end Go.Proofs.YtahfkpjhlbiamaaGreatDoor
