/-
  Texts that the proof leans on.
-/
import Derived.Test.YtgknbdehlmlipaaGreatDoorJ19
import Derived.Test.YtgknbdehlmlipaaGreatDoorJ2
import Derived.DeepKeys
import Derived.Deep.RegionWith
import Derived.Test.YtgknbdehlmlipaaGreatDoorJ14
set_option maxHeartbeats 8000000
set_option linter.unusedVariables false
set_option linter.unusedSectionVars false
set_option linter.unusedSimpArgs false
set_option maxRecDepth 20000
namespace Go.Proofs.YtgknbdehlmlipaaGreatDoor
open Go.RowKit
section
def unp (f e:Nat)(l:Int)(B:Nat):Dat :=
 if B/2^f%2^e=2^e-1 then spc f (sgB f e B) (B%2^f)
 else if B/2^f%2^e=0 then ⟨1,sgB f e B,false,l,B%2^f⟩
 else ⟨1,sgB f e B,false,l+((B/2^f%2^e:Nat)-1:Int),B%2^f+2^f⟩
theorem unpack_bad (n:Int)(B:Nat)(w:World)(hT:Tab w)(hB:B<2^256)(h:¬ goodN n B) :
  CB 82 #[.int .i64 n,A4 B] w (.tuple #[DV 0 false false 0 0,.int .i64 1]):=by
 have c18:=fun w hT=>layoutFor_bad n B w hT hB h
 unfold DV
 simp only [W4_zero]
 clear h hB
 go_enter Tryz.func82,Tryz.ntmps82
 go_wp2_with (go_at_call 110;refine (c18 _ ((hT.alloc _).alloc _)).mono ?_;rintro x w1 ⟨rfl,hb1⟩;obtain ⟨_,_,_,_,hA1,_⟩:=wz w hb1;obtain ⟨_,_⟩:=zf hb1 (w.heap.size+1);clear hb1)
 have hsm:=cell_set_map
 exact bodyPost_ret (v:=.tuple #[.agg #[.int .i64 0,.bool false,.bool false,.int .i64 0,.int .u64 0,.int .u64 0,.int .u64 0,.int .u64 0],.int .i64 1]) (by simp only [results,Tryz.results82];go_simp) rfl ⟨rfl,bgo⟩
section
variable (n:Int)(B:Nat)(f e:Nat)(l m:Int)(w:World)(hT:Tab w)(S:Bool)(E sp:Int)(Fr:Nat)
 (c18:∀ w,Tab w->CB 110 #[.int .i64 n,A4 B] w (.tuple #[LV f e l m,.int .i64 0]))
 (c19:∀ w,CB 111 #[LV f e l m,A4 B] w (.tuple #[.bool S,.int .u64 E,A4 Fr]))
 (c20:∀ w,CB 112 #[LV f e l m] w (.int .u64 sp))
include hT c18 c19 c20
theorem unpack_sp (D:Dat)(c21:∀ w,CB 113 #[LV f e l m,.bool S,A4 Fr] w D.v)(hE:(E==sp)=true) :
  CB 82 #[.int .i64 n,A4 B] w (.tuple #[D.v,.int .i64 0]):=by
 obtain ⟨dc,ds,dg,dx,dk⟩:=D
 unfold Dat.v at *
 dsimp only at *
 go_enter Tryz.func82,Tryz.ntmps82
 go_wp2_with (first
  | (go_at_call 110;refine (c18 _ ((hT.alloc _).alloc _)).mono ?_;rintro x w1 ⟨rfl,hb1⟩;obtain ⟨_,_,_,_,hA1,_⟩:=wz w hb1;obtain ⟨_,_⟩:=zf hb1 (w.heap.size+1);clear hb1)
  | (go_at_call 111;refine (c19 _).mono ?_;rintro x w2 ⟨rfl,hb2⟩;obtain ⟨_,_,_,_,hA2,_⟩:=wz w hb2;obtain ⟨_,_⟩:=zf hb2 (w.heap.size+1);obtain ⟨_,_⟩:=zf hb2 w1.heap.size;clear hb2)
  | (go_at_call 112;refine (c20 _).mono ?_;rintro x w3 ⟨rfl,hb3⟩;obtain ⟨_,_,_,_,hA3,_⟩:=wz w hb3;obtain ⟨_,_⟩:=zf hb3 (w.heap.size+1);obtain ⟨_,_⟩:=zf hb3 w1.heap.size;obtain ⟨_,_⟩:=zf hb3 w2.heap.size;clear hb3)
  | (go_at_call 113;refine (c21 _).mono ?_;rintro x w4 ⟨rfl,hb4⟩;obtain ⟨_,_,_,_,hA4,_⟩:=wz w hb4;obtain ⟨_,_⟩:=zf hb4 (w.heap.size+1);obtain ⟨_,_⟩:=zf hb4 w1.heap.size;obtain ⟨_,_⟩:=zf hb4 w2.heap.size;clear hb4))
 have hsm:=cell_set_map
 exact bodyPost_ret (v:=.tuple #[DV dc ds dg dx dk,.int .i64 0]) (by simp only [results,Tryz.results82];go_simp) rfl ⟨rfl,bgo⟩
theorem unpack_sub (hE:(E==sp)=false)(hE0:E=0) :
  CB 82 #[.int .i64 n,A4 B] w (.tuple #[DV 1 S false l Fr,.int .i64 0]):=by
 subst hE0
 go_enter Tryz.func82,Tryz.ntmps82
 go_wp2_with (first
  | (go_at_call 110;refine (c18 _ ((hT.alloc _).alloc _)).mono ?_;rintro x w1 ⟨rfl,hb1⟩;obtain ⟨_,_,_,_,hA1,_⟩:=wz w hb1;obtain ⟨_,_⟩:=zf hb1 (w.heap.size+1);clear hb1)
  | (go_at_call 111;refine (c19 _).mono ?_;rintro x w2 ⟨rfl,hb2⟩;obtain ⟨_,_,_,_,hA2,_⟩:=wz w hb2;obtain ⟨_,_⟩:=zf hb2 (w.heap.size+1);obtain ⟨_,_⟩:=zf hb2 w1.heap.size;clear hb2)
  | (go_at_call 112;refine (c20 _).mono ?_;rintro x w3 ⟨rfl,hb3⟩;obtain ⟨_,_,_,_,hA3,_⟩:=wz w hb3;obtain ⟨_,_⟩:=zf hb3 (w.heap.size+1);obtain ⟨_,_⟩:=zf hb3 w1.heap.size;obtain ⟨_,_⟩:=zf hb3 w2.heap.size;clear hb3))
 have hsm:=cell_set_map
 exact bodyPost_ret (v:=.tuple #[DV 1 S false l Fr,.int .i64 0]) (by simp only [results,Tryz.results82];go_simp) rfl ⟨rfl,bgo⟩
theorem unpack_norm (Pw Co:Nat)(cr:Int)(hl:-1000000<=l/\l<=0)(hE:(E==sp)=false)(hE0:0<E)(hE1:E<=32768)
  (c23:∀ w,CB 114 #[.int .i64 f] w (A4 Pw))
  (c22:∀ w,CB 86 #[A4 Fr,A4 Pw] w (.tuple #[A4 Co,.int .u64 cr])) :
  CB 82 #[.int .i64 n,A4 B] w (.tuple #[DV 1 S false (l+(E-1)) Co,.int .i64 0]):=by
 go_enter Tryz.func82,Tryz.ntmps82
 go_wp2_with (first
  | (go_at_call 110;refine (c18 _ ((hT.alloc _).alloc _)).mono ?_;rintro x w1 ⟨rfl,hb1⟩;obtain ⟨_,_,_,_,hA1,_⟩:=wz w hb1;obtain ⟨_,_⟩:=zf hb1 (w.heap.size+1);clear hb1)
  | (go_at_call 111;refine (c19 _).mono ?_;rintro x w2 ⟨rfl,hb2⟩;obtain ⟨_,_,_,_,hA2,_⟩:=wz w hb2;obtain ⟨_,_⟩:=zf hb2 (w.heap.size+1);obtain ⟨_,_⟩:=zf hb2 w1.heap.size;clear hb2)
  | (go_at_call 112;refine (c20 _).mono ?_;rintro x w3 ⟨rfl,hb3⟩;obtain ⟨_,_,_,_,hA3,_⟩:=wz w hb3;obtain ⟨_,_⟩:=zf hb3 (w.heap.size+1);obtain ⟨_,_⟩:=zf hb3 w1.heap.size;obtain ⟨_,_⟩:=zf hb3 w2.heap.size;clear hb3))
 have hn1:w1.heap.size≠w.heap.size:=by omega
 have hn2:w1.heap.size≠w.heap.size+1:=by omega
 have hn3:w2.heap.size≠w1.heap.size:=by omega
 refine wp_made 5 8 12 #[.int .u64 0,.int .u64 0,.int .u64 0,.int .u64 0] (by kernel_rfl) (by kernel_rfl) (by kernel_rfl) rfl (fun oa hoa a w=>?_) (by kernel_rfl) (by kernel_rfl) rfl rfl (fun _ _ d _ _ h=>by cases d<;>exact h) ?_
 ·cases hoa;exact ⟨23,by simp [go_sem]⟩
 apply Exists.intro
 refine ⟨fun al hne hcell=>?_,fun w4 hb4=>?_,fun g w4 hb4 hg0 hg1 hg2 hg3=>?_⟩
 ·simp only [List.take_succ_cons,List.take_zero]
  repeat go_big_quiet_step (fail)
  go_big_quiet_step ((go_at_call 114;exact calls_wd _ al_next (c23 _)))
  repeat go_big_quiet_step (fail)
  go_big_quiet_step ((go_at_call 86;exact calls_wd _ al_next (c22 _)))
  exact wpQuiet_nil rfl
 ·simp only [List.drop_succ_cons,List.drop_zero]
  obtain ⟨_,_,_,_,hA4,_⟩:=wz w hb4;obtain ⟨_,_⟩:=zf hb4 (w.heap.size+1);obtain ⟨_,_⟩:=zf hb4 w1.heap.size;obtain ⟨_,_⟩:=zf hb4 w2.heap.size;obtain ⟨_,_⟩:=zf hb4 w3.heap.size;clear hb4
  have hsm:=cell_set_map
  go_wp2
  exact bodyPost_ret (v:=.tuple #[DV 1 S false (l+(E-1)) Co,.int .i64 0]) (by simp only [results,Tryz.results82];go_simp) rfl ⟨rfl,bgo⟩
 ·simp only [List.drop_succ_cons,List.drop_zero,Nat.reduceSub,List.eraseIdx_cons_succ,List.eraseIdx_cons_zero]
  simp only [World.size_alloc] at hg0
  have hgw:=hA3.size
  have hz0:g≠w.heap.size:=by omega
  have hz1:g≠w.heap.size+1:=by omega
  have hz2:g≠w1.heap.size:=by omega
  have hz3:g≠w2.heap.size:=by omega
  have hz4:g≠w3.heap.size:=by omega
  obtain ⟨_,_,_,_,hA4,_⟩:=wz w hb4;obtain ⟨_,_⟩:=zf hb4 (w.heap.size+1);obtain ⟨_,_⟩:=zf hb4 w1.heap.size;obtain ⟨_,_⟩:=zf hb4 w2.heap.size;obtain ⟨_,_⟩:=zf hb4 w3.heap.size;clear hb4
  have hsm:=cell_set_map
  go_wp2
  exact bodyPost_ret (v:=.tuple #[DV 1 S false (l+(E-1)) Co,.int .i64 0]) (by simp only [results,Tryz.results82];go_simp) rfl ⟨rfl,bgo⟩
end
theorem unpack_ok (n:Int)(B:Nat)(w:World)(hT:Tab w)(hB:B<2^256)(h:goodN n B) :
  CB 82 #[.int .i64 n,A4 B] w (.tuple #[(unp (fN n) (eN n) (leastN n) B).v,.int .i64 0]):=by
 have hF:=bin_fm h.1
 have c18:=fun w hT=>layoutFor_ok n B w hT hB h
 have c19:=fun w=>split_any (fN n) (eN n) (leastN n) (mostN n) B w hF hB
 have c20:=fun w=>special_any (fN n) (eN n) (leastN n) (mostN n) w hF
 have hf240:=hF.f240
 have hp:=pow_e hF.e2 hF.e15
 have hpc:((2:Int)^eN n)=((2^eN n:Nat):Int):=by simp
 have hmod:B/2^fN n%2^eN n<2^eN n:=Nat.mod_lt _ (Nat.two_pow_pos _)
 have hfr:B%2^fN n<2^fN n:=Nat.mod_lt _ (Nat.two_pow_pos _)
 have hf256:2^fN n<2^256:=Nat.pow_lt_pow_right (by decide) (by omega)
 unfold unp
 by_cases h1:B/2^fN n%2^eN n=2^eN n-1
 ·rw [if_pos h1]
  exact unpack_sp n B _ _ _ _ w hT _ _ _ _ c18 c19 c20 _ (fun w=>special_spc (fN n) (eN n) (leastN n) (mostN n) (sgB (fN n) (eN n) B) (B%2^fN n) w hF (by omega)) (by rw [h1];simp)
 ·rw [if_neg h1]
  have hE:(((B/2^fN n%2^eN n:Nat):Int)==((2^eN n-1:Nat):Int))=false:=by
   rw [beq_eq_false_iff_ne];omega
  by_cases h2:B/2^fN n%2^eN n=0
  ·rw [if_pos h2]
   exact unpack_sub n B _ _ _ _ w hT _ _ _ _ c18 c19 c20 hE (by omega)
  ·rw [if_neg h2]
   have h256:(2:Nat)^256=115792089237316195423570985008687907853269984665640564039457584007913129639936:=by decide
   exact unpack_norm n B _ _ _ _ w hT _ _ _ _ c18 c19 c20 (2^fN n) (B%2^fN n+2^fN n) _ ⟨hF.l1,hF.l0⟩ hE (by omega) (by rw [hpc] at hp;omega) (fun w=>power_any (fN n) w (by omega)) (fun w=>add4 (B%2^fN n) (2^fN n) w (by omega) hf256)
end
section
abbrev Z4:Value:=.agg #[.int .u64 0,.int .u64 0,.int .u64 0,.int .u64 0]
theorem Z4_eq:A4 0=Z4:=by unfold A4 Z4;simp only [W4_zero]
section
variable (f e:Nat)(l m:Int)(w:World)(c x:Int)(s:Bool)(k:Nat)(L:Int)(hf:f<=240)
 (c46:∀ w,CB 143 #[A4 k] w (.int .i64 L))
include hf c46
end
def isD (f:Nat)(l m:Int)(d:Dat):Prop :=
 (d.c=1/\d.g=false/\d.k<2^(f+1)/\l<=d.x/\d.x<=m/\(2^f<=d.k∨d.x=l)) ∨
 (d.c=2/\d.g=false/\d.x=0/\d.k=0) ∨
 (d.c=3/\d.x=0/\d.k<2^(f-1)/\(d.k≠0∨d.g=false))
instance (f:Nat) (l m:Int) (d:Dat):Decidable (isD f l m d):=inferInstanceAs (Decidable (_∨_∨_))
def pk (f e:Nat)(l:Int)(d:Dat):Nat :=
 (if d.c=1 then (d.x-l).toNat*2^f+d.k else if d.c=2 then (2^e-1)*2^f+0 else (2^e-1)*2^f+(if d.g then d.k else d.k+2^(f-1)))+if d.s then 2^(f+e) else 0
end
theorem eq24d (d:Nat)(a0 a1 a2 a3 b0 b1 b2 b3:Int)(w:World) :
  Sem.run Tryz.prog (Op.equalIn (d+2) 24 (.agg #[.int .u64 a0,.int .u64 a1,.int .u64 a2,.int .u64 a3]) (.agg #[.int .u64 b0,.int .u64 b1,.int .u64 b2,.int .u64 b3])) w=.ok (decide (a0=b0/\a1=b1/\a2=b2/\a3=b3)) w:=by
 obtain ⟨i22,hi⟩:∃ i,Tryz.prog.info? 22=some i:=⟨_,rfl⟩
 have h:=run_equalIn_array (P:=Tryz.prog) w (d+1) (t:=24) (e:=22) (n:=4) #[.int .u64 a0,.int .u64 a1,.int .u64 a2,.int .u64 a3] #[.int .u64 b0,.int .u64 b1,.int .u64 b2,.int .u64 b3] (by kernel_rfl) hi
 refine h.trans ?_
 have hc:Tryz.prog.cellsOf 22=1:=by kernel_rfl
 rw [hc]
 simp [List.range_succ,Op.eqItems,go_sem]
 by_cases h0:a0=b0<;>by_cases h1:a1=b1<;>by_cases h2:a2=b2<;>by_cases h3:a3=b3<;>simp [h0,h1,h2,h3]
theorem eq24 (a0 a1 a2 a3 b0 b1 b2 b3:Int)(w:World) :
  Sem.run Tryz.prog (Op.equalIn 10000 24 (.agg #[.int .u64 a0,.int .u64 a1,.int .u64 a2,.int .u64 a3]) (.agg #[.int .u64 b0,.int .u64 b1,.int .u64 b2,.int .u64 b3])) w=.ok (decide (a0=b0/\a1=b1/\a2=b2/\a3=b3)) w :=
 eq24d 9998 a0 a1 a2 a3 b0 b1 b2 b3 w
theorem eq27d (d:Nat)(c c':Int)(s s' g g':Bool)(x x':Int)(a0 a1 a2 a3 b0 b1 b2 b3:Int)(w:World) :
  Sem.run Tryz.prog (Op.equalIn (d+2+1) 34 (.agg #[.int .i64 c,.bool s,.bool g,.int .i64 x,.int .u64 a0,.int .u64 a1,.int .u64 a2,.int .u64 a3]) (.agg #[.int .i64 c',.bool s',.bool g',.int .i64 x',.int .u64 b0,.int .u64 b1,.int .u64 b2,.int .u64 b3])) w=.ok (decide (c=c'/\s=s'/\g=g'/\x=x'/\a0=b0/\a1=b1/\a2=b2/\a3=b3)) w:=by
 have hst:Tryz.prog.stoodInHeld 34=false:=by kernel_rfl
 have h24:=eq24d d a0 a1 a2 a3 b0 b1 b2 b3 w
 have hp3:∀ (xs:Array Value) (o:Nat) (v:Value),xs[o]?=some v->Sem.run Tryz.prog (part 3 xs o) w=.ok v w:=fun xs o v h=>by simp [go_sem,part,h]
 rw [Op.equalIn]
 simp only [Sem.run_bind,run_underlying Tryz.underlying34,Result.andThen_ok]
 have hprog:Sem.run Tryz.prog program w=.ok Tryz.prog w:=rfl
 rw [hprog]
 simp only [Result.andThen_ok,hst,Bool.false_eq_true,if_false]
 simp [List.forIn_toArray,List.forIn_cons,go_sem,h24]
 by_cases h1:c=c'
 ·by_cases h2:s=s'
  ·by_cases h3:g=g'
   ·by_cases h4:x=x'
    ·by_cases h5:a0=b0<;>by_cases h6:a1=b1<;>by_cases h7:a2=b2<;>by_cases h8:a3=b3<;>simp [h1,h2,h3,h4,h5,h6,h7,h8]
    ·simp [h1,h2,h3,h4]
   ·simp [h1,h2,h3]
  ·simp [h1,h2]
 ·simp [h1]
theorem eq27 (c c':Int)(s s' g g':Bool)(x x':Int)(a0 a1 a2 a3 b0 b1 b2 b3:Int)(w:World) :
  Sem.run Tryz.prog (Op.equalIn 10000 34 (.agg #[.int .i64 c,.bool s,.bool g,.int .i64 x,.int .u64 a0,.int .u64 a1,.int .u64 a2,.int .u64 a3]) (.agg #[.int .i64 c',.bool s',.bool g',.int .i64 x',.int .u64 b0,.int .u64 b1,.int .u64 b2,.int .u64 b3])) w=.ok (decide (c=c'/\s=s'/\g=g'/\x=x'/\a0=b0/\a1=b1/\a2=b2/\a3=b3)) w :=
 eq27d 9997 c c' s s' g g' x x' a0 a1 a2 a3 b0 b1 b2 b3 w
section
section
variable (n:Int)(f e:Nat)(l m:Int)(w:World)(hT:Tab w)(c x:Int)(s g:Bool)(k:Nat)
 (c31:∀ w,Tab w->CB 99 #[.int .i64 n] w (.tuple #[LV f e l m,.int .i64 0]))
include hT c31
end
def unD (n:Int)(B:Nat):Dat:=if goodN n B then unp (fN n) (eN n) (leastN n) B else ⟨0,false,false,0,0⟩
def unE (n:Int)(B:Nat):Int:=if goodN n B then 0 else 1
theorem unpack_any (n:Int)(B:Nat)(w:World)(hT:Tab w)(hB:B<2^256) :
  CB 82 #[.int .i64 n,A4 B] w (.tuple #[(unD n B).v,.int .i64 (unE n B)]):=by
 unfold unD unE
 by_cases h:goodN n B
 ·rw [if_pos h,if_pos h];exact unpack_ok n B w hT hB h
 ·rw [if_neg h,if_neg h];exact unpack_bad n B w hT hB h
end
end Go.Proofs.YtgknbdehlmlipaaGreatDoor

namespace Go.Proofs.YtgknbdehlmlipaaGreatDoor
theorem fields_of {f e S E F:Nat}(hS:S<=1)(hE:E<2^e)(hF:F<2^f) :
  (E*2^f+F+S*2^(f+e))%2^f=F/\(E*2^f+F+S*2^(f+e))/2^f%2^e=E/\(E*2^f+F+S*2^(f+e))/2^(f+e)=S/\E*2^f+F+S*2^(f+e)<2^(f+e+1):=by
 have hP:0<2^f:=Nat.two_pow_pos f
 have hR:0<2^e:=Nat.two_pow_pos e
 have e1:E*2^f+F+S*2^(f+e)=F+(E+S*2^e)*2^f:=by
  rw [Nat.pow_add,Nat.add_mul,Nat.mul_assoc,Nat.mul_comm (2^e) (2^f)];omega
 have d1:(E*2^f+F+S*2^(f+e))/2^f=E+S*2^e:=by
  rw [e1,Nat.add_mul_div_right _ _ hP,Nat.div_eq_of_lt hF,Nat.zero_add]
 have d2:(E*2^f+F+S*2^(f+e))/2^(f+e)=S:=by
  rw [Nat.pow_add,← Nat.div_div_eq_div_mul,← Nat.pow_add,d1,Nat.add_mul_div_right _ _ hR,Nat.div_eq_of_lt hE,Nat.zero_add]
 refine ⟨?_,?_,d2,?_⟩
 ·rw [e1,Nat.add_mul_mod_self_right,Nat.mod_eq_of_lt hF]
 ·rw [d1,Nat.add_mul_mod_self_right,Nat.mod_eq_of_lt hE]
 ·have hp:0<2^(f+e):=Nat.two_pow_pos _
  refine Nat.lt_of_div_lt_div (c:=2^(f+e)) ?_
  rw [d2,Nat.pow_succ,Nat.mul_comm,Nat.mul_div_cancel _ hp]
  omega
theorem fields_in {f e B:Nat}(hB:B<2^(f+e+1)):∃ S E F,S<=1/\E<2^e/\F<2^f/\B=E*2^f+F+S*2^(f+e):=by
 refine ⟨B/2^(f+e),B/2^f%2^e,B%2^f,?_,Nat.mod_lt _ (Nat.two_pow_pos _),Nat.mod_lt _ (Nat.two_pow_pos _),?_⟩
 ·have:B/2^(f+e)<2:=Nat.div_lt_of_lt_mul (by rw [Nat.mul_comm];rw [Nat.pow_succ] at hB;omega)
  omega
 ·have h1:=Nat.div_add_mod' B (2^f)
  have h2:=Nat.div_add_mod' (B/2^f) (2^e)
  rw [Nat.div_div_eq_div_mul,← Nat.pow_add] at h2
  have h3:(B/2^(f+e)*2^e+B/2^f%2^e)*2^f=B/2^f*2^f:=by rw [h2]
  rw [Nat.add_mul,Nat.mul_assoc,Nat.mul_comm (2^e) (2^f),← Nat.pow_add] at h3
  omega
theorem sg_of {f e S E F:Nat}(hS:S<=1)(hE:E<2^e)(hF:F<2^f):sgB f e (E*2^f+F+S*2^(f+e))=decide (S=1):=by
 unfold sgB
 rw [(fields_of hS hE hF).2.2.1]
 have:S=0∨S=1:=by omega
 rcases this with rfl|rfl<;>rfl
def mean (f e:Nat)(l:Int)(S E F:Nat):Dat :=
 if E=2^e-1 then spc f (decide (S=1)) F else if E=0 then ⟨1,decide (S=1),false,l,F⟩ else ⟨1,decide (S=1),false,l+((E:Int)-1),F+2^f⟩
theorem unp_mean {f e S E F:Nat}(l:Int)(hS:S<=1)(hE:E<2^e)(hF:F<2^f):unp f e l (E*2^f+F+S*2^(f+e))=mean f e l S E F:=by
 unfold unp mean
 obtain ⟨h1,h2,_,_⟩:=fields_of hS hE hF
 rw [h1,h2,sg_of hS hE hF]
theorem sel {S X:Nat}(hS:S<=1):(if decide (S=1)=true then X else 0)=S*X:=by
 have:S=0∨S=1:=by omega
 rcases this with rfl|rfl<;>simp
theorem half {f:Nat}(h:2<=f):2^(f-1)+2^(f-1)=2^f/\1<=2^(f-1):=by
 refine ⟨?_,Nat.one_le_two_pow⟩
 have:f=f-1+1:=by omega
 conv=>rhs;rw [this,Nat.pow_succ]
 omega
theorem mean_isD {f e S E F:Nat}{l m:Int}(h:Fm f e l m)(hS:S<=1)(hE:E<2^e)(hF:F<2^f):isD f l m (mean f e l S E F)/\pk f e l (mean f e l S E F)=E*2^f+F+S*2^(f+e)/\(mean f e l S E F).k<2^256:=by
 have hp:=pow_e h.e2 h.e15
 have hpc:((2:Int)^e)=((2^e:Nat):Int):=by simp
 have hm:=h.m
 rw [hpc] at hp hm
 have hh:=half h.f2
 have h256:2^(f+1)<=2^256:=Nat.pow_le_pow_right (by decide) (by have:=h.f240;omega)
 have hs1:2^(f+1)=2^f+2^f:=by rw [Nat.pow_succ];omega
 unfold mean
 by_cases h1:E=2^e-1
 ·rw [if_pos h1]
  unfold spc
  by_cases h2:F=0
  ·rw [if_pos h2]
   refine ⟨Or.inr (Or.inl ⟨rfl,rfl,rfl,rfl⟩),?_,by show 0<_;omega⟩
   unfold pk
   simp only [show ¬ ((2:Int)=1) by decide,if_false,if_true]
   rw [sel hS,← h1,h2]
  ·rw [if_neg h2]
   by_cases h3:F<2^(f-1)
   ·rw [if_pos h3]
    refine ⟨Or.inr (Or.inr ⟨rfl,rfl,h3,Or.inl h2⟩),?_,by show F<_;omega⟩
    unfold pk
    simp only [show ¬ ((3:Int)=1) by decide,show ¬ ((3:Int)=2) by decide,if_false,if_true]
    rw [sel hS,← h1]
   ·rw [if_neg h3]
    refine ⟨Or.inr (Or.inr ⟨rfl,rfl,by show F-2^(f-1)<_;omega,Or.inr rfl⟩),?_,by show F-2^(f-1)<_;omega⟩
    unfold pk
    simp only [show ¬ ((3:Int)=1) by decide,show ¬ ((3:Int)=2) by decide,if_false,Bool.false_eq_true]
    rw [sel hS,← h1,Nat.sub_add_cancel (by omega)]
 ·rw [if_neg h1]
  by_cases h2:E=0
  ·rw [if_pos h2]
   refine ⟨Or.inl ⟨rfl,rfl,by show F<_;omega,Int.le_refl _,by show l<=m;omega,Or.inr rfl⟩,?_,by show F<_;omega⟩
   unfold pk
   simp only [if_true,Int.sub_self,Int.toNat_zero,Nat.zero_mul]
   rw [sel hS,h2,Nat.zero_mul]
  ·rw [if_neg h2]
   refine ⟨Or.inl ⟨rfl,rfl,by show F+2^f<_;omega,by show l<=l+((E:Int)-1);omega,by show l+((E:Int)-1)<=m;omega,Or.inl (by show 2^f<=F+2^f;omega)⟩,?_,by show F+2^f<_;omega⟩
   unfold pk
   simp only [if_true]
   rw [sel hS,show (l+((E:Int)-1)-l).toNat=E-1 by omega]
   obtain ⟨E',rfl⟩:∃ E',E=E'+1:=⟨E-1,by omega⟩
   rw [Nat.add_sub_cancel,Nat.add_mul]
   omega
theorem unD_k (n:Int)(B:Nat):(unD n B).k<2^256:=by
 unfold unD
 by_cases h:goodN n B
 ·rw [if_pos h]
  obtain ⟨S,E,F,hS,hE,hFr,hB⟩:=fields_in h.2
  rw [hB,unp_mean _ hS hE hFr]
  exact (mean_isD (bin_fm h.1) hS hE hFr).2.2
 ·rw [if_neg h];decide
end Go.Proofs.YtgknbdehlmlipaaGreatDoor

namespace Go.Proofs.YtgknbdehlmlipaaGreatDoor
open Go.RowKit
section
attribute [local go_sem ↓] Go.wp_at_zero Go.wp_at_succ
theorem nv_low {k V:Nat}{z:Nat->Int}(hz:Words z)(h0:∀ i,k<=i->z i=0)(hv:val z k=(V:Int)):val z 4=((V%2^256:Nat):Int):=by
 have h1:val z (4+k)=(V:Int):=by rw [val_more h0 (4+k) (by omega),hv]
 rw [val_split z 4 k] at h1
 have hb:=val_bd hz 4
 have e4:(18446744073709551616:Int)^4=((2^256:Nat):Int):=by decide
 rw [e4] at h1 hb
 have h5:=congrArg (·%((2^256:Nat):Int)) h1
 simp only [Int.add_mul_emod_self_right,Int.emod_eq_of_lt hb.1 hb.2] at h5
 rw [h5]
 rfl
theorem bits_num (g k cap:Nat)(z:Nat->Int)(w:World)(h:Num w (some ⟨g,0,none⟩) k cap z) :
  CB 28 #[.slice (some ⟨g,0,none⟩) k cap] w (.agg (arrOf z 4)):=by
 have hw:=fun (i:Nat) (o1 o2:Obj)=>word_any (some ⟨g,0,none⟩) k cap i z ((w.alloc o1).alloc o2) ((h.next (below1 w _)).next (below1 _ _))
 clear h
 go_enter Tryz.func28,Tryz.ntmps28
 go_wp2
 go_loopw [4,5] (fun u4 i wr=>∃ (j:Nat) (ss:Array Value),j<=4/\i=.int .i64 j/\ss.size=4/\(∀ q h,ss[q]'h=Value.int .u64 (if q<j then z q else 0))/\wr=(w.alloc (.cells #[.int .u64 0,.int .u64 0,.int .u64 0,.int .u64 0] 24)).alloc (.cells ss 24)) (fun _ i _=>4-(intOf i).toNat)
 case atStart=>exact ⟨0,_,Nat.zero_le _,rfl,rfl,by intro q h;have h':q<4:=h;match q,h' with|0,_=>rfl|1,_=>rfl|2,_=>rfl|3,_=>rfl,rfl⟩
 case round =>
  obtain ⟨j,ss,hj,rfl,hsz,hss,rfl⟩:=hrel
  by_cases h4:j<4
  ·have h4i:(j:Int)<4:=by omega
   have h4s:j<ss.size:=by omega
   have hsk:ss[j]?=some (.int .u64 0):=by rw [Array.getElem?_eq_getElem h4s,hss j h4s,if_neg (by omega)]
   have HR:Hid (∀ (i:Nat) (h:i<(ss.setIfInBounds j (.int .u64 (z j))).size),(ss.setIfInBounds j (.int .u64 (z j)))[i]'h=Value.int .u64 (if i<j+1 then z i else 0)):=set_next hss
   have hwj:=hw j (.cells #[.int .u64 0,.int .u64 0,.int .u64 0,.int .u64 0] 24) (.cells ss 24)
   clear hss hw
   go_wp2_with (go_at_call 55;refine hwj.mono ?_;rintro e w' ⟨rfl,rfl⟩)
   go_roundw
   case rel=>exact ⟨j+1,ss.setIfInBounds j (.int .u64 (z j)),by omega,by go_num,by simp [hsz],HR.out,rfl⟩
   case measure=>simp [intOf];omega
  ·obtain rfl:j=4:=by omega
   have hss':∀ q h,ss[q]'h=Value.int .u64 (z q):=by
    intro q h;rw [hss q h,if_pos (by omega)]
   clear hss hw
   go_wp2
   exact bodyPost_ret (v:=.agg (arrOf z 4)) (by simp [results,Tryz.results28,go_sem];rfl) rfl ⟨rfl,((Below.refl _ _).alloc (Nat.le_refl _) _).alloc (by simp) _⟩
theorem bits_nv {K V:Nat}{v:Value}{w:World}(h:NV K V v w) :
  CB 28 #[v] w (A4 V):=by
 obtain ⟨g,k,cap,z,rfl,hk,hN,hv⟩:=h
 refine (bits_num g k cap z w hN).mono ?_
 rintro e w' ⟨rfl,hb⟩
 refine ⟨?_,hb⟩
 rw [arr_A4 hN.2.2.1 (nv_low hN.2.2.1 hN.2.2.2.1 hv)]
theorem number_nv {K V:Nat}{v:Value}{w:World}(h:NV K V v w)(hK:K<1000)(hV:V<9223372036854775808) :
    Calls Tryz.prog 53 #[v] w fun e w'=>e=.returned (.int .i64 V)/\w'=w:=by
  obtain ⟨g,k,cap,z,rfl,hk,hN,hv⟩:=h
  obtain ⟨h1,h2,h3,h4,h5⟩:=hN
  rcases h5 with ⟨h5,_⟩|⟨b,off,e,hb,hc⟩
  · cases h5
  · cases e
    rcases Nat.eq_zero_or_pos k with hk0|hk0
    · subst hk0
      have : V = 0 := by have : val z 0 = 0 := rfl
                         omega
      subst this
      go_enter Tryz.func53,Tryz.ntmps53
      go_wp2
      go_ret
      exact ⟨rfl,rfl⟩
    · have hc0:=hc 0 hk0
      have hz0:=h3 0
      have e0:z 0=(V:Int):=by
        have hl:=nv_low h3 h4 hv
        obtain ⟨j,rfl⟩:∃ j,k=1+j:=⟨k-1,by omega⟩
        have hs:=val_split z 1 j
        have hb2:=val_bd (segW_words h3 1 j) j
        have h10:val z 1=z 0:=by show val z 0+z 0*18446744073709551616^0=z 0;simp [val]
        rw [hv,h10] at hs
        simp only [Int.pow_one] at hs
        have hm:0<=val (segW z 1 j) j:=hb2.1
        by_cases hp:0<val (segW z 1 j) j
        · exfalso;omega
        · have:val (segW z 1 j) j=0:=by omega
          rw [this] at hs;omega
      have hk1:¬ ((k:Int)=0):=by omega
      rw [e0] at hc0
      simp only [Nat.add_zero] at hc0
      have hkb:(k==0)=false:=by simp;omega
      have hki:(0:Int)<k:=by omega
      clear hc h3 h4 hv e0 hz0
      go_enter Tryz.func53,Tryz.ntmps53
      go_wp2
      go_ret
      exact ⟨rfl,rfl⟩
theorem box_nv {w0 w:World}{B:Nat}{t:TypeId}(hB:B<2^256)(hb:Below (w0.alloc (.cells #[.int .u64 (W4 B 0),.int .u64 (W4 B 1),.int .u64 (W4 B 2),.int .u64 (W4 B 3)] t)).heap.size (w0.alloc (.cells #[.int .u64 (W4 B 0),.int .u64 (W4 B 1),.int .u64 (W4 B 2),.int .u64 (W4 B 3)] t)) w) :
  NV 4 B (.slice (some ⟨w0.heap.size,0,none⟩) 4 4) w :=
 ⟨_,4,4,_,rfl,Nat.le_refl _,box_num (W4_words B) (A4_get B) hb,by
  rw [val_congr (x:=lowW (W4 B) 4) (y:=W4 B) 4 (fun i hi=>lowW_lt hi),W4_val4 hB]⟩
theorem field_any (B at_ n:Nat)(w:World)(hB:B<2^256)(ha:at_<=600)(hn:n<=600) :
  CE 52 #[A4 B,.int .i64 at_,.int .i64 n] w (NT 19 (B/2^at_%2^n)):=by
 have hbx:=box_nv (w0:=w) (B:=B) (t:=24) hB (Below.refl _ _)
 go_enter Tryz.func52,Tryz.ntmps52
 go_wp2_with (first
  | (have:=hA2;go_at_call 22;refine (rleft_nv n (by decide) hn hh).mono ?_;rintro e w3 ⟨v3,rfl,hl,hb3⟩;replace hx:=hx.next hb3;have hA3:=bnext hA2 hb3)
  | (have:=hA1;go_at_call 49;refine (rright_nv n (by decide) hn hx).mono ?_;rintro e w2 ⟨v2,b2,rfl,hh,hb2⟩;replace hx:=hx.next hb2;have hA2:=bnext hA1 hb2)
  | (go_at_call 49;refine (rright_nv at_ (by decide) ha hbx).mono ?_;rintro e w1 ⟨v1,b1,rfl,hx,hb1⟩;have hA1:=bnext (w0:=w) bgo hb1)
  | (go_at_call 50;refine (rless_nt (by decide) (by decide) hx hl (Nat.div_mul_le_self _ _)).mono ?_;rintro e w4 ⟨v4,rfl,hr,hb4⟩;have hA4:=bnext hA3 hb4))
 go_ret
 refine ⟨_,rfl,?_,hA4⟩
 rw [show B/2^at_%2^n=B/2^at_-B/2^at_/2^n*2^n by have:=Nat.div_add_mod' (B/2^at_) (2^n);omega]
 exact hr
end
theorem lay_any (B A at_ K:Nat)(v:Value)(w:World)(hB:B<2^256)(hK:K<900)(ha:at_<=600)(h:NV K A v w) :
  CB 63 #[A4 B,v,.int .i64 at_] w (A4 (B+A*2^at_)):=by
 have c52:∀ W,Below w.heap.size w W->Calls Tryz.prog 22 #[v,.int .i64 at_] W fun e w'=>∃ v',e=.returned v'/\NV (K+11) (A*2^at_) v' w'/\Below W.heap.size W w':=fun W hW=>rleft_nv at_ (by omega) ha (h.next hW)
 clear h
 go_enter Tryz.func63,Tryz.ntmps63
 go_wp2
 go_region_with (first
  | (go_at_call 22;refine (c52 _ bgo).mono ?_;rintro e w1 ⟨v1,rfl,hl,hb1⟩;have hbx:=box_nv (w0:=w) (B:=B) (t:=24) hB (bnext bgo hb1);obtain ⟨_,_,_,_,hA1,_⟩:=wz w hb1;obtain ⟨_,_⟩:=zf hb1 (w.heap.size+1);clear hb1)
  | (go_at_call 21;refine (radd_nv (by decide) (by omega) hbx hl).mono ?_;rintro e w2 ⟨v2,rfl,hs,hb2⟩;obtain ⟨_,_,_,_,hA2,_⟩:=wz w hb2;obtain ⟨_,_⟩:=zf hb2 (w.heap.size+1);clear hb2)
  | (go_at_call 28;refine (bits_nv hs).mono ?_;rintro e w3 ⟨rfl,hb3⟩;obtain ⟨_,_,_,_,hA3,_⟩:=wz w hb3;obtain ⟨_,_⟩:=zf hb3 (w.heap.size+1);clear hb3))
 have hsm:=cell_set_map
 go_wp2
 exact bodyPost_ret (v:=A4 (B+A*2^at_)) (by simp only [results,Tryz.results63];go_simp) rfl ⟨rfl,bgo⟩
theorem rbinary_any (n:Int)(w:World):Calls Tryz.prog 38 #[.int .i64 n] w fun e w'=>e=.returned (.bool (decide (binN n)))/\w'=w:=by
 by_cases h1:1<=n
 ·by_cases h2:n<=6
  ·rw [decide_eq_true (show binN n from ⟨h1,h2⟩)]
   go_enter Tryz.func38,Tryz.ntmps38
   go_wp2
   go_ret
   exact ⟨rfl,rfl⟩
  ·rw [decide_eq_false (show ¬ binN n from fun h=>h2 h.2)]
   go_enter Tryz.func38,Tryz.ntmps38
   go_wp2
   go_ret
   exact ⟨rfl,rfl⟩
 ·rw [decide_eq_false (show ¬ binN n from fun h=>h1 h.1)]
  go_enter Tryz.func38,Tryz.ntmps38
  go_wp2
  go_ret
  exact ⟨rfl,rfl⟩
theorem rfits4 (n:Int)(B:Nat)(hB:B<2^256)(w:World) :
  CB 44 #[.int .i64 n,A4 B] w (.bool (decide (okN n/\B<2^(widthN n).toNat))):=by
 refine (rfits_any n (W4 B) (W4_words B) _ (A4_get B) rfl w).mono ?_
 rintro x w' ⟨rfl,hb⟩
 refine ⟨?_,hb⟩
 have hwd:=(fields_bounds n).2.1
 have e:(fitsP n (W4 B))↔(okN n/\B<2^(widthN n).toNat):=by
  unfold fitsP
  rw [lenL_low]
  have:=len4_le (k:=(widthN n).toNat) hB
  rw [show (((widthN n).toNat:Nat):Int)=widthN n by omega] at this
  rw [this]
 rw [decide_eq_decide.2 e]
theorem rgood_any (n:Int)(B:Nat)(hB:B<2^256)(w:World) :
  CB 51 #[.int .i64 n,A4 B] w (.bool (decide (goodN n B))):=by
 have c35:=fun w=>rbinary_any n w
 have c50:=fun w=>rfits4 n B hB w
 by_cases hb:binN n
 ·have hF:=bin_fields hb
  rw [decide_eq_true hb] at c35
  have e:(okN n/\B<2^(widthN n).toNat)↔goodN n B:=by
   rw [hF.2.2.2.2.1,Int.toNat_natCast]
   exact ⟨fun h=>⟨hb,h.2⟩,fun h=>⟨hF.1,h.2⟩⟩
  rw [decide_eq_decide.2 e] at c50
  generalize decide (goodN n B)=D at *
  clear hF e hb hB
  go_enter Tryz.func51,Tryz.ntmps51
  go_wp2_with (first
   | (go_at_call 38;refine (c35 _).mono ?_;rintro e w1 ⟨rfl,rfl⟩)
   | (go_at_call 44;refine (c50 _).mono ?_;rintro e w2 ⟨rfl,hb2⟩))
  go_ret
  exact ⟨rfl,bnext bgo hb2⟩
 ·rw [decide_eq_false hb] at c35
  rw [decide_eq_false (show ¬ goodN n B from fun h=>hb h.1)]
  clear hb hB c50
  go_enter Tryz.func51,Tryz.ntmps51
  go_wp2_with (go_at_call 38;refine (c35 _).mono ?_;rintro e w1 ⟨rfl,rfl⟩)
  go_ret
  exact ⟨rfl,bgo⟩
theorem dl_bits {t0 x t1 y t2 z:Int}(h0:0<=t0/\t0<4)(h1:0<=x/\x<2)(h2:0<=t1/\t1<4)(h3:0<=y/\y<2)(h4:0<=t2/\t2<8)(h5:0<=z/\z<2) :
  bits .or .i64 (bits .or .i64 (bits .or .i64 (bits .or .i64 (bits .or .i64 (t0*256) (x*128)) (t1*32)) (y*16)) (t2*2)) z=t0*256+x*128+t1*32+y*16+t2*2+z:=by
 obtain ⟨a,rfl⟩:=Int.eq_ofNat_of_zero_le h0.1
 obtain ⟨b,rfl⟩:=Int.eq_ofNat_of_zero_le h1.1
 obtain ⟨c,rfl⟩:=Int.eq_ofNat_of_zero_le h2.1
 obtain ⟨d,rfl⟩:=Int.eq_ofNat_of_zero_le h3.1
 obtain ⟨e,rfl⟩:=Int.eq_ofNat_of_zero_le h4.1
 obtain ⟨f,rfl⟩:=Int.eq_ofNat_of_zero_le h5.1
 have h:=upTo_all (f:=fun i=>decide (bits .or .i64 (bits .or .i64 (bits .or .i64 (bits .or .i64 (bits .or .i64 (((i/256:Nat):Int)*256) (((i/128%2:Nat):Int)*128)) (((i/32%4:Nat):Int)*32)) (((i/16%2:Nat):Int)*16)) (((i/2%8:Nat):Int)*2)) ((i%2:Nat):Int)=(i:Int))) (m:=1024) (by decide +kernel) (a*256+b*128+c*32+d*16+e*2+f) (by omega)
 have h':=of_decide_eq_true h
 obtain ⟨i,hi⟩:∃ i,i=a*256+b*128+c*32+d*16+e*2+f:=⟨_,rfl⟩
 rw [← hi] at h'
 rw [show i/256=a by omega,show i/128%2=b by omega,show i/32%4=c by omega,show i/16%2=d by omega,show i/2%8=e by omega,show i%2=f by omega] at h'
 rw [h',hi]
 omega
structure Thr (w:World) (g:Nat) (x y z:Int):Prop where
 c0:w.cell? ⟨g,0,none⟩=some (.int .i64 x)
 c1:w.cell? ⟨g,1,none⟩=some (.int .i64 y)
 c2:w.cell? ⟨g,2,none⟩=some (.int .i64 z)
theorem enc_0 (n a b c g:Nat)(w:World)(hn:n<1000)(ha:n/100=a)(hb:n/10%10=b)(hc:n%10=c)(hg:a/8*4+b/8*2+c/8=g)(R:Int)
  (hR:((((a:Int)/2%4):Int)*256+(a:Int)%2*128+((b:Int)/2%4)*32+(b:Int)%2*16+((c:Int)/2%4)*2+(c:Int)%2)=R)
  (c21:∀ W,CB 116 #[.int .i64 (g:Int)] W (.agg #[.int .i64 10,.int .i64 11,.int .i64 22])) :
  CB 90 #[.int .i64 (n:Int)] w (.tuple #[.int .i64 R,.int .i64 0]):=by
 have h0:¬ (n:Int)<0:=by omega
 have h9:¬ 999<(n:Int):=by omega
 have ea:(n:Int)/100=(a:Int):=by omega
 have eb:(n:Int)/10%10=(b:Int):=by omega
 have ec:(n:Int)%10=(c:Int):=by omega
 have eg:(a:Int)/8*4+(b:Int)/8*2+(c:Int)/8=(g:Int):=by omega
 have la:(a:Int)/8<=1:=by omega
 have lb:(b:Int)/8<=1:=by omega
 go_enter Tryz.func90,Tryz.ntmps90
 go_wp2_with (go_at_call 116;refine (c21 _).mono ?_;rintro r w1 ⟨rfl,hb1⟩;obtain ⟨_,_,_,_,hA1,_⟩:=wz w hb1;clear hb1)
 go_loopw [39] (fun t wr=>∃ i:Nat,i<=3/\t=.int .i64 i/\Thr wr w.heap.size a b c/\Thr wr w1.heap.size 10 11 22/\Thr wr (w1.heap.size+1) (if 0<i then ((a:Int)/2%4) else 0) (if 1<i then ((b:Int)/2%4) else 0) (if 2<i then ((c:Int)/2%4) else 0)/\(∀ j,wr.frozen? ⟨w1.heap.size+1,j,none⟩=false)/\Below w.heap.size w wr/\w1.heap.size+1<wr.heap.size) (fun t _=>3-(intOf t).toNat)
 case atStart=>exact ⟨0,by decide,rfl,⟨by go_simp,by go_simp,by go_simp⟩,⟨by go_simp,by go_simp,by go_simp⟩,⟨by go_simp,by go_simp,by go_simp⟩,fun j=>by go_simp,bgo,by simp⟩
 case round =>
  obtain ⟨i,hi,rfl,⟨p0,p1,p2⟩,⟨q0,q1,q2⟩,⟨s0,s1,s2⟩,hfr,hbw,hsz⟩:=hrel
  have hl0:w.heap.size<wr.heap.size:=by omega
  have hl1:w1.heap.size<wr.heap.size:=by omega
  have hne1:¬ w.heap.size=w1.heap.size+1:=by omega
  have hne2:¬ w1.heap.size=w1.heap.size+1:=by omega
  have hi':i=0∨i=1∨i=2∨i=3:=by omega
  rcases hi' with rfl|rfl|rfl|rfl
  ·go_wp2
   go_roundw
   case rel=>exact ⟨1,by omega,by go_num,⟨by go_simp,by go_simp,by go_simp⟩,⟨by go_simp,by go_simp,by go_simp⟩,⟨by go_simp,by go_simp,by go_simp⟩,fun j=>by go_simp,bgo,by simpa using hsz⟩
   case measure=>simp [intOf]
  ·go_wp2
   go_roundw
   case rel=>exact ⟨2,by omega,by go_num,⟨by go_simp,by go_simp,by go_simp⟩,⟨by go_simp,by go_simp,by go_simp⟩,⟨by go_simp,by go_simp,by go_simp⟩,fun j=>by go_simp,bgo,by simpa using hsz⟩
   case measure=>simp [intOf]
  ·go_wp2
   go_roundw
   case rel=>exact ⟨3,by omega,by go_num,⟨by go_simp,by go_simp,by go_simp⟩,⟨by go_simp,by go_simp,by go_simp⟩,⟨by go_simp,by go_simp,by go_simp⟩,fun j=>by go_simp,bgo,by simpa using hsz⟩
   case measure=>simp [intOf]
  ·go_wp2
   exact bodyPost_ret (v:=.tuple #[.int .i64 R,.int .i64 0]) (by
    simp only [results,Tryz.results90]
    go_simp
    rw [← hR]
    exact dl_bits (by omega) (by omega) (by omega) (by omega) (by omega) (by omega)) rfl ⟨rfl,hbw⟩
theorem enc_1 (n a b c g:Nat)(w:World)(hn:n<1000)(ha:n/100=a)(hb:n/10%10=b)(hc:n%10=c)(hg:a/8*4+b/8*2+c/8=g)(R:Int)(u2:Int)(hu2:0<=u2/\u2<8)(hv2:¬ 10<=u2)
  (hR:((((a:Int)/2%4):Int)*256+(a:Int)%2*128+((b:Int)/2%4)*32+(b:Int)%2*16+u2*2+(c:Int)%2)=R)
  (c21:∀ W,CB 116 #[.int .i64 (g:Int)] W (.agg #[.int .i64 10,.int .i64 11,.int .i64 u2])) :
  CB 90 #[.int .i64 (n:Int)] w (.tuple #[.int .i64 R,.int .i64 0]):=by
 have h0:¬ (n:Int)<0:=by omega
 have h9:¬ 999<(n:Int):=by omega
 have ea:(n:Int)/100=(a:Int):=by omega
 have eb:(n:Int)/10%10=(b:Int):=by omega
 have ec:(n:Int)%10=(c:Int):=by omega
 have eg:(a:Int)/8*4+(b:Int)/8*2+(c:Int)/8=(g:Int):=by omega
 have la:(a:Int)/8<=1:=by omega
 have lb:(b:Int)/8<=1:=by omega
 go_enter Tryz.func90,Tryz.ntmps90
 go_wp2_with (go_at_call 116;refine (c21 _).mono ?_;rintro r w1 ⟨rfl,hb1⟩;obtain ⟨_,_,_,_,hA1,_⟩:=wz w hb1;clear hb1)
 go_loopw [39] (fun t wr=>∃ i:Nat,i<=3/\t=.int .i64 i/\Thr wr w.heap.size a b c/\Thr wr w1.heap.size 10 11 u2/\Thr wr (w1.heap.size+1) (if 0<i then ((a:Int)/2%4) else 0) (if 1<i then ((b:Int)/2%4) else 0) (if 2<i then u2 else 0)/\(∀ j,wr.frozen? ⟨w1.heap.size+1,j,none⟩=false)/\Below w.heap.size w wr/\w1.heap.size+1<wr.heap.size) (fun t _=>3-(intOf t).toNat)
 case atStart=>exact ⟨0,by decide,rfl,⟨by go_simp,by go_simp,by go_simp⟩,⟨by go_simp,by go_simp,by go_simp⟩,⟨by go_simp,by go_simp,by go_simp⟩,fun j=>by go_simp,bgo,by simp⟩
 case round =>
  obtain ⟨i,hi,rfl,⟨p0,p1,p2⟩,⟨q0,q1,q2⟩,⟨s0,s1,s2⟩,hfr,hbw,hsz⟩:=hrel
  have hl0:w.heap.size<wr.heap.size:=by omega
  have hl1:w1.heap.size<wr.heap.size:=by omega
  have hne1:¬ w.heap.size=w1.heap.size+1:=by omega
  have hne2:¬ w1.heap.size=w1.heap.size+1:=by omega
  have hi':i=0∨i=1∨i=2∨i=3:=by omega
  rcases hi' with rfl|rfl|rfl|rfl
  ·go_wp2
   go_roundw
   case rel=>exact ⟨1,by omega,by go_num,⟨by go_simp,by go_simp,by go_simp⟩,⟨by go_simp,by go_simp,by go_simp⟩,⟨by go_simp,by go_simp,by go_simp⟩,fun j=>by go_simp,bgo,by simpa using hsz⟩
   case measure=>simp [intOf]
  ·go_wp2
   go_roundw
   case rel=>exact ⟨2,by omega,by go_num,⟨by go_simp,by go_simp,by go_simp⟩,⟨by go_simp,by go_simp,by go_simp⟩,⟨by go_simp,by go_simp,by go_simp⟩,fun j=>by go_simp,bgo,by simpa using hsz⟩
   case measure=>simp [intOf]
  ·go_wp2
   go_roundw
   case rel=>exact ⟨3,by omega,by go_num,⟨by go_simp,by go_simp,by go_simp⟩,⟨by go_simp,by go_simp,by go_simp⟩,⟨by go_simp,by go_simp,by go_simp⟩,fun j=>by go_simp,bgo,by simpa using hsz⟩
   case measure=>simp [intOf]
  ·go_wp2
   exact bodyPost_ret (v:=.tuple #[.int .i64 R,.int .i64 0]) (by
    simp only [results,Tryz.results90]
    go_simp
    rw [← hR]
    exact dl_bits (by omega) (by omega) (by omega) (by omega) (by omega) (by omega)) rfl ⟨rfl,hbw⟩
theorem enc_2 (n a b c g:Nat)(w:World)(hn:n<1000)(ha:n/100=a)(hb:n/10%10=b)(hc:n%10=c)(hg:a/8*4+b/8*2+c/8=g)(R:Int)(u2:Int)(hu2:0<=u2/\u2<8)(hv2:¬ 10<=u2)
  (hR:((((a:Int)/2%4):Int)*256+(a:Int)%2*128+((c:Int)/2%4)*32+(b:Int)%2*16+u2*2+(c:Int)%2)=R)
  (c21:∀ W,CB 116 #[.int .i64 (g:Int)] W (.agg #[.int .i64 10,.int .i64 12,.int .i64 u2])) :
  CB 90 #[.int .i64 (n:Int)] w (.tuple #[.int .i64 R,.int .i64 0]):=by
 have h0:¬ (n:Int)<0:=by omega
 have h9:¬ 999<(n:Int):=by omega
 have ea:(n:Int)/100=(a:Int):=by omega
 have eb:(n:Int)/10%10=(b:Int):=by omega
 have ec:(n:Int)%10=(c:Int):=by omega
 have eg:(a:Int)/8*4+(b:Int)/8*2+(c:Int)/8=(g:Int):=by omega
 have la:(a:Int)/8<=1:=by omega
 have lb:(b:Int)/8<=1:=by omega
 go_enter Tryz.func90,Tryz.ntmps90
 go_wp2_with (go_at_call 116;refine (c21 _).mono ?_;rintro r w1 ⟨rfl,hb1⟩;obtain ⟨_,_,_,_,hA1,_⟩:=wz w hb1;clear hb1)
 go_loopw [39] (fun t wr=>∃ i:Nat,i<=3/\t=.int .i64 i/\Thr wr w.heap.size a b c/\Thr wr w1.heap.size 10 12 u2/\Thr wr (w1.heap.size+1) (if 0<i then ((a:Int)/2%4) else 0) (if 1<i then ((c:Int)/2%4) else 0) (if 2<i then u2 else 0)/\(∀ j,wr.frozen? ⟨w1.heap.size+1,j,none⟩=false)/\Below w.heap.size w wr/\w1.heap.size+1<wr.heap.size) (fun t _=>3-(intOf t).toNat)
 case atStart=>exact ⟨0,by decide,rfl,⟨by go_simp,by go_simp,by go_simp⟩,⟨by go_simp,by go_simp,by go_simp⟩,⟨by go_simp,by go_simp,by go_simp⟩,fun j=>by go_simp,bgo,by simp⟩
 case round =>
  obtain ⟨i,hi,rfl,⟨p0,p1,p2⟩,⟨q0,q1,q2⟩,⟨s0,s1,s2⟩,hfr,hbw,hsz⟩:=hrel
  have hl0:w.heap.size<wr.heap.size:=by omega
  have hl1:w1.heap.size<wr.heap.size:=by omega
  have hne1:¬ w.heap.size=w1.heap.size+1:=by omega
  have hne2:¬ w1.heap.size=w1.heap.size+1:=by omega
  have hi':i=0∨i=1∨i=2∨i=3:=by omega
  rcases hi' with rfl|rfl|rfl|rfl
  ·go_wp2
   go_roundw
   case rel=>exact ⟨1,by omega,by go_num,⟨by go_simp,by go_simp,by go_simp⟩,⟨by go_simp,by go_simp,by go_simp⟩,⟨by go_simp,by go_simp,by go_simp⟩,fun j=>by go_simp,bgo,by simpa using hsz⟩
   case measure=>simp [intOf]
  ·go_wp2
   go_roundw
   case rel=>exact ⟨2,by omega,by go_num,⟨by go_simp,by go_simp,by go_simp⟩,⟨by go_simp,by go_simp,by go_simp⟩,⟨by go_simp,by go_simp,by go_simp⟩,fun j=>by go_simp,bgo,by simpa using hsz⟩
   case measure=>simp [intOf]
  ·go_wp2
   go_roundw
   case rel=>exact ⟨3,by omega,by go_num,⟨by go_simp,by go_simp,by go_simp⟩,⟨by go_simp,by go_simp,by go_simp⟩,⟨by go_simp,by go_simp,by go_simp⟩,fun j=>by go_simp,bgo,by simpa using hsz⟩
   case measure=>simp [intOf]
  ·go_wp2
   exact bodyPost_ret (v:=.tuple #[.int .i64 R,.int .i64 0]) (by
    simp only [results,Tryz.results90]
    go_simp
    rw [← hR]
    exact dl_bits (by omega) (by omega) (by omega) (by omega) (by omega) (by omega)) rfl ⟨rfl,hbw⟩
theorem enc_3 (n a b c g:Nat)(w:World)(hn:n<1000)(ha:n/100=a)(hb:n/10%10=b)(hc:n%10=c)(hg:a/8*4+b/8*2+c/8=g)(R:Int)(u1:Int)(hu1:0<=u1/\u1<4)(hv1:¬ 10<=u1)(u2:Int)(hu2:0<=u2/\u2<8)(hv2:¬ 10<=u2)
  (hR:((((a:Int)/2%4):Int)*256+(a:Int)%2*128+u1*32+(b:Int)%2*16+u2*2+(c:Int)%2)=R)
  (c21:∀ W,CB 116 #[.int .i64 (g:Int)] W (.agg #[.int .i64 10,.int .i64 u1,.int .i64 u2])) :
  CB 90 #[.int .i64 (n:Int)] w (.tuple #[.int .i64 R,.int .i64 0]):=by
 have h0:¬ (n:Int)<0:=by omega
 have h9:¬ 999<(n:Int):=by omega
 have ea:(n:Int)/100=(a:Int):=by omega
 have eb:(n:Int)/10%10=(b:Int):=by omega
 have ec:(n:Int)%10=(c:Int):=by omega
 have eg:(a:Int)/8*4+(b:Int)/8*2+(c:Int)/8=(g:Int):=by omega
 have la:(a:Int)/8<=1:=by omega
 have lb:(b:Int)/8<=1:=by omega
 go_enter Tryz.func90,Tryz.ntmps90
 go_wp2_with (go_at_call 116;refine (c21 _).mono ?_;rintro r w1 ⟨rfl,hb1⟩;obtain ⟨_,_,_,_,hA1,_⟩:=wz w hb1;clear hb1)
 go_loopw [39] (fun t wr=>∃ i:Nat,i<=3/\t=.int .i64 i/\Thr wr w.heap.size a b c/\Thr wr w1.heap.size 10 u1 u2/\Thr wr (w1.heap.size+1) (if 0<i then ((a:Int)/2%4) else 0) (if 1<i then u1 else 0) (if 2<i then u2 else 0)/\(∀ j,wr.frozen? ⟨w1.heap.size+1,j,none⟩=false)/\Below w.heap.size w wr/\w1.heap.size+1<wr.heap.size) (fun t _=>3-(intOf t).toNat)
 case atStart=>exact ⟨0,by decide,rfl,⟨by go_simp,by go_simp,by go_simp⟩,⟨by go_simp,by go_simp,by go_simp⟩,⟨by go_simp,by go_simp,by go_simp⟩,fun j=>by go_simp,bgo,by simp⟩
 case round =>
  obtain ⟨i,hi,rfl,⟨p0,p1,p2⟩,⟨q0,q1,q2⟩,⟨s0,s1,s2⟩,hfr,hbw,hsz⟩:=hrel
  have hl0:w.heap.size<wr.heap.size:=by omega
  have hl1:w1.heap.size<wr.heap.size:=by omega
  have hne1:¬ w.heap.size=w1.heap.size+1:=by omega
  have hne2:¬ w1.heap.size=w1.heap.size+1:=by omega
  have hi':i=0∨i=1∨i=2∨i=3:=by omega
  rcases hi' with rfl|rfl|rfl|rfl
  ·go_wp2
   go_roundw
   case rel=>exact ⟨1,by omega,by go_num,⟨by go_simp,by go_simp,by go_simp⟩,⟨by go_simp,by go_simp,by go_simp⟩,⟨by go_simp,by go_simp,by go_simp⟩,fun j=>by go_simp,bgo,by simpa using hsz⟩
   case measure=>simp [intOf]
  ·go_wp2
   go_roundw
   case rel=>exact ⟨2,by omega,by go_num,⟨by go_simp,by go_simp,by go_simp⟩,⟨by go_simp,by go_simp,by go_simp⟩,⟨by go_simp,by go_simp,by go_simp⟩,fun j=>by go_simp,bgo,by simpa using hsz⟩
   case measure=>simp [intOf]
  ·go_wp2
   go_roundw
   case rel=>exact ⟨3,by omega,by go_num,⟨by go_simp,by go_simp,by go_simp⟩,⟨by go_simp,by go_simp,by go_simp⟩,⟨by go_simp,by go_simp,by go_simp⟩,fun j=>by go_simp,bgo,by simpa using hsz⟩
   case measure=>simp [intOf]
  ·go_wp2
   exact bodyPost_ret (v:=.tuple #[.int .i64 R,.int .i64 0]) (by
    simp only [results,Tryz.results90]
    go_simp
    rw [← hR]
    exact dl_bits (by omega) (by omega) (by omega) (by omega) (by omega) (by omega)) rfl ⟨rfl,hbw⟩
theorem enc_4 (n a b c g:Nat)(w:World)(hn:n<1000)(ha:n/100=a)(hb:n/10%10=b)(hc:n%10=c)(hg:a/8*4+b/8*2+c/8=g)(R:Int)(u2:Int)(hu2:0<=u2/\u2<8)(hv2:¬ 10<=u2)
  (hR:((((c:Int)/2%4):Int)*256+(a:Int)%2*128+((b:Int)/2%4)*32+(b:Int)%2*16+u2*2+(c:Int)%2)=R)
  (c21:∀ W,CB 116 #[.int .i64 (g:Int)] W (.agg #[.int .i64 12,.int .i64 11,.int .i64 u2])) :
  CB 90 #[.int .i64 (n:Int)] w (.tuple #[.int .i64 R,.int .i64 0]):=by
 have h0:¬ (n:Int)<0:=by omega
 have h9:¬ 999<(n:Int):=by omega
 have ea:(n:Int)/100=(a:Int):=by omega
 have eb:(n:Int)/10%10=(b:Int):=by omega
 have ec:(n:Int)%10=(c:Int):=by omega
 have eg:(a:Int)/8*4+(b:Int)/8*2+(c:Int)/8=(g:Int):=by omega
 have la:(a:Int)/8<=1:=by omega
 have lb:(b:Int)/8<=1:=by omega
 go_enter Tryz.func90,Tryz.ntmps90
 go_wp2_with (go_at_call 116;refine (c21 _).mono ?_;rintro r w1 ⟨rfl,hb1⟩;obtain ⟨_,_,_,_,hA1,_⟩:=wz w hb1;clear hb1)
 go_loopw [39] (fun t wr=>∃ i:Nat,i<=3/\t=.int .i64 i/\Thr wr w.heap.size a b c/\Thr wr w1.heap.size 12 11 u2/\Thr wr (w1.heap.size+1) (if 0<i then ((c:Int)/2%4) else 0) (if 1<i then ((b:Int)/2%4) else 0) (if 2<i then u2 else 0)/\(∀ j,wr.frozen? ⟨w1.heap.size+1,j,none⟩=false)/\Below w.heap.size w wr/\w1.heap.size+1<wr.heap.size) (fun t _=>3-(intOf t).toNat)
 case atStart=>exact ⟨0,by decide,rfl,⟨by go_simp,by go_simp,by go_simp⟩,⟨by go_simp,by go_simp,by go_simp⟩,⟨by go_simp,by go_simp,by go_simp⟩,fun j=>by go_simp,bgo,by simp⟩
 case round =>
  obtain ⟨i,hi,rfl,⟨p0,p1,p2⟩,⟨q0,q1,q2⟩,⟨s0,s1,s2⟩,hfr,hbw,hsz⟩:=hrel
  have hl0:w.heap.size<wr.heap.size:=by omega
  have hl1:w1.heap.size<wr.heap.size:=by omega
  have hne1:¬ w.heap.size=w1.heap.size+1:=by omega
  have hne2:¬ w1.heap.size=w1.heap.size+1:=by omega
  have hi':i=0∨i=1∨i=2∨i=3:=by omega
  rcases hi' with rfl|rfl|rfl|rfl
  ·go_wp2
   go_roundw
   case rel=>exact ⟨1,by omega,by go_num,⟨by go_simp,by go_simp,by go_simp⟩,⟨by go_simp,by go_simp,by go_simp⟩,⟨by go_simp,by go_simp,by go_simp⟩,fun j=>by go_simp,bgo,by simpa using hsz⟩
   case measure=>simp [intOf]
  ·go_wp2
   go_roundw
   case rel=>exact ⟨2,by omega,by go_num,⟨by go_simp,by go_simp,by go_simp⟩,⟨by go_simp,by go_simp,by go_simp⟩,⟨by go_simp,by go_simp,by go_simp⟩,fun j=>by go_simp,bgo,by simpa using hsz⟩
   case measure=>simp [intOf]
  ·go_wp2
   go_roundw
   case rel=>exact ⟨3,by omega,by go_num,⟨by go_simp,by go_simp,by go_simp⟩,⟨by go_simp,by go_simp,by go_simp⟩,⟨by go_simp,by go_simp,by go_simp⟩,fun j=>by go_simp,bgo,by simpa using hsz⟩
   case measure=>simp [intOf]
  ·go_wp2
   exact bodyPost_ret (v:=.tuple #[.int .i64 R,.int .i64 0]) (by
    simp only [results,Tryz.results90]
    go_simp
    rw [← hR]
    exact dl_bits (by omega) (by omega) (by omega) (by omega) (by omega) (by omega)) rfl ⟨rfl,hbw⟩
theorem enc_5 (n a b c g:Nat)(w:World)(hn:n<1000)(ha:n/100=a)(hb:n/10%10=b)(hc:n%10=c)(hg:a/8*4+b/8*2+c/8=g)(R:Int)(u1:Int)(hu1:0<=u1/\u1<4)(hv1:¬ 10<=u1)(u2:Int)(hu2:0<=u2/\u2<8)(hv2:¬ 10<=u2)
  (hR:((((b:Int)/2%4):Int)*256+(a:Int)%2*128+u1*32+(b:Int)%2*16+u2*2+(c:Int)%2)=R)
  (c21:∀ W,CB 116 #[.int .i64 (g:Int)] W (.agg #[.int .i64 11,.int .i64 u1,.int .i64 u2])) :
  CB 90 #[.int .i64 (n:Int)] w (.tuple #[.int .i64 R,.int .i64 0]):=by
 have h0:¬ (n:Int)<0:=by omega
 have h9:¬ 999<(n:Int):=by omega
 have ea:(n:Int)/100=(a:Int):=by omega
 have eb:(n:Int)/10%10=(b:Int):=by omega
 have ec:(n:Int)%10=(c:Int):=by omega
 have eg:(a:Int)/8*4+(b:Int)/8*2+(c:Int)/8=(g:Int):=by omega
 have la:(a:Int)/8<=1:=by omega
 have lb:(b:Int)/8<=1:=by omega
 go_enter Tryz.func90,Tryz.ntmps90
 go_wp2_with (go_at_call 116;refine (c21 _).mono ?_;rintro r w1 ⟨rfl,hb1⟩;obtain ⟨_,_,_,_,hA1,_⟩:=wz w hb1;clear hb1)
 go_loopw [39] (fun t wr=>∃ i:Nat,i<=3/\t=.int .i64 i/\Thr wr w.heap.size a b c/\Thr wr w1.heap.size 11 u1 u2/\Thr wr (w1.heap.size+1) (if 0<i then ((b:Int)/2%4) else 0) (if 1<i then u1 else 0) (if 2<i then u2 else 0)/\(∀ j,wr.frozen? ⟨w1.heap.size+1,j,none⟩=false)/\Below w.heap.size w wr/\w1.heap.size+1<wr.heap.size) (fun t _=>3-(intOf t).toNat)
 case atStart=>exact ⟨0,by decide,rfl,⟨by go_simp,by go_simp,by go_simp⟩,⟨by go_simp,by go_simp,by go_simp⟩,⟨by go_simp,by go_simp,by go_simp⟩,fun j=>by go_simp,bgo,by simp⟩
 case round =>
  obtain ⟨i,hi,rfl,⟨p0,p1,p2⟩,⟨q0,q1,q2⟩,⟨s0,s1,s2⟩,hfr,hbw,hsz⟩:=hrel
  have hl0:w.heap.size<wr.heap.size:=by omega
  have hl1:w1.heap.size<wr.heap.size:=by omega
  have hne1:¬ w.heap.size=w1.heap.size+1:=by omega
  have hne2:¬ w1.heap.size=w1.heap.size+1:=by omega
  have hi':i=0∨i=1∨i=2∨i=3:=by omega
  rcases hi' with rfl|rfl|rfl|rfl
  ·go_wp2
   go_roundw
   case rel=>exact ⟨1,by omega,by go_num,⟨by go_simp,by go_simp,by go_simp⟩,⟨by go_simp,by go_simp,by go_simp⟩,⟨by go_simp,by go_simp,by go_simp⟩,fun j=>by go_simp,bgo,by simpa using hsz⟩
   case measure=>simp [intOf]
  ·go_wp2
   go_roundw
   case rel=>exact ⟨2,by omega,by go_num,⟨by go_simp,by go_simp,by go_simp⟩,⟨by go_simp,by go_simp,by go_simp⟩,⟨by go_simp,by go_simp,by go_simp⟩,fun j=>by go_simp,bgo,by simpa using hsz⟩
   case measure=>simp [intOf]
  ·go_wp2
   go_roundw
   case rel=>exact ⟨3,by omega,by go_num,⟨by go_simp,by go_simp,by go_simp⟩,⟨by go_simp,by go_simp,by go_simp⟩,⟨by go_simp,by go_simp,by go_simp⟩,fun j=>by go_simp,bgo,by simpa using hsz⟩
   case measure=>simp [intOf]
  ·go_wp2
   exact bodyPost_ret (v:=.tuple #[.int .i64 R,.int .i64 0]) (by
    simp only [results,Tryz.results90]
    go_simp
    rw [← hR]
    exact dl_bits (by omega) (by omega) (by omega) (by omega) (by omega) (by omega)) rfl ⟨rfl,hbw⟩
theorem enc_6 (n a b c g:Nat)(w:World)(hn:n<1000)(ha:n/100=a)(hb:n/10%10=b)(hc:n%10=c)(hg:a/8*4+b/8*2+c/8=g)(R:Int)(u1:Int)(hu1:0<=u1/\u1<4)(hv1:¬ 10<=u1)(u2:Int)(hu2:0<=u2/\u2<8)(hv2:¬ 10<=u2)
  (hR:((((c:Int)/2%4):Int)*256+(a:Int)%2*128+u1*32+(b:Int)%2*16+u2*2+(c:Int)%2)=R)
  (c21:∀ W,CB 116 #[.int .i64 (g:Int)] W (.agg #[.int .i64 12,.int .i64 u1,.int .i64 u2])) :
  CB 90 #[.int .i64 (n:Int)] w (.tuple #[.int .i64 R,.int .i64 0]):=by
 have h0:¬ (n:Int)<0:=by omega
 have h9:¬ 999<(n:Int):=by omega
 have ea:(n:Int)/100=(a:Int):=by omega
 have eb:(n:Int)/10%10=(b:Int):=by omega
 have ec:(n:Int)%10=(c:Int):=by omega
 have eg:(a:Int)/8*4+(b:Int)/8*2+(c:Int)/8=(g:Int):=by omega
 have la:(a:Int)/8<=1:=by omega
 have lb:(b:Int)/8<=1:=by omega
 go_enter Tryz.func90,Tryz.ntmps90
 go_wp2_with (go_at_call 116;refine (c21 _).mono ?_;rintro r w1 ⟨rfl,hb1⟩;obtain ⟨_,_,_,_,hA1,_⟩:=wz w hb1;clear hb1)
 go_loopw [39] (fun t wr=>∃ i:Nat,i<=3/\t=.int .i64 i/\Thr wr w.heap.size a b c/\Thr wr w1.heap.size 12 u1 u2/\Thr wr (w1.heap.size+1) (if 0<i then ((c:Int)/2%4) else 0) (if 1<i then u1 else 0) (if 2<i then u2 else 0)/\(∀ j,wr.frozen? ⟨w1.heap.size+1,j,none⟩=false)/\Below w.heap.size w wr/\w1.heap.size+1<wr.heap.size) (fun t _=>3-(intOf t).toNat)
 case atStart=>exact ⟨0,by decide,rfl,⟨by go_simp,by go_simp,by go_simp⟩,⟨by go_simp,by go_simp,by go_simp⟩,⟨by go_simp,by go_simp,by go_simp⟩,fun j=>by go_simp,bgo,by simp⟩
 case round =>
  obtain ⟨i,hi,rfl,⟨p0,p1,p2⟩,⟨q0,q1,q2⟩,⟨s0,s1,s2⟩,hfr,hbw,hsz⟩:=hrel
  have hl0:w.heap.size<wr.heap.size:=by omega
  have hl1:w1.heap.size<wr.heap.size:=by omega
  have hne1:¬ w.heap.size=w1.heap.size+1:=by omega
  have hne2:¬ w1.heap.size=w1.heap.size+1:=by omega
  have hi':i=0∨i=1∨i=2∨i=3:=by omega
  rcases hi' with rfl|rfl|rfl|rfl
  ·go_wp2
   go_roundw
   case rel=>exact ⟨1,by omega,by go_num,⟨by go_simp,by go_simp,by go_simp⟩,⟨by go_simp,by go_simp,by go_simp⟩,⟨by go_simp,by go_simp,by go_simp⟩,fun j=>by go_simp,bgo,by simpa using hsz⟩
   case measure=>simp [intOf]
  ·go_wp2
   go_roundw
   case rel=>exact ⟨2,by omega,by go_num,⟨by go_simp,by go_simp,by go_simp⟩,⟨by go_simp,by go_simp,by go_simp⟩,⟨by go_simp,by go_simp,by go_simp⟩,fun j=>by go_simp,bgo,by simpa using hsz⟩
   case measure=>simp [intOf]
  ·go_wp2
   go_roundw
   case rel=>exact ⟨3,by omega,by go_num,⟨by go_simp,by go_simp,by go_simp⟩,⟨by go_simp,by go_simp,by go_simp⟩,⟨by go_simp,by go_simp,by go_simp⟩,fun j=>by go_simp,bgo,by simpa using hsz⟩
   case measure=>simp [intOf]
  ·go_wp2
   exact bodyPost_ret (v:=.tuple #[.int .i64 R,.int .i64 0]) (by
    simp only [results,Tryz.results90]
    go_simp
    rw [← hR]
    exact dl_bits (by omega) (by omega) (by omega) (by omega) (by omega) (by omega)) rfl ⟨rfl,hbw⟩
theorem enc_7 (n a b c g:Nat)(w:World)(hn:n<1000)(ha:n/100=a)(hb:n/10%10=b)(hc:n%10=c)(hg:a/8*4+b/8*2+c/8=g)(R:Int)(u0:Int)(hu0:0<=u0/\u0<4)(hv0:¬ 10<=u0)(u1:Int)(hu1:0<=u1/\u1<4)(hv1:¬ 10<=u1)(u2:Int)(hu2:0<=u2/\u2<8)(hv2:¬ 10<=u2)
  (hR:((u0:Int)*256+(a:Int)%2*128+u1*32+(b:Int)%2*16+u2*2+(c:Int)%2)=R)
  (c21:∀ W,CB 116 #[.int .i64 (g:Int)] W (.agg #[.int .i64 u0,.int .i64 u1,.int .i64 u2])) :
  CB 90 #[.int .i64 (n:Int)] w (.tuple #[.int .i64 R,.int .i64 0]):=by
 have h0:¬ (n:Int)<0:=by omega
 have h9:¬ 999<(n:Int):=by omega
 have ea:(n:Int)/100=(a:Int):=by omega
 have eb:(n:Int)/10%10=(b:Int):=by omega
 have ec:(n:Int)%10=(c:Int):=by omega
 have eg:(a:Int)/8*4+(b:Int)/8*2+(c:Int)/8=(g:Int):=by omega
 have la:(a:Int)/8<=1:=by omega
 have lb:(b:Int)/8<=1:=by omega
 go_enter Tryz.func90,Tryz.ntmps90
 go_wp2_with (go_at_call 116;refine (c21 _).mono ?_;rintro r w1 ⟨rfl,hb1⟩;obtain ⟨_,_,_,_,hA1,_⟩:=wz w hb1;clear hb1)
 go_loopw [39] (fun t wr=>∃ i:Nat,i<=3/\t=.int .i64 i/\Thr wr w.heap.size a b c/\Thr wr w1.heap.size u0 u1 u2/\Thr wr (w1.heap.size+1) (if 0<i then u0 else 0) (if 1<i then u1 else 0) (if 2<i then u2 else 0)/\(∀ j,wr.frozen? ⟨w1.heap.size+1,j,none⟩=false)/\Below w.heap.size w wr/\w1.heap.size+1<wr.heap.size) (fun t _=>3-(intOf t).toNat)
 case atStart=>exact ⟨0,by decide,rfl,⟨by go_simp,by go_simp,by go_simp⟩,⟨by go_simp,by go_simp,by go_simp⟩,⟨by go_simp,by go_simp,by go_simp⟩,fun j=>by go_simp,bgo,by simp⟩
 case round =>
  obtain ⟨i,hi,rfl,⟨p0,p1,p2⟩,⟨q0,q1,q2⟩,⟨s0,s1,s2⟩,hfr,hbw,hsz⟩:=hrel
  have hl0:w.heap.size<wr.heap.size:=by omega
  have hl1:w1.heap.size<wr.heap.size:=by omega
  have hne1:¬ w.heap.size=w1.heap.size+1:=by omega
  have hne2:¬ w1.heap.size=w1.heap.size+1:=by omega
  have hi':i=0∨i=1∨i=2∨i=3:=by omega
  rcases hi' with rfl|rfl|rfl|rfl
  ·go_wp2
   go_roundw
   case rel=>exact ⟨1,by omega,by go_num,⟨by go_simp,by go_simp,by go_simp⟩,⟨by go_simp,by go_simp,by go_simp⟩,⟨by go_simp,by go_simp,by go_simp⟩,fun j=>by go_simp,bgo,by simpa using hsz⟩
   case measure=>simp [intOf]
  ·go_wp2
   go_roundw
   case rel=>exact ⟨2,by omega,by go_num,⟨by go_simp,by go_simp,by go_simp⟩,⟨by go_simp,by go_simp,by go_simp⟩,⟨by go_simp,by go_simp,by go_simp⟩,fun j=>by go_simp,bgo,by simpa using hsz⟩
   case measure=>simp [intOf]
  ·go_wp2
   go_roundw
   case rel=>exact ⟨3,by omega,by go_num,⟨by go_simp,by go_simp,by go_simp⟩,⟨by go_simp,by go_simp,by go_simp⟩,⟨by go_simp,by go_simp,by go_simp⟩,fun j=>by go_simp,bgo,by simpa using hsz⟩
   case measure=>simp [intOf]
  ·go_wp2
   exact bodyPost_ret (v:=.tuple #[.int .i64 R,.int .i64 0]) (by
    simp only [results,Tryz.results90]
    go_simp
    rw [← hR]
    exact dl_bits (by omega) (by omega) (by omega) (by omega) (by omega) (by omega)) rfl ⟨rfl,hbw⟩
theorem enc_v (n:Nat)(hn:n<1000)(w:World):CB 90 #[.int .i64 (n:Int)] w (.tuple #[.int .i64 (dlE n:Int),.int .i64 0]):=by
 have hg:=dlG_lt hn
 have c21:=fun W=>row_v (dlG n) hg W
 have hgg:n/100/8*4+n/10%10/8*2+n%10/8=dlG n:=rfl
 have h:dlG n=0∨dlG n=1∨dlG n=2∨dlG n=3∨dlG n=4∨dlG n=5∨dlG n=6∨dlG n=7:=by omega
 rcases h with h|h|h|h|h|h|h|h
 ·have e:dlE n=n/100/2%4*256+n/100%2*128+n/10%10/2%4*32+n/10%10%2*16+n%10/2%4*2+n%10%2:=by
   unfold dlE
   rw [h]
   rfl
  refine enc_0 n _ _ _ (dlG n) w hn rfl rfl rfl hgg _ (by rw [e];omega) (fun W=>?_)
  have:=c21 W
  rw [h] at this ⊢
  exact this
 ·have e:dlE n=n/100/2%4*256+n/100%2*128+n/10%10/2%4*32+n/10%10%2*16+4*2+n%10%2:=by
   unfold dlE
   rw [h]
   rfl
  refine enc_1 n _ _ _ (dlG n) w hn rfl rfl rfl hgg _ 4 (by decide) (by decide) (by rw [e];omega) (fun W=>?_)
  have:=c21 W
  rw [h] at this ⊢
  exact this
 ·have e:dlE n=n/100/2%4*256+n/100%2*128+n%10/2%4*32+n/10%10%2*16+5*2+n%10%2:=by
   unfold dlE
   rw [h]
   rfl
  refine enc_2 n _ _ _ (dlG n) w hn rfl rfl rfl hgg _ 5 (by decide) (by decide) (by rw [e];omega) (fun W=>?_)
  have:=c21 W
  rw [h] at this ⊢
  exact this
 ·have e:dlE n=n/100/2%4*256+n/100%2*128+2*32+n/10%10%2*16+7*2+n%10%2:=by
   unfold dlE
   rw [h]
   rfl
  refine enc_3 n _ _ _ (dlG n) w hn rfl rfl rfl hgg _ 2 (by decide) (by decide) 7 (by decide) (by decide) (by rw [e];omega) (fun W=>?_)
  have:=c21 W
  rw [h] at this ⊢
  exact this
 ·have e:dlE n=n%10/2%4*256+n/100%2*128+n/10%10/2%4*32+n/10%10%2*16+6*2+n%10%2:=by
   unfold dlE
   rw [h]
   rfl
  refine enc_4 n _ _ _ (dlG n) w hn rfl rfl rfl hgg _ 6 (by decide) (by decide) (by rw [e];omega) (fun W=>?_)
  have:=c21 W
  rw [h] at this ⊢
  exact this
 ·have e:dlE n=n/10%10/2%4*256+n/100%2*128+1*32+n/10%10%2*16+7*2+n%10%2:=by
   unfold dlE
   rw [h]
   rfl
  refine enc_5 n _ _ _ (dlG n) w hn rfl rfl rfl hgg _ 1 (by decide) (by decide) 7 (by decide) (by decide) (by rw [e];omega) (fun W=>?_)
  have:=c21 W
  rw [h] at this ⊢
  exact this
 ·have e:dlE n=n%10/2%4*256+n/100%2*128+0*32+n/10%10%2*16+7*2+n%10%2:=by
   unfold dlE
   rw [h]
   rfl
  refine enc_6 n _ _ _ (dlG n) w hn rfl rfl rfl hgg _ 0 (by decide) (by decide) 7 (by decide) (by decide) (by rw [e];omega) (fun W=>?_)
  have:=c21 W
  rw [h] at this ⊢
  exact this
 ·have e:dlE n=0*256+n/100%2*128+3*32+n/10%10%2*16+7*2+n%10%2:=by
   unfold dlE
   rw [h]
   rfl
  refine enc_7 n _ _ _ (dlG n) w hn rfl rfl rfl hgg _ 0 (by decide) (by decide) 3 (by decide) (by decide) 7 (by decide) (by decide) (by rw [e];omega) (fun W=>?_)
  have:=c21 W
  rw [h] at this ⊢
  exact this
section
theorem dl_and (d:Nat)(hd:d<1024):((bits .and .i64 (d:Int) 110=110)↔(d/32%4=3/\d/2%8=7))/\bits .and .i64 (d:Int) 255=((d%256:Nat):Int):=by
 have h:=upTo_all (f:=fun d=>decide (((bits .and .i64 (d:Int) 110=110)↔(d/32%4=3/\d/2%8=7))/\bits .and .i64 (d:Int) 255=((d%256:Nat):Int))) (m:=1024) (by decide +kernel) d hd
 exact of_decide_eq_true h
theorem dlM_iff {d:Nat}(hd:d<1024)(n:Nat):dlM d n=true↔((dlE n:Int)=(d:Int)∨bits .and .i64 (d:Int) 110=110/\(dlE n:Int)=bits .and .i64 (d:Int) 255):=by
 obtain ⟨h1,h2⟩:=dl_and d hd
 rw [h1,h2]
 unfold dlM
 simp only [Bool.or_eq_true,Bool.and_eq_true,beq_iff_eq]
 omega
section
variable (d:Nat)(w:World)(N:Nat)(E:Nat->Int)(A B:Int)(hA:bits .and .i64 (d:Int) 110=A)(hB:bits .and .i64 (d:Int) 255=B)(hd:d<1024)(hN:N<1000)
 (hy:E N=(d:Int)∨A=110/\E N=B) (hn:Hid (∀ i,i<N->¬ (E i=(d:Int)∨A=110/\E i=B)))
 (c10:∀ i:Nat,i<1000->∀ W,CB 90 #[.int .i64 (i:Int)] W (.tuple #[.int .i64 (E i),.int .i64 0]))
include hA hB hd hN hy hn c10
theorem dcd_w:CB 147 #[.int .i64 (d:Int)] w (.tuple #[.int .i64 (N:Int),.int .i64 0]):=by
 have h0:¬ (d:Int)<0:=by omega
 have h9:¬ 1023<(d:Int):=by omega
 go_enter Tryz.func147,Tryz.ntmps147
 go_wp2
 go_loopw [2,3,13] (fun _ _ t wr=>∃ i:Nat,i<=N/\t=.int .i64 (i:Int)/\Below w.heap.size w wr) (fun _ _ t _=>1000-(intOf t).toNat)
 case atStart=>exact ⟨0,Nat.zero_le _,rfl,bgo⟩
 case round =>
  obtain ⟨i,hi,rfl,hbw⟩:=hrel
  have hl:(i:Int)<1000:=by omega
  have c:=c10 i (by omega)
  have hsz:=hbw.size
  by_cases hiN:i=N
  ·subst hiN
   by_cases e1:E i=(d:Int)
   ·have e2:(E i==(d:Int))=true:=by simpa using e1
    clear hy e1
    generalize E i=Ei at *
    go_wp2_with (go_at_call 90;refine (c _).mono ?_;rintro r w1 ⟨rfl,hb1⟩;obtain ⟨_,_,hA1,_⟩:=wf w hb1;clear hb1)
    exact bodyPost_ret (by simp only [results,Tryz.results147];go_simp) rfl ⟨rfl,bgo⟩
   ·obtain ⟨a1,a2⟩:=hy.resolve_left e1
    have e2:(E i==(d:Int))=false:=by simpa using e1
    have e3:(E i==B)=true:=by simpa using a2
    subst a1
    clear a2 e1 hy
    generalize E i=Ei at *
    go_wp2_with (go_at_call 90;refine (c _).mono ?_;rintro r w1 ⟨rfl,hb1⟩;obtain ⟨_,_,hA1,_⟩:=wf w hb1;clear hb1)
    exact bodyPost_ret (by simp only [results,Tryz.results147];go_simp) rfl ⟨rfl,bgo⟩
  ·have q:=(show ∀ i,i<N->¬ (E i=(d:Int)∨A=110/\E i=B) from hn) i (by omega)
   have e2:(E i==(d:Int))=false:=by simpa using fun e=>q (Or.inl e)
   clear hy
   by_cases a1:A=110
   ·have e3:(E i==B)=false:=by simpa using fun e=>q (Or.inr ⟨a1,e⟩)
    subst a1
    clear q
    generalize E i=Ei at *
    go_wp2_with (go_at_call 90;refine (c _).mono ?_;rintro r w1 ⟨rfl,hb1⟩;obtain ⟨_,_,hA1,_⟩:=wf w hb1;clear hb1)
    go_roundw
    case rel=>exact ⟨i+1,by omega,by go_num,bgo⟩
    case measure=>simp [intOf];omega
   ·have e3:(A==110)=false:=by simpa using a1
    clear q a1
    generalize E i=Ei at *
    go_wp2_with (go_at_call 90;refine (c _).mono ?_;rintro r w1 ⟨rfl,hb1⟩;obtain ⟨_,_,hA1,_⟩:=wf w hb1;clear hb1)
    go_roundw
    case rel=>exact ⟨i+1,by omega,by go_num,bgo⟩
    case measure=>simp [intOf];omega
end
theorem dcd_v (d:Nat)(hd:d<1024)(w:World):CB 147 #[.int .i64 (d:Int)] w (.tuple #[.int .i64 (dlD d:Int),.int .i64 0]):=by
 obtain ⟨h1,h2,h3⟩:=dl_means d hd
 exact dcd_w d w (dlD d) (fun i=>(dlE i:Int)) _ _ rfl rfl hd h1 ((dlM_iff hd _).1 h2) (fun i hi q=>by
  have:=(dl_only hd (by omega:i<1000)).1 ((dlM_iff hd i).2 q)
  omega) (fun i hi W=>enc_v i hi W)
end
theorem great_v (x g:Int)(hx:0<=x)(hg:x/8=g)(w:World):CQ 185 #[.int .i64 x] w (.int .i64 g):=by
 go_enter Tryz.func185,Tryz.ntmps185
 go_wp2
 go_ret
 exact ⟨rfl,rfl⟩
theorem known_v (n:Int)(w:World):CQ 170 #[.int .i64 n] w (.bool (decide (0<=n/\n<=11))):=by
 by_cases h0:0<=n
 ·go_enter Tryz.func170,Tryz.ntmps170
  go_wp2
  go_ret
  exact ⟨by simp [h0],rfl⟩
 ·rw [decide_eq_false (fun h=>h0 h.1)]
  go_enter Tryz.func170,Tryz.ntmps170
  go_wp2
  go_ret
  exact ⟨rfl,rfl⟩
theorem fields_0 (a b c x y z:Int)(w:World)
  (ga:∀ W,CQ 185 #[.int .i64 a] W (.int .i64 0))
  (gb:∀ W,CQ 185 #[.int .i64 b] W (.int .i64 0))
  (gc:∀ W,CQ 185 #[.int .i64 c] W (.int .i64 0))
  (ha:0<=a) (hb:0<=b) (hc:0<=c) (hx:bits .and .i64 (a/2) 3=x) (hy:bits .and .i64 (b/2) 3=y) (hz:bits .and .i64 (c/2) 3=z) :
  CQ 182 #[.int .i64 a,.int .i64 b,.int .i64 c] w (.tuple #[.int .i64 x,.int .i64 y,.int .i64 z]):=by
 have o1:bits .or .i64 0 0=0:=by decide
 have o2:bits .or .i64 0 0=0:=by decide
 go_enter Tryz.func182,Tryz.ntmps182
 go_wp2_with (go_at_call 185;first
  | (refine (ga _).mono ?_;rintro r w1 ⟨rfl,rfl⟩;clear ga)
  | (refine (gb _).mono ?_;rintro r w1 ⟨rfl,rfl⟩;clear gb)
  | (refine (gc _).mono ?_;rintro r w1 ⟨rfl,rfl⟩;clear gc))
 exact bodyPost_ret (by simp only [results,Tryz.results182];go_simp) rfl ⟨rfl,rfl⟩
theorem fields_1 (a b c x y z:Int)(w:World)
  (ga:∀ W,CQ 185 #[.int .i64 a] W (.int .i64 0))
  (gb:∀ W,CQ 185 #[.int .i64 b] W (.int .i64 0))
  (gc:∀ W,CQ 185 #[.int .i64 c] W (.int .i64 1))
  (ha:0<=a) (hb:0<=b) (hc:0<=c) (hx:bits .and .i64 (a/2) 3=x) (hy:bits .and .i64 (b/2) 3=y) (hz:bits .and .i64 (c/2) 3=z) :
  CQ 182 #[.int .i64 a,.int .i64 b,.int .i64 c] w (.tuple #[.int .i64 x,.int .i64 y,.int .i64 4]):=by
 have o1:bits .or .i64 0 0=0:=by decide
 have o2:bits .or .i64 0 1=1:=by decide
 go_enter Tryz.func182,Tryz.ntmps182
 go_wp2_with (go_at_call 185;first
  | (refine (ga _).mono ?_;rintro r w1 ⟨rfl,rfl⟩;clear ga)
  | (refine (gb _).mono ?_;rintro r w1 ⟨rfl,rfl⟩;clear gb)
  | (refine (gc _).mono ?_;rintro r w1 ⟨rfl,rfl⟩;clear gc))
 exact bodyPost_ret (by simp only [results,Tryz.results182];go_simp) rfl ⟨rfl,rfl⟩
theorem fields_2 (a b c x y z:Int)(w:World)
  (ga:∀ W,CQ 185 #[.int .i64 a] W (.int .i64 0))
  (gb:∀ W,CQ 185 #[.int .i64 b] W (.int .i64 1))
  (gc:∀ W,CQ 185 #[.int .i64 c] W (.int .i64 0))
  (ha:0<=a) (hb:0<=b) (hc:0<=c) (hx:bits .and .i64 (a/2) 3=x) (hy:bits .and .i64 (b/2) 3=y) (hz:bits .and .i64 (c/2) 3=z) :
  CQ 182 #[.int .i64 a,.int .i64 b,.int .i64 c] w (.tuple #[.int .i64 x,.int .i64 z,.int .i64 5]):=by
 have o1:bits .or .i64 0 2=2:=by decide
 have o2:bits .or .i64 2 0=2:=by decide
 go_enter Tryz.func182,Tryz.ntmps182
 go_wp2_with (go_at_call 185;first
  | (refine (ga _).mono ?_;rintro r w1 ⟨rfl,rfl⟩;clear ga)
  | (refine (gb _).mono ?_;rintro r w1 ⟨rfl,rfl⟩;clear gb)
  | (refine (gc _).mono ?_;rintro r w1 ⟨rfl,rfl⟩;clear gc))
 exact bodyPost_ret (by simp only [results,Tryz.results182];go_simp) rfl ⟨rfl,rfl⟩
theorem fields_4 (a b c x y z:Int)(w:World)
  (ga:∀ W,CQ 185 #[.int .i64 a] W (.int .i64 1))
  (gb:∀ W,CQ 185 #[.int .i64 b] W (.int .i64 0))
  (gc:∀ W,CQ 185 #[.int .i64 c] W (.int .i64 0))
  (ha:0<=a) (hb:0<=b) (hc:0<=c) (hx:bits .and .i64 (a/2) 3=x) (hy:bits .and .i64 (b/2) 3=y) (hz:bits .and .i64 (c/2) 3=z) :
  CQ 182 #[.int .i64 a,.int .i64 b,.int .i64 c] w (.tuple #[.int .i64 z,.int .i64 y,.int .i64 6]):=by
 have o1:bits .or .i64 4 0=4:=by decide
 have o2:bits .or .i64 4 0=4:=by decide
 go_enter Tryz.func182,Tryz.ntmps182
 go_wp2_with (go_at_call 185;first
  | (refine (ga _).mono ?_;rintro r w1 ⟨rfl,rfl⟩;clear ga)
  | (refine (gb _).mono ?_;rintro r w1 ⟨rfl,rfl⟩;clear gb)
  | (refine (gc _).mono ?_;rintro r w1 ⟨rfl,rfl⟩;clear gc))
 exact bodyPost_ret (by simp only [results,Tryz.results182];go_simp) rfl ⟨rfl,rfl⟩
theorem fields_3 (a b c x y z:Int)(w:World)
  (ga:∀ W,CQ 185 #[.int .i64 a] W (.int .i64 0))
  (gb:∀ W,CQ 185 #[.int .i64 b] W (.int .i64 1))
  (gc:∀ W,CQ 185 #[.int .i64 c] W (.int .i64 1))
  (ha:0<=a) (hb:0<=b) (hc:0<=c) (hx:bits .and .i64 (a/2) 3=x) (hy:bits .and .i64 (b/2) 3=y) (hz:bits .and .i64 (c/2) 3=z) :
  CQ 182 #[.int .i64 a,.int .i64 b,.int .i64 c] w (.tuple #[.int .i64 x,.int .i64 2,.int .i64 7]):=by
 have o1:bits .or .i64 0 2=2:=by decide
 have o2:bits .or .i64 2 1=3:=by decide
 go_enter Tryz.func182,Tryz.ntmps182
 go_wp2_with (go_at_call 185;first
  | (refine (ga _).mono ?_;rintro r w1 ⟨rfl,rfl⟩;clear ga)
  | (refine (gb _).mono ?_;rintro r w1 ⟨rfl,rfl⟩;clear gb)
  | (refine (gc _).mono ?_;rintro r w1 ⟨rfl,rfl⟩;clear gc))
 exact bodyPost_ret (by simp only [results,Tryz.results182];go_simp) rfl ⟨rfl,rfl⟩
theorem fields_5 (a b c x y z:Int)(w:World)
  (ga:∀ W,CQ 185 #[.int .i64 a] W (.int .i64 1))
  (gb:∀ W,CQ 185 #[.int .i64 b] W (.int .i64 0))
  (gc:∀ W,CQ 185 #[.int .i64 c] W (.int .i64 1))
  (ha:0<=a) (hb:0<=b) (hc:0<=c) (hx:bits .and .i64 (a/2) 3=x) (hy:bits .and .i64 (b/2) 3=y) (hz:bits .and .i64 (c/2) 3=z) :
  CQ 182 #[.int .i64 a,.int .i64 b,.int .i64 c] w (.tuple #[.int .i64 y,.int .i64 1,.int .i64 7]):=by
 have o1:bits .or .i64 4 0=4:=by decide
 have o2:bits .or .i64 4 1=5:=by decide
 go_enter Tryz.func182,Tryz.ntmps182
 go_wp2_with (go_at_call 185;first
  | (refine (ga _).mono ?_;rintro r w1 ⟨rfl,rfl⟩;clear ga)
  | (refine (gb _).mono ?_;rintro r w1 ⟨rfl,rfl⟩;clear gb)
  | (refine (gc _).mono ?_;rintro r w1 ⟨rfl,rfl⟩;clear gc))
 exact bodyPost_ret (by simp only [results,Tryz.results182];go_simp) rfl ⟨rfl,rfl⟩
theorem fields_6 (a b c x y z:Int)(w:World)
  (ga:∀ W,CQ 185 #[.int .i64 a] W (.int .i64 1))
  (gb:∀ W,CQ 185 #[.int .i64 b] W (.int .i64 1))
  (gc:∀ W,CQ 185 #[.int .i64 c] W (.int .i64 0))
  (ha:0<=a) (hb:0<=b) (hc:0<=c) (hx:bits .and .i64 (a/2) 3=x) (hy:bits .and .i64 (b/2) 3=y) (hz:bits .and .i64 (c/2) 3=z) :
  CQ 182 #[.int .i64 a,.int .i64 b,.int .i64 c] w (.tuple #[.int .i64 z,.int .i64 0,.int .i64 7]):=by
 have o1:bits .or .i64 4 2=6:=by decide
 have o2:bits .or .i64 6 0=6:=by decide
 go_enter Tryz.func182,Tryz.ntmps182
 go_wp2_with (go_at_call 185;first
  | (refine (ga _).mono ?_;rintro r w1 ⟨rfl,rfl⟩;clear ga)
  | (refine (gb _).mono ?_;rintro r w1 ⟨rfl,rfl⟩;clear gb)
  | (refine (gc _).mono ?_;rintro r w1 ⟨rfl,rfl⟩;clear gc))
 exact bodyPost_ret (by simp only [results,Tryz.results182];go_simp) rfl ⟨rfl,rfl⟩
theorem fields_7 (a b c x y z:Int)(w:World)
  (ga:∀ W,CQ 185 #[.int .i64 a] W (.int .i64 1))
  (gb:∀ W,CQ 185 #[.int .i64 b] W (.int .i64 1))
  (gc:∀ W,CQ 185 #[.int .i64 c] W (.int .i64 1))
  (ha:0<=a) (hb:0<=b) (hc:0<=c) (hx:bits .and .i64 (a/2) 3=x) (hy:bits .and .i64 (b/2) 3=y) (hz:bits .and .i64 (c/2) 3=z) :
  CQ 182 #[.int .i64 a,.int .i64 b,.int .i64 c] w (.tuple #[.int .i64 0,.int .i64 3,.int .i64 7]):=by
 have o1:bits .or .i64 4 2=6:=by decide
 have o2:bits .or .i64 6 1=7:=by decide
 go_enter Tryz.func182,Tryz.ntmps182
 go_wp2_with (go_at_call 185;first
  | (refine (ga _).mono ?_;rintro r w1 ⟨rfl,rfl⟩;clear ga)
  | (refine (gb _).mono ?_;rintro r w1 ⟨rfl,rfl⟩;clear gb)
  | (refine (gc _).mono ?_;rintro r w1 ⟨rfl,rfl⟩;clear gc))
 exact bodyPost_ret (by simp only [results,Tryz.results182];go_simp) rfl ⟨rfl,rfl⟩
def mgT (p s:Int):Int×Int×Int:=if s=2 then (p*2,8,8) else if s=1 then (8,p*2,8) else if s=0 then (8,8,p*2) else (8,8,8)
theorem mgr_v (p s:Int)(w:World)(hp:0<=p/\p<4)(hs:0<=s/\s<4) :
  CQ 181 #[.int .i64 p,.int .i64 s] w (.tuple #[.int .i64 (mgT p s).1,.int .i64 (mgT p s).2.1,.int .i64 (mgT p s).2.2]):=by
 obtain rfl|rfl|rfl|rfl:s=0∨s=1∨s=2∨s=3:=by omega
 all_goals (
  go_enter Tryz.func181,Tryz.ntmps181
  go_wp2
  exact bodyPost_ret (by simp only [results,Tryz.results181];go_simp;first|done|exact ⟨rfl,rfl,rfl⟩) rfl ⟨rfl,rfl⟩)
def evT (p s v:Int):Int×Int×Int:=if v=4 then (p*2,s*2,8) else if v=5 then (p*2,8,s*2) else if v=6 then (8,s*2,p*2) else if v=7 then mgT p s else (p*2,s*2,v*2)
theorem ev_7 (p s x y z:Int)(w:World)
  (cm:∀ W,CQ 181 #[.int .i64 p,.int .i64 s] W (.tuple #[.int .i64 x,.int .i64 y,.int .i64 z])) :
  CQ 177 #[.int .i64 p,.int .i64 s,.int .i64 7] w (.tuple #[.int .i64 x,.int .i64 y,.int .i64 z]):=by
 go_enter Tryz.func177,Tryz.ntmps177
 go_wp2_with (go_at_call 181;refine (cm _).mono ?_;rintro r w1 ⟨rfl,rfl⟩)
 exact bodyPost_ret (by simp only [results,Tryz.results177];go_simp;first|done|exact ⟨rfl,rfl,rfl⟩) rfl ⟨rfl,rfl⟩
theorem evens_v (p s v:Int)(w:World)(hp:0<=p/\p<4)(hs:0<=s/\s<4)(hv:0<=v/\v<8) :
  CQ 177 #[.int .i64 p,.int .i64 s,.int .i64 v] w (.tuple #[.int .i64 (evT p s v).1,.int .i64 (evT p s v).2.1,.int .i64 (evT p s v).2.2]):=by
 by_cases h7:v=7
 ·subst h7
  exact ev_7 p s _ _ _ w (fun W=>mgr_v p s W hp hs)
 by_cases h4:v=4
 ·subst h4
  go_enter Tryz.func177,Tryz.ntmps177
  go_wp2
  exact bodyPost_ret (by simp only [results,Tryz.results177];go_simp;first|done|exact ⟨rfl,rfl,rfl⟩) rfl ⟨rfl,rfl⟩
 by_cases h5:v=5
 ·subst h5
  go_enter Tryz.func177,Tryz.ntmps177
  go_wp2
  exact bodyPost_ret (by simp only [results,Tryz.results177];go_simp;first|done|exact ⟨rfl,rfl,rfl⟩) rfl ⟨rfl,rfl⟩
 by_cases h6:v=6
 ·subst h6
  go_enter Tryz.func177,Tryz.ntmps177
  go_wp2
  exact bodyPost_ret (by simp only [results,Tryz.results177];go_simp;first|done|exact ⟨rfl,rfl,rfl⟩) rfl ⟨rfl,rfl⟩
 have e:evT p s v=(p*2,s*2,v*2):=by
  unfold evT
  rw [if_neg h4,if_neg h5,if_neg h6,if_neg h7]
 rw [e]
 have b4:(v==4)=false:=by simp [h4]
 have b5:(v==5)=false:=by simp [h5]
 have b6:(v==6)=false:=by simp [h6]
 have b7:(v==7)=false:=by simp [h7]
 go_enter Tryz.func177,Tryz.ntmps177
 go_wp2
 exact bodyPost_ret (by simp only [results,Tryz.results177];go_simp;first|done|exact ⟨rfl,rfl,rfl⟩) rfl ⟨rfl,rfl⟩
section
def fdT (a b c:Int):Int×Int×Int :=
 if a/8=0 then
  if b/8=0 then (if c/8=0 then (bits .and .i64 (a/2) 3,bits .and .i64 (b/2) 3,bits .and .i64 (c/2) 3) else (bits .and .i64 (a/2) 3,bits .and .i64 (b/2) 3,4))
  else (if c/8=0 then (bits .and .i64 (a/2) 3,bits .and .i64 (c/2) 3,5) else (bits .and .i64 (a/2) 3,2,7))
 else
  if b/8=0 then (if c/8=0 then (bits .and .i64 (c/2) 3,bits .and .i64 (b/2) 3,6) else (bits .and .i64 (b/2) 3,1,7))
  else (if c/8=0 then (bits .and .i64 (c/2) 3,0,7) else (0,3,7))
theorem fields_v (a b c:Int)(w:World)(ha:0<=a/\a<=9)(hb:0<=b/\b<=9)(hc:0<=c/\c<=9) :
  CQ 182 #[.int .i64 a,.int .i64 b,.int .i64 c] w (.tuple #[.int .i64 (fdT a b c).1,.int .i64 (fdT a b c).2.1,.int .i64 (fdT a b c).2.2]):=by
 unfold fdT
 by_cases h1:a/8=0
 ·rw [if_pos h1]
  by_cases h2:b/8=0
  ·rw [if_pos h2]
   by_cases h3:c/8=0
   ·rw [if_pos h3]
    exact fields_0 a b c _ _ _ w (fun W=>great_v a 0 ha.1 h1 W) (fun W=>great_v b 0 hb.1 h2 W) (fun W=>great_v c 0 hc.1 h3 W) ha.1 hb.1 hc.1 rfl rfl rfl
   ·rw [if_neg h3]
    exact fields_1 a b c _ _ _ w (fun W=>great_v a 0 ha.1 h1 W) (fun W=>great_v b 0 hb.1 h2 W) (fun W=>great_v c 1 hc.1 (by omega) W) ha.1 hb.1 hc.1 rfl rfl rfl
  ·rw [if_neg h2]
   by_cases h3:c/8=0
   ·rw [if_pos h3]
    exact fields_2 a b c _ _ _ w (fun W=>great_v a 0 ha.1 h1 W) (fun W=>great_v b 1 hb.1 (by omega) W) (fun W=>great_v c 0 hc.1 h3 W) ha.1 hb.1 hc.1 rfl rfl rfl
   ·rw [if_neg h3]
    exact fields_3 a b c _ _ _ w (fun W=>great_v a 0 ha.1 h1 W) (fun W=>great_v b 1 hb.1 (by omega) W) (fun W=>great_v c 1 hc.1 (by omega) W) ha.1 hb.1 hc.1 rfl rfl rfl
 ·rw [if_neg h1]
  by_cases h2:b/8=0
  ·rw [if_pos h2]
   by_cases h3:c/8=0
   ·rw [if_pos h3]
    exact fields_4 a b c _ _ _ w (fun W=>great_v a 1 ha.1 (by omega) W) (fun W=>great_v b 0 hb.1 h2 W) (fun W=>great_v c 0 hc.1 h3 W) ha.1 hb.1 hc.1 rfl rfl rfl
   ·rw [if_neg h3]
    exact fields_5 a b c _ _ _ w (fun W=>great_v a 1 ha.1 (by omega) W) (fun W=>great_v b 0 hb.1 h2 W) (fun W=>great_v c 1 hc.1 (by omega) W) ha.1 hb.1 hc.1 rfl rfl rfl
  ·rw [if_neg h2]
   by_cases h3:c/8=0
   ·rw [if_pos h3]
    exact fields_6 a b c _ _ _ w (fun W=>great_v a 1 ha.1 (by omega) W) (fun W=>great_v b 1 hb.1 (by omega) W) (fun W=>great_v c 0 hc.1 h3 W) ha.1 hb.1 hc.1 rfl rfl rfl
   ·rw [if_neg h3]
    exact fields_7 a b c _ _ _ w (fun W=>great_v a 1 ha.1 (by omega) W) (fun W=>great_v b 1 hb.1 (by omega) W) (fun W=>great_v c 1 hc.1 (by omega) W) ha.1 hb.1 hc.1 rfl rfl rfl
def dcT (a b c:Int):Int:=bits .or .i64 (bits .or .i64 (bits .or .i64 (bits .or .i64 (bits .or .i64 ((fdT a b c).1*256) (bits .and .i64 a 1*128)) ((fdT a b c).2.1*32)) (bits .and .i64 b 1*16)) ((fdT a b c).2.2*2)) (bits .and .i64 c 1)
theorem dc_all (n:Nat)(hn:n<1000):dcT ((n:Int)/100) ((n:Int)/10%10) ((n:Int)%10)=(dlE n:Int)/\(0<=(fdT ((n:Int)/100) ((n:Int)/10%10) ((n:Int)%10)).1/\(fdT ((n:Int)/100) ((n:Int)/10%10) ((n:Int)%10)).1<4)/\(0<=(fdT ((n:Int)/100) ((n:Int)/10%10) ((n:Int)%10)).2.1/\(fdT ((n:Int)/100) ((n:Int)/10%10) ((n:Int)%10)).2.1<4)/\(0<=(fdT ((n:Int)/100) ((n:Int)/10%10) ((n:Int)%10)).2.2/\(fdT ((n:Int)/100) ((n:Int)/10%10) ((n:Int)%10)).2.2<8):=by
 have h:=upTo_all (f:=fun n=>decide (dcT ((n:Int)/100) ((n:Int)/10%10) ((n:Int)%10)=(dlE n:Int)/\(0<=(fdT ((n:Int)/100) ((n:Int)/10%10) ((n:Int)%10)).1/\(fdT ((n:Int)/100) ((n:Int)/10%10) ((n:Int)%10)).1<4)/\(0<=(fdT ((n:Int)/100) ((n:Int)/10%10) ((n:Int)%10)).2.1/\(fdT ((n:Int)/100) ((n:Int)/10%10) ((n:Int)%10)).2.1<4)/\(0<=(fdT ((n:Int)/100) ((n:Int)/10%10) ((n:Int)%10)).2.2/\(fdT ((n:Int)/100) ((n:Int)/10%10) ((n:Int)%10)).2.2<8))) (m:=1000) (by decide +kernel) n hn
 exact of_decide_eq_true h
theorem and_low (n:Nat)(hn:n<1024):bits .and .i64 (n:Int) 1=((n%2:Nat):Int):=by
 have h:=upTo_all (f:=fun n=>decide (bits .and .i64 (n:Int) 1=((n%2:Nat):Int))) (m:=1024) (by decide +kernel) n hn
 exact of_decide_eq_true h
section
variable (n a b c P S V x y z R:Int)(w:World)(h0:¬ n<0)(h9:¬ 1000<=n)(ea:n/100=a)(eb:n/10%10=b)(ec:n%10=c)
 (cf:∀ W,CQ 182 #[.int .i64 a,.int .i64 b,.int .i64 c] W (.tuple #[.int .i64 P,.int .i64 S,.int .i64 V]))
 (hP0:0<=P) (hP1:P<4) (hS0:0<=S) (hS1:S<4) (hV0:0<=V) (hV1:V<8)
 (hx:bits .and .i64 a 1=x) (hy:bits .and .i64 b 1=y) (hz:bits .and .i64 c 1=z) (hx0:0<=x) (hx1:x<2) (hy0:0<=y) (hy1:y<2)
 (hR:bits .or .i64 (bits .or .i64 (bits .or .i64 (bits .or .i64 (bits .or .i64 (P*256) (x*128)) (S*32)) (y*16)) (V*2)) z=R)
include h0 h9 ea eb ec cf hP0 hP1 hS0 hS1 hV0 hV1 hx hy hz hx0 hx1 hy0 hy1 hR
theorem denc_w:CQ 179 #[.int .i64 n] w (.tuple #[.int .i64 R,.int .i64 0]):=by
 go_enter Tryz.func179,Tryz.ntmps179
 go_wp2_with (go_at_call 182;refine (cf _).mono ?_;rintro r w1 ⟨rfl,rfl⟩)
 exact bodyPost_ret (by simp only [results,Tryz.results179];go_simp) rfl ⟨rfl,rfl⟩
end
theorem denc_v (n:Nat)(hn:n<1000)(w:World):CQ 179 #[.int .i64 (n:Int)] w (.tuple #[.int .i64 (dlE n:Int),.int .i64 0]):=by
 obtain ⟨hR,⟨p0,p1⟩,⟨s0,s1⟩,⟨v0,v1⟩⟩:=dc_all n hn
 unfold dcT at hR
 have la:=and_low (n/100) (by omega)
 have lb:=and_low (n/10%10) (by omega)
 rw [show ((n/100:Nat):Int)=(n:Int)/100 by omega] at la
 rw [show ((n/10%10:Nat):Int)=(n:Int)/10%10 by omega] at lb
 exact denc_w (n:Int) _ _ _ _ _ _ _ _ _ _ w (by omega) (by omega) rfl rfl rfl (fun W=>fields_v _ _ _ W (by omega) (by omega) (by omega)) p0 p1 s0 s1 v0 v1 rfl rfl rfl (by rw [la];omega) (by rw [la];omega) (by rw [lb];omega) (by rw [lb];omega) hR
def dmT (d:Nat):Int:=100*bits .or .i64 (evT ((d:Int)/256) (bits .and .i64 ((d:Int)/32) 3) (bits .and .i64 ((d:Int)/2) 7)).1 (bits .and .i64 ((d:Int)/128) 1)+10*bits .or .i64 (evT ((d:Int)/256) (bits .and .i64 ((d:Int)/32) 3) (bits .and .i64 ((d:Int)/2) 7)).2.1 (bits .and .i64 ((d:Int)/16) 1)+bits .or .i64 (evT ((d:Int)/256) (bits .and .i64 ((d:Int)/32) 3) (bits .and .i64 ((d:Int)/2) 7)).2.2 (bits .and .i64 (d:Int) 1)
theorem dm_all (d:Nat)(hd:d<1024):dmT d=(dlD d:Int)/\(0<=bits .and .i64 ((d:Int)/32) 3/\bits .and .i64 ((d:Int)/32) 3<4)/\(0<=bits .and .i64 ((d:Int)/2) 7/\bits .and .i64 ((d:Int)/2) 7<8)/\(0<=bits .or .i64 (evT ((d:Int)/256) (bits .and .i64 ((d:Int)/32) 3) (bits .and .i64 ((d:Int)/2) 7)).1 (bits .and .i64 ((d:Int)/128) 1)/\bits .or .i64 (evT ((d:Int)/256) (bits .and .i64 ((d:Int)/32) 3) (bits .and .i64 ((d:Int)/2) 7)).1 (bits .and .i64 ((d:Int)/128) 1)<=9)/\(0<=bits .or .i64 (evT ((d:Int)/256) (bits .and .i64 ((d:Int)/32) 3) (bits .and .i64 ((d:Int)/2) 7)).2.1 (bits .and .i64 ((d:Int)/16) 1)/\bits .or .i64 (evT ((d:Int)/256) (bits .and .i64 ((d:Int)/32) 3) (bits .and .i64 ((d:Int)/2) 7)).2.1 (bits .and .i64 ((d:Int)/16) 1)<=9)/\(0<=bits .or .i64 (evT ((d:Int)/256) (bits .and .i64 ((d:Int)/32) 3) (bits .and .i64 ((d:Int)/2) 7)).2.2 (bits .and .i64 (d:Int) 1)/\bits .or .i64 (evT ((d:Int)/256) (bits .and .i64 ((d:Int)/32) 3) (bits .and .i64 ((d:Int)/2) 7)).2.2 (bits .and .i64 (d:Int) 1)<=9):=by
 have h:=upTo_all (f:=fun d=>decide (dmT d=(dlD d:Int)/\(0<=bits .and .i64 ((d:Int)/32) 3/\bits .and .i64 ((d:Int)/32) 3<4)/\(0<=bits .and .i64 ((d:Int)/2) 7/\bits .and .i64 ((d:Int)/2) 7<8)/\(0<=bits .or .i64 (evT ((d:Int)/256) (bits .and .i64 ((d:Int)/32) 3) (bits .and .i64 ((d:Int)/2) 7)).1 (bits .and .i64 ((d:Int)/128) 1)/\bits .or .i64 (evT ((d:Int)/256) (bits .and .i64 ((d:Int)/32) 3) (bits .and .i64 ((d:Int)/2) 7)).1 (bits .and .i64 ((d:Int)/128) 1)<=9)/\(0<=bits .or .i64 (evT ((d:Int)/256) (bits .and .i64 ((d:Int)/32) 3) (bits .and .i64 ((d:Int)/2) 7)).2.1 (bits .and .i64 ((d:Int)/16) 1)/\bits .or .i64 (evT ((d:Int)/256) (bits .and .i64 ((d:Int)/32) 3) (bits .and .i64 ((d:Int)/2) 7)).2.1 (bits .and .i64 ((d:Int)/16) 1)<=9)/\(0<=bits .or .i64 (evT ((d:Int)/256) (bits .and .i64 ((d:Int)/32) 3) (bits .and .i64 ((d:Int)/2) 7)).2.2 (bits .and .i64 (d:Int) 1)/\bits .or .i64 (evT ((d:Int)/256) (bits .and .i64 ((d:Int)/32) 3) (bits .and .i64 ((d:Int)/2) 7)).2.2 (bits .and .i64 (d:Int) 1)<=9))) (m:=1024) (by decide +kernel) d hd
 exact of_decide_eq_true h
section
variable (d s v x y z xa ya za X Y Z R:Int)(w:World)(h0:¬ d<0)(h0':0<=d)(h9:¬ 1024<=d)(hs:bits .and .i64 (d/32) 3=s)(hv:bits .and .i64 (d/2) 7=v)
 (cf:∀ W,CQ 177 #[.int .i64 (d/256),.int .i64 s,.int .i64 v] W (.tuple #[.int .i64 x,.int .i64 y,.int .i64 z]))
 (ha:bits .and .i64 (d/128) 1=xa) (hb:bits .and .i64 (d/16) 1=ya) (hc:bits .and .i64 d 1=za)
 (hx:bits .or .i64 x xa=X) (hy:bits .or .i64 y ya=Y) (hz:bits .or .i64 z za=Z) (hX0:0<=X) (hX1:X<=9) (hY0:0<=Y) (hY1:Y<=9) (hZ0:0<=Z) (hZ1:Z<=9)
 (hR:100*X+10*Y+Z=R)
include h0 h0' h9 hs hv cf ha hb hc hx hy hz hX0 hX1 hY0 hY1 hZ0 hZ1 hR
theorem ddcd_w:CQ 171 #[.int .i64 d] w (.tuple #[.int .i64 R,.int .i64 0]):=by
 go_enter Tryz.func171,Tryz.ntmps171
 go_wp2_with (go_at_call 177;refine (cf _).mono ?_;rintro r w1 ⟨rfl,rfl⟩)
 exact bodyPost_ret (by simp only [results,Tryz.results171];go_simp) rfl ⟨rfl,rfl⟩
end
theorem ddcd_v (d:Nat)(hd:d<1024)(w:World):CQ 171 #[.int .i64 (d:Int)] w (.tuple #[.int .i64 (dlD d:Int),.int .i64 0]):=by
 obtain ⟨hR,hs,hv,⟨x0,x1⟩,⟨y0,y1⟩,⟨z0,z1⟩⟩:=dm_all d hd
 exact ddcd_w (d:Int) _ _ _ _ _ _ _ _ _ _ _ _ w (by omega) (by omega) (by omega) rfl rfl (fun W=>evens_v _ _ _ W (by omega) hs hv) rfl rfl rfl rfl rfl rfl x0 x1 y0 y1 z0 z1 hR
end
end Go.Proofs.YtgknbdehlmlipaaGreatDoor
