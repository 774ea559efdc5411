/-
  Texts that the proof leans on.
-/
import Derived.Test.YtahfkpjhlbiamaaGreatDoorR1
import Derived.Test.YtahfkpjhlbiamaaGreatDoorR13
import Derived.DeepKeys
import Derived.Test.YtahfkpjhlbiamaaGreatDoorR15
import Derived.Laws.IdiomCopy
import Derived.Deep.RegionWith
import Derived.Test.YtahfkpjhlbiamaaGreatDoorR11
set_option linter.unusedVariables false
set_option linter.unusedSectionVars false
set_option linter.unusedSimpArgs false
set_option maxHeartbeats 8000000
set_option maxRecDepth 20000
namespace Go.Proofs.YtahfkpjhlbiamaaGreatDoor
open Go.RowKit
section
abbrev Z4:Value:=.agg #[.int .u64 0,.int .u64 0,.int .u64 0,.int .u64 0]
theorem zEd:A4 0=Z4:=by unfold A4 Z4;simp only [zNa]
section
variable (f e:Nat)(l m:Int)(w:World)(c x:Int)(s:Bool)(k:Nat)(L:Int)(hf:f<=240)
 (c46:∀ w,CB 75 #[A4 k] w (.int .i64 L))
include hf c46
end
def isD (f:Nat)(l m:Int)(d:Dat):Prop :=
 (d.c=1/\d.g=false/\d.k<2^(f+1)/\l<=d.x/\d.x<=m/\(2^f<=d.k∨d.x=l)) ∨
 (d.c=2/\d.g=false/\d.x=0/\d.k=0) ∨
 (d.c=3/\d.x=0/\d.k<2^(f-1)/\(d.k≠0∨d.g=false))
instance (f:Nat) (l m:Int) (d:Dat):Decidable (isD f l m d):=inferInstanceAs (Decidable (_∨_∨_))
def pk (f e:Nat)(l:Int)(d:Dat):Nat :=
 (if d.c=1 then (d.x-l).toNat*2^f+d.k else if d.c=2 then (2^e-1)*2^f+0 else (2^e-1)*2^f+(if d.g then d.k else d.k+2^(f-1)))+if d.s then 2^(f+e) else 0
end
theorem eq24d (d:Nat)(a0 a1 a2 a3 b0 b1 b2 b3:Int)(w:World) :
  Sem.run Tryz.prog (Op.equalIn (d+2) 24 (.agg #[.int .u64 a0,.int .u64 a1,.int .u64 a2,.int .u64 a3]) (.agg #[.int .u64 b0,.int .u64 b1,.int .u64 b2,.int .u64 b3])) w=.ok (decide (a0=b0/\a1=b1/\a2=b2/\a3=b3)) w:=by
 obtain ⟨i22,hi⟩:∃ i,Tryz.prog.info? 22=some i:=⟨_,rfl⟩
 have h:=run_equalIn_array (P:=Tryz.prog) w (d+1) (t:=24) (e:=22) (n:=4) #[.int .u64 a0,.int .u64 a1,.int .u64 a2,.int .u64 a3] #[.int .u64 b0,.int .u64 b1,.int .u64 b2,.int .u64 b3] (by kernel_rfl) hi
 refine h.trans ?_
 have hc:Tryz.prog.cellsOf 22=1:=by kernel_rfl
 rw [hc]
 simp [List.range_succ,Op.eqItems,go_sem]
 by_cases h0:a0=b0<;>by_cases h1:a1=b1<;>by_cases h2:a2=b2<;>by_cases h3:a3=b3<;>simp [h0,h1,h2,h3]
theorem zO4 (a0 a1 a2 a3 b0 b1 b2 b3:Int)(w:World) :
  Sem.run Tryz.prog (Op.equalIn 10000 24 (.agg #[.int .u64 a0,.int .u64 a1,.int .u64 a2,.int .u64 a3]) (.agg #[.int .u64 b0,.int .u64 b1,.int .u64 b2,.int .u64 b3])) w=.ok (decide (a0=b0/\a1=b1/\a2=b2/\a3=b3)) w :=
 eq24d 9998 a0 a1 a2 a3 b0 b1 b2 b3 w
section
section
variable (n:Int)(f e:Nat)(l m:Int)(w:World)(hT:Tab w)(c x:Int)(s g:Bool)(k:Nat)
 (c31:∀ w,Tab w->CB 49 #[.int .i64 n] w (.tuple #[LV f e l m,.int .i64 0]))
include hT c31
end
def unD (n:Int)(B:Nat):Dat:=if zQd n B then unp (fN n) (eN n) (zZa n) B else ⟨0,false,false,0,0⟩
def unE (n:Int)(B:Nat):Int:=if zQd n B then 0 else 1
theorem zHs (n:Int)(B:Nat)(w:World)(hT:Tab w)(hB:B<2^256) :
  CB 13 #[.int .i64 n,A4 B] w (.tuple #[(unD n B).v,.int .i64 (unE n B)]):=by
 unfold unD unE
 by_cases h:zQd n B
 ·rw [if_pos h,if_pos h];exact zIu n B w hT hB h
 ·rw [if_neg h,if_neg h];exact zGs n B w hT hB h
end
end Go.Proofs.YtahfkpjhlbiamaaGreatDoor

namespace Go.Proofs.YtahfkpjhlbiamaaGreatDoor
theorem zAo {f e S E F:Nat}(hS:S<=1)(hE:E<2^e)(hF:F<2^f) :
  (E*2^f+F+S*2^(f+e))%2^f=F/\(E*2^f+F+S*2^(f+e))/2^f%2^e=E/\(E*2^f+F+S*2^(f+e))/2^(f+e)=S/\E*2^f+F+S*2^(f+e)<2^(f+e+1):=by
 have hP:0<2^f:=Nat.two_pow_pos f
 have hR:0<2^e:=Nat.two_pow_pos e
 have e1:E*2^f+F+S*2^(f+e)=F+(E+S*2^e)*2^f:=by
  rw [Nat.pow_add,Nat.add_mul,Nat.mul_assoc,Nat.mul_comm (2^e) (2^f)];omega
 have d1:(E*2^f+F+S*2^(f+e))/2^f=E+S*2^e:=by
  rw [e1,Nat.add_mul_div_right _ _ hP,Nat.div_eq_of_lt hF,Nat.zero_add]
 have d2:(E*2^f+F+S*2^(f+e))/2^(f+e)=S:=by
  rw [Nat.pow_add,← Nat.div_div_eq_div_mul,← Nat.pow_add,d1,Nat.add_mul_div_right _ _ hR,Nat.div_eq_of_lt hE,Nat.zero_add]
 refine ⟨?_,?_,d2,?_⟩
 ·rw [e1,Nat.add_mul_mod_self_right,Nat.mod_eq_of_lt hF]
 ·rw [d1,Nat.add_mul_mod_self_right,Nat.mod_eq_of_lt hE]
 ·have hp:0<2^(f+e):=Nat.two_pow_pos _
  refine Nat.lt_of_div_lt_div (c:=2^(f+e)) ?_
  rw [d2,Nat.pow_succ,Nat.mul_comm,Nat.mul_div_cancel _ hp]
  omega
theorem zHx {f e B:Nat}(hB:B<2^(f+e+1)):∃ S E F,S<=1/\E<2^e/\F<2^f/\B=E*2^f+F+S*2^(f+e):=by
 refine ⟨B/2^(f+e),B/2^f%2^e,B%2^f,?_,Nat.mod_lt _ (Nat.two_pow_pos _),Nat.mod_lt _ (Nat.two_pow_pos _),?_⟩
 ·have:B/2^(f+e)<2:=Nat.div_lt_of_lt_mul (by rw [Nat.mul_comm];rw [Nat.pow_succ] at hB;omega)
  omega
 ·have h1:=Nat.div_add_mod' B (2^f)
  have h2:=Nat.div_add_mod' (B/2^f) (2^e)
  rw [Nat.div_div_eq_div_mul,← Nat.pow_add] at h2
  have h3:(B/2^(f+e)*2^e+B/2^f%2^e)*2^f=B/2^f*2^f:=by rw [h2]
  rw [Nat.add_mul,Nat.mul_assoc,Nat.mul_comm (2^e) (2^f),← Nat.pow_add] at h3
  omega
theorem sg_of {f e S E F:Nat}(hS:S<=1)(hE:E<2^e)(hF:F<2^f):sgB f e (E*2^f+F+S*2^(f+e))=decide (S=1):=by
 unfold sgB
 rw [(zAo hS hE hF).2.2.1]
 have:S=0∨S=1:=by omega
 rcases this with rfl|rfl<;>rfl
def zG4 (f e:Nat)(l:Int)(S E F:Nat):Dat :=
 if E=2^e-1 then spc f (decide (S=1)) F else if E=0 then ⟨1,decide (S=1),false,l,F⟩ else ⟨1,decide (S=1),false,l+((E:Int)-1),F+2^f⟩
theorem zC0 {f e S E F:Nat}(l:Int)(hS:S<=1)(hE:E<2^e)(hF:F<2^f):unp f e l (E*2^f+F+S*2^(f+e))=zG4 f e l S E F:=by
 unfold unp zG4
 obtain ⟨h1,h2,_,_⟩:=zAo hS hE hF
 rw [h1,h2,sg_of hS hE hF]
theorem sel {S X:Nat}(hS:S<=1):(if decide (S=1)=true then X else 0)=S*X:=by
 have:S=0∨S=1:=by omega
 rcases this with rfl|rfl<;>simp
theorem half {f:Nat}(h:2<=f):2^(f-1)+2^(f-1)=2^f/\1<=2^(f-1):=by
 refine ⟨?_,Nat.one_le_two_pow⟩
 have:f=f-1+1:=by omega
 conv=>rhs;rw [this,Nat.pow_succ]
 omega
theorem zW1 {f e S E F:Nat}{l m:Int}(h:Fm f e l m)(hS:S<=1)(hE:E<2^e)(hF:F<2^f):isD f l m (zG4 f e l S E F)/\pk f e l (zG4 f e l S E F)=E*2^f+F+S*2^(f+e)/\(zG4 f e l S E F).k<2^256:=by
 have hp:=zE1 h.e2 h.e15
 have hpc:((2:Int)^e)=((2^e:Nat):Int):=by simp
 have hm:=h.m
 rw [hpc] at hp hm
 have hh:=half h.f2
 have h256:2^(f+1)<=2^256:=Nat.pow_le_pow_right (by decide) (by have:=h.f240;omega)
 have hs1:2^(f+1)=2^f+2^f:=by rw [Nat.pow_succ];omega
 unfold zG4
 by_cases h1:E=2^e-1
 ·rw [if_pos h1]
  unfold spc
  by_cases h2:F=0
  ·rw [if_pos h2]
   refine ⟨Or.inr (Or.inl ⟨rfl,rfl,rfl,rfl⟩),?_,by show 0<_;omega⟩
   unfold pk
   simp only [show ¬ ((2:Int)=1) by decide,if_false,if_true]
   rw [sel hS,← h1,h2]
  ·rw [if_neg h2]
   by_cases h3:F<2^(f-1)
   ·rw [if_pos h3]
    refine ⟨Or.inr (Or.inr ⟨rfl,rfl,h3,Or.inl h2⟩),?_,by show F<_;omega⟩
    unfold pk
    simp only [show ¬ ((3:Int)=1) by decide,show ¬ ((3:Int)=2) by decide,if_false,if_true]
    rw [sel hS,← h1]
   ·rw [if_neg h3]
    refine ⟨Or.inr (Or.inr ⟨rfl,rfl,by show F-2^(f-1)<_;omega,Or.inr rfl⟩),?_,by show F-2^(f-1)<_;omega⟩
    unfold pk
    simp only [show ¬ ((3:Int)=1) by decide,show ¬ ((3:Int)=2) by decide,if_false,Bool.false_eq_true]
    rw [sel hS,← h1,Nat.sub_add_cancel (by omega)]
 ·rw [if_neg h1]
  by_cases h2:E=0
  ·rw [if_pos h2]
   refine ⟨Or.inl ⟨rfl,rfl,by show F<_;omega,Int.le_refl _,by show l<=m;omega,Or.inr rfl⟩,?_,by show F<_;omega⟩
   unfold pk
   simp only [if_true,Int.sub_self,Int.toNat_zero,Nat.zero_mul]
   rw [sel hS,h2,Nat.zero_mul]
  ·rw [if_neg h2]
   refine ⟨Or.inl ⟨rfl,rfl,by show F+2^f<_;omega,by show l<=l+((E:Int)-1);omega,by show l+((E:Int)-1)<=m;omega,Or.inl (by show 2^f<=F+2^f;omega)⟩,?_,by show F+2^f<_;omega⟩
   unfold pk
   simp only [if_true]
   rw [sel hS,show (l+((E:Int)-1)-l).toNat=E-1 by omega]
   obtain ⟨E',rfl⟩:∃ E',E=E'+1:=⟨E-1,by omega⟩
   rw [Nat.add_sub_cancel,Nat.add_mul]
   omega
end Go.Proofs.YtahfkpjhlbiamaaGreatDoor

namespace Go.Proofs.YtahfkpjhlbiamaaGreatDoor
open Go.RowKit
section
abbrev DI (n:Int)(nm:ByteArray)(wd:Int)(f e:Nat)(l m:Int):Value:=.agg #[.int .i64 n,.string nm,.int .i64 2,.int .i64 wd,.int .i64 ((f:Int)+1),.int .i64 e,.int .i64 l,.int .i64 m,.int .i64 ((f:Int)-1),.bool false]
theorem copy0 (W:World)(d a:Option Addr)(cap:Nat):Sem.run Tryz.prog (Builtin.copy_ #[61,61] 3 #[.slice d 4 4,.slice a 0 cap]) W=.ok (.int .i64 0) W :=
 run_copy_none (P:=Tryz.prog) W 61 61 3 22 d a 4 4 0 cap Tryz.underlying61 (by kernel_rfl) rfl
theorem copy1 (W:World)(g b off cap:Nat)(v0:Int)(h0:W.cell? ⟨b,off,none⟩=some (.int .u64 v0))(c0:(W.cell? ⟨g,4,none⟩).isSome=true)(f0:W.frozen? ⟨g,4,none⟩=false) :
  Sem.run Tryz.prog (Builtin.copy_ #[61,61] 3 #[.slice (some ⟨g,4,none⟩) 4 4,.slice (some ⟨b,off,none⟩) 1 cap]) W=.ok (.int .i64 1) (W.setCell ⟨g,4,none⟩ (.int .u64 v0)):=by
 have:=run_copy_cells (P:=Tryz.prog) W 61 61 3 22 g 4 4 4 ⟨b,off,none⟩ 1 cap [.int .u64 v0] Tryz.underlying61 (by kernel_rfl) rfl ?_ ?_ ?_ ?_
 ·exact this
 ·intro j v
  match j,v with
  | 0,_=>intro h;cases h;simpa [Addr.add] using h0
  | (j+1),_=>intro h;simp at h
 ·intro j hj
  match j,hj with
  | 0,_=>simpa using c0
  | (j+1),h=>exact absurd h (by simp only [List.length_cons,List.length_nil];omega)
 ·intro j hj
  match j,hj with
  | 0,_=>simpa using f0
  | (j+1),h=>exact absurd h (by simp only [List.length_cons,List.length_nil];omega)
 ·intro v hv
  simp at hv
  first|(subst hv;rfl)|(rcases hv with rfl|rfl<;>rfl)|(rcases hv with rfl|rfl|rfl<;>rfl)|(rcases hv with rfl|rfl|rfl|rfl<;>rfl)
theorem copy2 (W:World)(g b off cap:Nat)(v0 v1:Int)(h0:W.cell? ⟨b,off,none⟩=some (.int .u64 v0))(h1:W.cell? ⟨b,off+1,none⟩=some (.int .u64 v1))(c0:(W.cell? ⟨g,4,none⟩).isSome=true)(f0:W.frozen? ⟨g,4,none⟩=false)(c1:(W.cell? ⟨g,5,none⟩).isSome=true)(f1:W.frozen? ⟨g,5,none⟩=false) :
  Sem.run Tryz.prog (Builtin.copy_ #[61,61] 3 #[.slice (some ⟨g,4,none⟩) 4 4,.slice (some ⟨b,off,none⟩) 2 cap]) W=.ok (.int .i64 2) ((W.setCell ⟨g,4,none⟩ (.int .u64 v0)).setCell ⟨g,5,none⟩ (.int .u64 v1)):=by
 have:=run_copy_cells (P:=Tryz.prog) W 61 61 3 22 g 4 4 4 ⟨b,off,none⟩ 2 cap [.int .u64 v0,.int .u64 v1] Tryz.underlying61 (by kernel_rfl) rfl ?_ ?_ ?_ ?_
 ·exact this
 ·intro j v
  match j,v with
  | 0,_=>intro h;cases h;simpa [Addr.add] using h0
  | 1,_=>intro h;cases h;simpa [Addr.add] using h1
  | (j+2),_=>intro h;simp at h
 ·intro j hj
  match j,hj with
  | 0,_=>simpa using c0
  | 1,_=>simpa using c1
  | (j+2),h=>exact absurd h (by simp only [List.length_cons,List.length_nil];omega)
 ·intro j hj
  match j,hj with
  | 0,_=>simpa using f0
  | 1,_=>simpa using f1
  | (j+2),h=>exact absurd h (by simp only [List.length_cons,List.length_nil];omega)
 ·intro v hv
  simp at hv
  first|(subst hv;rfl)|(rcases hv with rfl|rfl<;>rfl)|(rcases hv with rfl|rfl|rfl<;>rfl)|(rcases hv with rfl|rfl|rfl|rfl<;>rfl)
theorem copy3 (W:World)(g b off cap:Nat)(v0 v1 v2:Int)(h0:W.cell? ⟨b,off,none⟩=some (.int .u64 v0))(h1:W.cell? ⟨b,off+1,none⟩=some (.int .u64 v1))(h2:W.cell? ⟨b,off+2,none⟩=some (.int .u64 v2))(c0:(W.cell? ⟨g,4,none⟩).isSome=true)(f0:W.frozen? ⟨g,4,none⟩=false)(c1:(W.cell? ⟨g,5,none⟩).isSome=true)(f1:W.frozen? ⟨g,5,none⟩=false)(c2:(W.cell? ⟨g,6,none⟩).isSome=true)(f2:W.frozen? ⟨g,6,none⟩=false) :
  Sem.run Tryz.prog (Builtin.copy_ #[61,61] 3 #[.slice (some ⟨g,4,none⟩) 4 4,.slice (some ⟨b,off,none⟩) 3 cap]) W=.ok (.int .i64 3) (((W.setCell ⟨g,4,none⟩ (.int .u64 v0)).setCell ⟨g,5,none⟩ (.int .u64 v1)).setCell ⟨g,6,none⟩ (.int .u64 v2)):=by
 have:=run_copy_cells (P:=Tryz.prog) W 61 61 3 22 g 4 4 4 ⟨b,off,none⟩ 3 cap [.int .u64 v0,.int .u64 v1,.int .u64 v2] Tryz.underlying61 (by kernel_rfl) rfl ?_ ?_ ?_ ?_
 ·exact this
 ·intro j v
  match j,v with
  | 0,_=>intro h;cases h;simpa [Addr.add] using h0
  | 1,_=>intro h;cases h;simpa [Addr.add] using h1
  | 2,_=>intro h;cases h;simpa [Addr.add] using h2
  | (j+3),_=>intro h;simp at h
 ·intro j hj
  match j,hj with
  | 0,_=>simpa using c0
  | 1,_=>simpa using c1
  | 2,_=>simpa using c2
  | (j+3),h=>exact absurd h (by simp only [List.length_cons,List.length_nil];omega)
 ·intro j hj
  match j,hj with
  | 0,_=>simpa using f0
  | 1,_=>simpa using f1
  | 2,_=>simpa using f2
  | (j+3),h=>exact absurd h (by simp only [List.length_cons,List.length_nil];omega)
 ·intro v hv
  simp at hv
  first|(subst hv;rfl)|(rcases hv with rfl|rfl<;>rfl)|(rcases hv with rfl|rfl|rfl<;>rfl)|(rcases hv with rfl|rfl|rfl|rfl<;>rfl)
theorem copy4 (W:World)(g b off cap:Nat)(v0 v1 v2 v3:Int)(h0:W.cell? ⟨b,off,none⟩=some (.int .u64 v0))(h1:W.cell? ⟨b,off+1,none⟩=some (.int .u64 v1))(h2:W.cell? ⟨b,off+2,none⟩=some (.int .u64 v2))(h3:W.cell? ⟨b,off+3,none⟩=some (.int .u64 v3))(c0:(W.cell? ⟨g,4,none⟩).isSome=true)(f0:W.frozen? ⟨g,4,none⟩=false)(c1:(W.cell? ⟨g,5,none⟩).isSome=true)(f1:W.frozen? ⟨g,5,none⟩=false)(c2:(W.cell? ⟨g,6,none⟩).isSome=true)(f2:W.frozen? ⟨g,6,none⟩=false)(c3:(W.cell? ⟨g,7,none⟩).isSome=true)(f3:W.frozen? ⟨g,7,none⟩=false) :
  Sem.run Tryz.prog (Builtin.copy_ #[61,61] 3 #[.slice (some ⟨g,4,none⟩) 4 4,.slice (some ⟨b,off,none⟩) 4 cap]) W=.ok (.int .i64 4) ((((W.setCell ⟨g,4,none⟩ (.int .u64 v0)).setCell ⟨g,5,none⟩ (.int .u64 v1)).setCell ⟨g,6,none⟩ (.int .u64 v2)).setCell ⟨g,7,none⟩ (.int .u64 v3)):=by
 have:=run_copy_cells (P:=Tryz.prog) W 61 61 3 22 g 4 4 4 ⟨b,off,none⟩ 4 cap [.int .u64 v0,.int .u64 v1,.int .u64 v2,.int .u64 v3] Tryz.underlying61 (by kernel_rfl) rfl ?_ ?_ ?_ ?_
 ·exact this
 ·intro j v
  match j,v with
  | 0,_=>intro h;cases h;simpa [Addr.add] using h0
  | 1,_=>intro h;cases h;simpa [Addr.add] using h1
  | 2,_=>intro h;cases h;simpa [Addr.add] using h2
  | 3,_=>intro h;cases h;simpa [Addr.add] using h3
  | (j+4),_=>intro h;simp at h
 ·intro j hj
  match j,hj with
  | 0,_=>simpa using c0
  | 1,_=>simpa using c1
  | 2,_=>simpa using c2
  | 3,_=>simpa using c3
  | (j+4),h=>exact absurd h (by simp only [List.length_cons,List.length_nil];omega)
 ·intro j hj
  match j,hj with
  | 0,_=>simpa using f0
  | 1,_=>simpa using f1
  | 2,_=>simpa using f2
  | 3,_=>simpa using f3
  | (j+4),h=>exact absurd h (by simp only [List.length_cons,List.length_nil];omega)
 ·intro v hv
  simp at hv
  first|(subst hv;rfl)|(rcases hv with rfl|rfl<;>rfl)|(rcases hv with rfl|rfl|rfl<;>rfl)|(rcases hv with rfl|rfl|rfl|rfl<;>rfl)
attribute [local irreducible] W4
section
variable (n:Int)(nm:ByteArray)(wd:Int)(f e:Nat)(l m:Int)(s:Bool)(x fl E:Int)(R:Nat)(z:Nat->Int)(w:World)(hT:Tab w)
include hT
end
end
theorem zQp (B A at_ K:Nat)(v:Value)(w:World)(hB:B<2^256)(hK:K<900)(ha:at_<=600)(h:NV K A v w) :
  CB 90 #[A4 B,v,.int .i64 at_] w (A4 (B+A*2^at_)):=by
 have c52:∀ W,Below w.heap.size w W->Calls Tryz.prog 87 #[v,.int .i64 at_] W fun e w'=>∃ v',e=.returned v'/\NV (K+11) (A*2^at_) v' w'/\Below W.heap.size W w':=fun W hW=>zRq at_ (by omega) ha (h.next hW)
 clear h
 go_enter Tryz.func90,Tryz.ntmps90
 go_wp2
 go_region_with (first
  | (go_at_call 87;refine (c52 _ bgo).mono ?_;rintro e w1 ⟨v1,rfl,hl,hb1⟩;have hbx:=zXr (w0:=w) (B:=B) (t:=24) hB (zMe bgo hb1);obtain ⟨_,_,_,_,hA1,_⟩:=wz w hb1;obtain ⟨_,_⟩:=zf hb1 (w.heap.size+1);clear hb1)
  | (go_at_call 63;refine (zJp (by decide) (by omega) hbx hl).mono ?_;rintro e w2 ⟨v2,rfl,hs,hb2⟩;obtain ⟨_,_,_,_,hA2,_⟩:=wz w hb2;obtain ⟨_,_⟩:=zf hb2 (w.heap.size+1);clear hb2)
  | (go_at_call 62;refine wk w (zDc hs) ?_;intro w3 hb3 _ _ _ _ hA3 _;obtain ⟨_,_⟩:=zf hb3 (w.heap.size+1);clear hb3))
 have hsm:=zAa
 go_wp2
 exact bodyPost_ret (v:=A4 (B+A*2^at_)) (by simp only [results,Tryz.results90];go_simp) rfl ⟨rfl,bgo⟩
theorem zHp (n:Int)(w:World):Calls Tryz.prog 31 #[.int .i64 n] w fun e w'=>e=.returned (.bool (decide (zYk n)))/\w'=w:=by
 by_cases h1:1<=n
 ·by_cases h2:n<=6
  ·rw [decide_eq_true (show zYk n from ⟨h1,h2⟩)]
   go_enter Tryz.func31,Tryz.ntmps31
   go_wp2
   go_ret
   exact ⟨rfl,rfl⟩
  ·rw [decide_eq_false (show ¬ zYk n from fun h=>h2 h.2)]
   go_enter Tryz.func31,Tryz.ntmps31
   go_wp2
   go_ret
   exact ⟨rfl,rfl⟩
 ·rw [decide_eq_false (show ¬ zYk n from fun h=>h1 h.1)]
  go_enter Tryz.func31,Tryz.ntmps31
  go_wp2
  go_ret
  exact ⟨rfl,rfl⟩
theorem rfits4 (n:Int)(B:Nat)(hB:B<2^256)(w:World) :
  CB 32 #[.int .i64 n,A4 B] w (.bool (decide (okN n/\B<2^(zVa n).toNat))):=by
 refine (zMv n (W4 B) (zHa B) _ (zDz B) rfl w).mono ?_
 rintro x w' ⟨rfl,hb⟩
 refine ⟨?_,hb⟩
 have hwd:=(zBd n).2.1
 have e:(zYh n (W4 B))↔(okN n/\B<2^(zVa n).toNat):=by
  unfold zYh
  rw [zGr]
  have:=zYl (k:=(zVa n).toNat) hB
  rw [show (((zVa n).toNat:Nat):Int)=zVa n by omega] at this
  rw [this]
 rw [decide_eq_decide.2 e]
theorem zBj (n:Int)(B:Nat)(hB:B<2^256)(w:World) :
  CB 12 #[.int .i64 n,A4 B] w (.bool (decide (zQd n B))):=by
 have c35:=fun w=>zHp n w
 have c50:=fun w=>rfits4 n B hB w
 by_cases hb:zYk n
 ·have hF:=zNe hb
  rw [decide_eq_true hb] at c35
  have e:(okN n/\B<2^(zVa n).toNat)↔zQd n B:=by
   rw [hF.2.2.2.2.1,Int.toNat_natCast]
   exact ⟨fun h=>⟨hb,h.2⟩,fun h=>⟨hF.1,h.2⟩⟩
  rw [decide_eq_decide.2 e] at c50
  generalize decide (zQd n B)=D at *
  clear hF e hb hB
  go_enter Tryz.func12,Tryz.ntmps12
  go_wp2_with (first
   | (go_at_call 31;refine (c35 _).mono ?_;rintro e w1 ⟨rfl,rfl⟩)
   | (go_at_call 32;refine (c50 _).mono ?_;rintro e w2 ⟨rfl,hb2⟩))
  go_ret
  exact ⟨rfl,zMe bgo hb2⟩
 ·rw [decide_eq_false hb] at c35
  rw [decide_eq_false (show ¬ zQd n B from fun h=>hb h.1)]
  clear hb hB c50
  go_enter Tryz.func12,Tryz.ntmps12
  go_wp2_with (go_at_call 31;refine (c35 _).mono ?_;rintro e w1 ⟨rfl,rfl⟩)
  go_ret
  exact ⟨rfl,bgo⟩
section
structure Four (w:World) (g o k:Nat):Prop where
 cell:∀ i,i<4->w.cell? ⟨g,o+i,none⟩=some (.int .u64 (W4 k i))
theorem Four.of {w:World}{g o k:Nat}(h0:w.cell? ⟨g,o+0,none⟩=some (.int .u64 (W4 k 0)))(h1:w.cell? ⟨g,o+1,none⟩=some (.int .u64 (W4 k 1)))(h2:w.cell? ⟨g,o+2,none⟩=some (.int .u64 (W4 k 2)))(h3:w.cell? ⟨g,o+3,none⟩=some (.int .u64 (W4 k 3))):Four w g o k :=
 ⟨fun i hi=>by
  have:i=0∨i=1∨i=2∨i=3:=by omega
  rcases this with rfl|rfl|rfl|rfl<;>assumption⟩
theorem Four.next {w w':World}{g o k:Nat}(h:Four w g o k)(hg:g<w.heap.size)(hb:Below w.heap.size w w'):Four w' g o k :=
 ⟨fun i hi=>by rw [hb.cell (p:=⟨g,o+i,none⟩) hg];exact h.cell i hi⟩
structure Dc (w:World) (g:Nat) (c:Int) (s b:Bool) (x:Int) (k:Nat):Prop where
 c0:w.cell? ⟨g,0,none⟩=some (.int .i64 c)
 c1:w.cell? ⟨g,1,none⟩=some (.bool s)
 c2:w.cell? ⟨g,2,none⟩=some (.bool b)
 c3:w.cell? ⟨g,3,none⟩=some (.int .i64 x)
 c4:w.cell? ⟨g,4,none⟩=some (.int .u64 (W4 k 0))
 c5:w.cell? ⟨g,5,none⟩=some (.int .u64 (W4 k 1))
 c6:w.cell? ⟨g,6,none⟩=some (.int .u64 (W4 k 2))
 c7:w.cell? ⟨g,7,none⟩=some (.int .u64 (W4 k 3))
theorem Dc.next {w w':World}{g:Nat}{c:Int}{s b:Bool}{x:Int}{k:Nat}(h:Dc w g c s b x k)(hg:g<w.heap.size)(hb:Below w.heap.size w w'):Dc w' g c s b x k :=
  ⟨by rw [hb.cell (p:=⟨g,0,none⟩) hg,h.c0],by rw [hb.cell (p:=⟨g,1,none⟩) hg,h.c1],by rw [hb.cell (p:=⟨g,2,none⟩) hg,h.c2],by rw [hb.cell (p:=⟨g,3,none⟩) hg,h.c3],
   by rw [hb.cell (p:=⟨g,4,none⟩) hg,h.c4],by rw [hb.cell (p:=⟨g,5,none⟩) hg,h.c5],by rw [hb.cell (p:=⟨g,6,none⟩) hg,h.c6],by rw [hb.cell (p:=⟨g,7,none⟩) hg,h.c7]⟩
def mo (A B i:Nat):Bool:=decide (val (W4 B) i<val (W4 A) i)
attribute [local irreducible] W4 mo
end
end Go.Proofs.YtahfkpjhlbiamaaGreatDoor

set_option maxRecDepth 100000
namespace Go.Proofs.YtahfkpjhlbiamaaGreatDoor
open Go.ChangeShapes Go.WideShapes Go.ChangeAt Go.RowKit
section
variable {H:Type}{enc:TypeId×Value->H}{W:World}{r:Reach}{base b:Nat}{sp:Nat->Bool}{held:Bool}{t:TypeId}{n:Nat}{v:Value}{d:DataW H}{p:List MemPlace}
theorem zYv (hok:Value.okWide Tryz.prog W r base 24 v)(h:DataW.Trod enc Tryz.prog W b sp held 24 v d p):∃ A,A<2^256/\v=A4 A/\p=[]:=by
 obtain ⟨x,hx,rfl,hp⟩:=zCt Tryz.underlying24 (by kernel_rfl) hok h
 obtain ⟨A,hA,he,_⟩:=zHz hx
 exact ⟨A,hA,he,hp⟩
theorem zOy {W':World}{sp':Nat->Bool}(h:DataW.Trod enc Tryz.prog W 0 (fun _=>true) true 24 v d []):DataW.Trod enc Tryz.prog W' 0 sp' true 24 v d [] :=
 WideElems.Trod_stays Tryz.laidOut (by kernel_rfl) (of_decide_eq_true (by kernel_rfl)) h (by simp) (by simp)
end
end Go.Proofs.YtahfkpjhlbiamaaGreatDoor
