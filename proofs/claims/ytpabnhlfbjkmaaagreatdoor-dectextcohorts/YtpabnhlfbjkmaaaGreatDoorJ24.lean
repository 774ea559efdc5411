/-
  Texts that the proof leans on, joined: Sd, Mt, Fi, Fv, Rb, Rm, Wm, Ua, Rl, Wa, Vb, Ru, Lr.
-/
import Derived.Test.YtpabnhlfbjkmaaaGreatDoorJ18
import Derived.Test.YtpabnhlfbjkmaaaGreatDoorJ22
import Derived.Test.YtpabnhlfbjkmaaaGreatDoorJ17
import Derived.Deep.Cut
import Derived.Deep.CutRange
import Derived.Test.YtpabnhlfbjkmaaaGreatDoorJ23
import Derived.Laws.IdiomCopy
import Derived.Deep.RegionWith
import Derived.Test.YtpabnhlfbjkmaaaGreatDoorJ21
import Derived.Test.YtpabnhlfbjkmaaaGreatDoorJ1
import Derived.Test.YtpabnhlfbjkmaaaGreatDoorJ7
import Derived.Test.YtpabnhlfbjkmaaaGreatDoorJ6
set_option linter.unusedVariables false
set_option linter.unusedSectionVars false
set_option linter.unusedSimpArgs false
set_option maxHeartbeats 8000000
set_option maxRecDepth 20000
namespace Go.Proofs.YtpabnhlfbjkmaaaGreatDoor
open Go.RowKit
def ld (N D:Nat):Int:=let p:=(bl N:Int)-bl D;if N*2^(-p).toNat<D*2^p.toNat then p-1 else p
end Go.Proofs.YtpabnhlfbjkmaaaGreatDoor

namespace Go.Proofs.YtpabnhlfbjkmaaaGreatDoor
def mean (f e:Nat) (l:Int) (S E F:Nat):Dat :=
 if E=2^e-1 then spc f (decide (S=1)) F else if E=0 then ⟨1,decide (S=1),false,l,F⟩ else ⟨1,decide (S=1),false,l+((E:Int)-1),F+2^f⟩
end Go.Proofs.YtpabnhlfbjkmaaaGreatDoor

namespace Go.Proofs.YtpabnhlfbjkmaaaGreatDoor
open Go.RowKit
section
theorem copy0 (W:World) (d a:Option Addr) (cap:Nat):Sem.run Tryz.prog (Builtin.copy_ #[48,48] 3 #[.slice d 4 4,.slice a 0 cap]) W=.ok (.int .i64 0) W :=
 run_copy_none (P:=Tryz.prog) W 48 48 3 22 d a 4 4 0 cap Tryz.underlying48 (by kernel_rfl) rfl
theorem copy1 (W:World) (g b off cap:Nat) (v0:Int) (h0:W.cell? ⟨b,off,none⟩=some (.int .u64 v0)) (c0:(W.cell? ⟨g,4,none⟩).isSome=true) (f0:W.frozen? ⟨g,4,none⟩=false) :
  Sem.run Tryz.prog (Builtin.copy_ #[48,48] 3 #[.slice (some ⟨g,4,none⟩) 4 4,.slice (some ⟨b,off,none⟩) 1 cap]) W=.ok (.int .i64 1) (W.setCell ⟨g,4,none⟩ (.int .u64 v0)):=by
 have:=run_copy_cells (P:=Tryz.prog) W 48 48 3 22 g 4 4 4 ⟨b,off,none⟩ 1 cap [.int .u64 v0] Tryz.underlying48 (by kernel_rfl) rfl ?_ ?_ ?_ ?_
 ·exact this
 ·intro j v
  match j,v with
  | 0,_=>intro h;cases h;simpa [Addr.add] using h0
  | (j+1),_=>intro h;simp at h
 ·intro j hj
  match j,hj with
  | 0,_=>simpa using c0
  | (j+1),h=>exact absurd h (by simp only [List.length_cons,List.length_nil];omega)
 ·intro j hj
  match j,hj with
  | 0,_=>simpa using f0
  | (j+1),h=>exact absurd h (by simp only [List.length_cons,List.length_nil];omega)
 ·intro v hv
  simp at hv
  first | (subst hv;rfl) | (rcases hv with rfl | rfl <;> rfl) | (rcases hv with rfl | rfl | rfl <;> rfl) | (rcases hv with rfl | rfl | rfl | rfl <;> rfl)
theorem copy2 (W:World) (g b off cap:Nat) (v0 v1:Int) (h0:W.cell? ⟨b,off,none⟩=some (.int .u64 v0)) (h1:W.cell? ⟨b,off+1,none⟩=some (.int .u64 v1)) (c0:(W.cell? ⟨g,4,none⟩).isSome=true) (f0:W.frozen? ⟨g,4,none⟩=false) (c1:(W.cell? ⟨g,5,none⟩).isSome=true) (f1:W.frozen? ⟨g,5,none⟩=false) :
  Sem.run Tryz.prog (Builtin.copy_ #[48,48] 3 #[.slice (some ⟨g,4,none⟩) 4 4,.slice (some ⟨b,off,none⟩) 2 cap]) W=.ok (.int .i64 2) ((W.setCell ⟨g,4,none⟩ (.int .u64 v0)).setCell ⟨g,5,none⟩ (.int .u64 v1)):=by
 have:=run_copy_cells (P:=Tryz.prog) W 48 48 3 22 g 4 4 4 ⟨b,off,none⟩ 2 cap [.int .u64 v0,.int .u64 v1] Tryz.underlying48 (by kernel_rfl) rfl ?_ ?_ ?_ ?_
 ·exact this
 ·intro j v
  match j,v with
  | 0,_=>intro h;cases h;simpa [Addr.add] using h0
  | 1,_=>intro h;cases h;simpa [Addr.add] using h1
  | (j+2),_=>intro h;simp at h
 ·intro j hj
  match j,hj with
  | 0,_=>simpa using c0
  | 1,_=>simpa using c1
  | (j+2),h=>exact absurd h (by simp only [List.length_cons,List.length_nil];omega)
 ·intro j hj
  match j,hj with
  | 0,_=>simpa using f0
  | 1,_=>simpa using f1
  | (j+2),h=>exact absurd h (by simp only [List.length_cons,List.length_nil];omega)
 ·intro v hv
  simp at hv
  first | (subst hv;rfl) | (rcases hv with rfl | rfl <;> rfl) | (rcases hv with rfl | rfl | rfl <;> rfl) | (rcases hv with rfl | rfl | rfl | rfl <;> rfl)
theorem copy3 (W:World) (g b off cap:Nat) (v0 v1 v2:Int) (h0:W.cell? ⟨b,off,none⟩=some (.int .u64 v0)) (h1:W.cell? ⟨b,off+1,none⟩=some (.int .u64 v1)) (h2:W.cell? ⟨b,off+2,none⟩=some (.int .u64 v2)) (c0:(W.cell? ⟨g,4,none⟩).isSome=true) (f0:W.frozen? ⟨g,4,none⟩=false) (c1:(W.cell? ⟨g,5,none⟩).isSome=true) (f1:W.frozen? ⟨g,5,none⟩=false) (c2:(W.cell? ⟨g,6,none⟩).isSome=true) (f2:W.frozen? ⟨g,6,none⟩=false) :
  Sem.run Tryz.prog (Builtin.copy_ #[48,48] 3 #[.slice (some ⟨g,4,none⟩) 4 4,.slice (some ⟨b,off,none⟩) 3 cap]) W=.ok (.int .i64 3) (((W.setCell ⟨g,4,none⟩ (.int .u64 v0)).setCell ⟨g,5,none⟩ (.int .u64 v1)).setCell ⟨g,6,none⟩ (.int .u64 v2)):=by
 have:=run_copy_cells (P:=Tryz.prog) W 48 48 3 22 g 4 4 4 ⟨b,off,none⟩ 3 cap [.int .u64 v0,.int .u64 v1,.int .u64 v2] Tryz.underlying48 (by kernel_rfl) rfl ?_ ?_ ?_ ?_
 ·exact this
 ·intro j v
  match j,v with
  | 0,_=>intro h;cases h;simpa [Addr.add] using h0
  | 1,_=>intro h;cases h;simpa [Addr.add] using h1
  | 2,_=>intro h;cases h;simpa [Addr.add] using h2
  | (j+3),_=>intro h;simp at h
 ·intro j hj
  match j,hj with
  | 0,_=>simpa using c0
  | 1,_=>simpa using c1
  | 2,_=>simpa using c2
  | (j+3),h=>exact absurd h (by simp only [List.length_cons,List.length_nil];omega)
 ·intro j hj
  match j,hj with
  | 0,_=>simpa using f0
  | 1,_=>simpa using f1
  | 2,_=>simpa using f2
  | (j+3),h=>exact absurd h (by simp only [List.length_cons,List.length_nil];omega)
 ·intro v hv
  simp at hv
  first | (subst hv;rfl) | (rcases hv with rfl | rfl <;> rfl) | (rcases hv with rfl | rfl | rfl <;> rfl) | (rcases hv with rfl | rfl | rfl | rfl <;> rfl)
theorem copy4 (W:World) (g b off cap:Nat) (v0 v1 v2 v3:Int) (h0:W.cell? ⟨b,off,none⟩=some (.int .u64 v0)) (h1:W.cell? ⟨b,off+1,none⟩=some (.int .u64 v1)) (h2:W.cell? ⟨b,off+2,none⟩=some (.int .u64 v2)) (h3:W.cell? ⟨b,off+3,none⟩=some (.int .u64 v3)) (c0:(W.cell? ⟨g,4,none⟩).isSome=true) (f0:W.frozen? ⟨g,4,none⟩=false) (c1:(W.cell? ⟨g,5,none⟩).isSome=true) (f1:W.frozen? ⟨g,5,none⟩=false) (c2:(W.cell? ⟨g,6,none⟩).isSome=true) (f2:W.frozen? ⟨g,6,none⟩=false) (c3:(W.cell? ⟨g,7,none⟩).isSome=true) (f3:W.frozen? ⟨g,7,none⟩=false) :
  Sem.run Tryz.prog (Builtin.copy_ #[48,48] 3 #[.slice (some ⟨g,4,none⟩) 4 4,.slice (some ⟨b,off,none⟩) 4 cap]) W=.ok (.int .i64 4) ((((W.setCell ⟨g,4,none⟩ (.int .u64 v0)).setCell ⟨g,5,none⟩ (.int .u64 v1)).setCell ⟨g,6,none⟩ (.int .u64 v2)).setCell ⟨g,7,none⟩ (.int .u64 v3)):=by
 have:=run_copy_cells (P:=Tryz.prog) W 48 48 3 22 g 4 4 4 ⟨b,off,none⟩ 4 cap [.int .u64 v0,.int .u64 v1,.int .u64 v2,.int .u64 v3] Tryz.underlying48 (by kernel_rfl) rfl ?_ ?_ ?_ ?_
 ·exact this
 ·intro j v
  match j,v with
  | 0,_=>intro h;cases h;simpa [Addr.add] using h0
  | 1,_=>intro h;cases h;simpa [Addr.add] using h1
  | 2,_=>intro h;cases h;simpa [Addr.add] using h2
  | 3,_=>intro h;cases h;simpa [Addr.add] using h3
  | (j+4),_=>intro h;simp at h
 ·intro j hj
  match j,hj with
  | 0,_=>simpa using c0
  | 1,_=>simpa using c1
  | 2,_=>simpa using c2
  | 3,_=>simpa using c3
  | (j+4),h=>exact absurd h (by simp only [List.length_cons,List.length_nil];omega)
 ·intro j hj
  match j,hj with
  | 0,_=>simpa using f0
  | 1,_=>simpa using f1
  | 2,_=>simpa using f2
  | 3,_=>simpa using f3
  | (j+4),h=>exact absurd h (by simp only [List.length_cons,List.length_nil];omega)
 ·intro v hv
  simp at hv
  first | (subst hv;rfl) | (rcases hv with rfl | rfl <;> rfl) | (rcases hv with rfl | rfl | rfl <;> rfl) | (rcases hv with rfl | rfl | rfl | rfl <;> rfl)
attribute [local irreducible] W4
end
section
attribute [local irreducible] W4
abbrev IZ:Value:=.agg #[.int .i64 0,.string ⟨#[]⟩,.int .i64 0,.int .i64 0,.int .i64 0,.int .i64 0,.int .i64 0,.int .i64 0,.int .i64 0,.bool false]
end
section
structure Ib (w:World) (g:Nat) (n:Int) (nm:ByteArray) (wd:Int) (f e:Nat) (l m:Int):Prop where
 c0:w.cell? ⟨g,0,none⟩=some (.int .i64 n)
 c1:w.cell? ⟨g,1,none⟩=some (.string nm)
 c2:w.cell? ⟨g,2,none⟩=some (.int .i64 2)
 c3:w.cell? ⟨g,3,none⟩=some (.int .i64 wd)
 c4:w.cell? ⟨g,4,none⟩=some (.int .i64 ((f:Int)+1))
 c5:w.cell? ⟨g,5,none⟩=some (.int .i64 e)
 c6:w.cell? ⟨g,6,none⟩=some (.int .i64 l)
 c7:w.cell? ⟨g,7,none⟩=some (.int .i64 m)
 c8:w.cell? ⟨g,8,none⟩=some (.int .i64 ((f:Int)-1))
 c9:w.cell? ⟨g,9,none⟩=some (.bool false)
theorem Ib.next {w w':World} {g:Nat} {n:Int} {nm:ByteArray} {wd:Int} {f e:Nat} {l m:Int} (h:Ib w g n nm wd f e l m) (hg:g<w.heap.size) (hb:Below w.heap.size w w'):Ib w' g n nm wd f e l m :=
 ⟨by rw [hb.cell (p:=⟨g,0,none⟩) hg,h.c0],by rw [hb.cell (p:=⟨g,1,none⟩) hg,h.c1],by rw [hb.cell (p:=⟨g,2,none⟩) hg,h.c2],by rw [hb.cell (p:=⟨g,3,none⟩) hg,h.c3],by rw [hb.cell (p:=⟨g,4,none⟩) hg,h.c4],by rw [hb.cell (p:=⟨g,5,none⟩) hg,h.c5],by rw [hb.cell (p:=⟨g,6,none⟩) hg,h.c6],by rw [hb.cell (p:=⟨g,7,none⟩) hg,h.c7],by rw [hb.cell (p:=⟨g,8,none⟩) hg,h.c8],by rw [hb.cell (p:=⟨g,9,none⟩) hg,h.c9]⟩
attribute [local irreducible] W4 Nz Nt
end
end Go.Proofs.YtpabnhlfbjkmaaaGreatDoor

namespace Go.Proofs.YtpabnhlfbjkmaaaGreatDoor
theorem bl_bd {V:Nat} (h:V≠0):2^(bl V-1)<=V/\V<2^bl V/\1<=bl V:=by
 have h0:bl V≠0:=fun e=>h (bl_zero.1 e)
 exact ⟨bl_ge.1 (by omega),bl_le.1 (Nat.le_refl _),by omega⟩
end Go.Proofs.YtpabnhlfbjkmaaaGreatDoor

namespace Go.Proofs.YtpabnhlfbjkmaaaGreatDoor
open Go.RowKit
def clZ (x:Int):Int:=min (max x (-200000)) 200000
def sN (N:Nat) (x:Int):Nat:=N*2^(clZ x).toNat
def whC (d:Int) (s:Bool) (A B:Nat):Nat:=if faB d s (decide (A/B%2=1)) (A%B) B then A/B+1 else A/B
theorem fa_sc (d:Int) (s o:Bool) (R D k:Nat) (hk:0<k):faB d s o (R*k) (D*k)=faB d s o R D:=by
 have e1:R*k=0↔R=0:=by rw [Nat.mul_eq_zero];omega
 have e2:D*k<R*k+R*k↔D<R+R:=by rw [← Nat.add_mul];exact Nat.mul_lt_mul_right hk
 have e3:R*k+R*k=D*k↔R+R=D:=by rw [← Nat.add_mul];exact Nat.mul_right_cancel_iff hk
 have e4:D*k<=R*k+R*k↔D<=R+R:=by rw [← Nat.add_mul];exact Nat.mul_le_mul_right_iff hk
 unfold faB
 simp only [e1,e2,e3,e4]
def tnG (N D:Nat) (e:Int):Prop:=D*10^e.toNat<=N*10^(-e).toNat
instance (N D:Nat) (e:Int):Decidable (tnG N D e):=inferInstanceAs (Decidable (_<=_))
theorem ten_pos (n:Nat):0<(10:Nat)^n:=Nat.pow_pos (by decide)
theorem tnG_add (N D p:Nat) (q:Int):tnG N D (q+p)↔D*10^q.toNat*10^p<=N*10^(-q).toNat:=by
 unfold tnG
 by_cases h0:0<=q
 ·rw [show (-(q+(p:Int))).toNat=0 by omega,show (-q).toNat=0 by omega,show (q+(p:Int)).toNat=q.toNat+p by omega,Nat.pow_add,Nat.mul_assoc]
 ·by_cases h1:0<=q+(p:Int)
  ·obtain ⟨a,ha⟩:∃ a:Nat,q=-(a:Int):=⟨(-q).toNat,by omega⟩
   obtain ⟨b,hb⟩:∃ b:Nat,p=a+b:=⟨p-a,by omega⟩
   subst hb
   rw [show (-(q+((a+b:Nat):Int))).toNat=0 by omega,show (-q).toNat=a by omega,show (q+((a+b:Nat):Int)).toNat=b by omega,show q.toNat=0 by omega,Nat.pow_zero,Nat.mul_one,Nat.mul_one,Nat.pow_add,Nat.mul_comm (10^a),← Nat.mul_assoc]
   exact (Nat.mul_le_mul_right_iff (ten_pos a)).symm
  ·obtain ⟨a,ha⟩:∃ a:Nat,q+(p:Int)=-(a:Int):=⟨(-(q+p)).toNat,by omega⟩
   rw [show (-(q+(p:Int))).toNat=a by omega,show (q+(p:Int)).toNat=0 by omega,show q.toNat=0 by omega,show (-q).toNat=a+p by omega,Nat.pow_zero,Nat.mul_one,Nat.pow_add,← Nat.mul_assoc]
   exact (Nat.mul_le_mul_right_iff (ten_pos p)).symm
theorem tnG_le {N D:Nat} {e e':Int} (h:tnG N D e) (he:e'<=e):tnG N D e':=by
 obtain ⟨p,rfl⟩:∃ p:Nat,e=e'+p:=⟨(e-e').toNat,by omega⟩
 have:=(tnG_add N D p e').1 h
 unfold tnG
 exact Nat.le_trans (Nat.le_mul_of_pos_right _ (ten_pos p)) this
def TnE (N D:Nat) (E:Int):Prop:=tnG N D E/\¬ tnG N D (E+1)
theorem TnE.only {N D:Nat} {E E':Int} (h:TnE N D E) (h':TnE N D E'):E=E':=by
 rcases Int.lt_trichotomy E E' with q | q | q
 ·exact absurd (tnG_le h'.1 (by omega)) h.2
 ·exact q
 ·exact absurd (tnG_le h.1 (by omega)) h'.2
def dkQ (f:DF) (E:Int):Int:=max f.l (E-3*f.j)
def dkA (N:Nat) (q:Int):Nat:=N*10^(-q).toNat
def dkZ (D:Nat) (q:Int):Nat:=D*10^q.toNat
theorem dkZ_pos {D:Nat} (h:0<D) (q:Int):0<dkZ D q:=Nat.mul_pos h (ten_pos _)
theorem dk_lt {f:DF} {N D:Nat} {E:Int} (h:TnE N D E):dkA N (dkQ f E)<dkZ D (dkQ f E)*10^(3*f.j+1):=by
 have hq:E+1<=dkQ f E+((3*f.j+1:Nat):Int):=by unfold dkQ;omega
 have h1:¬ tnG N D (dkQ f E+((3*f.j+1:Nat):Int)):=fun q=>h.2 (tnG_le q hq)
 rw [tnG_add] at h1
 unfold dkA dkZ
 omega
def dkC0 (f:DF) (d:Int) (s:Bool) (N D:Nat) (E:Int):Nat:=whC d s (dkA N (dkQ f E)) (dkZ D (dkQ f E))
theorem whC_le {d:Int} {s:Bool} {A B:Nat}:A/B<=whC d s A B/\whC d s A B<=A/B+1:=by
 unfold whC
 split <;> omega
theorem dkC0_le {f:DF} {d:Int} {s:Bool} {N D:Nat} {E:Int} (hD:0<D) (h:TnE N D E):dkC0 f d s N D E<=10^(3*f.j+1):=by
 have h1:=dk_lt (f:=f) h
 have h2:=(whC_le (d:=d) (s:=s) (A:=dkA N (dkQ f E)) (B:=dkZ D (dkQ f E))).2
 have h3:dkA N (dkQ f E)/dkZ D (dkQ f E)<10^(3*f.j+1):=by
  rw [Nat.div_lt_iff_lt_mul (dkZ_pos hD _),Nat.mul_comm];exact h1
 unfold dkC0
 omega
def dkX (f:DF) (N D:Nat) (E:Int):Bool:=decide (dkA N (dkQ f E)%dkZ D (dkQ f E)=0)
def dkC (f:DF) (d:Int) (s:Bool) (N D:Nat) (E:Int):Nat:=if 10^(3*f.j+1)<=dkC0 f d s N D E then 10^(3*f.j) else dkC0 f d s N D E
def dkE (f:DF) (d:Int) (s:Bool) (N D:Nat) (E:Int):Int:=if 10^(3*f.j+1)<=dkC0 f d s N D E then dkQ f E+1 else dkQ f E
def DF.m (f:DF):Int:=f.l+3*2^f.w-1
def mbr (m want:Int):Nat->Nat->Int->Nat×Int
 | 0,c,q=>(c,q)
 | k+1,c,q=>if q<want/\q<m/\c%10=0 then mbr m want k (c/10) (q+1) else (c,q)
def dkM (f:DF) (d:Int) (s:Bool) (N D:Nat) (E want:Int):Nat×Int:=mbr f.m want (f.m-dkE f d s N D E).toNat (dkC f d s N D E) (dkE f d s N D E)
def dkD (f:DF) (d:Int) (s:Bool) (N D:Nat) (E want:Int):Dat :=
 if f.m<dkE f d s N D E then (if inB d s then ⟨2,s,false,0,0⟩ else ⟨1,s,false,f.m,10^(3*f.j+1)-1⟩)
 else if dkX f N D E then ⟨1,s,false,(dkM f d s N D E want).2,(dkM f d s N D E want).1⟩ else ⟨1,s,false,dkE f d s N D E,dkC f d s N D E⟩
def dkF (f:DF) (d:Int) (s:Bool) (N D:Nat) (E:Int):Int :=
 if f.m<dkE f d s N D E then 10 else if dkX f N D E then 0 else if E<f.l+3*f.j then 12 else 8
theorem dkC_lt {f:DF} {d:Int} {s:Bool} {N D:Nat} {E:Int} (hD:0<D) (h:TnE N D E):dkC f d s N D E<10^(3*f.j+1):=by
 have h1:=dkC0_le (f:=f) (d:=d) (s:=s) hD h
 have h2:(10:Nat)^(3*f.j)<10^(3*f.j+1):=Nat.pow_lt_pow_right (by decide) (by omega)
 unfold dkC
 split <;> omega
theorem dkE_ge (f:DF) (d:Int) (s:Bool) (N D:Nat) (E:Int):f.l<=dkE f d s N D E:=by
 unfold dkE dkQ
 split <;> omega
theorem mbr_all {m want:Int}:∀ (k c:Nat) (q:Int),q<=m->(mbr m want k c q).1<=c/\q<=(mbr m want k c q).2/\(mbr m want k c q).2<=m/\(mbr m want k c q).1*10^((mbr m want k c q).2-q).toNat=c
 | 0,c,q,hq=>by
  unfold mbr
  refine ⟨Nat.le_refl _,Int.le_refl _,hq,?_⟩
  simp
 | k+1,c,q,hq=>by
  unfold mbr
  split
  ·rename_i h
   obtain ⟨h1,h2,h3,h4⟩:=mbr_all (m:=m) (want:=want) k (c/10) (q+1) (by omega)
   refine ⟨by omega,by omega,h3,?_⟩
   rw [show ((mbr m want k (c/10) (q+1)).2-q).toNat=((mbr m want k (c/10) (q+1)).2-(q+1)).toNat+1 by omega,Nat.pow_succ,← Nat.mul_assoc,h4]
   omega
  ·refine ⟨Nat.le_refl _,Int.le_refl _,hq,?_⟩
   simp
theorem mbr_hits {m:Int}:∀ (p k c:Nat) (q:Int),p<=k->q+p<=m->mbr m (q+p) k (c*10^p) q=(c,q+p)
 | 0,k,c,q,hk,hm=>by
  cases k with
  | zero=>unfold mbr;simp
  | succ k=>unfold mbr;rw [if_neg (by omega)];simp
 | p+1,k,c,q,hk,hm=>by
  obtain ⟨k',rfl⟩:∃ k',k=k'+1:=⟨k-1,by omega⟩
  unfold mbr
  have h10:c*10^(p+1)=10*(c*10^p):=by rw [Nat.pow_succ];simp only [Nat.mul_comm,Nat.mul_left_comm]
  rw [if_pos ⟨by omega,by omega,by rw [h10];omega⟩,h10,Nat.mul_div_cancel_left _ (by decide)]
  have:=mbr_hits (m:=m) p k' c (q+1) (by omega) (by omega)
  rw [show q+1+(p:Int)=q+((p+1:Nat):Int) by omega] at this
  exact this
theorem dkD_is {f:DF} (hf:f.ok) {d:Int} {s:Bool} {N D:Nat} {E want:Int} (hD:0<D) (h:TnE N D E):vI f (dkD f d s N D E want):=by
 have hc:=dkC_lt (f:=f) (d:=d) (s:=s) hD h
 have he:=dkE_ge f d s N D E
 have hp:=ten_pos (3*f.j+1)
 have hw:(0:Int)<2^f.w:=Int.pow_pos (by decide)
 unfold dkD
 split
 ·split
  ·exact Or.inr (Or.inl ⟨rfl,rfl,rfl,rfl⟩)
  ·refine Or.inl ⟨rfl,rfl,?_,?_,?_⟩
   ·show 10^(3*f.j+1)-1<10^(3*f.j+1)
    omega
   ·show f.l<=f.m
    unfold DF.m;omega
   ·show f.m<=f.l+3*2^f.w-1
    exact Int.le_refl _
 ·rename_i hm
  split
  ·obtain ⟨h1,h2,h3,h4⟩:=mbr_all (m:=f.m) (want:=want) (f.m-dkE f d s N D E).toNat (dkC f d s N D E) (dkE f d s N D E) (by omega)
   refine Or.inl ⟨rfl,rfl,?_,?_,?_⟩
   ·show (dkM f d s N D E want).1<10^(3*f.j+1)
    unfold dkM;omega
   ·show f.l<=(dkM f d s N D E want).2
    unfold dkM;omega
   ·show (dkM f d s N D E want).2<=f.l+3*2^f.w-1
    unfold dkM;exact h3
  ·exact Or.inl ⟨rfl,rfl,hc,he,by show dkE f d s N D E<=f.m;omega⟩
theorem lay_any (B A at_ K:Nat) (v:Value) (w:World) (hB:B<2^256) (hK:K<900) (ha:at_<=600) (h:NV K A v w) :
  CB 53 #[A4 B,v,.int .i64 at_] w (A4 (B+A*2^at_)):=by
 have c52:∀ W,Below w.heap.size w W->Calls Tryz.prog 95 #[v,.int .i64 at_] W fun e w'=>∃ v',e=.returned v'/\NV (K+11) (A*2^at_) v' w'/\Below W.heap.size W w':=fun W hW=>rleft_nv at_ (by omega) ha (h.next hW)
 clear h
 go_enter Tryz.func53,Tryz.ntmps53
 go_wp2
 go_region_with (first
  | (go_at_call 95;refine (c52 _ bgo).mono ?_;rintro e w1 ⟨v1,rfl,hl,hb1⟩;have hbx:=box_nv (w0:=w) (B:=B) (t:=24) hB (bnext bgo hb1);obtain ⟨_,_,_,_,hA1,_⟩:=wz w hb1;obtain ⟨_,_⟩:=zf hb1 (w.heap.size+1);clear hb1)
  | (go_at_call 48;refine (radd_nv (by decide) (by omega) hbx hl).mono ?_;rintro e w2 ⟨v2,rfl,hs,hb2⟩;obtain ⟨_,_,_,_,hA2,_⟩:=wz w hb2;obtain ⟨_,_⟩:=zf hb2 (w.heap.size+1);clear hb2)
  | (go_at_call 22;refine (bits_nv hs).mono ?_;rintro e w3 ⟨rfl,hb3⟩;obtain ⟨_,_,_,_,hA3,_⟩:=wz w hb3;obtain ⟨_,_⟩:=zf hb3 (w.heap.size+1);clear hb3))
 have hsm:=cell_set_map
 go_wp2
 exact bodyPost_ret (v:=A4 (B+A*2^at_)) (by simp only [results,Tryz.results53];go_simp) rfl ⟨rfl,bgo⟩
theorem rfits4 (n:Int) (B:Nat) (hB:B<2^256) (w:World) :
  CB 43 #[.int .i64 n,A4 B] w (.bool (decide (okN n/\B<2^(widthN n).toNat))):=by
 refine (rfits_any n (W4 B) (W4_words B) _ (A4_get B) rfl w).mono ?_
 rintro x w' ⟨rfl,hb⟩
 refine ⟨?_,hb⟩
 have hwd:=(fields_bounds n).2.1
 have e:(fitsP n (W4 B))↔(okN n/\B<2^(widthN n).toNat):=by
  unfold fitsP
  rw [lenL_low]
  have:=len4_le (k:=(widthN n).toNat) hB
  rw [show (((widthN n).toNat:Nat):Int)=widthN n by omega] at this
  rw [this]
 rw [decide_eq_decide.2 e]
theorem NT.more {K K' V:Nat} {v:Value} {w:World} (h:NT K V v w) (hk:K<=K'):NT K' V v w:=by
 obtain ⟨g,k,cap,z,h1,h2,h3,h4,h5⟩:=h
 exact ⟨g,k,cap,z,h1,by omega,h3,h4,h5⟩
theorem rtimes_nt {K K' A B:Nat} {v v':Value} {w:World} (hK:K<1000000) (hK':K'<1000000) (h:NV K A v w) (h':NV K' B v' w) :
  CE 24 #[v,v'] w (NT (K+K'+1) (A*B)):=by
 obtain ⟨g,k,c,z,rfl,hk,hN,hz⟩:=h
 obtain ⟨g2,k2,c2,z2,rfl,hk2,hN2,hz2⟩:=h'
 refine (times_tr g 0 k c g2 0 k2 c2 z z2 w (by omega) (by omega) hN hN2).mono fun e w' ⟨g3,k3,cap3,z3,e1,hk3,hN3,hv3,hB,ht⟩=>⟨_,e1,⟨g3,k3,cap3,z3,rfl,by omega,hN3,?_,ht⟩,hB⟩
 rw [← val_more hN3.2.2.2.1 _ hk3,hv3,hz,hz2];simp
theorem rleft_nt {K A:Nat} {v:Value} {w:World} (s:Nat) (hK:K<1000000) (hs:s<=6300000) (h:NV K A v w) :
  CE 95 #[v,.int .i64 s] w (NT (K+s/64+1) (A*2^s)):=by
 obtain ⟨g,k,c,z,rfl,hk,hN,hz⟩:=h
 refine (fleft_val g 0 k c s z w (by omega) (by omega) (by omega) hN).mono fun e w' ⟨g3,k3,cap3,z3,e1,hk3,hN3,hv3,hB,hf,ht⟩=>⟨_,e1,⟨g3,k3,cap3,z3,rfl,by rw [Int.toNat_natCast] at hk3;omega,hN3,?_,ht⟩,hB⟩
 rw [hv3,hz,Int.toNat_natCast];simp
theorem rcmp_nv {K K' A B:Nat} {v v':Value} {w:World} (hK:K<1000000) (hK':K'<1000000) (h:NV K A v w) (h':NV K' B v' w) :
  CQ 42 #[v,v'] w (.int .i64 (sgn (A:Int) B)):=by
 obtain ⟨g,k,c,z,rfl,hk,hN,hz⟩:=h
 obtain ⟨g2,k2,c2,z2,rfl,hk2,hN2,hz2⟩:=h'
 have:=rcmp_any _ _ k c k2 c2 z z2 w (by omega) (by omega) hN hN2
 rw [hz,hz2] at this
 exact this
section
def decN (n:Int):Prop:=7<=n/\n<=12
instance (n:Int):Decidable (decN n):=inferInstanceAs (Decidable (_/\_))
def fD (n:Int):DF:=if n=7∨n=10 then ⟨20,6,2,-101,denseN n⟩ else if n=8∨n=11 then ⟨50,8,5,-398,denseN n⟩ else ⟨110,12,11,-6176,denseN n⟩
theorem dec_cases {n:Int} (h:decN n):n=7∨n=8∨n=9∨n=10∨n=11∨n=12:=by unfold decN at h;omega
theorem fD_ok (n:Int):(fD n).ok:=by
 unfold fD
 split
 ·exact Or.inl ⟨rfl,rfl,rfl,rfl⟩
 ·split
  ·exact Or.inr (Or.inl ⟨rfl,rfl,rfl,rfl⟩)
  ·exact Or.inr (Or.inr ⟨rfl,rfl,rfl,rfl⟩)
theorem dec_fields {n:Int} (h:decN n):okN n/\numN n=n/\baseN n=10/\widthN n=(((fD n).t+((fD n).w+6):Nat):Int)/\precN n=3*((fD n).j:Int)+1/\leastN n=(fD n).l/\mostN n=(fD n).l+3*2^(fD n).w-1/\payN n=3*((fD n).j:Int)/\denseN n=(fD n).dn:=by
 rcases dec_cases h with rfl | rfl | rfl | rfl | rfl | rfl <;> decide
def goodD (n:Int) (B:Nat):Prop:=decN n/\B<2^((fD n).t+((fD n).w+6))
instance (n:Int) (B:Nat):Decidable (goodD n B):=inferInstanceAs (Decidable (_/\_))
theorem rdecimal_any (n:Int) (w:World):CQ 17 #[.int .i64 n] w (.bool (decide (decN n))):=by
 by_cases h1:7<=n
 ·by_cases h2:n<=12
  ·rw [decide_eq_true (show decN n from ⟨h1,h2⟩)]
   go_enter Tryz.func17,Tryz.ntmps17
   go_wp2
   go_ret
   exact ⟨rfl,rfl⟩
  ·rw [decide_eq_false (show ¬ decN n from fun h=>h2 h.2)]
   go_enter Tryz.func17,Tryz.ntmps17
   go_wp2
   go_ret
   exact ⟨rfl,rfl⟩
 ·rw [decide_eq_false (show ¬ decN n from fun h=>h1 h.1)]
  go_enter Tryz.func17,Tryz.ntmps17
  go_wp2
  go_ret
  exact ⟨rfl,rfl⟩
theorem rgood14 (n:Int) (B:Nat) (hB:B<2^256) (w:World) :
  CB 15 #[.int .i64 n,A4 B] w (.bool (decide (goodD n B))):=by
 have c35:=fun w=>rdecimal_any n w
 have c50:=fun w=>rfits4 n B hB w
 by_cases hb:decN n
 ·have hF:=dec_fields hb
  rw [decide_eq_true hb] at c35
  have e:(okN n/\B<2^(widthN n).toNat)↔goodD n B:=by
   rw [hF.2.2.2.1,Int.toNat_natCast]
   exact ⟨fun h=>⟨hb,h.2⟩,fun h=>⟨hF.1,h.2⟩⟩
  rw [decide_eq_decide.2 e] at c50
  generalize decide (goodD n B)=D at *
  clear hF e hb hB
  go_enter Tryz.func15,Tryz.ntmps15
  go_wp2_with (first
   | (go_at_call 17;refine (c35 _).mono ?_;rintro e w1 ⟨rfl,rfl⟩)
   | (go_at_call 43;refine (c50 _).mono ?_;rintro e w2 ⟨rfl,hb2⟩))
  go_ret
  exact ⟨rfl,bnext bgo hb2⟩
 ·rw [decide_eq_false hb] at c35
  rw [decide_eq_false (show ¬ goodD n B from fun h=>hb h.1)]
  clear hb hB c50
  go_enter Tryz.func15,Tryz.ntmps15
  go_wp2_with (go_at_call 17;refine (c35 _).mono ?_;rintro e w1 ⟨rfl,rfl⟩)
  go_ret
  exact ⟨rfl,bgo⟩
attribute [local irreducible] W4 NT NV
theorem rpowt_nv (n:Nat) (w:World) (hn:n<=12000):CE 25 #[.int .u64 10,.int .i64 (n:Int)] w (NV 50000 (10^n)):=by
 refine (rpow_any 10 n w (by decide) (by omega)).mono ?_
 rintro r w' ⟨g,k,cap,z,rfl,hk,hN,hv,hb⟩
 refine ⟨_,rfl,?_,hb⟩
 unfold NV
 exact ⟨g,k,cap,z,rfl,by omega,hN,by rw [hv];simp⟩
theorem rpow4t (p:Nat) (w:World) (hp:p<=12000):CE 96 #[.int .i64 10,.int .i64 p] w (NV 50000 (10^p)):=by
 have c:=fun W=>rpowt_nv p W hp
 go_enter Tryz.func96,Tryz.ntmps96
 go_wp2_with (go_at_call 25;refine (c _).mono ?_;rintro r w1 ⟨v,rfl,hv,hb1⟩)
 go_ret
 exact ⟨v,rfl,hv,hb1⟩
theorem sgnt_lt (A B:Nat):decide (sgn (A:Int) (B:Int)<0)=decide (A<B):=by
 rcases sgn_ways (A:Int) (B:Int) with ⟨a,e⟩ | ⟨a,e⟩ | ⟨a,e⟩
 ·rw [e,decide_eq_true (show A<B by omega)];rfl
 ·rw [e,decide_eq_false (show ¬ A<B by omega)];rfl
 ·rw [e,decide_eq_false (show ¬ A<B by omega)];rfl
theorem rbelowt (k p:Nat) (w:World) (hk:k<2^256) (hp:p<=12000):CB 51 #[A4 k,.int .i64 10,.int .i64 p] w (.bool (decide (k<10^p))):=by
 have c1:=fun W=>rpow4t p W hp
 have hs:=sgnt_lt k (10^p)
 go_enter Tryz.func51,Tryz.ntmps51
 go_wp2
 go_region_with (first
  | (go_at_call 96;refine (c1 _).mono ?_;rintro e w1 ⟨v1,rfl,hl,hb1⟩;have hbx:=box_nv (w0:=w) (B:=k) (t:=24) hk (bnext bgo hb1))
  | (go_at_call 42;refine (rcmp_nv (by decide) (by decide) hbx hl).mono ?_;rintro e w2 ⟨rfl,rfl⟩))
 go_wp2
 go_ret
 exact ⟨congrArg (fun b=>Ending.returned (.bool b)) hs,bnext bgo hb1⟩
abbrev IDec (n:Int) (nm:ByteArray) (wd pr ex le mo pa:Int) (dn:Bool):Value:=.agg #[.int .i64 n,.string nm,.int .i64 10,.int .i64 wd,.int .i64 pr,.int .i64 ex,.int .i64 le,.int .i64 mo,.int .i64 pa,.bool dn]
theorem rof_dec {n:Int} (h:decN n) (w:World):CB 19 #[.int .i64 n] w (.tuple #[IDec n (nameN n) (((fD n).t+((fD n).w+6):Nat):Int) (3*((fD n).j:Int)+1) (expN n) (fD n).l ((fD n).l+3*2^(fD n).w-1) (3*((fD n).j:Int)) (fD n).dn,.int .i64 0]):=by
 obtain ⟨hok,h1,h2,h3,h4,h5,h6,h7,h8⟩:=dec_fields h
 have c25:=rofv_any n w
 rw [show infoE n=0 from if_pos hok,h1,h2,h3,h4,h5,h6,h7,h8] at c25
 exact c25
theorem below_drewD {b:Nat} {w w':World} (h:Below b w w') (m:Nat):Below b w (w'.drewN m):=⟨h.os,h.tape,h.output,h.size,h.block⟩
theorem rshape (n:Int) (nm:ByteArray) (wd pr ex le mo pa:Int) (dn:Bool) (G T J:Int) (w:World) (h0:0<=wd) (h1:wd<=256) (h2:1<=pr) (h3:pr<=100) (hG:wd/16+9=G) (hG0:0<=G) (hG1:G<=100) (hT:wd-1-G=T) (hJ:(pr-1)/3=J) :
  CB 52 #[IDec n nm wd pr ex le mo pa dn] w (.tuple #[.int .i64 G,.int .i64 T,.int .i64 J]):=by
 go_enter Tryz.func52,Tryz.ntmps52
 go_wp2
 go_quiet (fail)
 go_wp2
 exact bodyPost_ret (by simp only [results,Tryz.results52];go_simp) rfl ⟨rfl,below_drewD (below1 w _) _⟩
theorem dec_shape {n:Int} (h:decN n) (nm:ByteArray) (ex le mo pa:Int) (dn:Bool) (w:World) :
  CB 52 #[IDec n nm (((fD n).t+((fD n).w+6):Nat):Int) (3*((fD n).j:Int)+1) ex le mo pa dn] w (.tuple #[.int .i64 (((fD n).w:Int)+5),.int .i64 ((fD n).t:Int),.int .i64 ((fD n).j:Int)]):=by
 rcases fD_ok n with ⟨h1,h2,h3,h4⟩ | ⟨h1,h2,h3,h4⟩ | ⟨h1,h2,h3,h4⟩ <;> rw [h1,h2,h3] <;> exact rshape n nm _ _ ex le mo pa dn _ _ _ w (by decide) (by decide) (by decide) (by decide) rfl (by decide) (by decide) rfl rfl
end
section
theorem NT.stays (K V:Nat):Stays (NT K V):=fun v w w' h hb=>h.next hb
section
variable {a:Act} {w:World} {K:Act->World->Prop} {Q:Exit->Act->World->Prop} {d p q r:Nat} {ty:TypeId} {pos:String} {after:Array Edge} {gd:Option (Nat×Bool)}
end
end
section
structure Four (w:World) (g o k:Nat):Prop where
 cell:∀ i,i<4->w.cell? ⟨g,o+i,none⟩=some (.int .u64 (W4 k i))
theorem Four.of {w:World} {g o k:Nat} (h0:w.cell? ⟨g,o+0,none⟩=some (.int .u64 (W4 k 0))) (h1:w.cell? ⟨g,o+1,none⟩=some (.int .u64 (W4 k 1))) (h2:w.cell? ⟨g,o+2,none⟩=some (.int .u64 (W4 k 2))) (h3:w.cell? ⟨g,o+3,none⟩=some (.int .u64 (W4 k 3))):Four w g o k :=
 ⟨fun i hi=>by
  have:i=0∨i=1∨i=2∨i=3:=by omega
  rcases this with rfl | rfl | rfl | rfl <;> assumption⟩
theorem Four.next {w w':World} {g o k:Nat} (h:Four w g o k) (hg:g<w.heap.size) (hb:Below w.heap.size w w'):Four w' g o k :=
 ⟨fun i hi=>by rw [hb.cell (p:=⟨g,o+i,none⟩) hg];exact h.cell i hi⟩
structure Dc (w:World) (g:Nat) (c:Int) (s b:Bool) (x:Int) (k:Nat):Prop where
 c0:w.cell? ⟨g,0,none⟩=some (.int .i64 c)
 c1:w.cell? ⟨g,1,none⟩=some (.bool s)
 c2:w.cell? ⟨g,2,none⟩=some (.bool b)
 c3:w.cell? ⟨g,3,none⟩=some (.int .i64 x)
 c4:w.cell? ⟨g,4,none⟩=some (.int .u64 (W4 k 0))
 c5:w.cell? ⟨g,5,none⟩=some (.int .u64 (W4 k 1))
 c6:w.cell? ⟨g,6,none⟩=some (.int .u64 (W4 k 2))
 c7:w.cell? ⟨g,7,none⟩=some (.int .u64 (W4 k 3))
theorem Dc.next {w w':World} {g:Nat} {c:Int} {s b:Bool} {x:Int} {k:Nat} (h:Dc w g c s b x k) (hg:g<w.heap.size) (hb:Below w.heap.size w w'):Dc w' g c s b x k :=
  ⟨by rw [hb.cell (p:=⟨g,0,none⟩) hg,h.c0],by rw [hb.cell (p:=⟨g,1,none⟩) hg,h.c1],by rw [hb.cell (p:=⟨g,2,none⟩) hg,h.c2],by rw [hb.cell (p:=⟨g,3,none⟩) hg,h.c3],
   by rw [hb.cell (p:=⟨g,4,none⟩) hg,h.c4],by rw [hb.cell (p:=⟨g,5,none⟩) hg,h.c5],by rw [hb.cell (p:=⟨g,6,none⟩) hg,h.c6],by rw [hb.cell (p:=⟨g,7,none⟩) hg,h.c7]⟩
def mo (A B i:Nat):Bool:=decide (val (W4 B) i<val (W4 A) i)
attribute [local irreducible] W4 mo
end
end Go.Proofs.YtpabnhlfbjkmaaaGreatDoor
