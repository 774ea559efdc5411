/-
  Texts that the proof leans on.
-/
import Derived.Test.YtpabnhlfbjkmaaaGreatDoorR21
import Derived.Test.YtpabnhlfbjkmaaaGreatDoorR16
import Derived.Deep.Cut
import Derived.Deep.CutRange
import Derived.Test.YtpabnhlfbjkmaaaGreatDoorR20
import Derived.Laws.IdiomCopy
import Derived.Deep.RegionWith
import Derived.Test.YtpabnhlfbjkmaaaGreatDoorR1
import Derived.Test.YtpabnhlfbjkmaaaGreatDoorR17
import Derived.Test.YtpabnhlfbjkmaaaGreatDoorR8
import Derived.Test.YtpabnhlfbjkmaaaGreatDoorR9
set_option linter.unusedVariables false
set_option linter.unusedSectionVars false
set_option linter.unusedSimpArgs false
set_option maxHeartbeats 8000000
set_option maxRecDepth 20000
namespace Go.Proofs.YtpabnhlfbjkmaaaGreatDoor
open Go.RowKit
def ld (N D:Nat):Int:=let p:=(bl N:Int)-bl D;if N*2^(-p).toNat<D*2^p.toNat then p-1 else p
end Go.Proofs.YtpabnhlfbjkmaaaGreatDoor

namespace Go.Proofs.YtpabnhlfbjkmaaaGreatDoor
def mean (f e:Nat)(l:Int)(S E F:Nat):Dat :=
 if E=2^e-1 then spc f (decide (S=1)) F else if E=0 then ⟨1,decide (S=1),false,l,F⟩ else ⟨1,decide (S=1),false,l+((E:Int)-1),F+2^f⟩
end Go.Proofs.YtpabnhlfbjkmaaaGreatDoor

namespace Go.Proofs.YtpabnhlfbjkmaaaGreatDoor
open Go.RowKit
section
theorem yId (W:World)(d a:Option Addr)(cap:Nat):Sem.run Tryz.prog (Builtin.copy_ #[48,48] 3 #[.slice d 4 4,.slice a 0 cap]) W=.ok (.int .i64 0) W :=
 run_copy_none (P:=Tryz.prog) W 48 48 3 22 d a 4 4 0 cap Tryz.underlying48 (by kernel_rfl) rfl
theorem copy1 (W:World)(g b off cap:Nat)(v0:Int)(h0:W.cell? ⟨b,off,none⟩=some (.int .u64 v0))(c0:(W.cell? ⟨g,4,none⟩).isSome=true)(f0:W.frozen? ⟨g,4,none⟩=false) :
  Sem.run Tryz.prog (Builtin.copy_ #[48,48] 3 #[.slice (some ⟨g,4,none⟩) 4 4,.slice (some ⟨b,off,none⟩) 1 cap]) W=.ok (.int .i64 1) (W.setCell ⟨g,4,none⟩ (.int .u64 v0)):=by
 have:=run_copy_cells (P:=Tryz.prog) W 48 48 3 22 g 4 4 4 ⟨b,off,none⟩ 1 cap [.int .u64 v0] Tryz.underlying48 (by kernel_rfl) rfl ?_ ?_ ?_ ?_
 ·exact this
 ·intro j v
  match j,v with
  | 0,_=>intro h;cases h;simpa [Addr.add] using h0
  | (j+1),_=>intro h;simp at h
 ·intro j hj
  match j,hj with
  | 0,_=>simpa using c0
  | (j+1),h=>exact absurd h (by simp only [List.length_cons,List.length_nil];omega)
 ·intro j hj
  match j,hj with
  | 0,_=>simpa using f0
  | (j+1),h=>exact absurd h (by simp only [List.length_cons,List.length_nil];omega)
 ·intro v hv
  simp at hv
  first|(subst hv;rfl)|(rcases hv with rfl|rfl<;>rfl)|(rcases hv with rfl|rfl|rfl<;>rfl)|(rcases hv with rfl|rfl|rfl|rfl<;>rfl)
theorem copy2 (W:World)(g b off cap:Nat)(v0 v1:Int)(h0:W.cell? ⟨b,off,none⟩=some (.int .u64 v0))(h1:W.cell? ⟨b,off+1,none⟩=some (.int .u64 v1))(c0:(W.cell? ⟨g,4,none⟩).isSome=true)(f0:W.frozen? ⟨g,4,none⟩=false)(c1:(W.cell? ⟨g,5,none⟩).isSome=true)(f1:W.frozen? ⟨g,5,none⟩=false) :
  Sem.run Tryz.prog (Builtin.copy_ #[48,48] 3 #[.slice (some ⟨g,4,none⟩) 4 4,.slice (some ⟨b,off,none⟩) 2 cap]) W=.ok (.int .i64 2) ((W.setCell ⟨g,4,none⟩ (.int .u64 v0)).setCell ⟨g,5,none⟩ (.int .u64 v1)):=by
 have:=run_copy_cells (P:=Tryz.prog) W 48 48 3 22 g 4 4 4 ⟨b,off,none⟩ 2 cap [.int .u64 v0,.int .u64 v1] Tryz.underlying48 (by kernel_rfl) rfl ?_ ?_ ?_ ?_
 ·exact this
 ·intro j v
  match j,v with
  | 0,_=>intro h;cases h;simpa [Addr.add] using h0
  | 1,_=>intro h;cases h;simpa [Addr.add] using h1
  | (j+2),_=>intro h;simp at h
 ·intro j hj
  match j,hj with
  | 0,_=>simpa using c0
  | 1,_=>simpa using c1
  | (j+2),h=>exact absurd h (by simp only [List.length_cons,List.length_nil];omega)
 ·intro j hj
  match j,hj with
  | 0,_=>simpa using f0
  | 1,_=>simpa using f1
  | (j+2),h=>exact absurd h (by simp only [List.length_cons,List.length_nil];omega)
 ·intro v hv
  simp at hv
  first|(subst hv;rfl)|(rcases hv with rfl|rfl<;>rfl)|(rcases hv with rfl|rfl|rfl<;>rfl)|(rcases hv with rfl|rfl|rfl|rfl<;>rfl)
theorem copy3 (W:World)(g b off cap:Nat)(v0 v1 v2:Int)(h0:W.cell? ⟨b,off,none⟩=some (.int .u64 v0))(h1:W.cell? ⟨b,off+1,none⟩=some (.int .u64 v1))(h2:W.cell? ⟨b,off+2,none⟩=some (.int .u64 v2))(c0:(W.cell? ⟨g,4,none⟩).isSome=true)(f0:W.frozen? ⟨g,4,none⟩=false)(c1:(W.cell? ⟨g,5,none⟩).isSome=true)(f1:W.frozen? ⟨g,5,none⟩=false)(c2:(W.cell? ⟨g,6,none⟩).isSome=true)(f2:W.frozen? ⟨g,6,none⟩=false) :
  Sem.run Tryz.prog (Builtin.copy_ #[48,48] 3 #[.slice (some ⟨g,4,none⟩) 4 4,.slice (some ⟨b,off,none⟩) 3 cap]) W=.ok (.int .i64 3) (((W.setCell ⟨g,4,none⟩ (.int .u64 v0)).setCell ⟨g,5,none⟩ (.int .u64 v1)).setCell ⟨g,6,none⟩ (.int .u64 v2)):=by
 have:=run_copy_cells (P:=Tryz.prog) W 48 48 3 22 g 4 4 4 ⟨b,off,none⟩ 3 cap [.int .u64 v0,.int .u64 v1,.int .u64 v2] Tryz.underlying48 (by kernel_rfl) rfl ?_ ?_ ?_ ?_
 ·exact this
 ·intro j v
  match j,v with
  | 0,_=>intro h;cases h;simpa [Addr.add] using h0
  | 1,_=>intro h;cases h;simpa [Addr.add] using h1
  | 2,_=>intro h;cases h;simpa [Addr.add] using h2
  | (j+3),_=>intro h;simp at h
 ·intro j hj
  match j,hj with
  | 0,_=>simpa using c0
  | 1,_=>simpa using c1
  | 2,_=>simpa using c2
  | (j+3),h=>exact absurd h (by simp only [List.length_cons,List.length_nil];omega)
 ·intro j hj
  match j,hj with
  | 0,_=>simpa using f0
  | 1,_=>simpa using f1
  | 2,_=>simpa using f2
  | (j+3),h=>exact absurd h (by simp only [List.length_cons,List.length_nil];omega)
 ·intro v hv
  simp at hv
  first|(subst hv;rfl)|(rcases hv with rfl|rfl<;>rfl)|(rcases hv with rfl|rfl|rfl<;>rfl)|(rcases hv with rfl|rfl|rfl|rfl<;>rfl)
theorem copy4 (W:World)(g b off cap:Nat)(v0 v1 v2 v3:Int)(h0:W.cell? ⟨b,off,none⟩=some (.int .u64 v0))(h1:W.cell? ⟨b,off+1,none⟩=some (.int .u64 v1))(h2:W.cell? ⟨b,off+2,none⟩=some (.int .u64 v2))(h3:W.cell? ⟨b,off+3,none⟩=some (.int .u64 v3))(c0:(W.cell? ⟨g,4,none⟩).isSome=true)(f0:W.frozen? ⟨g,4,none⟩=false)(c1:(W.cell? ⟨g,5,none⟩).isSome=true)(f1:W.frozen? ⟨g,5,none⟩=false)(c2:(W.cell? ⟨g,6,none⟩).isSome=true)(f2:W.frozen? ⟨g,6,none⟩=false)(c3:(W.cell? ⟨g,7,none⟩).isSome=true)(f3:W.frozen? ⟨g,7,none⟩=false) :
  Sem.run Tryz.prog (Builtin.copy_ #[48,48] 3 #[.slice (some ⟨g,4,none⟩) 4 4,.slice (some ⟨b,off,none⟩) 4 cap]) W=.ok (.int .i64 4) ((((W.setCell ⟨g,4,none⟩ (.int .u64 v0)).setCell ⟨g,5,none⟩ (.int .u64 v1)).setCell ⟨g,6,none⟩ (.int .u64 v2)).setCell ⟨g,7,none⟩ (.int .u64 v3)):=by
 have:=run_copy_cells (P:=Tryz.prog) W 48 48 3 22 g 4 4 4 ⟨b,off,none⟩ 4 cap [.int .u64 v0,.int .u64 v1,.int .u64 v2,.int .u64 v3] Tryz.underlying48 (by kernel_rfl) rfl ?_ ?_ ?_ ?_
 ·exact this
 ·intro j v
  match j,v with
  | 0,_=>intro h;cases h;simpa [Addr.add] using h0
  | 1,_=>intro h;cases h;simpa [Addr.add] using h1
  | 2,_=>intro h;cases h;simpa [Addr.add] using h2
  | 3,_=>intro h;cases h;simpa [Addr.add] using h3
  | (j+4),_=>intro h;simp at h
 ·intro j hj
  match j,hj with
  | 0,_=>simpa using c0
  | 1,_=>simpa using c1
  | 2,_=>simpa using c2
  | 3,_=>simpa using c3
  | (j+4),h=>exact absurd h (by simp only [List.length_cons,List.length_nil];omega)
 ·intro j hj
  match j,hj with
  | 0,_=>simpa using f0
  | 1,_=>simpa using f1
  | 2,_=>simpa using f2
  | 3,_=>simpa using f3
  | (j+4),h=>exact absurd h (by simp only [List.length_cons,List.length_nil];omega)
 ·intro v hv
  simp at hv
  first|(subst hv;rfl)|(rcases hv with rfl|rfl<;>rfl)|(rcases hv with rfl|rfl|rfl<;>rfl)|(rcases hv with rfl|rfl|rfl|rfl<;>rfl)
attribute [local irreducible] W4
end
section
attribute [local irreducible] W4
abbrev IZ:Value:=.agg #[.int .i64 0,.string ⟨#[]⟩,.int .i64 0,.int .i64 0,.int .i64 0,.int .i64 0,.int .i64 0,.int .i64 0,.int .i64 0,.bool false]
end
section
structure Ib (w:World) (g:Nat) (n:Int) (nm:ByteArray) (wd:Int) (f e:Nat) (l m:Int):Prop where
 c0:w.cell? ⟨g,0,none⟩=some (.int .i64 n)
 c1:w.cell? ⟨g,1,none⟩=some (.string nm)
 c2:w.cell? ⟨g,2,none⟩=some (.int .i64 2)
 c3:w.cell? ⟨g,3,none⟩=some (.int .i64 wd)
 c4:w.cell? ⟨g,4,none⟩=some (.int .i64 ((f:Int)+1))
 c5:w.cell? ⟨g,5,none⟩=some (.int .i64 e)
 c6:w.cell? ⟨g,6,none⟩=some (.int .i64 l)
 c7:w.cell? ⟨g,7,none⟩=some (.int .i64 m)
 c8:w.cell? ⟨g,8,none⟩=some (.int .i64 ((f:Int)-1))
 c9:w.cell? ⟨g,9,none⟩=some (.bool false)
theorem Ib.next {w w':World}{g:Nat}{n:Int}{nm:ByteArray}{wd:Int}{f e:Nat}{l m:Int}(h:Ib w g n nm wd f e l m)(hg:g<w.heap.size)(hb:Below w.heap.size w w'):Ib w' g n nm wd f e l m :=
 ⟨by rw [hb.cell (p:=⟨g,0,none⟩) hg,h.c0],by rw [hb.cell (p:=⟨g,1,none⟩) hg,h.c1],by rw [hb.cell (p:=⟨g,2,none⟩) hg,h.c2],by rw [hb.cell (p:=⟨g,3,none⟩) hg,h.c3],by rw [hb.cell (p:=⟨g,4,none⟩) hg,h.c4],by rw [hb.cell (p:=⟨g,5,none⟩) hg,h.c5],by rw [hb.cell (p:=⟨g,6,none⟩) hg,h.c6],by rw [hb.cell (p:=⟨g,7,none⟩) hg,h.c7],by rw [hb.cell (p:=⟨g,8,none⟩) hg,h.c8],by rw [hb.cell (p:=⟨g,9,none⟩) hg,h.c9]⟩
attribute [local irreducible] W4 Nz Nt
end
end Go.Proofs.YtpabnhlfbjkmaaaGreatDoor

namespace Go.Proofs.YtpabnhlfbjkmaaaGreatDoor
theorem yLd {V:Nat}(h:V≠0):2^(bl V-1)<=V/\V<2^bl V/\1<=bl V:=by
 have h0:bl V≠0:=fun e=>h (bl_zero.1 e)
 exact ⟨bl_ge.1 (by omega),bl_le.1 (Nat.le_refl _),by omega⟩
end Go.Proofs.YtpabnhlfbjkmaaaGreatDoor

namespace Go.Proofs.YtpabnhlfbjkmaaaGreatDoor
open Go.RowKit
theorem ySd:A4 0=Z4:=by
 unfold A4
 simp only [zPa]
theorem NT.more {K K' V:Nat}{v:Value}{w:World}(h:NT K V v w)(hk:K<=K'):NT K' V v w:=by
 obtain ⟨g,k,cap,z,h1,h2,h3,h4,h5⟩:=h
 exact ⟨g,k,cap,z,h1,by omega,h3,h4,h5⟩
theorem zZc {K K' A B:Nat}{v v':Value}{w:World}(hK:K<1000000)(hK':K'<1000000)(h:NV K A v w)(h':NV K' B v' w) :
  CE 24 #[v,v'] w (NT (K+K'+1) (A*B)):=by
 obtain ⟨g,k,c,z,rfl,hk,hN,hz⟩:=h
 obtain ⟨g2,k2,c2,z2,rfl,hk2,hN2,hz2⟩:=h'
 refine (zL2 g 0 k c g2 0 k2 c2 z z2 w (by omega) (by omega) hN hN2).mono fun e w' ⟨g3,k3,cap3,z3,e1,hk3,hN3,hv3,hB,ht⟩=>⟨_,e1,⟨g3,k3,cap3,z3,rfl,by omega,hN3,?_,ht⟩,hB⟩
 rw [← zMa hN3.2.2.2.1 _ hk3,hv3,hz,hz2];simp
theorem zF3 {K A:Nat}{v:Value}{w:World}(s:Nat)(hK:K<1000000)(hs:s<=6300000)(h:NV K A v w) :
  CE 95 #[v,.int .i64 s] w (NT (K+s/64+1) (A*2^s)):=by
 obtain ⟨g,k,c,z,rfl,hk,hN,hz⟩:=h
 refine (zNh g 0 k c s z w (by omega) (by omega) (by omega) hN).mono fun e w' ⟨g3,k3,cap3,z3,e1,hk3,hN3,hv3,hB,hf,ht⟩=>⟨_,e1,⟨g3,k3,cap3,z3,rfl,by rw [Int.toNat_natCast] at hk3;omega,hN3,?_,ht⟩,hB⟩
 rw [hv3,hz,Int.toNat_natCast];simp
theorem zWj {K K' A B:Nat}{v v':Value}{w:World}(hK:K<1000000)(hK':K'<1000000)(h:NV K A v w)(h':NV K' B v' w) :
  CQ 42 #[v,v'] w (.int .i64 (sgn (A:Int) B)):=by
 obtain ⟨g,k,c,z,rfl,hk,hN,hz⟩:=h
 obtain ⟨g2,k2,c2,z2,rfl,hk2,hN2,hz2⟩:=h'
 have:=zGj _ _ k c k2 c2 z z2 w (by omega) (by omega) hN hN2
 rw [hz,hz2] at this
 exact this
theorem zOw {K V:Nat}{v:Value}{w:World}(hK:K<1000000)(h:NV K V v w) :
  CQ 91 #[v] w (.int .i64 (bl V:Int)):=by
 obtain ⟨g,k,c,z,rfl,hk,hN,hz⟩:=h
 have:=zTe _ k c z w (by omega) hN
 rw [zNy hN.2.2.1 hz] at this
 exact this
section
structure Four (w:World) (g o k:Nat):Prop where
 cell:∀ i,i<4->w.cell? ⟨g,o+i,none⟩=some (.int .u64 (W4 k i))
theorem Four.of {w:World}{g o k:Nat}(h0:w.cell? ⟨g,o+0,none⟩=some (.int .u64 (W4 k 0)))(h1:w.cell? ⟨g,o+1,none⟩=some (.int .u64 (W4 k 1)))(h2:w.cell? ⟨g,o+2,none⟩=some (.int .u64 (W4 k 2)))(h3:w.cell? ⟨g,o+3,none⟩=some (.int .u64 (W4 k 3))):Four w g o k :=
 ⟨fun i hi=>by
  have:i=0∨i=1∨i=2∨i=3:=by omega
  rcases this with rfl|rfl|rfl|rfl<;>assumption⟩
theorem Four.next {w w':World}{g o k:Nat}(h:Four w g o k)(hg:g<w.heap.size)(hb:Below w.heap.size w w'):Four w' g o k :=
 ⟨fun i hi=>by rw [hb.cell (p:=⟨g,o+i,none⟩) hg];exact h.cell i hi⟩
structure Dc (w:World) (g:Nat) (c:Int) (s b:Bool) (x:Int) (k:Nat):Prop where
 c0:w.cell? ⟨g,0,none⟩=some (.int .i64 c)
 c1:w.cell? ⟨g,1,none⟩=some (.bool s)
 c2:w.cell? ⟨g,2,none⟩=some (.bool b)
 c3:w.cell? ⟨g,3,none⟩=some (.int .i64 x)
 c4:w.cell? ⟨g,4,none⟩=some (.int .u64 (W4 k 0))
 c5:w.cell? ⟨g,5,none⟩=some (.int .u64 (W4 k 1))
 c6:w.cell? ⟨g,6,none⟩=some (.int .u64 (W4 k 2))
 c7:w.cell? ⟨g,7,none⟩=some (.int .u64 (W4 k 3))
theorem Dc.next {w w':World}{g:Nat}{c:Int}{s b:Bool}{x:Int}{k:Nat}(h:Dc w g c s b x k)(hg:g<w.heap.size)(hb:Below w.heap.size w w'):Dc w' g c s b x k :=
  ⟨by rw [hb.cell (p:=⟨g,0,none⟩) hg,h.c0],by rw [hb.cell (p:=⟨g,1,none⟩) hg,h.c1],by rw [hb.cell (p:=⟨g,2,none⟩) hg,h.c2],by rw [hb.cell (p:=⟨g,3,none⟩) hg,h.c3],
   by rw [hb.cell (p:=⟨g,4,none⟩) hg,h.c4],by rw [hb.cell (p:=⟨g,5,none⟩) hg,h.c5],by rw [hb.cell (p:=⟨g,6,none⟩) hg,h.c6],by rw [hb.cell (p:=⟨g,7,none⟩) hg,h.c7]⟩
def mo (A B i:Nat):Bool:=decide (val (W4 B) i<val (W4 A) i)
attribute [local irreducible] W4 mo
end
theorem zGb (x g:Int)(hx:0<=x)(hg:x/8=g)(w:World):CQ 229 #[.int .i64 x] w (.int .i64 g):=by
 go_enter Tryz.func229,Tryz.ntmps229
 go_wp2
 go_ret
 exact ⟨rfl,rfl⟩
theorem zTm (n:Int)(w:World):CQ 171 #[.int .i64 n] w (.bool (decide (0<=n/\n<=11))):=by
 by_cases h0:0<=n
 ·go_enter Tryz.func171,Tryz.ntmps171
  go_wp2
  go_ret
  exact ⟨by simp [h0],rfl⟩
 ·rw [decide_eq_false (fun h=>h0 h.1)]
  go_enter Tryz.func171,Tryz.ntmps171
  go_wp2
  go_ret
  exact ⟨rfl,rfl⟩
theorem zB5 (a b c x y z:Int)(w:World)
  (ga:∀ W,CQ 229 #[.int .i64 a] W (.int .i64 0))
  (gb:∀ W,CQ 229 #[.int .i64 b] W (.int .i64 0))
  (gc:∀ W,CQ 229 #[.int .i64 c] W (.int .i64 0))
  (ha:0<=a) (hb:0<=b) (hc:0<=c) (hx:bits .and .i64 (a/2) 3=x) (hy:bits .and .i64 (b/2) 3=y) (hz:bits .and .i64 (c/2) 3=z) :
  CQ 220 #[.int .i64 a,.int .i64 b,.int .i64 c] w (.tuple #[.int .i64 x,.int .i64 y,.int .i64 z]):=by
 have o1:bits .or .i64 0 0=0:=by decide
 have o2:bits .or .i64 0 0=0:=by decide
 go_enter Tryz.func220,Tryz.ntmps220
 go_wp2_with (go_at_call 229;first
  | (refine (ga _).mono ?_;rintro r w1 ⟨rfl,rfl⟩;clear ga)
  | (refine (gb _).mono ?_;rintro r w1 ⟨rfl,rfl⟩;clear gb)
  | (refine (gc _).mono ?_;rintro r w1 ⟨rfl,rfl⟩;clear gc))
 exact bodyPost_ret (by simp only [results,Tryz.results220];go_simp) rfl ⟨rfl,rfl⟩
theorem zA5 (a b c x y z:Int)(w:World)
  (ga:∀ W,CQ 229 #[.int .i64 a] W (.int .i64 0))
  (gb:∀ W,CQ 229 #[.int .i64 b] W (.int .i64 0))
  (gc:∀ W,CQ 229 #[.int .i64 c] W (.int .i64 1))
  (ha:0<=a) (hb:0<=b) (hc:0<=c) (hx:bits .and .i64 (a/2) 3=x) (hy:bits .and .i64 (b/2) 3=y) (hz:bits .and .i64 (c/2) 3=z) :
  CQ 220 #[.int .i64 a,.int .i64 b,.int .i64 c] w (.tuple #[.int .i64 x,.int .i64 y,.int .i64 4]):=by
 have o1:bits .or .i64 0 0=0:=by decide
 have o2:bits .or .i64 0 1=1:=by decide
 go_enter Tryz.func220,Tryz.ntmps220
 go_wp2_with (go_at_call 229;first
  | (refine (ga _).mono ?_;rintro r w1 ⟨rfl,rfl⟩;clear ga)
  | (refine (gb _).mono ?_;rintro r w1 ⟨rfl,rfl⟩;clear gb)
  | (refine (gc _).mono ?_;rintro r w1 ⟨rfl,rfl⟩;clear gc))
 exact bodyPost_ret (by simp only [results,Tryz.results220];go_simp) rfl ⟨rfl,rfl⟩
theorem zZ4 (a b c x y z:Int)(w:World)
  (ga:∀ W,CQ 229 #[.int .i64 a] W (.int .i64 0))
  (gb:∀ W,CQ 229 #[.int .i64 b] W (.int .i64 1))
  (gc:∀ W,CQ 229 #[.int .i64 c] W (.int .i64 0))
  (ha:0<=a) (hb:0<=b) (hc:0<=c) (hx:bits .and .i64 (a/2) 3=x) (hy:bits .and .i64 (b/2) 3=y) (hz:bits .and .i64 (c/2) 3=z) :
  CQ 220 #[.int .i64 a,.int .i64 b,.int .i64 c] w (.tuple #[.int .i64 x,.int .i64 z,.int .i64 5]):=by
 have o1:bits .or .i64 0 2=2:=by decide
 have o2:bits .or .i64 2 0=2:=by decide
 go_enter Tryz.func220,Tryz.ntmps220
 go_wp2_with (go_at_call 229;first
  | (refine (ga _).mono ?_;rintro r w1 ⟨rfl,rfl⟩;clear ga)
  | (refine (gb _).mono ?_;rintro r w1 ⟨rfl,rfl⟩;clear gb)
  | (refine (gc _).mono ?_;rintro r w1 ⟨rfl,rfl⟩;clear gc))
 exact bodyPost_ret (by simp only [results,Tryz.results220];go_simp) rfl ⟨rfl,rfl⟩
theorem zX4 (a b c x y z:Int)(w:World)
  (ga:∀ W,CQ 229 #[.int .i64 a] W (.int .i64 1))
  (gb:∀ W,CQ 229 #[.int .i64 b] W (.int .i64 0))
  (gc:∀ W,CQ 229 #[.int .i64 c] W (.int .i64 0))
  (ha:0<=a) (hb:0<=b) (hc:0<=c) (hx:bits .and .i64 (a/2) 3=x) (hy:bits .and .i64 (b/2) 3=y) (hz:bits .and .i64 (c/2) 3=z) :
  CQ 220 #[.int .i64 a,.int .i64 b,.int .i64 c] w (.tuple #[.int .i64 z,.int .i64 y,.int .i64 6]):=by
 have o1:bits .or .i64 4 0=4:=by decide
 have o2:bits .or .i64 4 0=4:=by decide
 go_enter Tryz.func220,Tryz.ntmps220
 go_wp2_with (go_at_call 229;first
  | (refine (ga _).mono ?_;rintro r w1 ⟨rfl,rfl⟩;clear ga)
  | (refine (gb _).mono ?_;rintro r w1 ⟨rfl,rfl⟩;clear gb)
  | (refine (gc _).mono ?_;rintro r w1 ⟨rfl,rfl⟩;clear gc))
 exact bodyPost_ret (by simp only [results,Tryz.results220];go_simp) rfl ⟨rfl,rfl⟩
theorem zY4 (a b c x y z:Int)(w:World)
  (ga:∀ W,CQ 229 #[.int .i64 a] W (.int .i64 0))
  (gb:∀ W,CQ 229 #[.int .i64 b] W (.int .i64 1))
  (gc:∀ W,CQ 229 #[.int .i64 c] W (.int .i64 1))
  (ha:0<=a) (hb:0<=b) (hc:0<=c) (hx:bits .and .i64 (a/2) 3=x) (hy:bits .and .i64 (b/2) 3=y) (hz:bits .and .i64 (c/2) 3=z) :
  CQ 220 #[.int .i64 a,.int .i64 b,.int .i64 c] w (.tuple #[.int .i64 x,.int .i64 2,.int .i64 7]):=by
 have o1:bits .or .i64 0 2=2:=by decide
 have o2:bits .or .i64 2 1=3:=by decide
 go_enter Tryz.func220,Tryz.ntmps220
 go_wp2_with (go_at_call 229;first
  | (refine (ga _).mono ?_;rintro r w1 ⟨rfl,rfl⟩;clear ga)
  | (refine (gb _).mono ?_;rintro r w1 ⟨rfl,rfl⟩;clear gb)
  | (refine (gc _).mono ?_;rintro r w1 ⟨rfl,rfl⟩;clear gc))
 exact bodyPost_ret (by simp only [results,Tryz.results220];go_simp) rfl ⟨rfl,rfl⟩
theorem zW4 (a b c x y z:Int)(w:World)
  (ga:∀ W,CQ 229 #[.int .i64 a] W (.int .i64 1))
  (gb:∀ W,CQ 229 #[.int .i64 b] W (.int .i64 0))
  (gc:∀ W,CQ 229 #[.int .i64 c] W (.int .i64 1))
  (ha:0<=a) (hb:0<=b) (hc:0<=c) (hx:bits .and .i64 (a/2) 3=x) (hy:bits .and .i64 (b/2) 3=y) (hz:bits .and .i64 (c/2) 3=z) :
  CQ 220 #[.int .i64 a,.int .i64 b,.int .i64 c] w (.tuple #[.int .i64 y,.int .i64 1,.int .i64 7]):=by
 have o1:bits .or .i64 4 0=4:=by decide
 have o2:bits .or .i64 4 1=5:=by decide
 go_enter Tryz.func220,Tryz.ntmps220
 go_wp2_with (go_at_call 229;first
  | (refine (ga _).mono ?_;rintro r w1 ⟨rfl,rfl⟩;clear ga)
  | (refine (gb _).mono ?_;rintro r w1 ⟨rfl,rfl⟩;clear gb)
  | (refine (gc _).mono ?_;rintro r w1 ⟨rfl,rfl⟩;clear gc))
 exact bodyPost_ret (by simp only [results,Tryz.results220];go_simp) rfl ⟨rfl,rfl⟩
theorem zV4 (a b c x y z:Int)(w:World)
  (ga:∀ W,CQ 229 #[.int .i64 a] W (.int .i64 1))
  (gb:∀ W,CQ 229 #[.int .i64 b] W (.int .i64 1))
  (gc:∀ W,CQ 229 #[.int .i64 c] W (.int .i64 0))
  (ha:0<=a) (hb:0<=b) (hc:0<=c) (hx:bits .and .i64 (a/2) 3=x) (hy:bits .and .i64 (b/2) 3=y) (hz:bits .and .i64 (c/2) 3=z) :
  CQ 220 #[.int .i64 a,.int .i64 b,.int .i64 c] w (.tuple #[.int .i64 z,.int .i64 0,.int .i64 7]):=by
 have o1:bits .or .i64 4 2=6:=by decide
 have o2:bits .or .i64 6 0=6:=by decide
 go_enter Tryz.func220,Tryz.ntmps220
 go_wp2_with (go_at_call 229;first
  | (refine (ga _).mono ?_;rintro r w1 ⟨rfl,rfl⟩;clear ga)
  | (refine (gb _).mono ?_;rintro r w1 ⟨rfl,rfl⟩;clear gb)
  | (refine (gc _).mono ?_;rintro r w1 ⟨rfl,rfl⟩;clear gc))
 exact bodyPost_ret (by simp only [results,Tryz.results220];go_simp) rfl ⟨rfl,rfl⟩
theorem zU4 (a b c x y z:Int)(w:World)
  (ga:∀ W,CQ 229 #[.int .i64 a] W (.int .i64 1))
  (gb:∀ W,CQ 229 #[.int .i64 b] W (.int .i64 1))
  (gc:∀ W,CQ 229 #[.int .i64 c] W (.int .i64 1))
  (ha:0<=a) (hb:0<=b) (hc:0<=c) (hx:bits .and .i64 (a/2) 3=x) (hy:bits .and .i64 (b/2) 3=y) (hz:bits .and .i64 (c/2) 3=z) :
  CQ 220 #[.int .i64 a,.int .i64 b,.int .i64 c] w (.tuple #[.int .i64 0,.int .i64 3,.int .i64 7]):=by
 have o1:bits .or .i64 4 2=6:=by decide
 have o2:bits .or .i64 6 1=7:=by decide
 go_enter Tryz.func220,Tryz.ntmps220
 go_wp2_with (go_at_call 229;first
  | (refine (ga _).mono ?_;rintro r w1 ⟨rfl,rfl⟩;clear ga)
  | (refine (gb _).mono ?_;rintro r w1 ⟨rfl,rfl⟩;clear gb)
  | (refine (gc _).mono ?_;rintro r w1 ⟨rfl,rfl⟩;clear gc))
 exact bodyPost_ret (by simp only [results,Tryz.results220];go_simp) rfl ⟨rfl,rfl⟩
def mgT (p s:Int):Int×Int×Int:=if s=2 then (p*2,8,8) else if s=1 then (8,p*2,8) else if s=0 then (8,8,p*2) else (8,8,8)
theorem mgr_v (p s:Int)(w:World)(hp:0<=p/\p<4)(hs:0<=s/\s<4) :
  CQ 219 #[.int .i64 p,.int .i64 s] w (.tuple #[.int .i64 (mgT p s).1,.int .i64 (mgT p s).2.1,.int .i64 (mgT p s).2.2]):=by
 obtain rfl|rfl|rfl|rfl:s=0∨s=1∨s=2∨s=3:=by omega
 all_goals (
  go_enter Tryz.func219,Tryz.ntmps219
  go_wp2
  exact bodyPost_ret (by simp only [results,Tryz.results219];go_simp;first|done|exact ⟨rfl,rfl,rfl⟩) rfl ⟨rfl,rfl⟩)
def evT (p s v:Int):Int×Int×Int:=if v=4 then (p*2,s*2,8) else if v=5 then (p*2,8,s*2) else if v=6 then (8,s*2,p*2) else if v=7 then mgT p s else (p*2,s*2,v*2)
theorem ev_7 (p s x y z:Int)(w:World)
  (cm:∀ W,CQ 219 #[.int .i64 p,.int .i64 s] W (.tuple #[.int .i64 x,.int .i64 y,.int .i64 z])) :
  CQ 199 #[.int .i64 p,.int .i64 s,.int .i64 7] w (.tuple #[.int .i64 x,.int .i64 y,.int .i64 z]):=by
 go_enter Tryz.func199,Tryz.ntmps199
 go_wp2_with (go_at_call 219;refine (cm _).mono ?_;rintro r w1 ⟨rfl,rfl⟩)
 exact bodyPost_ret (by simp only [results,Tryz.results199];go_simp;first|done|exact ⟨rfl,rfl,rfl⟩) rfl ⟨rfl,rfl⟩
theorem yAc (p s v:Int)(w:World)(hp:0<=p/\p<4)(hs:0<=s/\s<4)(hv:0<=v/\v<8) :
  CQ 199 #[.int .i64 p,.int .i64 s,.int .i64 v] w (.tuple #[.int .i64 (evT p s v).1,.int .i64 (evT p s v).2.1,.int .i64 (evT p s v).2.2]):=by
 by_cases h7:v=7
 ·subst h7
  exact ev_7 p s _ _ _ w (fun W=>mgr_v p s W hp hs)
 by_cases h4:v=4
 ·subst h4
  go_enter Tryz.func199,Tryz.ntmps199
  go_wp2
  exact bodyPost_ret (by simp only [results,Tryz.results199];go_simp;first|done|exact ⟨rfl,rfl,rfl⟩) rfl ⟨rfl,rfl⟩
 by_cases h5:v=5
 ·subst h5
  go_enter Tryz.func199,Tryz.ntmps199
  go_wp2
  exact bodyPost_ret (by simp only [results,Tryz.results199];go_simp;first|done|exact ⟨rfl,rfl,rfl⟩) rfl ⟨rfl,rfl⟩
 by_cases h6:v=6
 ·subst h6
  go_enter Tryz.func199,Tryz.ntmps199
  go_wp2
  exact bodyPost_ret (by simp only [results,Tryz.results199];go_simp;first|done|exact ⟨rfl,rfl,rfl⟩) rfl ⟨rfl,rfl⟩
 have e:evT p s v=(p*2,s*2,v*2):=by
  unfold evT
  rw [if_neg h4,if_neg h5,if_neg h6,if_neg h7]
 rw [e]
 have b4:(v==4)=false:=by simp [h4]
 have b5:(v==5)=false:=by simp [h5]
 have b6:(v==6)=false:=by simp [h6]
 have b7:(v==7)=false:=by simp [h7]
 go_enter Tryz.func199,Tryz.ntmps199
 go_wp2
 exact bodyPost_ret (by simp only [results,Tryz.results199];go_simp;first|done|exact ⟨rfl,rfl,rfl⟩) rfl ⟨rfl,rfl⟩
end Go.Proofs.YtpabnhlfbjkmaaaGreatDoor
