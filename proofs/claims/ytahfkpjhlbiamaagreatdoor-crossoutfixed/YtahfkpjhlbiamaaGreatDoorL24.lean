/-
  Texts that the proof leans on.
-/
import Derived.Test.YtahfkpjhlbiamaaGreatDoorL20
import Derived.Test.YtahfkpjhlbiamaaGreatDoorL21
import Derived.Laws.IdiomCopy
import Derived.Test.YtahfkpjhlbiamaaGreatDoorL1
import Derived.Test.YtahfkpjhlbiamaaGreatDoorL16
import Derived.Test.YtahfkpjhlbiamaaGreatDoorL14
import Derived.Test.YtahfkpjhlbiamaaGreatDoorRows
import Derived.ProofKit
import Derived.OpenShut
import Derived.Carry
import Derived.Deep.DeepHandedRow
import Derived.LaidLaws
import Derived.ChangeMaps5
set_option maxHeartbeats 8000000
set_option linter.unusedVariables false
set_option linter.unusedSectionVars false
set_option linter.unusedSimpArgs false
set_option maxRecDepth 20000
namespace Go.Proofs.YtahfkpjhlbiamaaGreatDoor
open Go.RowKit
section
abbrev DI (n:Int)(nm:ByteArray)(wd:Int)(f e:Nat)(l m:Int):Value:=.agg #[.int .i64 n,.string nm,.int .i64 2,.int .i64 wd,.int .i64 ((f:Int)+1),.int .i64 e,.int .i64 l,.int .i64 m,.int .i64 ((f:Int)-1),.bool false]
theorem copy0 (W:World)(d a:Option Addr)(cap:Nat):Sem.run Tryz.prog (Builtin.copy_ #[61,61] 3 #[.slice d 4 4,.slice a 0 cap]) W=.ok (.int .i64 0) W :=
 run_copy_none (P:=Tryz.prog) W 61 61 3 22 d a 4 4 0 cap Tryz.underlying61 (by kernel_rfl) rfl
theorem copy1 (W:World)(g b off cap:Nat)(v0:Int)(h0:W.cell? ⟨b,off,none⟩=some (.int .u64 v0))(c0:(W.cell? ⟨g,4,none⟩).isSome=true)(f0:W.frozen? ⟨g,4,none⟩=false) :
  Sem.run Tryz.prog (Builtin.copy_ #[61,61] 3 #[.slice (some ⟨g,4,none⟩) 4 4,.slice (some ⟨b,off,none⟩) 1 cap]) W=.ok (.int .i64 1) (W.setCell ⟨g,4,none⟩ (.int .u64 v0)):=by
 have:=run_copy_cells (P:=Tryz.prog) W 61 61 3 22 g 4 4 4 ⟨b,off,none⟩ 1 cap [.int .u64 v0] Tryz.underlying61 (by kernel_rfl) rfl ?_ ?_ ?_ ?_
 ·exact this
 ·intro j v
  match j,v with
  | 0,_=>intro h;cases h;simpa [Addr.add] using h0
  | (j+1),_=>intro h;simp at h
 ·intro j hj
  match j,hj with
  | 0,_=>simpa using c0
  | (j+1),h=>exact absurd h (by simp only [List.length_cons,List.length_nil];omega)
 ·intro j hj
  match j,hj with
  | 0,_=>simpa using f0
  | (j+1),h=>exact absurd h (by simp only [List.length_cons,List.length_nil];omega)
 ·intro v hv
  simp at hv
  first|(subst hv;rfl)|(rcases hv with rfl|rfl<;>rfl)|(rcases hv with rfl|rfl|rfl<;>rfl)|(rcases hv with rfl|rfl|rfl|rfl<;>rfl)
theorem copy2 (W:World)(g b off cap:Nat)(v0 v1:Int)(h0:W.cell? ⟨b,off,none⟩=some (.int .u64 v0))(h1:W.cell? ⟨b,off+1,none⟩=some (.int .u64 v1))(c0:(W.cell? ⟨g,4,none⟩).isSome=true)(f0:W.frozen? ⟨g,4,none⟩=false)(c1:(W.cell? ⟨g,5,none⟩).isSome=true)(f1:W.frozen? ⟨g,5,none⟩=false) :
  Sem.run Tryz.prog (Builtin.copy_ #[61,61] 3 #[.slice (some ⟨g,4,none⟩) 4 4,.slice (some ⟨b,off,none⟩) 2 cap]) W=.ok (.int .i64 2) ((W.setCell ⟨g,4,none⟩ (.int .u64 v0)).setCell ⟨g,5,none⟩ (.int .u64 v1)):=by
 have:=run_copy_cells (P:=Tryz.prog) W 61 61 3 22 g 4 4 4 ⟨b,off,none⟩ 2 cap [.int .u64 v0,.int .u64 v1] Tryz.underlying61 (by kernel_rfl) rfl ?_ ?_ ?_ ?_
 ·exact this
 ·intro j v
  match j,v with
  | 0,_=>intro h;cases h;simpa [Addr.add] using h0
  | 1,_=>intro h;cases h;simpa [Addr.add] using h1
  | (j+2),_=>intro h;simp at h
 ·intro j hj
  match j,hj with
  | 0,_=>simpa using c0
  | 1,_=>simpa using c1
  | (j+2),h=>exact absurd h (by simp only [List.length_cons,List.length_nil];omega)
 ·intro j hj
  match j,hj with
  | 0,_=>simpa using f0
  | 1,_=>simpa using f1
  | (j+2),h=>exact absurd h (by simp only [List.length_cons,List.length_nil];omega)
 ·intro v hv
  simp at hv
  first|(subst hv;rfl)|(rcases hv with rfl|rfl<;>rfl)|(rcases hv with rfl|rfl|rfl<;>rfl)|(rcases hv with rfl|rfl|rfl|rfl<;>rfl)
theorem copy3 (W:World)(g b off cap:Nat)(v0 v1 v2:Int)(h0:W.cell? ⟨b,off,none⟩=some (.int .u64 v0))(h1:W.cell? ⟨b,off+1,none⟩=some (.int .u64 v1))(h2:W.cell? ⟨b,off+2,none⟩=some (.int .u64 v2))(c0:(W.cell? ⟨g,4,none⟩).isSome=true)(f0:W.frozen? ⟨g,4,none⟩=false)(c1:(W.cell? ⟨g,5,none⟩).isSome=true)(f1:W.frozen? ⟨g,5,none⟩=false)(c2:(W.cell? ⟨g,6,none⟩).isSome=true)(f2:W.frozen? ⟨g,6,none⟩=false) :
  Sem.run Tryz.prog (Builtin.copy_ #[61,61] 3 #[.slice (some ⟨g,4,none⟩) 4 4,.slice (some ⟨b,off,none⟩) 3 cap]) W=.ok (.int .i64 3) (((W.setCell ⟨g,4,none⟩ (.int .u64 v0)).setCell ⟨g,5,none⟩ (.int .u64 v1)).setCell ⟨g,6,none⟩ (.int .u64 v2)):=by
 have:=run_copy_cells (P:=Tryz.prog) W 61 61 3 22 g 4 4 4 ⟨b,off,none⟩ 3 cap [.int .u64 v0,.int .u64 v1,.int .u64 v2] Tryz.underlying61 (by kernel_rfl) rfl ?_ ?_ ?_ ?_
 ·exact this
 ·intro j v
  match j,v with
  | 0,_=>intro h;cases h;simpa [Addr.add] using h0
  | 1,_=>intro h;cases h;simpa [Addr.add] using h1
  | 2,_=>intro h;cases h;simpa [Addr.add] using h2
  | (j+3),_=>intro h;simp at h
 ·intro j hj
  match j,hj with
  | 0,_=>simpa using c0
  | 1,_=>simpa using c1
  | 2,_=>simpa using c2
  | (j+3),h=>exact absurd h (by simp only [List.length_cons,List.length_nil];omega)
 ·intro j hj
  match j,hj with
  | 0,_=>simpa using f0
  | 1,_=>simpa using f1
  | 2,_=>simpa using f2
  | (j+3),h=>exact absurd h (by simp only [List.length_cons,List.length_nil];omega)
 ·intro v hv
  simp at hv
  first|(subst hv;rfl)|(rcases hv with rfl|rfl<;>rfl)|(rcases hv with rfl|rfl|rfl<;>rfl)|(rcases hv with rfl|rfl|rfl|rfl<;>rfl)
theorem copy4 (W:World)(g b off cap:Nat)(v0 v1 v2 v3:Int)(h0:W.cell? ⟨b,off,none⟩=some (.int .u64 v0))(h1:W.cell? ⟨b,off+1,none⟩=some (.int .u64 v1))(h2:W.cell? ⟨b,off+2,none⟩=some (.int .u64 v2))(h3:W.cell? ⟨b,off+3,none⟩=some (.int .u64 v3))(c0:(W.cell? ⟨g,4,none⟩).isSome=true)(f0:W.frozen? ⟨g,4,none⟩=false)(c1:(W.cell? ⟨g,5,none⟩).isSome=true)(f1:W.frozen? ⟨g,5,none⟩=false)(c2:(W.cell? ⟨g,6,none⟩).isSome=true)(f2:W.frozen? ⟨g,6,none⟩=false)(c3:(W.cell? ⟨g,7,none⟩).isSome=true)(f3:W.frozen? ⟨g,7,none⟩=false) :
  Sem.run Tryz.prog (Builtin.copy_ #[61,61] 3 #[.slice (some ⟨g,4,none⟩) 4 4,.slice (some ⟨b,off,none⟩) 4 cap]) W=.ok (.int .i64 4) ((((W.setCell ⟨g,4,none⟩ (.int .u64 v0)).setCell ⟨g,5,none⟩ (.int .u64 v1)).setCell ⟨g,6,none⟩ (.int .u64 v2)).setCell ⟨g,7,none⟩ (.int .u64 v3)):=by
 have:=run_copy_cells (P:=Tryz.prog) W 61 61 3 22 g 4 4 4 ⟨b,off,none⟩ 4 cap [.int .u64 v0,.int .u64 v1,.int .u64 v2,.int .u64 v3] Tryz.underlying61 (by kernel_rfl) rfl ?_ ?_ ?_ ?_
 ·exact this
 ·intro j v
  match j,v with
  | 0,_=>intro h;cases h;simpa [Addr.add] using h0
  | 1,_=>intro h;cases h;simpa [Addr.add] using h1
  | 2,_=>intro h;cases h;simpa [Addr.add] using h2
  | 3,_=>intro h;cases h;simpa [Addr.add] using h3
  | (j+4),_=>intro h;simp at h
 ·intro j hj
  match j,hj with
  | 0,_=>simpa using c0
  | 1,_=>simpa using c1
  | 2,_=>simpa using c2
  | 3,_=>simpa using c3
  | (j+4),h=>exact absurd h (by simp only [List.length_cons,List.length_nil];omega)
 ·intro j hj
  match j,hj with
  | 0,_=>simpa using f0
  | 1,_=>simpa using f1
  | 2,_=>simpa using f2
  | 3,_=>simpa using f3
  | (j+4),h=>exact absurd h (by simp only [List.length_cons,List.length_nil];omega)
 ·intro v hv
  simp at hv
  first|(subst hv;rfl)|(rcases hv with rfl|rfl<;>rfl)|(rcases hv with rfl|rfl|rfl<;>rfl)|(rcases hv with rfl|rfl|rfl|rfl<;>rfl)
attribute [local irreducible] W4
section
variable (n:Int)(nm:ByteArray)(wd:Int)(f e:Nat)(l m:Int)(s:Bool)(x fl E:Int)(R:Nat)(z:Nat->Int)(w:World)(hT:Tab w)
include hT
theorem fin_n 
  (c56:∀ W,Tab W->CB 23 #[.int .i64 n,.agg #[.int .i64 1,.bool s,.bool false,.int .i64 x,.int .u64 0,.int .u64 0,.int .u64 0,.int .u64 0]] W (.tuple #[A4 R,.int .i64 E])) :
  CB 146 #[DI n nm wd f e l m,.bool s,.slice none 0 0,.int .i64 x,.int .i64 fl] w (.tuple #[A4 R,.int .i64 fl,.int .i64 E]):=by
 have hsm:=cell_set_map
 skip
 have hcp:=copy0
 go_enter Tryz.func146,Tryz.ntmps146
 go_wp2_with (go_at_call 23;refine (c56 _ (hT.go bgo)).mono ?_;rintro r w1 ⟨rfl,hb1⟩;obtain ⟨_,_,_,_,hA1,_⟩:=wz w hb1;obtain ⟨_,_⟩:=zf hb1 (w.heap.size+1);obtain ⟨_,_⟩:=zf hb1 (w.heap.size+2);obtain ⟨_,_⟩:=zf hb1 (w.heap.size+1+1);clear hb1)
 exact bodyPost_ret (v:=.tuple #[A4 R,.int .i64 fl,.int .i64 E]) (by simp only [results,Tryz.results146];go_simp) rfl ⟨rfl,bgo⟩
theorem fin_0 (b off cap:Nat)(hb:b<w.heap.size) 
  (c56:∀ W,Tab W->CB 23 #[.int .i64 n,.agg #[.int .i64 1,.bool s,.bool false,.int .i64 x,.int .u64 0,.int .u64 0,.int .u64 0,.int .u64 0]] W (.tuple #[A4 R,.int .i64 E])) :
  CB 146 #[DI n nm wd f e l m,.bool s,.slice (some ⟨b,off,none⟩) 0 cap,.int .i64 x,.int .i64 fl] w (.tuple #[A4 R,.int .i64 fl,.int .i64 E]):=by
 have hsm:=cell_set_map
 skip
 have hcp:=copy0
 go_enter Tryz.func146,Tryz.ntmps146
 go_wp2_with (go_at_call 23;refine (c56 _ (hT.go bgo)).mono ?_;rintro r w1 ⟨rfl,hb1⟩;obtain ⟨_,_,_,_,hA1,_⟩:=wz w hb1;obtain ⟨_,_⟩:=zf hb1 (w.heap.size+1);obtain ⟨_,_⟩:=zf hb1 (w.heap.size+2);obtain ⟨_,_⟩:=zf hb1 (w.heap.size+1+1);clear hb1)
 exact bodyPost_ret (v:=.tuple #[A4 R,.int .i64 fl,.int .i64 E]) (by simp only [results,Tryz.results146];go_simp) rfl ⟨rfl,bgo⟩
theorem fin_1 (b off cap:Nat)(hb:b<w.heap.size)(h0:w.cell? ⟨b,off+0,none⟩=some (.int .u64 (z 0)))
  (c56:∀ W,Tab W->CB 23 #[.int .i64 n,.agg #[.int .i64 1,.bool s,.bool false,.int .i64 x,.int .u64 (z 0),.int .u64 0,.int .u64 0,.int .u64 0]] W (.tuple #[A4 R,.int .i64 E])) :
  CB 146 #[DI n nm wd f e l m,.bool s,.slice (some ⟨b,off,none⟩) 1 cap,.int .i64 x,.int .i64 fl] w (.tuple #[A4 R,.int .i64 fl,.int .i64 E]):=by
 have hsm:=cell_set_map
 simp only [Nat.add_zero] at h0
 have hcp:=copy1
 have e0:b<=w.heap.size:=by omega
 have e1:b<w.heap.size+1:=by omega
 have e2:b<w.heap.size+1+1:=by omega
 have e3:b<w.heap.size+2:=by omega
 have e4:b<=w.heap.size+1:=by omega
 have n0:¬ b=w.heap.size:=by omega
 have n1:¬ b=w.heap.size+1:=by omega
 have n2:¬ b=w.heap.size+1+1:=by omega
 go_enter Tryz.func146,Tryz.ntmps146
 go_wp2_with (go_at_call 23;refine (c56 _ (hT.go bgo)).mono ?_;rintro r w1 ⟨rfl,hb1⟩;obtain ⟨_,_,_,_,hA1,_⟩:=wz w hb1;obtain ⟨_,_⟩:=zf hb1 (w.heap.size+1);obtain ⟨_,_⟩:=zf hb1 (w.heap.size+2);obtain ⟨_,_⟩:=zf hb1 (w.heap.size+1+1);clear hb1)
 exact bodyPost_ret (v:=.tuple #[A4 R,.int .i64 fl,.int .i64 E]) (by simp only [results,Tryz.results146];go_simp) rfl ⟨rfl,bgo⟩
theorem fin_2 (b off cap:Nat)(hb:b<w.heap.size)(h0:w.cell? ⟨b,off+0,none⟩=some (.int .u64 (z 0)))(h1:w.cell? ⟨b,off+1,none⟩=some (.int .u64 (z 1)))
  (c56:∀ W,Tab W->CB 23 #[.int .i64 n,.agg #[.int .i64 1,.bool s,.bool false,.int .i64 x,.int .u64 (z 0),.int .u64 (z 1),.int .u64 0,.int .u64 0]] W (.tuple #[A4 R,.int .i64 E])) :
  CB 146 #[DI n nm wd f e l m,.bool s,.slice (some ⟨b,off,none⟩) 2 cap,.int .i64 x,.int .i64 fl] w (.tuple #[A4 R,.int .i64 fl,.int .i64 E]):=by
 have hsm:=cell_set_map
 simp only [Nat.add_zero] at h0
 have hcp:=copy2
 have e0:b<=w.heap.size:=by omega
 have e1:b<w.heap.size+1:=by omega
 have e2:b<w.heap.size+1+1:=by omega
 have e3:b<w.heap.size+2:=by omega
 have e4:b<=w.heap.size+1:=by omega
 have n0:¬ b=w.heap.size:=by omega
 have n1:¬ b=w.heap.size+1:=by omega
 have n2:¬ b=w.heap.size+1+1:=by omega
 go_enter Tryz.func146,Tryz.ntmps146
 go_wp2_with (go_at_call 23;refine (c56 _ (hT.go bgo)).mono ?_;rintro r w1 ⟨rfl,hb1⟩;obtain ⟨_,_,_,_,hA1,_⟩:=wz w hb1;obtain ⟨_,_⟩:=zf hb1 (w.heap.size+1);obtain ⟨_,_⟩:=zf hb1 (w.heap.size+2);obtain ⟨_,_⟩:=zf hb1 (w.heap.size+1+1);clear hb1)
 exact bodyPost_ret (v:=.tuple #[A4 R,.int .i64 fl,.int .i64 E]) (by simp only [results,Tryz.results146];go_simp) rfl ⟨rfl,bgo⟩
theorem fin_3 (b off cap:Nat)(hb:b<w.heap.size)(h0:w.cell? ⟨b,off+0,none⟩=some (.int .u64 (z 0)))(h1:w.cell? ⟨b,off+1,none⟩=some (.int .u64 (z 1)))(h2:w.cell? ⟨b,off+2,none⟩=some (.int .u64 (z 2)))
  (c56:∀ W,Tab W->CB 23 #[.int .i64 n,.agg #[.int .i64 1,.bool s,.bool false,.int .i64 x,.int .u64 (z 0),.int .u64 (z 1),.int .u64 (z 2),.int .u64 0]] W (.tuple #[A4 R,.int .i64 E])) :
  CB 146 #[DI n nm wd f e l m,.bool s,.slice (some ⟨b,off,none⟩) 3 cap,.int .i64 x,.int .i64 fl] w (.tuple #[A4 R,.int .i64 fl,.int .i64 E]):=by
 have hsm:=cell_set_map
 simp only [Nat.add_zero] at h0
 have hcp:=copy3
 have e0:b<=w.heap.size:=by omega
 have e1:b<w.heap.size+1:=by omega
 have e2:b<w.heap.size+1+1:=by omega
 have e3:b<w.heap.size+2:=by omega
 have e4:b<=w.heap.size+1:=by omega
 have n0:¬ b=w.heap.size:=by omega
 have n1:¬ b=w.heap.size+1:=by omega
 have n2:¬ b=w.heap.size+1+1:=by omega
 go_enter Tryz.func146,Tryz.ntmps146
 go_wp2_with (go_at_call 23;refine (c56 _ (hT.go bgo)).mono ?_;rintro r w1 ⟨rfl,hb1⟩;obtain ⟨_,_,_,_,hA1,_⟩:=wz w hb1;obtain ⟨_,_⟩:=zf hb1 (w.heap.size+1);obtain ⟨_,_⟩:=zf hb1 (w.heap.size+2);obtain ⟨_,_⟩:=zf hb1 (w.heap.size+1+1);clear hb1)
 exact bodyPost_ret (v:=.tuple #[A4 R,.int .i64 fl,.int .i64 E]) (by simp only [results,Tryz.results146];go_simp) rfl ⟨rfl,bgo⟩
theorem fin_4 (b off cap:Nat)(hb:b<w.heap.size)(h0:w.cell? ⟨b,off+0,none⟩=some (.int .u64 (z 0)))(h1:w.cell? ⟨b,off+1,none⟩=some (.int .u64 (z 1)))(h2:w.cell? ⟨b,off+2,none⟩=some (.int .u64 (z 2)))(h3:w.cell? ⟨b,off+3,none⟩=some (.int .u64 (z 3)))
  (c56:∀ W,Tab W->CB 23 #[.int .i64 n,.agg #[.int .i64 1,.bool s,.bool false,.int .i64 x,.int .u64 (z 0),.int .u64 (z 1),.int .u64 (z 2),.int .u64 (z 3)]] W (.tuple #[A4 R,.int .i64 E])) :
  CB 146 #[DI n nm wd f e l m,.bool s,.slice (some ⟨b,off,none⟩) 4 cap,.int .i64 x,.int .i64 fl] w (.tuple #[A4 R,.int .i64 fl,.int .i64 E]):=by
 have hsm:=cell_set_map
 simp only [Nat.add_zero] at h0
 have hcp:=copy4
 have e0:b<=w.heap.size:=by omega
 have e1:b<w.heap.size+1:=by omega
 have e2:b<w.heap.size+1+1:=by omega
 have e3:b<w.heap.size+2:=by omega
 have e4:b<=w.heap.size+1:=by omega
 have n0:¬ b=w.heap.size:=by omega
 have n1:¬ b=w.heap.size+1:=by omega
 have n2:¬ b=w.heap.size+1+1:=by omega
 go_enter Tryz.func146,Tryz.ntmps146
 go_wp2_with (go_at_call 23;refine (c56 _ (hT.go bgo)).mono ?_;rintro r w1 ⟨rfl,hb1⟩;obtain ⟨_,_,_,_,hA1,_⟩:=wz w hb1;obtain ⟨_,_⟩:=zf hb1 (w.heap.size+1);obtain ⟨_,_⟩:=zf hb1 (w.heap.size+2);obtain ⟨_,_⟩:=zf hb1 (w.heap.size+1+1);clear hb1)
 exact bodyPost_ret (v:=.tuple #[A4 R,.int .i64 fl,.int .i64 E]) (by simp only [results,Tryz.results146];go_simp) rfl ⟨rfl,bgo⟩
end
end
section
attribute [local irreducible] W4
abbrev IV (n:Int)(nm:ByteArray)(wd:Int)(f e:Nat)(l m:Int):Value:=.agg #[.int .i64 n,.string nm,.int .i64 2,.int .i64 wd,.int .i64 ((f:Int)+1),.int .i64 e,.int .i64 l,.int .i64 m,.int .i64 ((f:Int)-1),.bool false]
end
section
structure Four (w:World) (g o k:Nat):Prop where
 cell:∀ i,i<4->w.cell? ⟨g,o+i,none⟩=some (.int .u64 (W4 k i))
theorem Four.of {w:World}{g o k:Nat}(h0:w.cell? ⟨g,o+0,none⟩=some (.int .u64 (W4 k 0)))(h1:w.cell? ⟨g,o+1,none⟩=some (.int .u64 (W4 k 1)))(h2:w.cell? ⟨g,o+2,none⟩=some (.int .u64 (W4 k 2)))(h3:w.cell? ⟨g,o+3,none⟩=some (.int .u64 (W4 k 3))):Four w g o k :=
 ⟨fun i hi=>by
  have:i=0∨i=1∨i=2∨i=3:=by omega
  rcases this with rfl|rfl|rfl|rfl<;>assumption⟩
theorem Four.next {w w':World}{g o k:Nat}(h:Four w g o k)(hg:g<w.heap.size)(hb:Below w.heap.size w w'):Four w' g o k :=
 ⟨fun i hi=>by rw [hb.cell (p:=⟨g,o+i,none⟩) hg];exact h.cell i hi⟩
structure Dc (w:World) (g:Nat) (c:Int) (s b:Bool) (x:Int) (k:Nat):Prop where
 c0:w.cell? ⟨g,0,none⟩=some (.int .i64 c)
 c1:w.cell? ⟨g,1,none⟩=some (.bool s)
 c2:w.cell? ⟨g,2,none⟩=some (.bool b)
 c3:w.cell? ⟨g,3,none⟩=some (.int .i64 x)
 c4:w.cell? ⟨g,4,none⟩=some (.int .u64 (W4 k 0))
 c5:w.cell? ⟨g,5,none⟩=some (.int .u64 (W4 k 1))
 c6:w.cell? ⟨g,6,none⟩=some (.int .u64 (W4 k 2))
 c7:w.cell? ⟨g,7,none⟩=some (.int .u64 (W4 k 3))
theorem Dc.next {w w':World}{g:Nat}{c:Int}{s b:Bool}{x:Int}{k:Nat}(h:Dc w g c s b x k)(hg:g<w.heap.size)(hb:Below w.heap.size w w'):Dc w' g c s b x k :=
  ⟨by rw [hb.cell (p:=⟨g,0,none⟩) hg,h.c0],by rw [hb.cell (p:=⟨g,1,none⟩) hg,h.c1],by rw [hb.cell (p:=⟨g,2,none⟩) hg,h.c2],by rw [hb.cell (p:=⟨g,3,none⟩) hg,h.c3],
   by rw [hb.cell (p:=⟨g,4,none⟩) hg,h.c4],by rw [hb.cell (p:=⟨g,5,none⟩) hg,h.c5],by rw [hb.cell (p:=⟨g,6,none⟩) hg,h.c6],by rw [hb.cell (p:=⟨g,7,none⟩) hg,h.c7]⟩
def mo (A B i:Nat):Bool:=decide (val (W4 B) i<val (W4 A) i)
attribute [local irreducible] W4 mo
end
end Go.Proofs.YtahfkpjhlbiamaaGreatDoor

set_option maxRecDepth 100000
namespace Go.Proofs.YtahfkpjhlbiamaaGreatDoor
open Go.ChangeShapes Go.WideShapes Go.ChangeAt Go.RowKit
section
variable {H:Type}{enc:TypeId×Value->H}{W:World}{r:Reach}{base b:Nat}{sp:Nat->Bool}{held:Bool}{t:TypeId}{n:Nat}{v:Value}{d:DataW H}{p:List MemPlace}
theorem open_bits (hok:Value.okWide Tryz.prog W r base 24 v)(h:DataW.Trod enc Tryz.prog W b sp held 24 v d p):∃ A,A<2^256/\v=A4 A/\p=[]:=by
 obtain ⟨x,hx,rfl,hp⟩:=open_words Tryz.underlying24 (by kernel_rfl) hok h
 obtain ⟨A,hA,he,_⟩:=words_A4 hx
 exact ⟨A,hA,he,hp⟩
theorem bits_stay {W':World}{sp':Nat->Bool}(h:DataW.Trod enc Tryz.prog W 0 (fun _=>true) true 24 v d []):DataW.Trod enc Tryz.prog W' 0 sp' true 24 v d [] :=
 WideElems.Trod_stays Tryz.laidOut (by kernel_rfl) (of_decide_eq_true (by kernel_rfl)) h (by simp) (by simp)
end
end Go.Proofs.YtahfkpjhlbiamaaGreatDoor

namespace Go.Proofs.YtahfkpjhlbiamaaGreatDoor
open Go.ChangeShapes Go.WideShapes Go.ChangeAt Go.RowKit
def firstCells:Array Value:=(((List.replicate 128 240++List.replicate 66 241++List.replicate 30 2++[19]++List.replicate 12 3++[35]++List.replicate 2 3++[52]++List.replicate 3 4++[68]++List.replicate 11 241:List Int)).map fun n=>Value.int .u8 n).toArray
def rangeCells:Array Value:=((([128,191,160,191,128,159,144,191,128,143]++List.replicate 22 0:List Int)).map fun n=>Value.int .u8 n).toArray
def db32Cells:Array Value:=(([0,1,28,2,29,14,24,3,30,22,20,15,25,17,4,8,31,27,13,23,21,19,16,7,26,12,18,6,11,5,10,9]:List Int).map fun n=>Value.int .u8 n).toArray
def db64Cells:Array Value:=((([0,1,56,2,57,49,28,3,61,58,42,50,38,29,17,4,62,47,59,36,45,43,51,22,53,39,33,30,24,18,12,5]++[63,55,48,27,60,41,37,16,46,35,44,21,52,32,23,11,54,26,40,15,34,20,31,10,25,14,19,9,13,8,7,6]:List Int)).map fun n=>Value.int .u8 n).toArray
def pow10Cells:Array Value:=((List.range 20).map fun k=>Value.int .u64 ((10^k:Nat):Int)).toArray
noncomputable def laidWorld8 (os:Os):World :=
 { World.holding Tryz.prog os ⟨#[],#[],[]⟩ with heap:=((((((World.holding Tryz.prog os ⟨#[],#[],[]⟩).heap.modify 0 (layCells tabCells)).modify 4 (layCells pow10Cells)).modify 7 (layCells db32Cells)).modify 8 (layCells db64Cells)).modify 5 (layCells firstCells)).modify 6 (layCells rangeCells) }
theorem laid_tail {P:Program}{W:World}{x:String×DataW Unit}{r:List (String×DataW Unit)}(h:laidMet P (x::r) W):laidMet P r W:=by
 obtain ⟨ps,⟨g,t,cs,fuel,p,q,_,_,_,_,hr,rfl⟩,hn,hc⟩:=h
 refine ⟨q,hr,?_,fun b off hm=>hc b off (by simp [hm])⟩
 exact (List.nodup_append.1 hn).2.1
theorem pw10_of_list {W:World}{x y:String×DataW Unit}{r:List (String×DataW Unit)}(h:laidMet Tryz.prog (x::y::("internal/strconv.uint64pow10",Lib.tabData .u64 Lib.pow10Tab)::r) W):Tb10 W :=
 Lib.tabIs_of_head (P:=Tryz.prog) (name := "internal/strconv.uint64pow10") (k:=.u64) (zs:=Lib.pow10Tab) (g:=4) (t:=244) (e:=22) (n:=20) (by kernel_rfl) (by kernel_rfl) (by kernel_rfl) (by kernel_rfl) (by kernel_rfl) (by kernel_rfl) (laid_tail (laid_tail h))
theorem tab_of_list {W:World}{x0 x1 x2 x3:String×DataW Unit}{r:List (String×DataW Unit)}(h:laidMet Tryz.prog (x0::x1::x2::x3::("caliper/desc.rows",Rows.laid_caliper_desc_rows)::r) W):Tab W :=
 tab_of_laid (laid_tail (laid_tail (laid_tail (laid_tail h))))
end Go.Proofs.YtahfkpjhlbiamaaGreatDoor
