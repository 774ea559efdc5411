/-
  Texts that the proof leans on.
-/
import Derived.Test.YtahfkpjhlbiamaaGreatDoorJ18
import Derived.Test.YtahfkpjhlbiamaaGreatDoorJ16
import Derived.Test.YtahfkpjhlbiamaaGreatDoorJ1
import Derived.Test.YtahfkpjhlbiamaaGreatDoorJ19
import Derived.Test.YtahfkpjhlbiamaaGreatDoorJ9
set_option maxHeartbeats 8000000
set_option linter.unusedVariables false
set_option linter.unusedSectionVars false
set_option linter.unusedSimpArgs false
set_option maxRecDepth 20000
namespace Go.Proofs.YtahfkpjhlbiamaaGreatDoor
open Go.RowKit
section
theorem zCp {k:Nat}(hk:k<2^256):decide (W4 k 0=0/\W4 k 1=0/\W4 k 2=0/\W4 k 3=0)=decide (k=0):=by
 by_cases h:k=0
 ·subst h
  rw [decide_eq_true (by simp [zOa]),decide_eq_true rfl]
 ·rw [decide_eq_false h,decide_eq_false]
  rintro ⟨h0,h1,h2,h3⟩
  refine h (zDp hk (by decide) fun i hi=>?_)
  have:i=0∨i=1∨i=2∨i=3:=by omega
  rcases this with rfl|rfl|rfl|rfl
  ·rw [h0,zOa]
  ·rw [h1,zOa]
  ·rw [h2,zOa]
  ·rw [h3,zOa]
attribute [local irreducible] W4
section
variable (n:Int)(nm:ByteArray)(wd pr ex le mo pa:Int)(dn:Bool)(c x:Int)(s g:Bool)(k:Nat)(w:World)
theorem vis1_g:CB 89 #[zYa n nm wd pr ex le mo pa dn,DV 1 s true x k] w (.bool false):=by
 go_enter Tryz.func89,Tryz.ntmps89
 go_wp2
 go_ret
 exact ⟨rfl,bgo⟩
theorem vis1_b (cb:∀ W,CB 85 #[A4 k,.int .i64 10,.int .i64 pr] W (.bool false)) :
  CB 89 #[zYa n nm wd pr ex le mo pa dn,DV 1 s false x k] w (.bool false):=by
 unfold A4 at cb
 go_enter Tryz.func89,Tryz.ntmps89
 go_wp2_with (go_at_call 85;refine wk w (cb _) ?_;intro w1 hb1 _ _ _ _ hA1 _;obtain ⟨_,_⟩:=zf hb1 (w.heap.size+1);clear hb1)
 go_ret
 exact ⟨rfl,bgo⟩
theorem vis1_l (hx:¬ le<=x)(cb:∀ W,CB 85 #[A4 k,.int .i64 10,.int .i64 pr] W (.bool true)) :
  CB 89 #[zYa n nm wd pr ex le mo pa dn,DV 1 s false x k] w (.bool false):=by
 unfold A4 at cb
 go_enter Tryz.func89,Tryz.ntmps89
 go_wp2_with (go_at_call 85;refine wk w (cb _) ?_;intro w1 hb1 _ _ _ _ hA1 _;obtain ⟨_,_⟩:=zf hb1 (w.heap.size+1);clear hb1)
 go_ret
 exact ⟨rfl,bgo⟩
theorem vis1_m (hx:le<=x)(cb:∀ W,CB 85 #[A4 k,.int .i64 10,.int .i64 pr] W (.bool true)) :
  CB 89 #[zYa n nm wd pr ex le mo pa dn,DV 1 s false x k] w (.bool (decide (x<=mo))):=by
 unfold A4 at cb
 go_enter Tryz.func89,Tryz.ntmps89
 go_wp2_with (go_at_call 85;refine wk w (cb _) ?_;intro w1 hb1 _ _ _ _ hA1 _;obtain ⟨_,_⟩:=zf hb1 (w.heap.size+1);clear hb1)
 go_ret
 exact ⟨rfl,bgo⟩
theorem vis2_g:CB 89 #[zYa n nm wd pr ex le mo pa dn,DV 2 s true x k] w (.bool false):=by
 go_enter Tryz.func89,Tryz.ntmps89
 go_wp2
 go_ret
 exact ⟨rfl,bgo⟩
theorem vis2_k (hk:k<2^256)(h0:k≠0):CB 89 #[zYa n nm wd pr ex le mo pa dn,DV 2 s false x k] w (.bool false):=by
 have h24:=zPs (W4 k 0) (W4 k 1) (W4 k 2) (W4 k 3) 0 0 0 0
 rw [zCp hk,decide_eq_false h0] at h24
 clear h0
 unfold DV at *
 go_enter Tryz.func89,Tryz.ntmps89
 go_wp2
 go_ret
 exact ⟨rfl,bgo⟩
theorem vis2_x (h0:k=0):CB 89 #[zYa n nm wd pr ex le mo pa dn,DV 2 s false x k] w (.bool (x==0)):=by
 have h24:=zPs (W4 k 0) (W4 k 1) (W4 k 2) (W4 k 3) 0 0 0 0
 rw [zCp (by rw [h0];decide),decide_eq_true h0] at h24
 clear h0
 unfold DV at *
 go_enter Tryz.func89,Tryz.ntmps89
 go_wp2
 go_ret
 exact ⟨rfl,bgo⟩
theorem vis3_x (hx:(x==0)=false):CB 89 #[zYa n nm wd pr ex le mo pa dn,DV 3 s g x k] w (.bool false):=by
 go_enter Tryz.func89,Tryz.ntmps89
 go_wp2
 go_ret
 exact ⟨rfl,bgo⟩
theorem vis3_b (R:Bool)(cb:∀ W,CB 85 #[A4 k,.int .i64 10,.int .i64 pa] W (.bool R)) :
  CB 89 #[zYa n nm wd pr ex le mo pa dn,DV 3 s g 0 k] w (.bool R):=by
 unfold A4 at cb
 go_enter Tryz.func89,Tryz.ntmps89
 go_wp2_with (go_at_call 85;refine wk w (cb _) ?_;intro w1 hb1 _ _ _ _ hA1 _;obtain ⟨_,_⟩:=zf hb1 (w.heap.size+1);clear hb1)
 go_ret
 exact ⟨rfl,bgo⟩
theorem vis_o (h1:(c==1)=false)(h2:(c==2)=false)(h3:(c==3)=false):CB 89 #[zYa n nm wd pr ex le mo pa dn,DV c s g x k] w (.bool false):=by
 go_enter Tryz.func89,Tryz.ntmps89
 go_wp2
 go_ret
 exact ⟨rfl,bgo⟩
end
instance (f:DF) (d:Dat):Decidable (vI f d):=inferInstanceAs (Decidable (_∨_))
theorem ris14 (f:DF)(hf:f.ok)(n:Int)(nm:ByteArray)(wd ex:Int)(dn:Bool)(d:Dat)(w:World)(hk:d.k<2^256) :
  CB 89 #[zYa n nm wd (3*(f.j:Int)+1) ex f.l (f.l+3*2^f.w-1) (3*(f.j:Int)) dn,d.v] w (.bool (decide (vI f d))):=by
 obtain ⟨c,s,g,x,k⟩:=d
 simp only at hk
 have hj:f.j<=11:=by rcases hf with ⟨h1,h2,h3,h4⟩|⟨h1,h2,h3,h4⟩|⟨h1,h2,h3,h4⟩<;>omega
 have cb1:=fun W=>zIm k (3*f.j+1) W hk (by omega)
 rw [show ((3*f.j+1:Nat):Int)=3*(f.j:Int)+1 by omega] at cb1
 have cb3:=fun W=>zIm k (3*f.j) W hk (by omega)
 rw [show ((3*f.j:Nat):Int)=3*(f.j:Int) by omega] at cb3
 by_cases h1:c=1
 ·subst h1
  have e:vI f ⟨1,s,g,x,k⟩↔(g=false/\k<10^(3*f.j+1)/\f.l<=x/\x<=f.l+3*2^f.w-1):=by
   unfold vI
   simp
  rw [decide_eq_decide.2 e]
  cases g
  ·by_cases hb:k<10^(3*f.j+1)
   ·rw [decide_eq_true hb] at cb1
    by_cases hx:f.l<=x
    ·have:=vis1_m n nm wd _ ex f.l (f.l+3*2^f.w-1) (3*(f.j:Int)) dn x s k w hx cb1
     have e2:decide (x<=f.l+3*2^f.w-1)=decide ((false:Bool)=false/\k<10^(3*f.j+1)/\f.l<=x/\x<=f.l+3*2^f.w-1):=decide_eq_decide.2 ⟨fun h=>⟨rfl,hb,hx,h⟩,fun h=>h.2.2.2⟩
     rw [e2] at this
     exact this
    ·rw [decide_eq_false (fun h=>hx h.2.2.1)]
     exact vis1_l n nm wd _ ex f.l _ _ dn x s k w hx cb1
   ·rw [decide_eq_false hb] at cb1
    rw [decide_eq_false (fun h=>hb h.2.1)]
    exact vis1_b n nm wd _ ex f.l _ _ dn x s k w cb1
  ·rw [decide_eq_false (fun h=>by cases h.1)]
   exact vis1_g n nm wd _ ex f.l _ _ dn x s k w
 by_cases h2:c=2
 ·subst h2
  have e:vI f ⟨2,s,g,x,k⟩↔(g=false/\k=0/\x=0):=by
   unfold vI
   simp
  rw [decide_eq_decide.2 e]
  cases g
  ·by_cases hz:k=0
   ·have:=vis2_x n nm wd (3*(f.j:Int)+1) ex f.l (f.l+3*2^f.w-1) (3*(f.j:Int)) dn x s k w hz
    rw [show (x==0)=decide (false=false/\k=0/\x=0) by rw [Bool.eq_iff_iff];simp [hz]] at this
    exact this
   ·rw [decide_eq_false (fun h=>hz h.2.1)]
    exact vis2_k n nm wd _ ex f.l _ _ dn x s k w hk hz
  ·rw [decide_eq_false (fun h=>by cases h.1)]
   exact vis2_g n nm wd _ ex f.l _ _ dn x s k w
 by_cases h3:c=3
 ·subst h3
  have e:vI f ⟨3,s,g,x,k⟩↔(x=0/\k<10^(3*f.j)):=by
   unfold vI
   simp
  rw [decide_eq_decide.2 e]
  by_cases hx:x=0
  ·subst hx
   have:=vis3_b n nm wd (3*(f.j:Int)+1) ex f.l (f.l+3*2^f.w-1) (3*(f.j:Int)) dn s g k w _ cb3
   rw [decide_eq_decide.2 (show (k<10^(3*f.j))↔((0:Int)=0/\k<10^(3*f.j)) from ⟨fun h=>⟨rfl,h⟩,fun h=>h.2⟩)] at this
   exact this
  ·rw [decide_eq_false (fun h=>hx h.1)]
   exact vis3_x n nm wd _ ex f.l _ _ dn x s g k w (by simp [hx])
 ·rw [decide_eq_false (show ¬ vI f ⟨c,s,g,x,k⟩ by unfold vI;simp [h1,h2,h3])]
  exact vis_o n nm wd _ ex f.l _ _ dn c x s g k w (by simp [h1]) (by simp [h2]) (by simp [h3])
end
section
attribute [local irreducible] W4 NT
structure B4 (g X:Nat) (w:World):Prop where
 lt:g<w.heap.size
 c0:w.cell? ⟨g,0,none⟩=some (.int .u64 (W4 X 0))
 c1:w.cell? ⟨g,1,none⟩=some (.int .u64 (W4 X 1))
 c2:w.cell? ⟨g,2,none⟩=some (.int .u64 (W4 X 2))
 c3:w.cell? ⟨g,3,none⟩=some (.int .u64 (W4 X 3))
 f0:w.frozen? ⟨g,0,none⟩=false
 f1:w.frozen? ⟨g,1,none⟩=false
 f2:w.frozen? ⟨g,2,none⟩=false
 f3:w.frozen? ⟨g,3,none⟩=false
theorem B4.next {g X:Nat}{w w':World}(h:B4 g X w)(hb:Below w.heap.size w w'):B4 g X w' :=
 ⟨Nat.lt_of_lt_of_le h.lt hb.size,(hb.cell (p:=⟨g,0,none⟩) h.lt).trans h.c0,(hb.cell (p:=⟨g,1,none⟩) h.lt).trans h.c1,(hb.cell (p:=⟨g,2,none⟩) h.lt).trans h.c2,(hb.cell (p:=⟨g,3,none⟩) h.lt).trans h.c3,
  (hb.frozen (p:=⟨g,0,none⟩) h.lt).trans h.f0,(hb.frozen (p:=⟨g,1,none⟩) h.lt).trans h.f1,(hb.frozen (p:=⟨g,2,none⟩) h.lt).trans h.f2,(hb.frozen (p:=⟨g,3,none⟩) h.lt).trans h.f3⟩
theorem B4.new (w:World)(t:TypeId):B4 w.heap.size 0 (w.alloc (.cells #[.int .u64 0,.int .u64 0,.int .u64 0,.int .u64 0] t)):=by
 refine ⟨by simp,?_,?_,?_,?_,?_,?_,?_,?_⟩<;>first|(rw [zOa];go_simp)|go_simp
abbrev put4B (w:World)(g X:Nat):World:=(((w.setCell ⟨g,0,none⟩ (.int .u64 (W4 X 0))).setCell ⟨g,1,none⟩ (.int .u64 (W4 X 1))).setCell ⟨g,2,none⟩ (.int .u64 (W4 X 2))).setCell ⟨g,3,none⟩ (.int .u64 (W4 X 3))
theorem B4.put {g X Y:Nat}{w:World}(h:B4 g X w):B4 g Y (put4B w g Y):=by
 have hsm:=zAa
 obtain ⟨h0,h1,h2,h3,h4,h5,h6,h7,h8⟩:=h
 refine ⟨by simp;exact h0,?_,?_,?_,?_,?_,?_,?_,?_⟩<;>go_simp
theorem B4.other {g h X Y:Nat}{w:World}(hB:B4 g X w)(hne:g≠h):B4 g X (put4B w h Y):=by
 obtain ⟨h0,h1,h2,h3,h4,h5,h6,h7,h8⟩:=hB
 refine ⟨by simp;exact h0,?_,?_,?_,?_,?_,?_,?_,?_⟩<;>go_simp
section
variable {P:Program}{a:Act}{w:World}{K:Act->World->Prop}{Q:Exit->Act->World->Prop}{d p q:Nat}{ty:TypeId}{pos:String}{after:Array Edge}{gd:Option (Nat×Bool)}
end
end
end Go.Proofs.YtahfkpjhlbiamaaGreatDoor
