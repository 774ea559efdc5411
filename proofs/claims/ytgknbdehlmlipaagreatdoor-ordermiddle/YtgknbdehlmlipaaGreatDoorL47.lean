/-
  Texts that the proof leans on.
-/
import Derived.Test.YtgknbdehlmlipaaGreatDoorL2
import Derived.Test.YtgknbdehlmlipaaGreatDoorL44
import Derived.Test.YtgknbdehlmlipaaGreatDoorL29
import Derived.Test.YtgknbdehlmlipaaGreatDoorL31
import Derived.Test.YtgknbdehlmlipaaGreatDoorL34
import Derived.Test.YtgknbdehlmlipaaGreatDoorL24
import Derived.Test.YtgknbdehlmlipaaGreatDoorL36
import Derived.Test.YtgknbdehlmlipaaGreatDoorL30
import Derived.Deep.Cut
import Derived.Deep.CutRange
import Derived.Deep.RegionWith
import Derived.Test.YtgknbdehlmlipaaGreatDoorL22
import Derived.Test.YtgknbdehlmlipaaGreatDoorL45
import Derived.Test.YtgknbdehlmlipaaGreatDoorL46
import Derived.Test.YtgknbdehlmlipaaGreatDoorL35
import Derived.Test.YtgknbdehlmlipaaGreatDoorL6
import Derived.Test.YtgknbdehlmlipaaGreatDoorL18
import Derived.Test.YtgknbdehlmlipaaGreatDoorL38
import Derived.Test.YtgknbdehlmlipaaGreatDoorL9
import Derived.RegionTactic
import Derived.ChangeAlike
import Derived.BigRegion
import Derived.Laws.Strings2
import Derived.Test.YtgknbdehlmlipaaGreatDoorL41
import Derived.Test.YtgknbdehlmlipaaGreatDoorL32
import Derived.Shelf.SlicesE.Reverse
import Derived.Test.YtgknbdehlmlipaaGreatDoorL20
import Derived.Laws.BytesArg
import Derived.Lib.AppendStr
import Derived.Lib.Builder
import Derived.Deep.AppendLies
set_option linter.unusedVariables false
set_option linter.unusedSectionVars false
set_option linter.unusedSimpArgs false
set_option maxHeartbeats 8000000
set_option maxRecDepth 20000
namespace Go.Proofs.YtgknbdehlmlipaaGreatDoor
open Go.RowKit
section
attribute [local irreducible] W4 NT NV
section
variable {a:Act}{w:World}{K:Act->World->Prop}{Q:Exit->Act->World->Prop}{d p:Nat}{ty:TypeId}{pos:String}{after:Array Edge}{gd:Option (Nat×Bool)}
end
def TW2 (X Y:Nat)(v:Value)(w:World):Prop:=∃ a b,v=.tuple #[a,b]/\NT 7000 X a w/\NT 7000 Y b w
theorem TW2.next {X Y:Nat}{v:Value}{w w':World}(h:TW2 X Y v w)(hb:Below w.heap.size w w'):TW2 X Y v w':=by
 obtain ⟨a,b,e,h1,h2⟩:=h
 exact ⟨a,b,e,h1.next hb,h2.next hb⟩
section
variable (c x c' x':Int)(s g s' g':Bool)(k k':Nat)(P P' S T:Int)(w:World)
 (c1:∀ W,CB 76 #[DV c s g x k] W (.int .i64 S))
 (c2:∀ W,CB 76 #[DV c' s' g' x' k'] W (.int .i64 T))
include c1 c2
variable (h:(S != T)=false)(h':(S==0)=false)
include h h'
end
end
section
structure OrdC (TT:World->Prop):Prop where
 next:∀ w w',TT w->Below w.heap.size w w'->TT w'
 cm:∀ n Ar Br W,Ar<2^256->Br<2^256->TT W->CB 11 #[.int .i64 n,A4 Ar,A4 Br] W (.tuple #[.int .i64 (oMc n Ar n Br),.bool (oMo n Ar n Br),.int .i64 (oME n Ar n Br)])
structure OrdM (TT:World->Prop):Prop where
 mx:∀ f Ar g Br W,Ar<2^256->Br<2^256->TT W->CB 9 #[.int .i64 f,A4 Ar,.int .i64 g,A4 Br] W (.tuple #[.int .i64 (oMc f Ar g Br),.bool (oMo f Ar g Br),.int .i64 (oME f Ar g Br)])
theorem awk20_T:oMc 3 1065353216 3 1073741824=-1/\oMo 3 1065353216 3 1073741824=true/\oME 3 1065353216 3 1073741824=0:=⟨by kernel_rfl,by kernel_rfl,by kernel_rfl⟩
theorem awk20_W:(W4 1065353216 0=1065353216/\W4 1065353216 1=0/\W4 1065353216 2=0/\W4 1065353216 3=0)/\(W4 1073741824 0=1073741824/\W4 1073741824 1=0/\W4 1073741824 2=0/\W4 1073741824 3=0):=⟨⟨by decide,by decide,by decide,by decide⟩,⟨by decide,by decide,by decide,by decide⟩⟩
attribute [local irreducible] W4
theorem awake20 {TT:World->Prop}(h:OrdC TT)(w:World)(hT:TT w):CB 8 #[] w (.bool true):=by
 have c9:=fun W hW=>h.cm 3 1065353216 1073741824 W (by decide) (by decide) hW
 obtain ⟨e1,e2,e4⟩:=awk20_T
 obtain ⟨⟨w0,w1,w2,w3⟩,u0,u1,u2,u3⟩:=awk20_W
 rw [e1,e2,e4] at c9
 unfold A4 at c9
 rw [w0,w1,w2,w3,u0,u1,u2,u3] at c9
 clear w0 w1 w2 w3 u0 u1 u2 u3 e1 e2 e4
 have hsm:=cell_set_map
 go_enter Tryz.func8,Tryz.ntmps8
 go_wp2_with (go_at_call 11;refine (c9 _ (h.next _ _ hT bgo)).mono ?_;rintro r w1 ⟨rfl,hb1⟩;obtain ⟨_,_,hA1,_⟩:=wf w hb1;clear hb1)
 go_ret
 exact ⟨by first|rfl|simp,bgo⟩
section
variable (TT:World->Prop)(hTT:∀ w w',TT w->Below w.heap.size w w'->TT w')(w:World)(hT:TT w)
 (c8:∀ W,TT W->CB 8 #[] W (.bool true))
variable (f g:Int)(Ar Br Cr:Nat)
include hTT hT c8
variable (n:Int)
variable (X E:Int)
 (c9:∀ W,TT W->CB 13 #[.int .i64 n,A4 Ar,A4 Br] W (.tuple #[.int .i64 X,.int .i64 E]))
 (c10:∀ W,CB 14 #[.int .i64 n,A4 Ar,A4 Br] W (.tuple #[.int .i64 X,.int .i64 E]))
include c9 c10
end
def oL (n:Int):Int:=if binN n then leastN n else (fD n).l
theorem mD_K {n:Int}{B:Nat}(h:mE n B=0):oK (oL n) (mD n B):=by
 unfold mE at h
 unfold oL mD
 by_cases hb:binN n
 ·rw [if_pos hb] at h
  rw [if_pos hb,if_pos hb]
  have hg:goodN n B:=by
   refine Classical.byContradiction fun q=>?_
   rw [show unE n B=1 from if_neg q] at h
   omega
  rcases und_is hg with ⟨h1,h2,h3,h4,h5,h6⟩|⟨h1,h2,h3,h4⟩|⟨h1,h2,h3,h4⟩
  ·exact Or.inl ⟨h1,h2,h4⟩
  ·exact Or.inr (Or.inl ⟨h1,h2,h3,h4⟩)
  ·exact Or.inr (Or.inr ⟨h1,h2⟩)
 ·rw [if_neg hb] at h
  rw [if_neg hb,if_neg hb]
  have hg:goodD n B:=by
   refine Classical.byContradiction fun q=>?_
   rw [show vUE n B=1 from if_neg q] at h
   omega
  rw [show vUD n B=vM (fD n) B from if_pos hg]
  rcases vM_is (fD_ok n) B with ⟨h1,h2,h3,h4,h5⟩|⟨h1,h2,h3,h4⟩|⟨h1,h2,h3⟩
  ·exact Or.inl ⟨h1,h2,h4⟩
  ·exact Or.inr (Or.inl ⟨h1,h2,h4,h3⟩)
  ·exact Or.inr (Or.inr ⟨h1,h2⟩)
theorem w4_dq {u v:Nat}(hu:u<2^256)(hv:v<2^256):decide (W4 u 0=W4 v 0/\W4 u 1=W4 v 1/\W4 u 2=W4 v 2/\W4 u 3=W4 v 3)=decide (u=v):=by
 by_cases h:u=v
 ·subst h
  rw [decide_eq_true ⟨rfl,rfl,rfl,rfl⟩,decide_eq_true rfl]
 ·rw [decide_eq_false h]
  refine decide_eq_false fun ⟨a,b,c,d⟩=>h ?_
  have h1:=W4_val4 hu
  have h2:=W4_val4 hv
  have h3:val (W4 u) 4=val (W4 v) 4:=by simp only [val,a,b,c,d]
  omega
section
variable {TT:World->Prop}(h:OrdC TT)(w:World)(hT:TT w)
include h hT
end
end
section
attribute [local irreducible] W4 Nt Nz NT
abbrev FnV (f:Nat):Value:=.func (.func f) #[] #[]
section
variable (c x b:Int)(s g:Bool)(k:Nat)(c' x' b':Int)(s' g':Bool)(k':Nat)(R R':Int)(w:World)
theorem sg_s
  (c1:∀ W,CB 33 #[OV c s g x k b,OV c' s' g' x' k' b'] W (.int .i64 R))
  (c2:∀ W,CB 33 #[OV c' s' g' x' k' b',OV c s g x k b] W (.int .i64 R')) :
  CB 32 #[OV c s g x k b,OV c' s' g' x' k' b',FnV 33] w (.int .i64 (sgV s s' R R')):=by
 have hsm:=cell_set_map
 cases s<;>cases s'
 ·go_enter Tryz.func32,Tryz.ntmps32
  go_wp2_with (go_at_call 33;refine (c1 _).mono ?_;rintro r w1 ⟨rfl,hb1⟩;obtain ⟨_,_,_,_,hA1,_⟩:=wz w hb1;obtain ⟨_,_⟩:=zf hb1 (w.heap.size+1);clear hb1)
  go_ret
  exact ⟨by first|rfl|simp,bgo⟩
 ·go_enter Tryz.func32,Tryz.ntmps32
  go_wp2
  go_ret
  exact ⟨by first|rfl|simp,bgo⟩
 ·go_enter Tryz.func32,Tryz.ntmps32
  go_wp2
  go_ret
  exact ⟨by first|rfl|simp,bgo⟩
 ·go_enter Tryz.func32,Tryz.ntmps32
  go_wp2_with (go_at_call 33;refine (c2 _).mono ?_;rintro r w2 ⟨rfl,hb2⟩;obtain ⟨_,_,_,_,hA2,_⟩:=wz w hb2;obtain ⟨_,_⟩:=zf hb2 (w.heap.size+1);clear hb2)
  go_ret
  exact ⟨by first|rfl|simp,bgo⟩
end
section
variable (c x b:Int)(s g:Bool)(k:Nat)(hk:k<2^256)(c' x' b':Int)(s' g':Bool)(k':Nat)(hk':k'<2^256)(w:World)
include hk hk'
end
end
section
attribute [local irreducible] W4 Nt Nz NT
section
variable (f n:Int)(A B:Nat)(c x b:Int)(s g:Bool)(k:Nat)(c' x' b':Int)(s' g':Bool)(k':Nat)(E:Int)(w:World)(hT:Tab w)
 (cB:∀ W,Tab W->CB 30 #[.int .i64 f,A4 A,.int .i64 n,A4 B] W (.tuple #[OV c s g x k b,OV c' s' g' x' k' b',.int .i64 E]))
include hT cB
theorem mx_e (h:(E != 0)=true∨((E != 0)=false/\E=0/\((c==3)=true∨((c==3)=false/\(c'==3)=true)))) :
  CB 9 #[.int .i64 f,A4 A,.int .i64 n,A4 B] w (.tuple #[.int .i64 0,.bool false,.int .i64 E]):=by
 have hsm:=cell_set_map
 rcases h with h|⟨h,rfl,h3|⟨h3,h4⟩⟩
 all_goals
  go_enter Tryz.func9,Tryz.ntmps9
  go_wp2_with (go_at_call 30;refine (cB _ (hT.go bgo)).mono ?_;rintro r w1 ⟨rfl,hb1⟩;obtain ⟨_,_,_,_,hA1,_⟩:=wz w hb1;obtain ⟨_,_⟩:=zf hb1 (w.heap.size+1);clear hb1)
  exact bodyPost_ret (by simp only [results,Tryz.results9];go_simp) rfl ⟨rfl,bgo⟩
variable (hE:E=0)(h3:(c==3)=false)(h4:(c'==3)=false)
include hE h3 h4
theorem mx_0
  (c1:∀ W,CB 31 #[OV c s g x k b] W (.bool true))
  (c2:∀ W,CB 31 #[OV c' s' g' x' k' b'] W (.bool true)) :
  CB 9 #[.int .i64 f,A4 A,.int .i64 n,A4 B] w (.tuple #[.int .i64 0,.bool true,.int .i64 0]):=by
 subst hE
 have hsm:=cell_set_map
 go_enter Tryz.func9,Tryz.ntmps9
 go_wp2_with (first
  | (go_at_call 30;refine (cB _ (hT.go bgo)).mono ?_;rintro r w1 ⟨rfl,hb1⟩;obtain ⟨_,_,_,_,hA1,_⟩:=wz w hb1;obtain ⟨_,_⟩:=zf hb1 (w.heap.size+1);clear hb1)
  | (have:=hA2;go_at_call 31;refine (c2 _).mono ?_;rintro r w3 ⟨rfl,hb3⟩;obtain ⟨_,_,_,_,hA3,_⟩:=wz w hb3;obtain ⟨_,_⟩:=zf hb3 (w.heap.size+1);obtain ⟨_,_⟩:=zf hb3 w1.heap.size;obtain ⟨_,_⟩:=zf hb3 (w1.heap.size+1);clear hb3)
  | (go_at_call 31;refine (c1 _).mono ?_;rintro r w2 ⟨rfl,hb2⟩;obtain ⟨_,_,_,_,hA2,_⟩:=wz w hb2;obtain ⟨_,_⟩:=zf hb2 (w.heap.size+1);obtain ⟨_,_⟩:=zf hb2 w1.heap.size;obtain ⟨_,_⟩:=zf hb2 (w1.heap.size+1);clear hb2))
 exact bodyPost_ret (by simp only [results,Tryz.results9];go_simp) rfl ⟨rfl,bgo⟩
theorem mx_v (n1 n2:Bool)(hn:n1=false∨(n1=true/\n2=false))(R:Int)
  (c1:∀ W,CB 31 #[OV c s g x k b] W (.bool n1))
  (c2:∀ W,CB 31 #[OV c' s' g' x' k' b'] W (.bool n2))
  (c3:∀ W,CB 32 #[OV c s g x k b,OV c' s' g' x' k' b',FnV 33] W (.int .i64 R)) :
  CB 9 #[.int .i64 f,A4 A,.int .i64 n,A4 B] w (.tuple #[.int .i64 R,.bool true,.int .i64 0]):=by
 subst hE
 have hsm:=cell_set_map
 rcases hn with rfl|⟨rfl,rfl⟩
 all_goals
  go_enter Tryz.func9,Tryz.ntmps9
  go_wp2_with (first
   | (go_at_call 30;refine (cB _ (hT.go bgo)).mono ?_;rintro r w1 ⟨rfl,hb1⟩;obtain ⟨_,_,_,_,hA1,_⟩:=wz w hb1;obtain ⟨_,_⟩:=zf hb1 (w.heap.size+1);clear hb1)
   | (have:=hA2;go_at_call 31;refine (c2 _).mono ?_;rintro r w3 ⟨rfl,hb3⟩;obtain ⟨_,_,_,_,hA3,_⟩:=wz w hb3;obtain ⟨_,_⟩:=zf hb3 (w.heap.size+1);obtain ⟨_,_⟩:=zf hb3 w1.heap.size;obtain ⟨_,_⟩:=zf hb3 (w1.heap.size+1);clear hb3)
   | (go_at_call 31;refine (c1 _).mono ?_;rintro r w2 ⟨rfl,hb2⟩;obtain ⟨_,_,_,_,hA2,_⟩:=wz w hb2;obtain ⟨_,_⟩:=zf hb2 (w.heap.size+1);obtain ⟨_,_⟩:=zf hb2 w1.heap.size;obtain ⟨_,_⟩:=zf hb2 (w1.heap.size+1);clear hb2)
   | (go_at_call 32;refine (c3 _).mono ?_;rintro r w4 ⟨rfl,hb4⟩;obtain ⟨_,_,_,_,hA4,_⟩:=wz w hb4;obtain ⟨_,_⟩:=zf hb4 (w.heap.size+1);obtain ⟨_,_⟩:=zf hb4 w1.heap.size;obtain ⟨_,_⟩:=zf hb4 (w1.heap.size+1);clear hb4))
  exact bodyPost_ret (by simp only [results,Tryz.results9];go_simp) rfl ⟨rfl,bgo⟩
end
section
variable (n:Int)(A B:Nat)(c x b:Int)(s g:Bool)(k:Nat)(c' x' b':Int)(s' g':Bool)(k':Nat)(E:Int)(w:World)(hT:Tab w)
 (cB:∀ W,Tab W->CB 30 #[.int .i64 n,A4 A,.int .i64 n,A4 B] W (.tuple #[OV c s g x k b,OV c' s' g' x' k' b',.int .i64 E]))
include hT cB
end
theorem cmp_l (n:Int)(A B:Nat)(C E:Int)(o:Bool)(w:World)(hT:Tab w)
  (c1:∀ W,Tab W->CB 9 #[.int .i64 n,A4 A,.int .i64 n,A4 B] W (.tuple #[.int .i64 C,.bool o,.int .i64 E])) :
  CB 11 #[.int .i64 n,A4 A,A4 B] w (.tuple #[.int .i64 C,.bool o,.int .i64 E]):=by
 have hsm:=cell_set_map
 go_enter Tryz.func11,Tryz.ntmps11
 go_wp2_with (go_at_call 9;refine (c1 _ (hT.go bgo)).mono ?_;rintro r w1 ⟨rfl,hb1⟩;obtain ⟨_,_,_,_,hA1,_⟩:=wz w hb1;obtain ⟨_,_⟩:=zf hb1 (w.heap.size+1);clear hb1)
 exact bodyPost_ret (by simp only [results,Tryz.results11];go_simp) rfl ⟨rfl,bgo⟩
end
section
attribute [local irreducible] W4 Nt Nz NT
theorem mE_or (n:Int)(B:Nat):mE n B=0∨mE n B=1:=by
 unfold mE unE vUE
 split<;>split<;>simp
abbrev ODv (d:Dat)(X:Nat):Value:=OV d.c d.s d.g d.x d.k ((X:Nat):Int)
theorem both_no {f n:Int}{A B:Nat}(hA:A<2^256)(hB:B<2^256)(w:World)(hT:Tab w)(h:mE f A≠0∨mE n B≠0) :
  ∃ c s g x k b c' s' g' x' k' b',∀ W,Tab W->CB 30 #[.int .i64 f,A4 A,.int .i64 n,A4 B] W (.tuple #[OV c s g x k b,OV c' s' g' x' k' b',.int .i64 1]):=by
 obtain ⟨c,s,g,x,k,b,_,cU⟩:=unp_v f A w hT hA
 obtain ⟨c',s',g',x',k',b',_,cV⟩:=unp_v n B w hT hB
 rcases mE_or f A with h1|h1
 ·rcases mE_or n B with h2|h2
  ·omega
  ·rw [h1] at cU
   rw [h2] at cV
   exact ⟨c,s,g,x,k,b,c',s',g',x',k',b',fun W hW=>both_k f n A B c x b s g k c' x' b' s' g' k' 0 1 W hW cU cV rfl⟩
 ·rw [h1] at cU
  exact ⟨c,s,g,x,k,b,0,false,false,0,0,0,fun W hW=>both_e f n A B c x b s g k 1 W hW cU rfl⟩
theorem both_yes {f n:Int}{A B:Nat}(hA:A<2^256)(hB:B<2^256)(w:World)(hT:Tab w)(h1:mE f A=0)(h2:mE n B=0) :
  ∀ W,Tab W->CB 30 #[.int .i64 f,A4 A,.int .i64 n,A4 B] W (.tuple #[ODv (mD f A) (mX f),ODv (mD n B) (mX n),.int .i64 0]):=by
 obtain ⟨c,s,g,x,k,b,e1,cU⟩:=unp_v f A w hT hA
 obtain ⟨c',s',g',x',k',b',e2,cV⟩:=unp_v n B w hT hB
 rw [e1 h1,h1] at cU
 rw [e2 h2,h2] at cV
 exact fun W hW=>both_k f n A B _ _ _ _ _ _ _ _ _ _ _ _ 0 0 W hW cU cV rfl
theorem mD_c {n:Int}{B:Nat}(h:mE n B=0):(mD n B).c=1∨(mD n B).c=2∨(mD n B).c=3:=by
 rcases mD_K h with ⟨q,_⟩|⟨q,_⟩|⟨q,_⟩<;>omega
theorem szD_v {a b:Dat}{X Y:Nat}(hX:X=2∨X=10)(hY:Y=2∨Y=10)(hc:a.c=1∨a.c=2)(hc':b.c=1∨b.c=2)(hk:a.k<2^256)(hk':b.k<2^256)
  (hx:(-17000<=a.x/\a.x<=17000)/\(X=10->-10000<=a.x/\a.x<=10000)) (hy:(-17000<=b.x/\b.x<=17000)/\(Y=10->-10000<=b.x/\b.x<=10000)) (W:World) :
  CB 33 #[ODv a X,ODv b Y] W (.int .i64 (szD a X b Y)) :=
 osz_v hX hY rfl rfl hc hc' hk hk' (by omega) (by omega) hx.2 hy.2 W
theorem ord_mx (f:Int)(A:Nat)(n:Int)(B:Nat)(w:World)(hA:A<2^256)(hB:B<2^256)(hT:Tab w) :
  CB 9 #[.int .i64 f,A4 A,.int .i64 n,A4 B] w (.tuple #[.int .i64 (oMc f A n B),.bool (oMo f A n B),.int .i64 (oME f A n B)]):=by
 unfold oMc oMo oME
 by_cases h:mE f A≠0∨mE n B≠0
 ·rw [if_pos h,if_pos h,if_pos h]
  obtain ⟨c,s,g,x,k,b,c',s',g',x',k',b',cB⟩:=both_no hA hB w hT h
  exact mx_e f n A B c x b s g k c' x' b' s' g' k' 1 w hT cB (Or.inl rfl)
 ·have h1:mE f A=0:=Classical.byContradiction fun q=>h (Or.inl q)
  have h2:mE n B=0:=Classical.byContradiction fun q=>h (Or.inr q)
  rw [if_neg h,if_neg h,if_neg h]
  have cB:=both_yes hA hB w hT h1 h2
  have ka:=mD_256 f A
  have kb:=mD_256 n B
  have ca:=mD_c h1
  have cb:=mD_c h2
  have xa:=mD_x f A
  have xb:=mD_x n B
  have Xa:=mX_or f
  have Xb:=mX_or n
  generalize mD f A=a at *
  generalize mD n B=d at *
  generalize mX f=X at *
  generalize mX n=Y at *
  by_cases h3:a.c=3∨d.c=3
  ·rw [if_pos h3,if_pos h3]
   refine mx_e f n A B _ _ _ _ _ _ _ _ _ _ _ _ 0 w hT cB (Or.inr ⟨rfl,rfl,?_⟩)
   by_cases q:a.c=3
   ·exact Or.inl (by rw [q];rfl)
   ·exact Or.inr ⟨by simpa using q,by rw [h3.resolve_left q];rfl⟩
  ·rw [if_neg h3,if_neg h3]
   have ha2:a.c=1∨a.c=2:=by omega
   have hb2:d.c=1∨d.c=2:=by omega
   have e3:(a.c==3)=false:=by simpa using fun q=>h3 (Or.inl q)
   have e4:(d.c==3)=false:=by simpa using fun q=>h3 (Or.inr q)
   have c1:=fun W=>ont_v a.c a.x ((X:Nat):Int) a.s a.g a.k ka W
   have c2:=fun W=>ont_v d.c d.x ((Y:Nat):Int) d.s d.g d.k kb W
   by_cases hna:nghtD a
   ·by_cases hnb:nghtD d
    ·rw [oV_nn hna hnb]
     have d1:decide (a.c=1/\a.k=0)=true:=decide_eq_true hna
     have d2:decide (d.c=1/\d.k=0)=true:=decide_eq_true hnb
     rw [d1] at c1
     rw [d2] at c2
     exact mx_0 f n A B _ _ _ _ _ _ _ _ _ _ _ _ 0 w hT cB rfl e3 e4 c1 c2
    ·rw [← oV_sg ha2 hb2 (fun q=>hnb q.2)]
     exact mx_v f n A B _ _ _ _ _ _ _ _ _ _ _ _ 0 w hT cB rfl e3 e4 _ _ (Or.inr ⟨decide_eq_true hna,decide_eq_false hnb⟩) _ c1 c2 (fun W=>sg_s _ _ _ _ _ _ _ _ _ _ _ _ _ _ W (fun W=>szD_v Xa Xb ha2 hb2 ka kb xa xb W) (fun W=>szD_v Xb Xa hb2 ha2 kb ka xb xa W))
   ·rw [← oV_sg ha2 hb2 (fun q=>hna q.1)]
    exact mx_v f n A B _ _ _ _ _ _ _ _ _ _ _ _ 0 w hT cB rfl e3 e4 _ _ (Or.inl (decide_eq_false hna)) _ c1 c2 (fun W=>sg_s _ _ _ _ _ _ _ _ _ _ _ _ _ _ W (fun W=>szD_v Xa Xb ha2 hb2 ka kb xa xb W) (fun W=>szD_v Xb Xa hb2 ha2 kb ka xb xa W))
theorem ordM:OrdM Tab:=⟨fun f Ar g Br W hA hB hT=>ord_mx f Ar g Br W hA hB hT⟩
theorem ordC:OrdC Tab:=⟨fun w w' h hb=>h.go hb,fun n Ar Br W hA hB hT=>cmp_l n Ar Br _ _ _ W hT (fun W' hT'=>ord_mx n Ar n Br W' hA hB hT')⟩
end
section
def nxP (n:Int)(B:Nat)(up:Bool):Nat :=
 if (unD n B).c=1/\(unD n B).k=0 then 1+sgN n (!up)
 else if (unD n B).s=up then B-1 else if (unD n B).c=2 then B else B+1
def nxV (n:Int)(B:Nat)(up:Bool):Nat:=if goodN n B then (if (unD n B).c=3 then quV n B else nxP n B up) else 0
def nxF (n:Int)(B:Nat):Int:=if goodN n B/\(unD n B).c=3/\(unD n B).g=true then 1 else 0
def nxE (n:Int)(B:Nat):Int:=if okN n/\B<2^(widthN n).toNat then (if binN n then 0 else 6) else 1
section
variable {n:Int}(hb:binN n){s:Bool}{x:Int}{k:Nat}(h:isD (fN n) (leastN n) (mostN n) ⟨1,s,false,x,k⟩)
include hb h
end
theorem nx_zero {n:Int}(hb:binN n)(s:Bool):pkV n ⟨1,s,false,leastN n,1⟩=1+sgN n s:=by
 have hf:=(bin_fm hb).f240
 have h':isD (fN n) (leastN n) (mostN n) ⟨1,s,false,leastN n,1⟩:=Or.inl ⟨rfl,rfl,show 1<2^(fN n+1) from Nat.lt_of_lt_of_le (by decide:1<2^1) (Nat.pow_le_pow_right (by decide) (by omega)),Int.le_refl _,(top_is hb).2.2,Or.inr rfl⟩
 rw [pk_fin hb h',Int.sub_self]
 simp
theorem fit_good {n:Int}(hb:binN n)(B:Nat):(okN n/\B<2^(widthN n).toNat)↔goodN n B:=by
 obtain ⟨hok,_,_,_,hw,_⟩:=bin_fields hb
 rw [hw,Int.toNat_natCast]
 exact ⟨fun q=>⟨hb,q.2⟩,fun q=>⟨hok,q.2⟩⟩
attribute [local irreducible] W4 NT NV
end
section
structure OrdN (TT:World->Prop):Prop where
 nx:∀ n B up W,B<2^256->TT W->CB 16 #[.int .i64 n,A4 B,.bool up] W (.tuple #[A4 (nxV n B up),.int .i64 (nxF n B),.int .i64 (nxE n B)])
attribute [local irreducible] W4
end
section
attribute [local irreducible] W4 Nt Nz NT
theorem oq_l (n:Int)(B:Nat)(z:Bool)(Q:Nat)(E:Int)(w:World)(hT:Tab w)
  (c1:∀ W,Tab W->CB 83 #[.int .i64 n,A4 B] W (.tuple #[A4 Q,.int .i64 E])) :
  CB 41 #[.int .i64 n,A4 B,.bool z] w (.tuple #[A4 Q,.int .i64 (if z then 1 else 0),.int .i64 E]):=by
 have hsm:=cell_set_map
 cases z
 all_goals
  go_enter Tryz.func41,Tryz.ntmps41
  go_wp2_with (go_at_call 83;refine (c1 _ (hT.go bgo)).mono ?_;rintro r w1 ⟨rfl,hb1⟩;obtain ⟨_,_,_,_,hA1,_⟩:=wz w hb1;obtain ⟨_,_⟩:=zf hb1 (w.heap.size+1);clear hb1)
  exact bodyPost_ret (by simp only [results,Tryz.results41];go_simp) rfl ⟨rfl,bgo⟩
theorem w4_one:W4 1 0=1/\W4 1 1=0/\W4 1 2=0/\W4 1 3=0:=by unfold W4;decide
theorem osm_l (n:Int)(z:Bool)(V:Nat)(E F b num wi pr ex le mo pa:Int)(nm:ByteArray)(de:Bool)(w:World)(hT:Tab w)
  (c1:∀ W,Tab W->CB 81 #[.int .i64 n] W (.tuple #[.agg #[.int .i64 num,.string nm,.int .i64 b,.int .i64 wi,.int .i64 pr,.int .i64 ex,.int .i64 le,.int .i64 mo,.int .i64 pa,.bool de],.int .i64 F]))
  (c2:∀ W,Tab W->CB 70 #[.int .i64 n,DV 1 z false le 1] W (.tuple #[A4 V,.int .i64 E])) :
  CB 42 #[.int .i64 n,.bool z] w (A4 V):=by
 have hsm:=cell_set_map
 obtain ⟨z0,z1,z2,z3⟩:=w4_one
 unfold DV at c2
 rw [z0,z1,z2,z3] at c2
 go_enter Tryz.func42,Tryz.ntmps42
 go_wp2_with (first
  | (go_at_call 81;refine (c1 _ (hT.go bgo)).mono ?_;rintro r w1 ⟨rfl,hb1⟩;obtain ⟨_,_,_,_,hA1,_⟩:=wz w hb1;clear hb1)
  | (go_at_call 70;refine (c2 _ (hT.go bgo)).mono ?_;rintro r w2 ⟨rfl,hb2⟩;obtain ⟨_,_,_,_,hA2,_⟩:=wz w hb2;obtain ⟨_,_⟩:=zf hb2 w1.heap.size;clear hb2))
 exact bodyPost_ret (by simp only [results,Tryz.results42];go_simp) rfl ⟨rfl,bgo⟩
section
variable (B:Nat)(c x b:Int)(s g:Bool)(k:Nat)(up:Bool)(w:World)
 (c1:∀ W,CB 84 #[.int .u64 1] W (A4 1))
include c1
theorem st_tt (V:Nat)(C:Int) 
  (c2:∀ W,CB 85 #[A4 B,A4 1] W (.tuple #[A4 V,.int .u64 C])) :
  CB 43 #[A4 B,OV c true g x k b,.bool true] w (A4 V):=by
 have hsm:=cell_set_map
 unfold A4 at *
 go_enter Tryz.func43,Tryz.ntmps43
 go_wp2
 refine regSt (ga:=w.heap.size) (X4:=B) rfl rfl (by first|omega|(simp;omega)|simp) (by go_simp) (by go_simp) (by go_simp) (by go_simp) c1 ?_
 intro a' w4 p q h7 h8 hne hp hq hP hO hsz hdf hF2 hb4
 have ha:=act_of slotsSt 5 rfl hsz hdf hF2
 rw [ha]
 simp only [slotsSt,List.foldl_cons,List.foldl_nil,Act.put,List.setIfInBounds_toArray,List.set_cons_succ,List.set_cons_zero,h7,h8]
 generalize slot a' 9=s9
 generalize slot a' 10=s10
 generalize slot a' 0=s0
 clear ha h7 h8 hsz hdf hF2
 have hp':w.heap.size+1+1+1<=p:=by simpa using hp
 have hq':w.heap.size+1+1+1<=q:=by simpa using hq
 clear hp hq
 obtain ⟨lp,p0,p1,p2,p3,y0,y1,y2,y3⟩:=hP
 obtain ⟨lq,q0,q1,q2,q3,u0,u1,u2,u3⟩:=hO
 obtain ⟨_,_,_,_,hA4,_⟩:=wz w hb4;obtain ⟨_,_⟩:=zf hb4 (w.heap.size+1);obtain ⟨_,_⟩:=zf hb4 (w.heap.size+1+1);clear hb4
 go_wp2_with (go_at_call 85;refine (c2 _).mono ?_;rintro r w5 ⟨rfl,hb5⟩;obtain ⟨_,_,_,_,hA5,_⟩:=wz w hb5;obtain ⟨_,_⟩:=zf hb5 (w.heap.size+1);obtain ⟨_,_⟩:=zf hb5 (w.heap.size+1+1);obtain ⟨_,_⟩:=zf hb5 p;obtain ⟨_,_⟩:=zf hb5 q;clear hb5)
 exact bodyPost_ret (by simp only [results,Tryz.results43];go_simp) rfl ⟨rfl,bgo⟩
theorem st_ff (V:Nat)(C:Int) 
  (c2:∀ W,CB 85 #[A4 B,A4 1] W (.tuple #[A4 V,.int .u64 C])) :
  CB 43 #[A4 B,OV c false g x k b,.bool false] w (A4 V):=by
 have hsm:=cell_set_map
 unfold A4 at *
 go_enter Tryz.func43,Tryz.ntmps43
 go_wp2
 refine regSt (ga:=w.heap.size) (X4:=B) rfl rfl (by first|omega|(simp;omega)|simp) (by go_simp) (by go_simp) (by go_simp) (by go_simp) c1 ?_
 intro a' w4 p q h7 h8 hne hp hq hP hO hsz hdf hF2 hb4
 have ha:=act_of slotsSt 5 rfl hsz hdf hF2
 rw [ha]
 simp only [slotsSt,List.foldl_cons,List.foldl_nil,Act.put,List.setIfInBounds_toArray,List.set_cons_succ,List.set_cons_zero,h7,h8]
 generalize slot a' 9=s9
 generalize slot a' 10=s10
 generalize slot a' 0=s0
 clear ha h7 h8 hsz hdf hF2
 have hp':w.heap.size+1+1+1<=p:=by simpa using hp
 have hq':w.heap.size+1+1+1<=q:=by simpa using hq
 clear hp hq
 obtain ⟨lp,p0,p1,p2,p3,y0,y1,y2,y3⟩:=hP
 obtain ⟨lq,q0,q1,q2,q3,u0,u1,u2,u3⟩:=hO
 obtain ⟨_,_,_,_,hA4,_⟩:=wz w hb4;obtain ⟨_,_⟩:=zf hb4 (w.heap.size+1);obtain ⟨_,_⟩:=zf hb4 (w.heap.size+1+1);clear hb4
 go_wp2_with (go_at_call 85;refine (c2 _).mono ?_;rintro r w5 ⟨rfl,hb5⟩;obtain ⟨_,_,_,_,hA5,_⟩:=wz w hb5;obtain ⟨_,_⟩:=zf hb5 (w.heap.size+1);obtain ⟨_,_⟩:=zf hb5 (w.heap.size+1+1);obtain ⟨_,_⟩:=zf hb5 p;obtain ⟨_,_⟩:=zf hb5 q;clear hb5)
 exact bodyPost_ret (by simp only [results,Tryz.results43];go_simp) rfl ⟨rfl,bgo⟩
theorem st_tf (V:Nat)(C:Int)(hc:(c==2)=false)
  (c2:∀ W,CB 86 #[A4 B,A4 1] W (.tuple #[A4 V,.int .u64 C])) :
  CB 43 #[A4 B,OV c true g x k b,.bool false] w (A4 V):=by
 have hsm:=cell_set_map
 unfold A4 at *
 go_enter Tryz.func43,Tryz.ntmps43
 go_wp2
 refine regSt (ga:=w.heap.size) (X4:=B) rfl rfl (by first|omega|(simp;omega)|simp) (by go_simp) (by go_simp) (by go_simp) (by go_simp) c1 ?_
 intro a' w4 p q h7 h8 hne hp hq hP hO hsz hdf hF2 hb4
 have ha:=act_of slotsSt 5 rfl hsz hdf hF2
 rw [ha]
 simp only [slotsSt,List.foldl_cons,List.foldl_nil,Act.put,List.setIfInBounds_toArray,List.set_cons_succ,List.set_cons_zero,h7,h8]
 generalize slot a' 9=s9
 generalize slot a' 10=s10
 generalize slot a' 0=s0
 clear ha h7 h8 hsz hdf hF2
 have hp':w.heap.size+1+1+1<=p:=by simpa using hp
 have hq':w.heap.size+1+1+1<=q:=by simpa using hq
 clear hp hq
 obtain ⟨lp,p0,p1,p2,p3,y0,y1,y2,y3⟩:=hP
 obtain ⟨lq,q0,q1,q2,q3,u0,u1,u2,u3⟩:=hO
 obtain ⟨_,_,_,_,hA4,_⟩:=wz w hb4;obtain ⟨_,_⟩:=zf hb4 (w.heap.size+1);obtain ⟨_,_⟩:=zf hb4 (w.heap.size+1+1);clear hb4
 go_wp2_with (go_at_call 86;refine (c2 _).mono ?_;rintro r w5 ⟨rfl,hb5⟩;obtain ⟨_,_,_,_,hA5,_⟩:=wz w hb5;obtain ⟨_,_⟩:=zf hb5 (w.heap.size+1);obtain ⟨_,_⟩:=zf hb5 (w.heap.size+1+1);obtain ⟨_,_⟩:=zf hb5 p;obtain ⟨_,_⟩:=zf hb5 q;clear hb5)
 exact bodyPost_ret (by simp only [results,Tryz.results43];go_simp) rfl ⟨rfl,bgo⟩
theorem st_ft (V:Nat)(C:Int)(hc:(c==2)=false)
  (c2:∀ W,CB 86 #[A4 B,A4 1] W (.tuple #[A4 V,.int .u64 C])) :
  CB 43 #[A4 B,OV c false g x k b,.bool true] w (A4 V):=by
 have hsm:=cell_set_map
 unfold A4 at *
 go_enter Tryz.func43,Tryz.ntmps43
 go_wp2
 refine regSt (ga:=w.heap.size) (X4:=B) rfl rfl (by first|omega|(simp;omega)|simp) (by go_simp) (by go_simp) (by go_simp) (by go_simp) c1 ?_
 intro a' w4 p q h7 h8 hne hp hq hP hO hsz hdf hF2 hb4
 have ha:=act_of slotsSt 5 rfl hsz hdf hF2
 rw [ha]
 simp only [slotsSt,List.foldl_cons,List.foldl_nil,Act.put,List.setIfInBounds_toArray,List.set_cons_succ,List.set_cons_zero,h7,h8]
 generalize slot a' 9=s9
 generalize slot a' 10=s10
 generalize slot a' 0=s0
 clear ha h7 h8 hsz hdf hF2
 have hp':w.heap.size+1+1+1<=p:=by simpa using hp
 have hq':w.heap.size+1+1+1<=q:=by simpa using hq
 clear hp hq
 obtain ⟨lp,p0,p1,p2,p3,y0,y1,y2,y3⟩:=hP
 obtain ⟨lq,q0,q1,q2,q3,u0,u1,u2,u3⟩:=hO
 obtain ⟨_,_,_,_,hA4,_⟩:=wz w hb4;obtain ⟨_,_⟩:=zf hb4 (w.heap.size+1);obtain ⟨_,_⟩:=zf hb4 (w.heap.size+1+1);clear hb4
 go_wp2_with (go_at_call 86;refine (c2 _).mono ?_;rintro r w5 ⟨rfl,hb5⟩;obtain ⟨_,_,_,_,hA5,_⟩:=wz w hb5;obtain ⟨_,_⟩:=zf hb5 (w.heap.size+1);obtain ⟨_,_⟩:=zf hb5 (w.heap.size+1+1);obtain ⟨_,_⟩:=zf hb5 p;obtain ⟨_,_⟩:=zf hb5 q;clear hb5)
 exact bodyPost_ret (by simp only [results,Tryz.results43];go_simp) rfl ⟨rfl,bgo⟩
theorem st_tf2 (hc:(c==2)=true) :
  CB 43 #[A4 B,OV c true g x k b,.bool false] w (A4 B):=by
 have hsm:=cell_set_map
 unfold A4 at *
 go_enter Tryz.func43,Tryz.ntmps43
 go_wp2
 refine regSt (ga:=w.heap.size) (X4:=B) rfl rfl (by first|omega|(simp;omega)|simp) (by go_simp) (by go_simp) (by go_simp) (by go_simp) c1 ?_
 intro a' w4 p q h7 h8 hne hp hq hP hO hsz hdf hF2 hb4
 have ha:=act_of slotsSt 5 rfl hsz hdf hF2
 rw [ha]
 simp only [slotsSt,List.foldl_cons,List.foldl_nil,Act.put,List.setIfInBounds_toArray,List.set_cons_succ,List.set_cons_zero,h7,h8]
 generalize slot a' 9=s9
 generalize slot a' 10=s10
 generalize slot a' 0=s0
 clear ha h7 h8 hsz hdf hF2
 have hp':w.heap.size+1+1+1<=p:=by simpa using hp
 have hq':w.heap.size+1+1+1<=q:=by simpa using hq
 clear hp hq
 obtain ⟨lp,p0,p1,p2,p3,y0,y1,y2,y3⟩:=hP
 obtain ⟨lq,q0,q1,q2,q3,u0,u1,u2,u3⟩:=hO
 obtain ⟨_,_,_,_,hA4,_⟩:=wz w hb4;obtain ⟨_,_⟩:=zf hb4 (w.heap.size+1);obtain ⟨_,_⟩:=zf hb4 (w.heap.size+1+1);clear hb4
 go_wp2
 exact bodyPost_ret (by simp only [results,Tryz.results43];go_simp) rfl ⟨rfl,bgo⟩
theorem st_ft2 (hc:(c==2)=true) :
  CB 43 #[A4 B,OV c false g x k b,.bool true] w (A4 B):=by
 have hsm:=cell_set_map
 unfold A4 at *
 go_enter Tryz.func43,Tryz.ntmps43
 go_wp2
 refine regSt (ga:=w.heap.size) (X4:=B) rfl rfl (by first|omega|(simp;omega)|simp) (by go_simp) (by go_simp) (by go_simp) (by go_simp) c1 ?_
 intro a' w4 p q h7 h8 hne hp hq hP hO hsz hdf hF2 hb4
 have ha:=act_of slotsSt 5 rfl hsz hdf hF2
 rw [ha]
 simp only [slotsSt,List.foldl_cons,List.foldl_nil,Act.put,List.setIfInBounds_toArray,List.set_cons_succ,List.set_cons_zero,h7,h8]
 generalize slot a' 9=s9
 generalize slot a' 10=s10
 generalize slot a' 0=s0
 clear ha h7 h8 hsz hdf hF2
 have hp':w.heap.size+1+1+1<=p:=by simpa using hp
 have hq':w.heap.size+1+1+1<=q:=by simpa using hq
 clear hp hq
 obtain ⟨lp,p0,p1,p2,p3,y0,y1,y2,y3⟩:=hP
 obtain ⟨lq,q0,q1,q2,q3,u0,u1,u2,u3⟩:=hO
 obtain ⟨_,_,_,_,hA4,_⟩:=wz w hb4;obtain ⟨_,_⟩:=zf hb4 (w.heap.size+1);obtain ⟨_,_⟩:=zf hb4 (w.heap.size+1+1);clear hb4
 go_wp2
 exact bodyPost_ret (by simp only [results,Tryz.results43];go_simp) rfl ⟨rfl,bgo⟩
end
end
section
attribute [local irreducible] W4 Nt Nz NT
section
variable (n:Int)(B:Nat)(up:Bool)(c x b:Int)(s g:Bool)(k:Nat)(w:World)(hT:Tab w)
include hT
theorem on_e
  (c1:∀ W,Tab W->CB 40 #[.int .i64 n,A4 B] W (.tuple #[OV c s g x k b,.int .i64 1])) :
  CB 16 #[.int .i64 n,A4 B,.bool up] w (.tuple #[A4 0,.int .i64 0,.int .i64 1]):=by
 rw [Z4_eq]
 have hsm:=cell_set_map
 go_enter Tryz.func16,Tryz.ntmps16
 go_wp2_with (go_at_call 40;refine (c1 _ (hT.go bgo)).mono ?_;rintro r w1 ⟨rfl,hb1⟩;obtain ⟨_,_,_,_,hA1,_⟩:=wz w hb1;obtain ⟨_,_⟩:=zf hb1 (w.heap.size+1);clear hb1)
 exact bodyPost_ret (by simp only [results,Tryz.results16];go_simp) rfl ⟨rfl,bgo⟩
variable (c1:∀ W,Tab W->CB 40 #[.int .i64 n,A4 B] W (.tuple #[OV c s g x k b,.int .i64 0]))
include c1
theorem on_d (hb:(b != 2)=true) :
  CB 16 #[.int .i64 n,A4 B,.bool up] w (.tuple #[A4 0,.int .i64 0,.int .i64 6]):=by
 rw [Z4_eq]
 have hsm:=cell_set_map
 go_enter Tryz.func16,Tryz.ntmps16
 go_wp2_with (go_at_call 40;refine (c1 _ (hT.go bgo)).mono ?_;rintro r w1 ⟨rfl,hb1⟩;obtain ⟨_,_,_,_,hA1,_⟩:=wz w hb1;obtain ⟨_,_⟩:=zf hb1 (w.heap.size+1);clear hb1)
 exact bodyPost_ret (by simp only [results,Tryz.results16];go_simp) rfl ⟨rfl,bgo⟩
variable (hb:b=2)
include hb
theorem on_q (hc:(c==3)=true)(Q:Nat)(F E:Int)
  (c2:∀ W,Tab W->CB 41 #[.int .i64 n,A4 B,.bool g] W (.tuple #[A4 Q,.int .i64 F,.int .i64 E])) :
  CB 16 #[.int .i64 n,A4 B,.bool up] w (.tuple #[A4 Q,.int .i64 F,.int .i64 E]):=by
 subst hb
 have hsm:=cell_set_map
 go_enter Tryz.func16,Tryz.ntmps16
 go_wp2_with (first
  | (go_at_call 40;refine (c1 _ (hT.go bgo)).mono ?_;rintro r w1 ⟨rfl,hb1⟩;obtain ⟨_,_,_,_,hA1,_⟩:=wz w hb1;obtain ⟨_,_⟩:=zf hb1 (w.heap.size+1);clear hb1)
  | (go_at_call 41;refine (c2 _ (hT.go bgo)).mono ?_;rintro r w2 ⟨rfl,hb2⟩;obtain ⟨_,_,_,_,hA2,_⟩:=wz w hb2;obtain ⟨_,_⟩:=zf hb2 (w.heap.size+1);obtain ⟨_,_⟩:=zf hb2 w1.heap.size;clear hb2))
 exact bodyPost_ret (by simp only [results,Tryz.results16];go_simp) rfl ⟨rfl,bgo⟩
variable (hc:(c==3)=false)
include hc
theorem on_0 (V:Nat)
  (c2:∀ W,CB 31 #[OV c s g x k 2] W (.bool true))
  (c3:∀ W,Tab W->CB 42 #[.int .i64 n,.bool (!up)] W (A4 V)) :
  CB 16 #[.int .i64 n,A4 B,.bool up] w (.tuple #[A4 V,.int .i64 0,.int .i64 0]):=by
 subst hb
 have hsm:=cell_set_map
 go_enter Tryz.func16,Tryz.ntmps16
 go_wp2_with (first
  | (go_at_call 40;refine (c1 _ (hT.go bgo)).mono ?_;rintro r w1 ⟨rfl,hb1⟩;obtain ⟨_,_,_,_,hA1,_⟩:=wz w hb1;obtain ⟨_,_⟩:=zf hb1 (w.heap.size+1);clear hb1)
  | (go_at_call 31;refine (c2 _).mono ?_;rintro r w2 ⟨rfl,hb2⟩;obtain ⟨_,_,_,_,hA2,_⟩:=wz w hb2;obtain ⟨_,_⟩:=zf hb2 (w.heap.size+1);obtain ⟨_,_⟩:=zf hb2 w1.heap.size;clear hb2)
  | (go_at_call 42;refine (c3 _ (hT.go bgo)).mono ?_;rintro r w3 ⟨rfl,hb3⟩;obtain ⟨_,_,_,_,hA3,_⟩:=wz w hb3;obtain ⟨_,_⟩:=zf hb3 (w.heap.size+1);obtain ⟨_,_⟩:=zf hb3 w1.heap.size;clear hb3))
 exact bodyPost_ret (by simp only [results,Tryz.results16];go_simp) rfl ⟨rfl,bgo⟩
theorem on_s (V:Nat)
  (c2:∀ W,CB 31 #[OV c s g x k 2] W (.bool false))
  (c3:∀ W,CB 43 #[A4 B,OV c s g x k 2,.bool up] W (A4 V)) :
  CB 16 #[.int .i64 n,A4 B,.bool up] w (.tuple #[A4 V,.int .i64 0,.int .i64 0]):=by
 subst hb
 have hsm:=cell_set_map
 go_enter Tryz.func16,Tryz.ntmps16
 go_wp2_with (first
  | (go_at_call 40;refine (c1 _ (hT.go bgo)).mono ?_;rintro r w1 ⟨rfl,hb1⟩;obtain ⟨_,_,_,_,hA1,_⟩:=wz w hb1;obtain ⟨_,_⟩:=zf hb1 (w.heap.size+1);clear hb1)
  | (go_at_call 31;refine (c2 _).mono ?_;rintro r w2 ⟨rfl,hb2⟩;obtain ⟨_,_,_,_,hA2,_⟩:=wz w hb2;obtain ⟨_,_⟩:=zf hb2 (w.heap.size+1);obtain ⟨_,_⟩:=zf hb2 w1.heap.size;clear hb2)
  | (go_at_call 43;refine (c3 _).mono ?_;rintro r w3 ⟨rfl,hb3⟩;obtain ⟨_,_,_,_,hA3,_⟩:=wz w hb3;obtain ⟨_,_⟩:=zf hb3 (w.heap.size+1);obtain ⟨_,_⟩:=zf hb3 w1.heap.size;clear hb3))
 exact bodyPost_ret (by simp only [results,Tryz.results16];go_simp) rfl ⟨rfl,bgo⟩
end
end
def sg (n:Int)(B:Nat):Int:=smP n (unD n B)
section
attribute [local irreducible] W4 Nt Nz NT
theorem mE_fits (n:Int)(B:Nat):mE n B=0↔okN n/\B<2^(widthN n).toNat:=by
 unfold mE
 by_cases hb:binN n
 ·rw [if_pos hb,fit_good hb B]
  unfold unE
  split<;>simp [*]
 ·rw [if_neg hb]
  by_cases hd:decN n
  ·obtain ⟨h1,_,_,hw,_⟩:=dec_fields hd
   have e:goodD n B↔okN n/\B<2^(widthN n).toNat:=by
    rw [hw,Int.toNat_natCast]
    exact ⟨fun q=>⟨h1,q.2⟩,fun q=>⟨hd,q.2⟩⟩
   rw [← e]
   unfold vUE
   by_cases q:goodD n B
   ·rw [if_pos q];exact ⟨fun _=>q,fun _=>rfl⟩
   ·rw [if_neg q];exact ⟨fun h=>absurd h (by decide),fun h=>absurd h q⟩
  ·have e:¬ okN n:=fun h=>by unfold okN at h;unfold binN at hb;unfold decN at hd;omega
   have e2:¬ goodD n B:=fun h=>hd h.1
   unfold vUE
   rw [if_neg e2]
   exact ⟨fun h=>absurd h (by decide),fun h=>absurd h.1 e⟩
theorem pos_of {n:Int}{B:Nat}(hg:goodN n B)(h0:¬ nghtD (unD n B))(h3:(unD n B).c≠3):1<=B:=by
 have hi:=und_is hg
 have hpk:=(back_un hg).2
 generalize unD n B=D at *
 obtain ⟨c,s,g,x,k⟩:=D
 rcases id hi with ⟨h1,h2,b1,b2,b3,b4⟩|⟨h1,h2,b1,b2⟩|⟨h1,_⟩
 ·dsimp only at h1 h2
  subst h1 h2
  have hk:k≠0:=fun q=>h0 ⟨rfl,q⟩
  rw [← hpk,pk_fin hg.1 hi]
  omega
 ·dsimp only at h1 h2 b1 b2
  subst h1 h2 b1 b2
  rw [← hpk,pk_inf hg.1]
  have:1<=tpN n:=by rcases bin_cases hg.1 with rfl|rfl|rfl|rfl|rfl|rfl<;>decide
  omega
 ·exact absurd h1 h3
theorem ord_nx (n:Int)(B:Nat)(up:Bool)(w:World)(hB:B<2^256)(hT:Tab w) :
  CB 16 #[.int .i64 n,A4 B,.bool up] w (.tuple #[A4 (nxV n B up),.int .i64 (nxF n B),.int .i64 (nxE n B)]):=by
 obtain ⟨c,s,g,x,k,b,e1,cU⟩:=unp_v n B w hT hB
 unfold nxE
 by_cases hm:mE n B=0
 ·rw [if_pos ((mE_fits n B).1 hm)]
  rw [e1 hm,hm] at cU
  by_cases hb:binN n
  ·have hg:goodN n B:=(fit_good hb B).1 ((mE_fits n B).1 hm)
   have eD:mD n B=unD n B:=if_pos hb
   have eX:mX n=2:=if_pos hb
   rw [if_pos hb]
   rw [eD,eX] at cU
   have hk:=unD_k n B
   by_cases h3:(unD n B).c=3
   ·have eV:nxV n B up=quV n B:=by unfold nxV;rw [if_pos hg,if_pos h3]
    have eF:nxF n B=if (unD n B).g then 1 else 0:=by
     unfold nxF
     cases (unD n B).g
     ·rw [if_neg (fun q=>by exact absurd q.2.2 (by decide))];rfl
     ·rw [if_pos ⟨hg,h3,rfl⟩];rfl
    rw [eV,eF]
    have cq:=fun W hW=>oq_l n B (unD n B).g (quV n B) (quE n B) W hW (fun W' h=>qu_any n B W' h hB)
    rw [(qu_self hg).2.1] at cq
    exact on_q n B up _ _ _ _ _ _ w hT cU rfl (by rw [h3];rfl) _ _ _ cq
   ·have eV:nxV n B up=nxP n B up:=by unfold nxV;rw [if_pos hg,if_neg h3]
    have eF:nxF n B=0:=if_neg (fun q=>h3 q.2.1)
    have h3':((unD n B).c==3)=false:=by simpa using h3
    have cN:=fun W=>ont_v (unD n B).c (unD n B).x 2 (unD n B).s (unD n B).g (unD n B).k hk W
    rw [eV,eF]
    unfold nxP
    by_cases h0:nghtD (unD n B)
    ·rw [if_pos (show (unD n B).c=1/\(unD n B).k=0 from h0)]
     have d1:decide ((unD n B).c=1/\(unD n B).k=0)=true:=decide_eq_true h0
     rw [d1] at cN
     have c4:=fun W hW=>ofv_any n W hW
     rw [← nx_zero hb (!up)]
     exact on_0 n B up _ _ _ _ _ _ w hT cU rfl h3' _ cN (fun W hW=>osm_l n (!up) _ _ _ _ _ _ _ _ _ _ _ _ _ W hW c4 (fun W' h=>pack_any n ⟨1,!up,false,leastN n,1⟩ W' h (show (1:Nat)<2^256 by decide)))
    ·rw [if_neg (show ¬ ((unD n B).c=1/\(unD n B).k=0) from h0)]
     have d1:decide ((unD n B).c=1/\(unD n B).k=0)=false:=decide_eq_false h0
     rw [d1] at cN
     have hpos:=pos_of hg h0 h3
     have cO:=fun W=>of4 1 W (by decide)
     have cS:=fun W=>sub4 B 1 W hB (by decide)
     rw [A4_sub hpos] at cS
     have cA:=fun W=>add4 B 1 W hB (by decide)
     refine on_s n B up _ _ _ _ _ _ w hT cU rfl h3' _ cN (fun W=>?_)
     generalize (unD n B).c=c at *
     generalize (unD n B).s=s at *
     by_cases hs:s=up
     ·rw [if_pos hs]
      subst hs
      cases s
      ·exact st_ff B c _ _ _ _ W cO _ _ cS
      ·exact st_tt B c _ _ _ _ W cO _ _ cS
     ·rw [if_neg hs]
      by_cases hc:c=2
      ·rw [if_pos hc]
       have hc':(c==2)=true:=by rw [hc];rfl
       revert hs
       cases s<;>cases up<;>intro hs
       ·exact absurd rfl hs
       ·exact st_ft2 B c _ _ _ _ W cO hc'
       ·exact st_tf2 B c _ _ _ _ W cO hc'
       ·exact absurd rfl hs
      ·rw [if_neg hc]
       have hc':(c==2)=false:=by simpa using hc
       revert hs
       cases s<;>cases up<;>intro hs
       ·exact absurd rfl hs
       ·exact st_ft B c _ _ _ _ W cO _ _ hc' cA
       ·exact st_tf B c _ _ _ _ W cO _ _ hc' cA
       ·exact absurd rfl hs
  ·have hg:¬ goodN n B:=fun h=>hb h.1
   have eX:mX n=10:=if_neg hb
   have eV:nxV n B up=0:=if_neg hg
   have eF:nxF n B=0:=if_neg (fun q=>hg q.1)
   rw [if_neg hb,eV,eF]
   rw [eX] at cU
   exact on_d n B up _ _ _ _ _ _ w hT cU rfl
 ·have hn:¬ (okN n/\B<2^(widthN n).toNat):=fun h=>hm ((mE_fits n B).2 h)
  have hg:¬ goodN n B:=fun h=>hn ((fit_good h.1 B).2 h)
  have eV:nxV n B up=0:=if_neg hg
  have eF:nxF n B=0:=if_neg (fun q=>hg q.1)
  rw [if_neg hn,eV,eF]
  rw [(mE_or n B).resolve_left hm] at cU
  exact on_e n B up _ _ _ _ _ _ w hT cU
theorem ordN:OrdN Tab:=⟨fun n B up W hB hT=>ord_nx n B up W hB hT⟩
end
theorem om_shape {n:Int}{B:Nat}(hg:goodN n B)(h1:(unD n B).c=1)(h2:(unD n B).s=false) :
  ∃ x k,unD n B=⟨1,false,false,x,k⟩/\isD (fN n) (leastN n) (mostN n) ⟨1,false,false,x,k⟩/\(x-leastN n).toNat*2^fN n+k=B/\k<2^256/\-20000<=x/\x<=20000/\(k=0->B=0):=by
 have hi:=und_is hg
 have hp:=(back_un hg).2
 have hb:=hg.1
 have hl:-16990<=leastN n/\mostN n<=16990/\fN n<=250:=by rcases bin_cases hb with rfl|rfl|rfl|rfl|rfl|rfl<;>decide
 generalize unD n B=D at *
 obtain ⟨c,s,g,x,k⟩:=D
 dsimp only at h1 h2
 subst h1 h2
 rcases id hi with ⟨q1,q2,q3,q4,q5,q6⟩|⟨q,_⟩|⟨q,_⟩
 ·dsimp only at q2 q3 q4 q5 q6
  subst q2
  have hm:=pk_fin hb hi
  rw [hp,show sgN n false=0 from rfl,Nat.add_zero] at hm
  have hk2:k<2^256:=Nat.lt_of_lt_of_le q3 (Nat.pow_le_pow_right (by decide) (by omega))
  refine ⟨x,k,rfl,hi,hm.symm,hk2,by omega,by omega,fun h0=>?_⟩
  have:=Nat.two_pow_pos (fN n)
  rcases q6 with q6|q6
  ·omega
  ·rw [hm,q6,h0,Int.sub_self];simp
 ·exact absurd (show (1:Int)=2 from q) (by decide)
 ·exact absurd (show (1:Int)=3 from q) (by decide)
theorem mid_T {n:Int}(hb:binN n){x:Int}{k:Nat}(h:isD (fN n) (leastN n) (mostN n) ⟨1,false,false,x,k⟩)(hx:x≠mostN n):(x-leastN n).toNat*2^fN n+k+1<tpN n:=by
 obtain ⟨t1,t2,t3⟩:=top_is hb
 have hp0:=Nat.two_pow_pos (fN n)
 have hp:(2:Nat)^(fN n+1)=2^fN n+2^fN n:=by rw [Nat.pow_succ];omega
 rcases h with ⟨_,_,hk1,hx1,hx2,hx3⟩|⟨hc,_⟩|⟨hc,_⟩
 ·dsimp only at hk1 hx1 hx2 hx3
  rw [t1]
  have h3:((x-leastN n).toNat+1)*2^fN n<=(mostN n-leastN n).toNat*2^fN n:=Nat.mul_le_mul_right _ (by omega)
  rw [Nat.add_mul] at h3
  omega
 ·exact absurd (show (1:Int)=2 from hc) (by decide)
 ·exact absurd (show (1:Int)=3 from hc) (by decide)
theorem mid_rd {n d:Int}(hb:binN n){x:Int}{k:Nat}(h:isD (fN n) (leastN n) (mostN n) ⟨1,false,false,x,k⟩)(hT:(x-leastN n).toNat*2^fN n+k+1<tpN n) :
  (rdV n d false (2*k+1) 1 (x-1)=(x-leastN n).toNat*2^fN n+k∨rdV n d false (2*k+1) 1 (x-1)=(x-leastN n).toNat*2^fN n+k+1)/\(rdF n d false (2*k+1) 1 (x-1)=8∨rdF n d false (2*k+1) 1 (x-1)=12)/\(d=0->rdV n d false (2*k+1) 1 (x-1)=(x-leastN n).toNat*2^fN n+k+k%2):=by
 have hp0:=Nat.two_pow_pos (fN n)
 have hp:(2:Nat)^(fN n+1)=2^fN n+2^fN n:=by rw [Nat.pow_succ];omega
 rcases h with ⟨_,_,hk1,hx1,hx2,hx3⟩|⟨hc,_⟩|⟨hc,_⟩
 ·dsimp only at hk1 hx1 hx2 hx3
  have hM:2*k+1≠0:=by omega
  have hL:=ld_mul (b:=1) hM (by decide)
  rw [Nat.mul_one] at hL
  obtain ⟨k1,k2,k3⟩:=bl_bd hM
  have hbl:bl (2*k+1)<=fN n+2:=bl_le.2 (by rw [show fN n+2=(fN n+1)+1 by omega,Nat.pow_succ];omega)
  have hX:rX n (2*k+1) 1 (x-1)=x-1:=by
   unfold rX wiZ;rw [hL];omega
  have hQ:rQ n (2*k+1) 1 (x-1)=x:=by
   unfold rQ;rw [hX,hL]
   rcases hx3 with h|h
   ·have:fN n+1<bl (2*k+1):=bl_ge.2 (by omega)
    omega
   ·omega
  have hq0:nrQ (2*k+1) 1 (x-1-x)=k/\nrR (2*k+1) 1 (x-1-x)=1:=by
   unfold nrQ nrR
   rw [show (x-1-x).toNat=0 by omega,show (-(x-1-x)).toNat=1 by omega]
   omega
  have hPP:rP n d false (2*k+1) 1 (x-1)=(x-leastN n).toNat*2^fN n+k+if nrF d false (2*k+1) 1 (x-1-x) then 1 else 0:=by
   rw [rP_eq];unfold rB;rw [hX,hQ,hq0.1]
  have hno:¬ tpN n<=rP n d false (2*k+1) 1 (x-1):=by
   rw [hPP]
   split<;>omega
  rw [r_pat d false (x-1) hb hM (by decide),r_flag d false (x-1) hb hM (by decide)]
  unfold capV
  rw [if_neg hno,if_neg hno,hX,hQ,hq0.2,if_neg (by decide),hPP,show sgN n false=0 from rfl,Nat.add_zero]
  refine ⟨?_,?_,fun h0=>?_⟩
  ·split
   ·right;rfl
   ·left;rfl
  ·split
   ·right;rfl
   ·left;rfl
  ·subst h0
   have hF:nrF 0 false (2*k+1) 1 (x-1-x)=decide (k%2=1):=by
    unfold nrF faB
    rw [hq0.1,hq0.2,show (-(x-1-x)).toNat=1 by omega]
    rw [if_neg (by decide),if_pos rfl]
    simp
   rw [hF]
   by_cases hk2:k%2=1
   ·rw [decide_eq_true hk2,hk2];rfl
   ·rw [decide_eq_false hk2,show k%2=0 by omega];rfl
 ·exact absurd (show (1:Int)=2 from hc) (by decide)
 ·exact absurd (show (1:Int)=3 from hc) (by decide)
theorem mid_next {n:Int}(hb:binN n){x:Int}{k:Nat}(h:isD (fN n) (leastN n) (mostN n) ⟨1,false,false,x,k⟩)(hT:(x-leastN n).toNat*2^fN n+k+1<tpN n) :
  ∃ x' k',isD (fN n) (leastN n) (mostN n) ⟨1,false,false,x',k'⟩/\k'≠0/\((x'=x/\k'=k+1)∨(x'=x+1/\2*k'=k+1))/\goodN n ((x-leastN n).toNat*2^fN n+k+1)/\unD n ((x-leastN n).toNat*2^fN n+k+1)=⟨1,false,false,x',k'⟩:=by
 obtain ⟨t1,t2,t3⟩:=top_is hb
 have hp0:=Nat.two_pow_pos (fN n)
 have hp:(2:Nat)^(fN n+1)=2^fN n+2^fN n:=by rw [Nat.pow_succ];omega
 rcases h with ⟨_,_,hk1,hx1,hx2,hx3⟩|⟨hc,_⟩|⟨hc,_⟩
 ·dsimp only at hk1 hx1 hx2 hx3
  by_cases hf:k+1<2^(fN n+1)
  ·have hi:isD (fN n) (leastN n) (mostN n) ⟨1,false,false,x,k+1⟩:=Or.inl ⟨rfl,rfl,hf,hx1,hx2,by dsimp only;omega⟩
   obtain ⟨g1,g2⟩:=pk_good hb hi
   rw [pk_fin hb hi,show sgN n false=0 from rfl,Nat.add_zero,← Nat.add_assoc] at g1 g2
   exact ⟨x,k+1,hi,by omega,Or.inl ⟨rfl,rfl⟩,g1,g2⟩
  ·have hxm:x≠mostN n:=by
    intro e
    rw [t1,e] at hT
    omega
   have hi:isD (fN n) (leastN n) (mostN n) ⟨1,false,false,x+1,2^fN n⟩:=Or.inl ⟨rfl,rfl,by dsimp only;omega,by dsimp only;omega,by dsimp only;omega,Or.inl (Nat.le_refl _)⟩
   obtain ⟨g1,g2⟩:=pk_good hb hi
   have e:(x+1-leastN n).toNat*2^fN n+2^fN n=(x-leastN n).toNat*2^fN n+k+1:=by
    rw [show (x+1-leastN n).toNat=(x-leastN n).toNat+1 by omega,Nat.add_mul];omega
   rw [pk_fin hb hi,show sgN n false=0 from rfl,Nat.add_zero,e] at g1 g2
   exact ⟨x+1,2^fN n,hi,by omega,Or.inr ⟨rfl,by omega⟩,g1,g2⟩
 ·exact absurd (show (1:Int)=2 from hc) (by decide)
 ·exact absurd (show (1:Int)=3 from hc) (by decide)
theorem mid_cmp {x e:Int}{k M:Nat}(he:e<=0)(hx:e<=x)(hk:k≠0)(hM:M≠0) :
  oV ⟨1,false,false,x,k⟩ 2 ⟨1,false,false,e,M*5^(-e).toNat⟩ 10=sgn ((k*2^(x-e).toNat:Nat):Int) (M:Int):=by
 have hm:M*5^(-e).toNat≠0:=Nat.mul_ne_zero hM (Nat.pos_iff_ne_zero.1 (Nat.pow_pos (by decide)))
 have s1:oS ⟨1,false,false,x,k⟩=1:=by unfold oS;rw [if_neg (fun q=>hk q.2)];rfl
 have s2:oS ⟨1,false,false,e,M*5^(-e).toNat⟩=1:=by unfold oS;rw [if_neg (fun q=>hm q.2)];rfl
 rw [oV_c (by rw [s1,s2]) (by rw [s1];decide) (by dsimp only;omega),s1,Int.one_mul]
 unfold oN oD
 dsimp only
 rw [show e.toNat=0 by omega,Nat.pow_zero,Nat.mul_one,Nat.one_mul,Nat.one_mul]
 have e1:k*2^x.toNat*10^(-e).toNat=k*2^(x-e).toNat*(5^(-e).toNat*2^(-x).toNat):=by
  rw [show (10:Nat)=2*5 from rfl,Nat.mul_pow]
  have:(2:Nat)^x.toNat*2^(-e).toNat=2^(x-e).toNat*2^(-x).toNat:=by
   rw [← Nat.pow_add,← Nat.pow_add,show x.toNat+(-e).toNat=(x-e).toNat+(-x).toNat by omega]
  calc k*2^x.toNat*(2^(-e).toNat*5^(-e).toNat)=k*(2^x.toNat*2^(-e).toNat)*5^(-e).toNat:=by ac_rfl
   _=k*(2^(x-e).toNat*2^(-x).toNat)*5^(-e).toNat:=by rw [this]
   _=_:=by ac_rfl
 have e2:M*5^(-e).toNat*2^(-x).toNat=M*(5^(-e).toNat*2^(-x).toNat):=by ac_rfl
 rw [e1,e2]
 exact sgn_nat _ (Nat.mul_pos (Nat.pow_pos (by decide)) (Nat.two_pow_pos _))
theorem mid_lo {x:Int}{k:Nat}(hx:x-1<=0):oV ⟨1,false,false,x,k⟩ 2 ⟨1,false,false,x-1,(2*k+1)*5^(-(x-1)).toNat⟩ 10=-1:=by
 by_cases hk:k=0
 ·subst hk
  have s1:oS ⟨1,false,false,x,0⟩=0:=rfl
  have s2:oS ⟨1,false,false,x-1,(2*0+1)*5^(-(x-1)).toNat⟩=1:=by
   unfold oS;rw [if_neg (fun q=>(Nat.mul_ne_zero (by decide) (Nat.pos_iff_ne_zero.1 (Nat.pow_pos (by decide)))) q.2)];rfl
  rw [oV_a (Or.inr s1),s1,s2];rfl
 ·rw [mid_cmp hx (by omega) hk (by omega),show (x-(x-1)).toNat=1 by omega]
  unfold sgn
  rw [if_pos (by omega)]
theorem mid_hi {x x':Int}{k k':Nat}(hx:x-1<=0)(h0:k'≠0)(h:(x'=x/\k'=k+1)∨(x'=x+1/\2*k'=k+1)):oV ⟨1,false,false,x',k'⟩ 2 ⟨1,false,false,x-1,(2*k+1)*5^(-(x-1)).toNat⟩ 10=1:=by
 rcases h with ⟨rfl,hk⟩|⟨rfl,hk⟩
 ·rw [mid_cmp hx (by omega) h0 (by omega),show (x'-(x'-1)).toNat=1 by omega]
  unfold sgn
  rw [if_neg (by omega),if_pos (by omega)]
 ·rw [mid_cmp hx (by omega) h0 (by omega),show (x+1-(x-1)).toNat=2 by omega]
  unfold sgn
  rw [if_neg (by omega),if_pos (by omega)]
theorem mid_dec (n d:Int)(M:Nat){e:Int}(he:e<=0):rdV n d false (tN (M*5^(-e).toNat) e) (tD e) e=rdV n d false M 1 e/\rdF n d false (tN (M*5^(-e).toNat) e) (tD e) e=rdF n d false M 1 e:=by
 have e1:tN (M*5^(-e).toNat) e=M*5^(-e).toNat:=by unfold tN;rw [show e.toNat=0 by omega,Nat.pow_zero,Nat.mul_one]
 have e2:tD e=1*5^(-e).toNat:=by unfold tD;rw [Nat.one_mul]
 rw [e1,e2]
 exact rd_sc n d false M (by decide) (Nat.pow_pos (by decide)) e
section
structure CrnC (TT:World->Prop):Prop where
 next:∀ w w',TT w->Below w.heap.size w w'->TT w'
 cv:∀ m t d Bp W,Bp<2^256->TT W->CB 29 #[.int .i64 m,.int .i64 t,.int .i64 d,A4 Bp] W (.tuple #[A4 (xiV m t d Bp),.int .i64 (xiF m t d Bp),.int .i64 (xiE m t d Bp)])
attribute [local irreducible] W4
end
section
theorem om_left {k g:Nat}{w:World}(hk:k<2^256)(h:Nt 4 k (.slice (some ⟨g,4,none⟩) 4 4) w) :
  CE 22 #[.slice (some ⟨g,4,none⟩) 4 4,.int .i64 1] w (NV 5 (2*k)):=by
 obtain ⟨a,kk,c,z,e,hk',hN,hz⟩:=h
 cases e
 refine (fleft_val g 4 4 4 1 z w (by omega) (by omega) (by omega) hN).mono fun e w' ⟨g3,k3,cap3,z3,e1,hk3,hN3,hv3,hB,hf,ht⟩=>⟨_,e1,⟨g3,k3,cap3,z3,rfl,by simp at hk3;omega,hN3,?_⟩,hB⟩
 rw [hv3,hz]
 simp
 omega
theorem om_add {X:Nat}{v v':Value}{w:World}(h:NV 5 X v w)(h':NT 900 1 v' w) :
  CE 21 #[v,v'] w (NV 1000 (X+1)) :=
 (radd_nv (by decide) (by decide) h h'.nv).mono fun e w' ⟨r,e1,e2,e3⟩=>⟨r,e1,e2.more (by decide),e3⟩
theorem om_five {W:World}{g:Nat}(hg:g=W.heap.size):NT 1 5 (.slice (some ⟨g,0,none⟩) 1 1) (W.alloc (.cells #[.int .u64 5] 22)) :=
 nt_un1 hg rfl (by decide) (by decide)
theorem om_times {X:Nat}{v v':Value}{w:World}(h:NV 1000 X v w)(h':NT 1 5 v' w)(hb:bl X<113) :
  CE 24 #[v,v'] w (NV 1000 (X*5)):=by
 have:=bl_mul X 5
 have h5:bl 5=3:=by decide
 exact (rtimes_nt (by decide) (by decide) h h'.nv).mono fun e w' ⟨r,e1,e2,e3⟩=>⟨r,e1,(NT.fitU (K':=1000) e2 (by omega)).nv,e3⟩
theorem om_pow (w:World):CE 26 #[.int .u64 10,.int .i64 34] w (NT 138 (10^34)) :=
 rpow_ntw 10 34 w (by decide) (by decide) (by decide)
section
attribute [local irreducible] W4 NV NT Nt
variable (TT:World->Prop)(hTT:∀ w w',TT w->Below w.heap.size w w'->TT w')(w:World)(hT:TT w)
 (c8:∀ W,TT W->CB 8 #[] W (.bool true))
variable (n d:Int)(B:Nat)
include hTT hT c8
theorem om20_n (c10:∀ W,CQ 19 #[.int .i64 d] W (.bool false)) :
  CB 7 #[.int .i64 n,.int .i64 d,A4 B] w (.bool true):=by
 have hsm:=cell_set_map
 unfold A4
 go_enter Tryz.func7,Tryz.ntmps7
 go_wp2_with (first
  | (have:=hA1;have:=hAD;go_at_call 8;refine (c8 _ (hTT _ _ hT bgo)).mono ?_;rintro r w9 ⟨rfl,hb9⟩;obtain ⟨_,_,_,_,hA9,hs9⟩:=wz w hb9;clear hb9)
  | (go_at_call 8;refine (c8 _ (hTT _ _ hT bgo)).mono ?_;rintro r w1 ⟨rfl,hb1⟩;obtain ⟨_,_,_,_,hA1,_⟩:=wz w hb1;clear hb1)
  | (go_at_call 19;refine (c10 _).mono ?_;rintro r wD ⟨rfl,rfl⟩;have hAD:=hA1))
 go_ret
 exact ⟨by first|rfl|simp,bgo⟩
variable (c10:∀ W,CQ 19 #[.int .i64 d] W (.bool true))(c x E5 Ei:Int)(s g:Bool)(k:Nat)(nm:ByteArray)(nu bs wd pr ex le mo pa:Int)(dn:Bool)
 (c26:∀ W,CB 20 #[.int .i64 n] W (.tuple #[.agg #[.int .i64 nu,.string nm,.int .i64 bs,.int .i64 wd,.int .i64 pr,.int .i64 ex,.int .i64 le,.int .i64 mo,.int .i64 pa,.bool dn],.int .i64 Ei]))
include c10 c26
theorem om20_e (h:(E5 != 0)=true∨((E5 != 0)=false/\((c != 1)=true∨((c != 1)=false/\(s=true∨(s=false/\x=mo))))))
  (c25:∀ W,CB 18 #[.int .i64 n,A4 B] W (.tuple #[DV c s g x k,.int .i64 E5])) :
  CB 7 #[.int .i64 n,.int .i64 d,A4 B] w (.bool true):=by
 have hsm:=cell_set_map
 unfold A4 DV at *
 rcases h with h1|⟨h1,h2|⟨h2,rfl|⟨rfl,rfl⟩⟩⟩
 all_goals (
  go_enter Tryz.func7,Tryz.ntmps7
  go_wp2_with (first
   | (go_at_call 8;refine (c8 _ (hTT _ _ hT bgo)).mono ?_;rintro r w1 ⟨rfl,hb1⟩;obtain ⟨_,_,_,_,hA1,_⟩:=wz w hb1;clear hb1)
   | (go_at_call 19;refine (c10 _).mono ?_;rintro r wD ⟨rfl,rfl⟩)
   | (go_at_call 18;refine (c25 _).mono ?_;rintro r w2 ⟨rfl,hb2⟩;obtain ⟨_,_,_,_,hA2,_⟩:=wz w hb2;clear hb2)
   | (go_at_call 20;refine (c26 _).mono ?_;rintro r w3 ⟨rfl,hb3⟩;obtain ⟨_,_,_,_,hA3,_⟩:=wz w hb3;obtain ⟨_,_⟩:=zf hb3 w2.heap.size;clear hb3))
  go_ret
  exact ⟨by first|rfl|simp,bgo⟩)
theorem om20_y (hk:k<2^256)(hx:-20000<=x/\x<=20000)(hmo:x≠mo)(hc:c=1)(hs:s=false)(h5:E5=0)(U P Y:Nat)(F1 E1 E F:Int)(o1 o2:Bool)(e1 e2:Int)(T:Nat)(c33:∀ W,CE 26 #[.int .u64 10,.int .i64 34] W (NT 138 T))(hU:U<2^256)(hB:B<2^256)
  (c25:∀ W,CB 18 #[.int .i64 n,A4 B] W (.tuple #[DV c s g x k,.int .i64 E5]))
  (c27:∀ W,TT W->CB 16 #[.int .i64 n,A4 B,.bool true] W (.tuple #[A4 U,.int .i64 F1,.int .i64 E1]))
  (cP:x-1<=0->(2*k+1)*5^(-(x-1)).toNat<T->∀ W,CB 27 #[.int .i64 12,DV 1 false false (x-1) ((2*k+1)*5^(-(x-1)).toNat)] W (.tuple #[A4 P,.int .i64 E]))
  (hfin:x-1<=0->(2*k+1)*5^(-(x-1)).toNat<T->E=0->(Y=B∨Y=U)/\(F=8∨F=12) /\
   (∀ W,TT W->CB 29 #[.int .i64 12,.int .i64 n,.int .i64 d,A4 P] W (.tuple #[A4 Y,.int .i64 F,.int .i64 0])) /\
   (∀ W,TT W->CB 9 #[.int .i64 n,A4 B,.int .i64 12,A4 P] W (.tuple #[.int .i64 (-1),.bool o1,.int .i64 e1])) /\
   (∀ W,TT W->CB 9 #[.int .i64 n,A4 U,.int .i64 12,A4 P] W (.tuple #[.int .i64 1,.bool o2,.int .i64 e2]))) :
  CB 7 #[.int .i64 n,.int .i64 d,A4 B] w (.bool true):=by
 subst hc hs h5
 have hsm:=cell_set_map
 have hmo1:(x==mo)=false:=by simpa using hmo
 unfold A4 DV at c25
 unfold A4 at c27 ⊢
 go_enter Tryz.func7,Tryz.ntmps7
 go_wp2_with (first
  | (go_at_call 8;refine (c8 _ (hTT _ _ hT bgo)).mono ?_;rintro r w1 ⟨rfl,hb1⟩;obtain ⟨_,_,_,_,hA1,_⟩:=wz w hb1;clear hb1)
  | (go_at_call 19;refine (c10 _).mono ?_;rintro r wD ⟨rfl,rfl⟩)
  | (go_at_call 18;refine (c25 _).mono ?_;rintro r w2 ⟨rfl,hb2⟩;have hbx:=fun W hW=>dat_box (w0:=w2) (w:=W) (c:=1) (s:=false) (g:=g) (x:=x) (t:=34) hk hW;obtain ⟨_,_,_,_,hA2,_⟩:=wz w hb2;clear hb2)
  | (go_at_call 20;refine (c26 _).mono ?_;rintro r w3 ⟨rfl,hb3⟩;have hv3:=hbx _ hb3;obtain ⟨_,_,_,_,hA3,_⟩:=wz w hb3;obtain ⟨_,_⟩:=zf hb3 w2.heap.size;clear hb3)
  | (go_at_call 16;refine (c27 _ (hTT _ _ hT bgo)).mono ?_;rintro r w4 ⟨rfl,hb4⟩;have hv4:=hv3.next (bnx (below1 _ _) hb4);obtain ⟨_,_,_,_,hA4,_⟩:=wz w hb4;obtain ⟨_,_⟩:=zf hb4 w2.heap.size;obtain ⟨_,_⟩:=zf hb4 w3.heap.size;clear hb4)
  | (go_at_call 22;refine (om_left hk (hv4.next (below1 _ _))).mono ?_;rintro r w5 ⟨v5,rfl,hv5,hb5⟩;obtain ⟨_,_,_,_,hA5,_⟩:=wz w hb5;obtain ⟨_,_⟩:=zf hb5 w2.heap.size;obtain ⟨_,_⟩:=zf hb5 w3.heap.size;obtain ⟨_,_⟩:=zf hb5 w4.heap.size;clear hb5)
  | (go_at_call 21;refine (om_add (hv5.next (below1 _ _)) (nt_oneB rfl)).mono ?_;rintro r w6 ⟨v6,rfl,hv6,hb6⟩;obtain ⟨_,_,_,_,hA6,_⟩:=wz w hb6;obtain ⟨_,_⟩:=zf hb6 w2.heap.size;obtain ⟨_,_⟩:=zf hb6 w3.heap.size;obtain ⟨_,_⟩:=zf hb6 w4.heap.size;clear hb6))
 have qb0:w6.cell? ⟨w.heap.size,0,none⟩=some (.int .u64 (W4 B 0)):=by go_simp
 have qb1:w6.cell? ⟨w.heap.size,1,none⟩=some (.int .u64 (W4 B 1)):=by go_simp
 have qb2:w6.cell? ⟨w.heap.size,2,none⟩=some (.int .u64 (W4 B 2)):=by go_simp
 have qb3:w6.cell? ⟨w.heap.size,3,none⟩=some (.int .u64 (W4 B 3)):=by go_simp
 have qd3:w6.cell? ⟨w2.heap.size,3,none⟩=some (.int .i64 x):=by go_simp
 have qu0:w6.cell? ⟨w4.heap.size,0,none⟩=some (.int .u64 (W4 U 0)):=by go_simp
 have qu1:w6.cell? ⟨w4.heap.size,1,none⟩=some (.int .u64 (W4 U 1)):=by go_simp
 have qu2:w6.cell? ⟨w4.heap.size,2,none⟩=some (.int .u64 (W4 U 2)):=by go_simp
 have qu3:w6.cell? ⟨w4.heap.size,3,none⟩=some (.int .u64 (W4 U 3)):=by go_simp
 go_loopw [14,15] (fun t14 t15 wr=>∃ j:Nat,t15=.int .i64 (x-1+j)/\(j≠0->x-1+j<=0)/\NV 1000 ((2*k+1)*5^j) t14 wr/\Below w6.heap.size w6 wr) (fun _ t15 _=>(-(intOf t15)).toNat)
 case atStart=>exact ⟨0,by simp,fun h=>absurd rfl h,by simpa using hv6,Below.refl _ _⟩
 case round =>
  obtain ⟨j,rfl,hj,hvR,hbR⟩:=hrel
  generalize ha:x-1+(j:Int)=a at hj ⊢
  have hsR:=hbR.size
  have hAR:Below w.heap.size w wr:=hA6.trans (hbR.mono (by omega))
  have hab:-30000<=a/\a<=20000:=by
   by_cases hj0:j=0
   ·omega
   ·have:=hj hj0;omega
  generalize hM:(2*k+1)*5^j=m at *
  by_cases h1:a<0
  ·by_cases h2:bl m<113
   ·have h2':(bl m:Int)<113:=by omega
    go_wp2_with (first
     | (go_at_call 23;refine (rlen_nv (by decide) hvR).mono ?_;rintro r wL ⟨rfl,rfl⟩)
     | (go_at_call 24;refine (om_times (hvR.next (below1 _ _)) (om_five rfl) h2).mono ?_;rintro r w7 ⟨v7,rfl,hv7,hb7⟩;have hb7':=bnx (below1 _ _) hb7))
    go_roundw
    case rel=>exact ⟨j+1,by go_num,fun _=>by omega,by rw [Nat.pow_succ,← Nat.mul_assoc,hM];exact hv7,bnext hbR hb7'⟩
    case measure=>simp [intOf];omega
   ·have h2':¬ (bl m:Int)<113:=by omega
    have h0:(a != 0)=true:=by simp;omega
    have h3:¬ 0<a:=by omega
    go_wp2_with (first
     | (go_at_call 23;refine (rlen_nv (by decide) hvR).mono ?_;rintro r wL ⟨rfl,rfl⟩))
    go_ret
    exact ⟨by first|rfl|simp,hAR⟩
  ·by_cases h2:0<a
   ·have h0:(a != 0)=true:=by simp;omega
    go_wp2
    go_ret
    exact ⟨by first|rfl|simp,hAR⟩
   ·obtain rfl:a=0:=by omega
    have hJ:j=(-(x-1)).toNat:=by omega
    have hx1:x-1<=0:=by omega
    by_cases h3:m<T
    ·have hsg:¬ 0<=sgn ((m:Nat):Int) ((T:Nat):Int):=by
      unfold sgn
      rw [if_pos (by omega)];decide
     rw [← hJ,hM] at cP hfin
     go_upto_region 14 with (first
      | (go_at_call 26;refine (c33 _).mono ?_;rintro r w8 ⟨v8,rfl,hv8,hb8⟩)
      | (go_at_call 25;refine (rcmp_nv (by decide) (by decide) (hvR.next hb8) hv8.nv).mono ?_;rintro r wL ⟨rfl,rfl⟩)
      | fail)
     have hB8:Below w6.heap.size w6 w8:=bnext hbR hb8
     have hs8:=hb8.size
     refine regM14 (g7:=w2.heap.size) (m:=m) (P:=P) (x:=x) (E:=E) rfl (by omega) rfl rfl (by omega) ((hB8.cell (p:=⟨w2.heap.size,3,none⟩) (by omega)).trans qd3) (hvR.next hb8) (fun W h=>bits_nv h) (fun W=>cP hx1 h3 W) ?_
     intro a14 w9 gP e16 e17 hgP hBP hsz hdf hFr hb9
     have hB9:Below w6.heap.size w6 w9:=bnext hB8 hb9
     have hs9:=hb9.size
     have hA9:Below w.heap.size w w9:=bnext (bnext hAR hb8) hb9
     have ha:=act_of slotsAM14 13 rfl hsz hdf hFr
     rw [ha]
     simp only [slotsAM14,List.foldl_cons,List.foldl_nil,Act.put,List.setIfInBounds_toArray,List.set_cons_succ,List.set_cons_zero,e16,e17]
     generalize slot a14 108=s108
     generalize slot a14 109=s109
     generalize slot a14 110=s110
     generalize slot a14 111=s111
     generalize slot a14 112=s112
     generalize slot a14 113=s113
     generalize slot a14 114=s114
     generalize slot a14 107=s107
     generalize slot a14 115=s115
     generalize slot a14 116=s116
     generalize slot a14 46=s46
     clear ha e16 e17 hsz hdf hFr
     have kb0:w9.cell? ⟨w.heap.size,0,none⟩=some (.int .u64 (W4 B 0)):=(hB9.cell (p:=⟨w.heap.size,0,none⟩) (by omega)).trans qb0
     have kb1:w9.cell? ⟨w.heap.size,1,none⟩=some (.int .u64 (W4 B 1)):=(hB9.cell (p:=⟨w.heap.size,1,none⟩) (by omega)).trans qb1
     have kb2:w9.cell? ⟨w.heap.size,2,none⟩=some (.int .u64 (W4 B 2)):=(hB9.cell (p:=⟨w.heap.size,2,none⟩) (by omega)).trans qb2
     have kb3:w9.cell? ⟨w.heap.size,3,none⟩=some (.int .u64 (W4 B 3)):=(hB9.cell (p:=⟨w.heap.size,3,none⟩) (by omega)).trans qb3
     have ku0:w9.cell? ⟨w4.heap.size,0,none⟩=some (.int .u64 (W4 U 0)):=(hB9.cell (p:=⟨w4.heap.size,0,none⟩) (by omega)).trans qu0
     have ku1:w9.cell? ⟨w4.heap.size,1,none⟩=some (.int .u64 (W4 U 1)):=(hB9.cell (p:=⟨w4.heap.size,1,none⟩) (by omega)).trans qu1
     have ku2:w9.cell? ⟨w4.heap.size,2,none⟩=some (.int .u64 (W4 U 2)):=(hB9.cell (p:=⟨w4.heap.size,2,none⟩) (by omega)).trans qu2
     have ku3:w9.cell? ⟨w4.heap.size,3,none⟩=some (.int .u64 (W4 U 3)):=(hB9.cell (p:=⟨w4.heap.size,3,none⟩) (by omega)).trans qu3
     obtain ⟨lP,pc0,pc1,pc2,pc3,pf0,pf1,pf2,pf3⟩:=hBP
     have l0:w.heap.size<w9.heap.size:=by omega
     have l4:w4.heap.size<w9.heap.size:=by omega
     have h88:bits .and .i64 8 8=8:=by decide
     have h128:bits .and .i64 12 8=8:=by decide
     clear hB9 hB8 hb9 hb8 hbR cP c25 c26 c27 c33 qb0 qb1 qb2 qb3 qu0 qu1 qu2 qu3 qd3
     by_cases hE:E=0
     ·obtain ⟨hY,hF,cC,cM1,cM2⟩:=hfin hx1 h3 hE
      clear hfin
      subst hE
      have hYb:Y<2^256:=by rcases hY with q|q<;>rw [q]<;>assumption
      have e24:=eq24 (W4 Y 0) (W4 Y 1) (W4 Y 2) (W4 Y 3) (W4 B 0) (W4 B 1) (W4 B 2) (W4 B 3)
      rw [w4_dq hYb hB] at e24
      have u24:=eq24 (W4 Y 0) (W4 Y 1) (W4 Y 2) (W4 Y 3) (W4 U 0) (W4 U 1) (W4 U 2) (W4 U 3)
      rw [w4_dq hYb hU] at u24
      unfold A4 at cC cM1 cM2
      by_cases hYB:Y=B
      ·subst hYB
       rw [decide_eq_true rfl] at e24
       clear u24 hY
       rcases hF with rfl|rfl
       all_goals (
        go_wp2_with (first
        | (go_at_call 29;refine (cC _ (hTT _ _ hT bgo)).mono ?_;rintro r w10 ⟨rfl,hb10⟩;obtain ⟨_,_,_,_,hA10,_⟩:=wz w hb10;obtain ⟨_,_⟩:=zf hb10 w4.heap.size;obtain ⟨_,_⟩:=zf hb10 gP;clear hb10)
        | (have:=hA11;go_at_call 9;refine (cM2 _ (hTT _ _ hT bgo)).mono ?_;rintro r w12 ⟨rfl,hb12⟩;obtain ⟨_,_,_,_,hA12,_⟩:=wz w hb12;obtain ⟨_,_⟩:=zf hb12 w4.heap.size;obtain ⟨_,_⟩:=zf hb12 gP;obtain ⟨_,_⟩:=zf hb12 w10.heap.size;clear hb12)
        | (go_at_call 9;refine (cM1 _ (hTT _ _ hT bgo)).mono ?_;rintro r w11 ⟨rfl,hb11⟩;obtain ⟨_,_,_,_,hA11,_⟩:=wz w hb11;obtain ⟨_,_⟩:=zf hb11 w4.heap.size;obtain ⟨_,_⟩:=zf hb11 gP;obtain ⟨_,_⟩:=zf hb11 w10.heap.size;clear hb11))
        go_ret
        exact ⟨by first|rfl|simp,bgo⟩)
      ·rw [decide_eq_false hYB] at e24
       rw [decide_eq_true (hY.resolve_left hYB)] at u24
       rcases hF with rfl|rfl
       all_goals (
        go_wp2_with (first
        | (go_at_call 29;refine (cC _ (hTT _ _ hT bgo)).mono ?_;rintro r w10 ⟨rfl,hb10⟩;obtain ⟨_,_,_,_,hA10,_⟩:=wz w hb10;obtain ⟨_,_⟩:=zf hb10 w4.heap.size;obtain ⟨_,_⟩:=zf hb10 gP;clear hb10)
        | (have:=hA11;go_at_call 9;refine (cM2 _ (hTT _ _ hT bgo)).mono ?_;rintro r w12 ⟨rfl,hb12⟩;obtain ⟨_,_,_,_,hA12,_⟩:=wz w hb12;obtain ⟨_,_⟩:=zf hb12 w4.heap.size;obtain ⟨_,_⟩:=zf hb12 gP;obtain ⟨_,_⟩:=zf hb12 w10.heap.size;clear hb12)
        | (go_at_call 9;refine (cM1 _ (hTT _ _ hT bgo)).mono ?_;rintro r w11 ⟨rfl,hb11⟩;obtain ⟨_,_,_,_,hA11,_⟩:=wz w hb11;obtain ⟨_,_⟩:=zf hb11 w4.heap.size;obtain ⟨_,_⟩:=zf hb11 gP;obtain ⟨_,_⟩:=zf hb11 w10.heap.size;clear hb11))
        go_ret
        exact ⟨by first|rfl|simp,bgo⟩)
     ·have hE1:(E != 0)=true:=by simpa using hE
      clear hfin
      go_wp2
      go_ret
      exact ⟨by first|rfl|simp,bgo⟩
    ·have hsg:0<=sgn ((m:Nat):Int) ((T:Nat):Int):=by
      unfold sgn
      rw [if_neg (by omega)];split<;>decide
     go_wp2_with (first
      | (go_at_call 26;refine (c33 _).mono ?_;rintro r w8 ⟨v8,rfl,hv8,hb8⟩)
      | (go_at_call 25;refine (rcmp_nv (by decide) (by decide) (hvR.next hb8) hv8.nv).mono ?_;rintro r wL ⟨rfl,rfl⟩))
     go_ret
     exact ⟨by first|rfl|simp,bnx hAR (hb8.mono (by omega))⟩
end
attribute [local irreducible] W4 NV NT Nt
theorem om_fin {TT:World->Prop}(hM:OrdM TT)(hC:CrnC TT){n d:Int}{B:Nat}(hg:goodN n B)(hd:knB d)(hB:B<2^256){x:Int}{k:Nat}(hu:unD n B=⟨1,false,false,x,k⟩)
  (hi:isD (fN n) (leastN n) (mostN n) ⟨1,false,false,x,k⟩) (em:(x-leastN n).toNat*2^fN n+k=B) (hx:x≠mostN n) {P:Nat}
  (hx1:x-1<=0) (hI:vI (fD 12) ⟨1,false,false,x-1,(2*k+1)*5^(-(x-1)).toNat⟩) (hP:P=vP (fD 12) ⟨1,false,false,x-1,(2*k+1)*5^(-(x-1)).toNat⟩) :
  (xiV 12 n d P=B∨xiV 12 n d P=B+1)/\(xiF 12 n d P=8∨xiF 12 n d P=12)/\xiE 12 n d P=0/\oMc n B 12 P=-1/\oMc n (B+1) 12 P=1/\P<2^256/\B+1<2^256:=by
 have hb:=hg.1
 have hT':=mid_T hb hi hx
 obtain ⟨r1,r2,_⟩:=mid_rd (d:=d) hb hi hT'
 obtain ⟨x',k',n1,n2,n3,n4,n5⟩:=mid_next hb hi hT'
 rw [em] at r1 n4 n5
 have hgD:goodD 12 P:=by rw [hP];exact ⟨by decide,vP_lt (fD_ok 12) hI⟩
 have hv:vM (fD 12) P=⟨1,false,false,x-1,(2*k+1)*5^(-(x-1)).toNat⟩:=by rw [hP];exact vM_vP (fD_ok 12) hI
 have hG:xiG 12 n d P:=⟨hgD,hb,hd⟩
 obtain ⟨m1,m2⟩:=mid_dec n d (2*k+1) hx1
 have eV:xiV 12 n d P=rdV n d false (2*k+1) 1 (x-1):=by
  rw [show xiV 12 n d P=ciV n d (vM (fD 12) P) from if_pos hG,hv,← m1];rfl
 have eF:xiF 12 n d P=rdF n d false (2*k+1) 1 (x-1):=by
  rw [show xiF 12 n d P=ciF n d (vM (fD 12) P) from if_pos hG,hv,← m2];rfl
 have hnb:¬ binN 12:=by decide
 have dP:mD 12 P=⟨1,false,false,x-1,(2*k+1)*5^(-(x-1)).toNat⟩:=by
  unfold mD;rw [if_neg hnb];unfold vUD;rw [if_pos hgD,hv]
 have ePm:mE 12 P=0:=by unfold mE;rw [if_neg hnb];exact if_pos hgD
 have xP:mX 12=10:=if_neg hnb
 have key:∀ A x k,goodN n A->unD n A=⟨1,false,false,x,k⟩->oMc n A 12 P=oV ⟨1,false,false,x,k⟩ 2 (mD 12 P) 10:=by
  intro A x k ha he
  have e1:mE n A=0:=by unfold mE;rw [if_pos hb];exact if_pos ha
  have d1:mD n A=⟨1,false,false,x,k⟩:=by unfold mD;rw [if_pos hb,he]
  have x1:mX n=2:=if_pos hb
  unfold oMc
  rw [if_neg (by omega),if_neg (by rw [d1,dP];dsimp only;omega),d1,x1,xP]
 have hlt:∀ A,goodN n A->A<2^256:=by
  intro A ha
  have h1:fN n+eN n+1<=256:=by rcases bin_cases hb with rfl|rfl|rfl|rfl|rfl|rfl<;>decide
  exact Nat.lt_of_lt_of_le ha.2 (Nat.pow_le_pow_right (by decide) h1)
 refine ⟨by rw [eV];exact r1,by rw [eF];exact r2,if_pos hG,?_,?_,?_,hlt _ n4⟩
 ·rw [key B x k hg hu,dP];exact mid_lo hx1
 ·rw [key (B+1) x' k' n4 n5,dP];exact mid_hi hx1 n2 n3
 ·rw [hP];exact vP_256 (fD_ok 12) hI
theorem middle20_v {TT:World->Prop}(h:OrdC TT)(hM:OrdM TT)(hN:OrdN TT)(hC:CrnC TT)(n d:Int)(B:Nat)(w:World)(hT:TT w)(hB:B<2^256) :
  CB 7 #[.int .i64 n,.int .i64 d,A4 B] w (.bool true):=by
 have c8:=fun W hW=>awake20 h W hW
 have c10:=fun W=>rdir_any d W
 by_cases hd:knB d
 ·rw [decide_eq_true hd] at c10
  have c26:=fun W=>rofv_any n W
  have c25:=fun W=>runpack_any n B W hB
  by_cases hg:goodN n B
  ·rw [show unE n B=0 from if_pos hg] at c25
   by_cases h1:(unD n B).c=1
   ·by_cases h2:(unD n B).s=false
    ·obtain ⟨x,k,hu,hi,em,hk,hx1,hx2,hz⟩:=om_shape hg h1 h2
     rw [hu] at c25
     by_cases hx:x=mostN n
     ·exact om20_e TT h.next w hT c8 n d B c10 _ x _ _ false false k _ _ _ _ _ _ _ _ _ _ c26 (Or.inr ⟨rfl,Or.inr ⟨rfl,Or.inr ⟨rfl,hx⟩⟩⟩) c25
     ·have eU:nxV n B true=B+1:=by
       rw [show nxV n B true=nxP n B true from (if_pos hg).trans (if_neg (by rw [hu];show ¬ (1:Int)=3;decide))]
       unfold nxP
       rw [hu]
       dsimp only
       by_cases h0:k=0
       ·rw [if_pos ⟨rfl,h0⟩,hz h0];rfl
       ·rw [if_neg (fun q=>h0 q.2),if_neg (by decide),if_neg (by decide)]
      have c27:=fun W hW=>hN.nx n B true W hB hW
      rw [eU] at c27
      have hU2:B+1<2^256:=by
       have h1:fN n+eN n+1<=256:=by rcases bin_cases hg.1 with e|e|e|e|e|e<;>rw [e]<;>decide
       obtain ⟨x',k',n1,n2,n3,n4,n5⟩:=mid_next hg.1 hi (mid_T hg.1 hi hx)
       rw [em] at n4
       exact Nat.lt_of_lt_of_le n4.2 (Nat.pow_le_pow_right (by decide) h1)
      obtain ⟨P,hP⟩:∃ P,P=vPV 12 ⟨1,false,false,x-1,(2*k+1)*5^(-(x-1)).toNat⟩:=⟨_,rfl⟩
      refine om20_y TT h.next w hT c8 n d B c10 1 x 0 _ false false k _ _ _ _ _ _ _ _ _ _ c26 hk ⟨hx1,hx2⟩ hx rfl rfl rfl (B+1) P (xiV 12 n d P) _ _ (vPE 12 ⟨1,false,false,x-1,(2*k+1)*5^(-(x-1)).toNat⟩)
       (xiF 12 n d P) (oMo n B 12 P) (oMo n (B+1) 12 P) (oME n B 12 P) (oME n (B+1) 12 P) (10^34) (fun W=>om_pow W) hU2 hB c25 c27 (fun q1 q2 W=>?_) (fun q1 q2 q3=>?_)
      ·have q:=rpk14 12 ⟨1,false,false,x-1,(2*k+1)*5^(-(x-1)).toNat⟩ W (Nat.lt_trans q2 (by decide))
       rw [← hP] at q
       exact q
      ·have hI:vI (fD 12) ⟨1,false,false,x-1,(2*k+1)*5^(-(x-1)).toNat⟩:=by
        refine Classical.byContradiction fun hn=>?_
        unfold vPE at q3
        rw [if_pos (by decide),if_neg hn] at q3
        exact absurd q3 (by decide)
       have hP2:P=vP (fD 12) ⟨1,false,false,x-1,(2*k+1)*5^(-(x-1)).toNat⟩:=by
        rw [hP];exact if_pos ⟨by decide,hI⟩
       obtain ⟨f1,f2,f3,f4,f5,f6,f7⟩:=om_fin hM hC hg hd hB hu hi em hx q1 hI hP2
       refine ⟨f1,f2,fun W hW=>?_,fun W hW=>?_,fun W hW=>?_⟩
       ·have q:=hC.cv 12 n d P W f6 hW
        rw [f3] at q
        exact q
       ·have q:=hM.mx n B 12 P W hB f6 hW
        rw [f4] at q
        exact q
       ·have q:=hM.mx n (B+1) 12 P W f7 f6 hW
        rw [f5] at q
        exact q
    ·exact om20_e TT h.next w hT c8 n d B c10 _ _ _ _ _ _ _ _ _ _ _ _ _ _ _ _ _ c26 (Or.inr ⟨rfl,Or.inr ⟨by rw [h1];rfl,Or.inl (by simpa using h2)⟩⟩) c25
   ·exact om20_e TT h.next w hT c8 n d B c10 _ _ _ _ _ _ _ _ _ _ _ _ _ _ _ _ _ c26 (Or.inr ⟨rfl,Or.inl (by simpa using h1)⟩) c25
  ·rw [show unE n B=1 from if_neg hg] at c25
   exact om20_e TT h.next w hT c8 n d B c10 _ _ _ _ _ _ _ _ _ _ _ _ _ _ _ _ _ c26 (Or.inl rfl) c25
 ·rw [decide_eq_false hd] at c10
  exact om20_n TT h.next w hT c8 n d B c10
end
section
attribute [local irreducible] W4 Nz Nt NT
section
variable (t d c x:Int)(s g:Bool)(k:Nat)(hk:k<2^256)(P R:Nat)(F E:Int)(w:World)(hT:Tab w)(hxb:-20000<=x/\x<=20000)
include hk hT hxb
theorem crd_n (hx:x<0)
  (c61:∀ W k,k=-x->Calls Tryz.prog 96 #[.int .i64 5,.int .i64 k] W fun r w'=>∃ v,r=.returned (.tuple #[v,.int .i64 0])/\Nt 2001 P v w'/\Below W.heap.size W w')
  (c63:∀ W v v',Tab W->Nt 4 k v W->Nt 2001 P v' W->CB 98 #[.int .i64 t,.int .i64 d,.bool s,v,v',.int .i64 x] W (.tuple #[A4 R,.int .i64 F,.int .i64 E])) :
  CB 68 #[.int .i64 t,.int .i64 d,DV c s g x k] w (.tuple #[A4 R,.int .i64 F,.int .i64 E]):=by
 have hbx:=fun W hW=>dat_box (w0:=w) (w:=W) (c:=c) (s:=s) (g:=g) (x:=x) (t:=34) hk hW
 have hsm:=cell_set_map
 go_enter Tryz.func68,Tryz.ntmps68
 go_wp2_with (first
  | (go_at_call 96;refine (c61 _ _ (by omega)).mono ?_;rintro r w1 ⟨v1,rfl,hv1,hb1⟩;have hv0:=hbx _ (bnx (bnx (below1 _ _) (below1 _ _)) hb1);obtain ⟨_,_,_,_,hA1,_⟩:=wz w hb1;obtain ⟨_,_⟩:=zf hb1 (w.heap.size+1);obtain ⟨_,_⟩:=zf hb1 (w.heap.size+1+1);clear hb1)
  | (go_at_call 98;refine (c63 _ _ _ (hT.go bgo) hv0 hv1).mono ?_;rintro r w2 ⟨rfl,hb2⟩;obtain ⟨_,_,_,_,hA2,_⟩:=wz w hb2;obtain ⟨_,_⟩:=zf hb2 (w.heap.size+1);obtain ⟨_,_⟩:=zf hb2 (w.heap.size+1+1);clear hb2))
 exact bodyPost_ret (v:=.tuple #[A4 R,.int .i64 F,.int .i64 E]) (by simp only [results,Tryz.results68];go_simp) rfl ⟨rfl,bgo⟩
theorem crd_p (hx:¬ x<0)
  (c61:∀ W,Calls Tryz.prog 96 #[.int .i64 5,.int .i64 x] W fun r w'=>∃ v,r=.returned (.tuple #[v,.int .i64 0])/\Nt 2001 P v w'/\Below W.heap.size W w')
  (c62:∀ W v v',Nt 4 k v W->Nt 2001 P v' W->Calls Tryz.prog 97 #[v,v'] W fun r w'=>∃ q,r=.returned (.tuple #[q,.int .i64 0])/\NT 2001 (k*P) q w'/\Below W.heap.size W w')
  (c63:∀ W v v',Tab W->NT 2001 (k*P) v W->NT 900 1 v' W->CB 98 #[.int .i64 t,.int .i64 d,.bool s,v,v',.int .i64 x] W (.tuple #[A4 R,.int .i64 F,.int .i64 E])) :
  CB 68 #[.int .i64 t,.int .i64 d,DV c s g x k] w (.tuple #[A4 R,.int .i64 F,.int .i64 E]):=by
 have hbx:=fun W hW=>dat_box (w0:=w) (w:=W) (c:=c) (s:=s) (g:=g) (x:=x) (t:=34) hk hW
 have hx0:0<=x:=by omega
 have hsm:=cell_set_map
 go_enter Tryz.func68,Tryz.ntmps68
 go_wp2_with (first
  | (go_at_call 96;refine (c61 _).mono ?_;rintro r w1 ⟨v1,rfl,hv1,hb1⟩;have hv0:=hbx _ (bnx (bnx (below1 _ _) (below1 _ _)) hb1);have hone:=NT.next (nt_oneB rfl) hb1;obtain ⟨_,_,_,_,hA1,_⟩:=wz w hb1;obtain ⟨_,_⟩:=zf hb1 (w.heap.size+1);obtain ⟨_,_⟩:=zf hb1 (w.heap.size+1+1);clear hb1)
  | (go_at_call 97;refine (c62 _ _ _ hv0 hv1).mono ?_;rintro r w2 ⟨v2,rfl,hv2,hb2⟩;have hone2:=hone.next hb2;obtain ⟨_,_,_,_,hA2,_⟩:=wz w hb2;obtain ⟨_,_⟩:=zf hb2 (w.heap.size+1);obtain ⟨_,_⟩:=zf hb2 (w.heap.size+1+1);clear hb2)
  | (go_at_call 98;refine (c63 _ _ _ (hT.go bgo) hv2 (by simpa using hone2)).mono ?_;rintro r w3 ⟨rfl,hb3⟩;obtain ⟨_,_,_,_,hA3,_⟩:=wz w hb3;obtain ⟨_,_⟩:=zf hb3 (w.heap.size+1);obtain ⟨_,_⟩:=zf hb3 (w.heap.size+1+1);clear hb3))
 exact bodyPost_ret (v:=.tuple #[A4 R,.int .i64 F,.int .i64 E]) (by simp only [results,Tryz.results68];go_simp) rfl ⟨rfl,bgo⟩
end
theorem crd_v {t d x:Int}(c:Int)(s g:Bool){k:Nat}(hk:k<2^256)(w:World)(hT:Tab w)(hb:binN t)(hd:knB d)(hx:-10000<=x/\x<=10000) :
  CB 68 #[.int .i64 t,.int .i64 d,DV c s g x k] w (.tuple #[A4 (rdV t d s (tN k x) (tD x) x),.int .i64 (rdF t d s (tN k x) (tD x) x),.int .i64 0]):=by
 have hA:bl k<=256:=bl_le.2 hk
 by_cases he:x<0
 ·have hm:=five_bl (-x).toNat
  have e1:tN k x=k:=by unfold tN;rw [show x.toNat=0 by omega,Nat.pow_zero,Nat.mul_one]
  have e2:tD x=5^(-x).toNat:=rfl
  rw [e1,e2]
  refine crd_n t d c x s g k hk (5^(-x).toNat) _ _ _ w hT (by omega) he (fun W j hj=>?_) (fun W v v' hT' hv hv'=>?_)
  ·have:=npow5 (-x).toNat W (by omega)
   rw [show (((-x).toNat:Nat):Int)=j by omega] at this
   exact this
  ·exact rnd_good t d x s hT' (hv.more (by decide)) hv' hb hd (Nat.pos_iff_ne_zero.1 (Nat.pow_pos (by decide))) (by omega) (by omega)
 ·have hm:=five_bl x.toNat
  have e1:tD x=1:=by unfold tD;rw [show (-x).toNat=0 by omega,Nat.pow_zero]
  have e2:tN k x=k*5^x.toNat:=rfl
  rw [e1,e2]
  have hbm:=bl_mul k (5^x.toNat)
  refine crd_p t d c x s g k hk (5^x.toNat) _ _ _ w hT (by omega) he (fun W=>?_) (fun W v v' hv hv'=>nmul_w (by decide) (by decide) hv hv' (by omega)) (fun W v v' hT' hv hv'=>?_)
  ·have:=npow5 x.toNat W (by omega)
   rw [show ((x.toNat:Nat):Int)=x by omega] at this
   exact this
  ·exact rnd_good t d x s hT' hv.nt (hv'.nt.more (by decide)) hb hd (by decide) (by omega) (by decide)
section
variable (m t d c x:Int)(s g ok:Bool)(k B:Nat)(I:Value)(w:World)(hT:Tab w)
include hT
theorem cvi_e1
  (c1:∀ W,Tab W->CB 66 #[.int .i64 m,A4 B] W (.tuple #[DV c s g x k,.bool ok,.int .i64 1])) :
  CB 29 #[.int .i64 m,.int .i64 t,.int .i64 d,A4 B] w (.tuple #[A4 0,.int .i64 0,.int .i64 1]):=by
 rw [Z4_eq]
 have hsm:=cell_set_map
 go_enter Tryz.func29,Tryz.ntmps29
 go_wp2_with (first
  | (go_at_call 66;refine (c1 _ (hT.go bgo)).mono ?_;rintro r w1 ⟨rfl,hb1⟩;obtain ⟨_,_,_,_,hA1,_⟩:=wz w hb1;obtain ⟨_,_⟩:=zf hb1 (w.heap.size+1);clear hb1))
 exact bodyPost_ret (by simp only [results,Tryz.results29];go_simp) rfl ⟨rfl,bgo⟩
variable (c1:∀ W,Tab W->CB 66 #[.int .i64 m,A4 B] W (.tuple #[DV c s g x k,.bool ok,.int .i64 0]))
include c1
theorem cvi_e2
  (c2:∀ W,Tab W->CB 67 #[.int .i64 t,.int .i64 2,.int .i64 d] W (.tuple #[IZ,.int .i64 1])) :
  CB 29 #[.int .i64 m,.int .i64 t,.int .i64 d,A4 B] w (.tuple #[A4 0,.int .i64 0,.int .i64 1]):=by
 rw [Z4_eq]
 have hsm:=cell_set_map
 go_enter Tryz.func29,Tryz.ntmps29
 go_wp2_with (first
  | (go_at_call 66;refine (c1 _ (hT.go bgo)).mono ?_;rintro r w1 ⟨rfl,hb1⟩;obtain ⟨_,_,_,_,hA1,_⟩:=wz w hb1;obtain ⟨_,_⟩:=zf hb1 (w.heap.size+1);clear hb1)
  | (go_at_call 67;refine (c2 _ (hT.go bgo)).mono ?_;rintro r w2 ⟨rfl,hb2⟩;obtain ⟨_,_,_,_,hA2,_⟩:=wz w hb2;obtain ⟨_,_⟩:=zf hb2 (w.heap.size+1);obtain ⟨_,_⟩:=zf hb2 w1.heap.size;clear hb2))
 exact bodyPost_ret (by simp only [results,Tryz.results29];go_simp) rfl ⟨rfl,bgo⟩
variable (c2:∀ W,Tab W->CB 67 #[.int .i64 t,.int .i64 2,.int .i64 d] W (.tuple #[InfV t,.int .i64 0]))
include c2
theorem cvi_1 (hc:c=1)(R:Nat)(F:Int)
  (cR:∀ W,Tab W->CB 68 #[.int .i64 t,.int .i64 d,DV 1 s g x k] W (.tuple #[A4 R,.int .i64 F,.int .i64 0])) :
  CB 29 #[.int .i64 m,.int .i64 t,.int .i64 d,A4 B] w (.tuple #[A4 R,.int .i64 F,.int .i64 0]):=by
 subst hc
 have hsm:=cell_set_map
 go_enter Tryz.func29,Tryz.ntmps29
 go_wp2_with (first
  | (go_at_call 66;refine (c1 _ (hT.go bgo)).mono ?_;rintro r w1 ⟨rfl,hb1⟩;obtain ⟨_,_,_,_,hA1,_⟩:=wz w hb1;obtain ⟨_,_⟩:=zf hb1 (w.heap.size+1);clear hb1)
  | (go_at_call 67;refine (c2 _ (hT.go bgo)).mono ?_;rintro r w2 ⟨rfl,hb2⟩;obtain ⟨_,_,_,_,hA2,_⟩:=wz w hb2;obtain ⟨_,_⟩:=zf hb2 (w.heap.size+1);obtain ⟨_,_⟩:=zf hb2 w1.heap.size;clear hb2)
  | (go_at_call 68;refine (cR _ (hT.go bgo)).mono ?_;rintro r w3 ⟨rfl,hb3⟩;obtain ⟨_,_,_,_,hA3,_⟩:=wz w hb3;obtain ⟨_,_⟩:=zf hb3 (w.heap.size+1);obtain ⟨_,_⟩:=zf hb3 w1.heap.size;obtain ⟨_,_⟩:=zf hb3 w2.heap.size;clear hb3))
 exact bodyPost_ret (by simp only [results,Tryz.results29];go_simp) rfl ⟨rfl,bgo⟩
theorem cvi_3 (hc:c=2∨c=3)(k' R:Nat)(F:Int)
  (cC:∀ W,CB 69 #[InfV t,DV c s g x k] W (.tuple #[DV c s false x k',.int .i64 F]))
  (cP:∀ W,Tab W->CB 70 #[.int .i64 t,DV c s false x k'] W (.tuple #[A4 R,.int .i64 0])) :
  CB 29 #[.int .i64 m,.int .i64 t,.int .i64 d,A4 B] w (.tuple #[A4 R,.int .i64 F,.int .i64 0]):=by
 have hsm:=cell_set_map
 rcases hc with rfl|rfl
 all_goals (
  go_enter Tryz.func29,Tryz.ntmps29
  go_wp2_with (first
   | (go_at_call 66;refine (c1 _ (hT.go bgo)).mono ?_;rintro r w1 ⟨rfl,hb1⟩;obtain ⟨_,_,_,_,hA1,_⟩:=wz w hb1;obtain ⟨_,_⟩:=zf hb1 (w.heap.size+1);clear hb1)
   | (go_at_call 67;refine (c2 _ (hT.go bgo)).mono ?_;rintro r w2 ⟨rfl,hb2⟩;obtain ⟨_,_,_,_,hA2,_⟩:=wz w hb2;obtain ⟨_,_⟩:=zf hb2 (w.heap.size+1);obtain ⟨_,_⟩:=zf hb2 w1.heap.size;clear hb2)
   | (go_at_call 69;refine (cC _).mono ?_;rintro r w3 ⟨rfl,hb3⟩;obtain ⟨_,_,_,_,hA3,_⟩:=wz w hb3;obtain ⟨_,_⟩:=zf hb3 (w.heap.size+1);obtain ⟨_,_⟩:=zf hb3 w1.heap.size;obtain ⟨_,_⟩:=zf hb3 w2.heap.size;clear hb3)
   | (go_at_call 70;refine (cP _ (hT.go bgo)).mono ?_;rintro r w4 ⟨rfl,hb4⟩;obtain ⟨_,_,_,_,hA4,_⟩:=wz w hb4;obtain ⟨_,_⟩:=zf hb4 (w.heap.size+1);obtain ⟨_,_⟩:=zf hb4 w1.heap.size;obtain ⟨_,_⟩:=zf hb4 w2.heap.size;clear hb4))
  exact bodyPost_ret (by simp only [results,Tryz.results29];go_simp) rfl ⟨rfl,bgo⟩)
end
theorem crn_v (m t d:Int)(B:Nat)(w:World)(hT:Tab w)(hB:B<2^256) :
  CB 29 #[.int .i64 m,.int .i64 t,.int .i64 d,A4 B] w (.tuple #[A4 (xiV m t d B),.int .i64 (xiF m t d B),.int .i64 (xiE m t d B)]):=by
 have c1:∀ W,Tab W->CB 66 #[.int .i64 m,A4 B] W (.tuple #[DV (vUD m B).c (vUD m B).s (vUD m B).g (vUD m B).x (vUD m B).k,.bool (vUC m B),.int .i64 (vUE m B)]):=fun W h=>dunpk14 m B hB W h
 unfold xiV xiF xiE
 by_cases h1:goodD m B
 ·rw [show vUE m B=0 from if_pos h1,show vUD m B=vM (fD m) B from if_pos h1] at c1
  by_cases h2:binN t/\knB d
  ·obtain ⟨hb,hd⟩:=h2
   obtain ⟨f1,f2,f3,f4,f5,f6⟩:=bin_fields hb
   have c2:=fun W h=>starg_y W h f1 f2 hd
   have hc:xiG m t d B:=⟨h1,hb,hd⟩
   rw [if_pos hc,if_pos hc,if_pos hc]
   have hi:=vM_is (fD_ok m) B
   have hkk:=vI_k (fD_ok m) hi
   have hxx:=vI_x (fD_ok m) hi
   generalize vM (fD m) B=D at *
   obtain ⟨c,s,g,x,k⟩:=D
   dsimp only at c1 hkk hxx
   have cC:=fun c W=>sconv_v t _ (bin_bound hb) c x s g hkk W
   rcases hi with ⟨i1,i2,i3,i4,i5⟩|⟨i1,i2,i3,i4⟩|⟨i1,i2,i3⟩
   ·dsimp only at i1 i2
    subst i1
    exact cvi_1 m t d 1 x s g _ k B w hT c1 c2 rfl _ _ (fun W h=>crd_v 1 s g hkk W h hb hd hxx)
   ·dsimp only at i1 i2 i3 i4
    subst i1 i2 i3 i4
    have hE:pkE t ⟨2,s,false,0,0⟩=0:=by
     unfold pkE
     rw [if_pos hb]
     exact if_pos (Or.inr (Or.inl ⟨rfl,rfl,rfl,rfl⟩))
    have cP:=fun W h=>pack_any t ⟨2,s,false,0,0⟩ W h (show 0<2^256 by decide)
    rw [hE] at cP
    refine cvi_3 m t d 2 0 s false _ 0 B w hT c1 c2 (Or.inl rfl) _ _ _ (cC 2) ?_
    rw [ite_self]
    exact cP
   ·dsimp only at i1 i2
    subst i1 i2
    have hk':(if k<2^(fN t-1) then k else 0)<2^256:=by split<;>omega
    have hE:pkE t ⟨3,s,false,0,if k<2^(fN t-1) then k else 0⟩=0:=by
     unfold pkE
     rw [if_pos hb]
     refine if_pos (Or.inr (Or.inr ⟨rfl,rfl,?_,Or.inr rfl⟩))
     dsimp only
     split
     ·assumption
     ·exact Nat.two_pow_pos _
    have cP:=fun W h=>pack_any t ⟨3,s,false,0,if k<2^(fN t-1) then k else 0⟩ W h hk'
    rw [hE] at cP
    exact cvi_3 m t d 3 0 s g _ k B w hT c1 c2 (Or.inr rfl) _ _ _ (cC 3) cP
  ·have hc:¬ xiG m t d B:=fun q=>h2 q.2
   rw [if_neg hc,if_neg hc,if_neg hc]
   refine cvi_e2 m t d _ _ _ _ _ _ B w hT c1 (fun W h=>starg_n W h ?_)
   rintro ⟨a1,a2,a3⟩
   refine h2 ⟨?_,a3⟩
   apply Classical.byContradiction
   intro hn
   rcases not_bin hn with ⟨q1,q2⟩|q1
   ·rw [a2] at q2;exact absurd q2 (by decide)
   ·exact q1 a1
 ·rw [show vUE m B=1 from if_neg h1] at c1
  have hc:¬ xiG m t d B:=fun q=>h1 q.1
  rw [if_neg hc,if_neg hc,if_neg hc]
  exact cvi_e1 m t d _ _ _ _ _ _ B w hT c1
theorem crnC:CrnC Tab:=⟨fun w w' h hb=>h.go hb,fun m t d Bp W hB hT=>crn_v m t d Bp W hT hB⟩
end
theorem orderMiddle_any (n d:Int)(Bp:Nat)(w:World)(hT:Tab w)(hB:Bp<2^256) :
  CB 7 #[.int .i64 n,.int .i64 d,A4 Bp] w (.bool true):=by
 exact middle20_v ordC ordM ordN crnC n d Bp w hT hB
end Go.Proofs.YtgknbdehlmlipaaGreatDoor
