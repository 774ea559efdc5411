/-
  Texts that the proof leans on.
-/
import Derived.Test.YtgknbdehlmlipaaGreatDoorJ45
import Derived.Test.YtgknbdehlmlipaaGreatDoorJ35
import Derived.Test.YtgknbdehlmlipaaGreatDoorJ17
import Derived.Test.YtgknbdehlmlipaaGreatDoorJ18
import Derived.Laws.BytesArg
import Derived.Test.YtgknbdehlmlipaaGreatDoorJ10
import Derived.Test.YtgknbdehlmlipaaGreatDoorJ24
import Derived.Test.YtgknbdehlmlipaaGreatDoorJ20
import Derived.Test.YtgknbdehlmlipaaGreatDoorJ21
import Derived.Test.YtgknbdehlmlipaaGreatDoorJ12
import Derived.Shelf.SlicesE.Reverse
import Derived.RegionTactic
import Derived.ChangeAlike
import Derived.BigRegion
import Derived.Laws.Strings2
import Derived.Lib.AppendStr
import Derived.Lib.Builder
import Derived.Deep.AppendLies
import Derived.Test.YtgknbdehlmlipaaGreatDoorJ25
import Derived.Test.YtgknbdehlmlipaaGreatDoorJ4
import Derived.Test.YtgknbdehlmlipaaGreatDoorJ3
import Derived.Test.YtgknbdehlmlipaaGreatDoorJ2
import Derived.Test.YtgknbdehlmlipaaGreatDoorJ27
import Derived.Test.YtgknbdehlmlipaaGreatDoorJ28
import Derived.Deep.Cut
import Derived.Deep.CutRange
import Derived.Test.YtgknbdehlmlipaaGreatDoorJ1
import Derived.Test.YtgknbdehlmlipaaGreatDoorJ6
import Derived.Test.YtgknbdehlmlipaaGreatDoorJ29
import Derived.Deep.RegionWith
import Derived.Test.YtgknbdehlmlipaaGreatDoorJ38
import Derived.Test.YtgknbdehlmlipaaGreatDoorJ32
import Derived.Test.YtgknbdehlmlipaaGreatDoorJ7
import Derived.Test.YtgknbdehlmlipaaGreatDoorJ44
import Derived.Test.YtgknbdehlmlipaaGreatDoorJ46
import Derived.Test.YtgknbdehlmlipaaGreatDoorJ43
import Derived.Test.YtgknbdehlmlipaaGreatDoorJ9
import Derived.Test.YtgknbdehlmlipaaGreatDoorJ33
import Derived.Test.YtgknbdehlmlipaaGreatDoorJ40
import Derived.Deep.MidRow
import Derived.Test.YtgknbdehlmlipaaGreatDoorJ26
set_option linter.unusedVariables false
set_option linter.unusedSectionVars false
set_option linter.unusedSimpArgs false
set_option maxHeartbeats 8000000
set_option maxRecDepth 20000
namespace Go.Proofs.YtgknbdehlmlipaaGreatDoor
open Go.RowKit
section
theorem NT.head {K V:Nat}{v:Value}{w:World}(h:NT K V v w)(hV:V≠0):∃ g k cap z0,v=.slice (some ⟨g,0,none⟩) k cap/\0<k/\k<=K/\g<w.heap.size/\w.cell? ⟨g,0,none⟩=some (.int .u64 z0)/\0<=z0/\z0<=18446744073709551615/\z0%2=((V%2:Nat):Int):=by
 have hz:=h.zero
 obtain ⟨g,k,cap,z,rfl,hk,⟨n1,n2,n3,n4,n5⟩,hv,hs⟩:=h
 obtain ⟨g',k',cap',e,_,hz'⟩:=hz
 cases e
 have hk0:k≠0:=fun e=>hV (hz'.1 e)
 rcases n5 with ⟨n5,_⟩|⟨b,off,e,hb,hc⟩
 ·cases n5
 ·cases e
  have hc0:=hc 0 (by omega)
  have hw:=n3 0
  have hp:=val_odd (by omega:0<k) hv
  exact ⟨g,k,cap,z 0,rfl,by omega,hk,hb,hc0,hw.1,hw.2,by omega⟩
attribute [local irreducible] W4 Nz Nt NT NV
end
section
attribute [local irreducible] W4 Nz Nt NT
theorem put_size {a:Act}{d:Nat}{v:Value}:(a.put (some d) v).tmps.size=a.tmps.size:=by simp [Act.put]
def TU2 (X:Nat)(v:Value)(w:World):Prop:=∃ q,v=.tuple #[q,.int .i64 0]/\NT 2001 X q w
theorem TU2.next {X:Nat}{v:Value}{w w':World}(h:TU2 X v w)(hb:Below w.heap.size w w'):TU2 X v w':=by
 obtain ⟨q,e,hq⟩:=h
 exact ⟨q,e,hq.next hb⟩
end
section
attribute [local irreducible] W4
theorem rorder20 (a b:Int)(w:World):CQ 37 #[.int .i64 a,.int .i64 b] w (.int .i64 (sgn a b)):=by
 unfold sgn
 by_cases h1:a<b
 ·rw [if_pos h1]
  go_enter Tryz.func37,Tryz.ntmps37
  go_wp2
  go_ret
  exact ⟨rfl,rfl⟩
 ·rw [if_neg h1]
  by_cases h2:b<a
  ·rw [if_pos h2]
   have h3:a > b:=h2
   go_enter Tryz.func37,Tryz.ntmps37
   go_wp2
   go_ret
   exact ⟨rfl,rfl⟩
  ·rw [if_neg h2]
   have h3:¬ a > b:=h2
   go_enter Tryz.func37,Tryz.ntmps37
   go_wp2
   go_ret
   exact ⟨rfl,rfl⟩
theorem rside20 (c:Int)(s g:Bool)(x:Int)(k:Nat)(w:World)(hk:k<2^256):CB 76 #[DV c s g x k] w (.int .i64 (oS ⟨c,s,g,x,k⟩)):=by
 have h24:=eq24 (W4 k 0) (W4 k 1) (W4 k 2) (W4 k 3) 0 0 0 0
 rw [W4_none hk] at h24
 have hsm:=cell_set_map
 unfold DV oS
 dsimp only
 by_cases hc:c=1
 ·subst hc
  by_cases h0:k=0
  ·rw [if_pos ⟨rfl,h0⟩]
   rw [decide_eq_true h0] at h24
   clear h0
   go_enter Tryz.func76,Tryz.ntmps76
   go_wp2
   go_ret
   exact ⟨rfl,bgo⟩
  ·rw [if_neg (fun q=>h0 q.2)]
   rw [decide_eq_false h0] at h24
   clear h0
   cases s
   all_goals
    go_enter Tryz.func76,Tryz.ntmps76
    go_wp2
    go_ret
    exact ⟨rfl,bgo⟩
 ·rw [if_neg (fun q=>hc q.1)]
  have hc1:(c==1)=false:=by simpa using hc
  clear h24
  cases s
  all_goals
   go_enter Tryz.func76,Tryz.ntmps76
   go_wp2
   go_ret
   exact ⟨rfl,bgo⟩
theorem rrank20 (c:Int)(s g:Bool)(x:Int)(k:Nat)(w:World):CB 36 #[DV c s g x k] w (.int .i64 (oR ⟨c,s,g,x,k⟩)):=by
 have hsm:=cell_set_map
 unfold DV oR
 dsimp only
 by_cases hc:c=3
 ·subst hc
  rw [if_pos rfl]
  cases s<;>cases g
  all_goals
   go_enter Tryz.func36,Tryz.ntmps36
   go_wp2
   go_ret
   exact ⟨rfl,bgo⟩
 ·rw [if_neg hc]
  have hc1:(c==3)=false:=by simpa using hc
  cases s
  all_goals
   go_enter Tryz.func36,Tryz.ntmps36
   go_wp2
   go_ret
   exact ⟨rfl,bgo⟩
section
variable (n:Int)(Bp:Nat)(c x:Int)(s g ok:Bool)(k:Nat)(E:Int)(w:World)
theorem rmn_b (c14:∀ W,CQ 38 #[.int .i64 n] W (.bool true))
  (c40:∀ W,CB 18 #[.int .i64 n,A4 Bp] W (.tuple #[DV c s g x k,.int .i64 E])) :
  CB 15 #[.int .i64 n,A4 Bp] w (.tuple #[DV c s g x k,.int .u64 2,.int .i64 E]):=by
 have hsm:=cell_set_map
 unfold DV A4 at *
 go_enter Tryz.func15,Tryz.ntmps15
 go_wp2_with (first
  | (go_at_call 38;refine (c14 _).mono ?_;rintro r w1 ⟨rfl,rfl⟩)
  | (go_at_call 18;refine (c40 _).mono ?_;rintro r w2 ⟨rfl,hb2⟩;obtain ⟨_,_,_,_,hA2,_⟩:=wz w hb2;obtain ⟨_,_⟩:=zf hb2 (w.heap.size+1);clear hb2))
 exact bodyPost_ret (by simp only [results,Tryz.results15];go_simp) rfl ⟨rfl,bgo⟩
theorem rmn_d (c14:∀ W,CQ 38 #[.int .i64 n] W (.bool false))
  (c21:∀ W,CB 39 #[.int .i64 n,A4 Bp] W (.tuple #[DV c s g x k,.bool ok,.int .i64 E])) :
  CB 15 #[.int .i64 n,A4 Bp] w (.tuple #[DV c s g x k,.int .u64 10,.int .i64 E]):=by
 have hsm:=cell_set_map
 unfold DV A4 at *
 go_enter Tryz.func15,Tryz.ntmps15
 go_wp2_with (first
  | (go_at_call 38;refine (c14 _).mono ?_;rintro r w1 ⟨rfl,rfl⟩)
  | (go_at_call 39;refine (c21 _).mono ?_;rintro r w2 ⟨rfl,hb2⟩;obtain ⟨_,_,_,_,hA2,_⟩:=wz w hb2;obtain ⟨_,_⟩:=zf hb2 (w.heap.size+1);clear hb2))
 exact bodyPost_ret (by simp only [results,Tryz.results15];go_simp) rfl ⟨rfl,bgo⟩
end
theorem rmean20 (n:Int)(Bp:Nat)(w:World)(hB:Bp<2^256):CB 15 #[.int .i64 n,A4 Bp] w (.tuple #[(mD n Bp).v,.int .u64 ((mX n:Nat):Int),.int .i64 (mE n Bp)]):=by
 have c14:∀ W,CQ 38 #[.int .i64 n] W (.bool (decide (binN n))):=fun W=>(rbinary_any n W).mono fun r w' h=>⟨h.1,h.2.symm⟩
 unfold mD mX mE
 by_cases h:binN n
 ·rw [decide_eq_true h] at c14
  rw [if_pos h,if_pos h,if_pos h]
  exact rmn_b n Bp _ _ _ _ _ _ w c14 (fun W=>runpack_any n Bp W hB)
 ·rw [decide_eq_false h] at c14
  rw [if_neg h,if_neg h,if_neg h]
  exact rmn_d n Bp _ _ _ _ _ _ _ w c14 (fun W=>runp14 n Bp W hB)
theorem mD_256 (n:Int)(B:Nat):(mD n B).k<2^256:=by
 unfold mD
 split
 ·exact unD_k n B
 ·exact vUD_256 n B
end
section
attribute [local irreducible] W4
section
variable (f g:Int)(Ar Br:Nat)(c x c' x':Int)(s e s' e':Bool)(k k':Nat)(P P':Int)(E E':Int)(w:World)
 (c1:∀ W,CB 15 #[.int .i64 f,A4 Ar] W (.tuple #[DV c s e x k,.int .u64 P,.int .i64 E]))
 (c2:∀ W,CB 15 #[.int .i64 g,A4 Br] W (.tuple #[DV c' s' e' x' k',.int .u64 P',.int .i64 E']))
include c1 c2
theorem rmx_e (h:(E != 0)=true∨((E != 0)=false/\(E' != 0)=true)) :
  CB 10 #[.int .i64 f,A4 Ar,.int .i64 g,A4 Br] w (.tuple #[.int .i64 0,.bool false,.int .i64 1]):=by
 have hsm:=cell_set_map
 unfold DV A4 at *
 rcases h with h|⟨h,h'⟩
 all_goals
  go_enter Tryz.func10,Tryz.ntmps10
  go_wp2_with (first
   | (have:=hA1;go_at_call 15;refine (c2 _).mono ?_;rintro r w2 ⟨rfl,hb2⟩;obtain ⟨_,_,_,_,hA2,_⟩:=wz w hb2;obtain ⟨_,_⟩:=zf hb2 (w.heap.size+1);obtain ⟨_,_⟩:=zf hb2 w1.heap.size;clear hb2)
   | (go_at_call 15;refine (c1 _).mono ?_;rintro r w1 ⟨rfl,hb1⟩;obtain ⟨_,_,_,_,hA1,_⟩:=wz w hb1;obtain ⟨_,_⟩:=zf hb1 (w.heap.size+1);clear hb1))
  exact bodyPost_ret (by simp only [results,Tryz.results10];go_simp) rfl ⟨rfl,bgo⟩
variable (hE:(E != 0)=false)(hE':(E' != 0)=false)
include hE hE'
theorem rmx_3 (h:(c==3)=true∨((c==3)=false/\(c'==3)=true)) :
  CB 10 #[.int .i64 f,A4 Ar,.int .i64 g,A4 Br] w (.tuple #[.int .i64 0,.bool false,.int .i64 0]):=by
 have hsm:=cell_set_map
 unfold DV A4 at *
 rcases h with h|⟨h,h'⟩
 all_goals
  go_enter Tryz.func10,Tryz.ntmps10
  go_wp2_with (first
   | (have:=hA1;go_at_call 15;refine (c2 _).mono ?_;rintro r w2 ⟨rfl,hb2⟩;obtain ⟨_,_,_,_,hA2,_⟩:=wz w hb2;obtain ⟨_,_⟩:=zf hb2 (w.heap.size+1);obtain ⟨_,_⟩:=zf hb2 w1.heap.size;clear hb2)
   | (go_at_call 15;refine (c1 _).mono ?_;rintro r w1 ⟨rfl,hb1⟩;obtain ⟨_,_,_,_,hA1,_⟩:=wz w hb1;obtain ⟨_,_⟩:=zf hb1 (w.heap.size+1);clear hb1))
  exact bodyPost_ret (by simp only [results,Tryz.results10];go_simp) rfl ⟨rfl,bgo⟩
theorem rmx_y (h:(c==3)=false)(h':(c'==3)=false)(V:Int)
  (c3:∀ W,CB 34 #[DV c s e x k,.int .u64 P,DV c' s' e' x' k',.int .u64 P'] W (.int .i64 V)) :
  CB 10 #[.int .i64 f,A4 Ar,.int .i64 g,A4 Br] w (.tuple #[.int .i64 V,.bool true,.int .i64 0]):=by
 have hsm:=cell_set_map
 unfold DV A4 at *
 go_enter Tryz.func10,Tryz.ntmps10
 go_wp2_with (first
  | (have:=hA1;go_at_call 15;refine (c2 _).mono ?_;rintro r w2 ⟨rfl,hb2⟩;obtain ⟨_,_,_,_,hA2,_⟩:=wz w hb2;obtain ⟨_,_⟩:=zf hb2 (w.heap.size+1);obtain ⟨_,_⟩:=zf hb2 w1.heap.size;clear hb2)
  | (go_at_call 15;refine (c1 _).mono ?_;rintro r w1 ⟨rfl,hb1⟩;obtain ⟨_,_,_,_,hA1,_⟩:=wz w hb1;obtain ⟨_,_⟩:=zf hb1 (w.heap.size+1);clear hb1)
  | (go_at_call 34;refine (c3 _).mono ?_;rintro r w3 ⟨rfl,hb3⟩;obtain ⟨_,_,_,_,hA3,_⟩:=wz w hb3;obtain ⟨_,_⟩:=zf hb3 (w.heap.size+1);obtain ⟨_,_⟩:=zf hb3 w1.heap.size;obtain ⟨_,_⟩:=zf hb3 w2.heap.size;clear hb3))
 exact bodyPost_ret (by simp only [results,Tryz.results10];go_simp) rfl ⟨rfl,bgo⟩
end
theorem rcmp20 (n:Int)(Ar Br:Nat)(V:Int)(o:Bool)(E:Int)(w:World)
  (c1:∀ W,CB 10 #[.int .i64 n,A4 Ar,.int .i64 n,A4 Br] W (.tuple #[.int .i64 V,.bool o,.int .i64 E])) :
  CB 12 #[.int .i64 n,A4 Ar,A4 Br] w (.tuple #[.int .i64 V,.bool o,.int .i64 E]):=by
 have hsm:=cell_set_map
 unfold A4 at *
 go_enter Tryz.func12,Tryz.ntmps12
 go_wp2_with (go_at_call 10;refine (c1 _).mono ?_;rintro r w1 ⟨rfl,hb1⟩;obtain ⟨_,_,_,_,hA1,_⟩:=wz w hb1;obtain ⟨_,_⟩:=zf hb1 (w.heap.size+1);clear hb1)
 exact bodyPost_ret (by simp only [results,Tryz.results12];go_simp) rfl ⟨rfl,bgo⟩
def ValC:Prop:=∀ (a b:Dat) (x y:Nat) (W:World),a.k<2^256->b.k<2^256->(x=2∨x=10)->(y=2∨y=10)->(-17000<=a.x/\a.x<=17000)->(-17000<=b.x/\b.x<=17000)->(x=10->-10000<=a.x/\a.x<=10000)->(y=10->-10000<=b.x/\b.x<=10000) ->
 CB 34 #[a.v,.int .u64 (x:Int),b.v,.int .u64 (y:Int)] W (.int .i64 (oV a x b y))
theorem mX_or (n:Int):mX n=2∨mX n=10:=by unfold mX;split;exact Or.inl rfl;exact Or.inr rfl
theorem mD_x (n:Int)(B:Nat):(-17000<=(mD n B).x/\(mD n B).x<=17000)/\(mX n=10->-10000<=(mD n B).x/\(mD n B).x<=10000):=by
 unfold mD mX
 by_cases h:binN n
 ·rw [if_pos h,if_pos h]
  refine ⟨?_,fun q=>absurd q (by decide)⟩
  by_cases hg:goodN n B
  ·have hl:-16990<=leastN n/\mostN n<=16990:=by rcases bin_cases h with rfl|rfl|rfl|rfl|rfl|rfl<;>decide
   rcases und_is hg with ⟨h1,h2,h3,h4,h5,h6⟩|⟨h1,h2,h3,h4⟩|⟨h1,h2,h3,h4⟩<;>omega
  ·have e:unD n B=⟨0,false,false,0,0⟩:=if_neg hg
   rw [e]
   decide
 ·rw [if_neg h,if_neg h]
  have hx:-10000<=(vUD n B).x/\(vUD n B).x<=10000:=by
   by_cases hg:goodD n B
   ·rw [show vUD n B=vM (fD n) B from if_pos hg]
    have hf:=fD_ok n
    obtain ⟨m0,m1,l0,l1,lm,j0,j1⟩:=ok_m hf
    rcases vM_is hf B with ⟨h1,h2,h3,h4,h5⟩|⟨h1,h2,h3,h4⟩|⟨h1,h2,h3⟩
    ·unfold DF.m at *;omega
    ·omega
    ·omega
   ·rw [show vUD n B=⟨0,false,false,0,0⟩ from if_neg hg]
    decide
  exact ⟨by omega,fun _=>hx⟩
theorem rmix20 (hV:ValC)(f:Int)(Ar:Nat)(g:Int)(Br:Nat)(w:World)(hA:Ar<2^256)(hB:Br<2^256) :
  CB 10 #[.int .i64 f,A4 Ar,.int .i64 g,A4 Br] w (.tuple #[.int .i64 (oMc f Ar g Br),.bool (oMo f Ar g Br),.int .i64 (oME f Ar g Br)]):=by
 have c1:=fun W=>rmean20 f Ar W hA
 have c2:=fun W=>rmean20 g Br W hB
 unfold oMc oMo oME
 by_cases h:mE f Ar≠0∨mE g Br≠0
 ·rw [if_pos h,if_pos h,if_pos h]
  refine rmx_e f g Ar Br _ _ _ _ _ _ _ _ _ _ _ _ _ _ w c1 c2 ?_
  by_cases h1:mE f Ar=0
  ·exact Or.inr ⟨by rw [h1];rfl,by simpa using h.resolve_left (fun q=>q h1)⟩
  ·exact Or.inl (by simpa using h1)
 ·have h1:mE f Ar=0:=Classical.byContradiction fun q=>h (Or.inl q)
  have h2:mE g Br=0:=Classical.byContradiction fun q=>h (Or.inr q)
  rw [if_neg h,if_neg h,if_neg h]
  rw [h1] at c1
  rw [h2] at c2
  by_cases h3:(mD f Ar).c=3∨(mD g Br).c=3
  ·rw [if_pos h3,if_pos h3]
   refine rmx_3 f g Ar Br _ _ _ _ _ _ _ _ _ _ _ _ _ _ w c1 c2 rfl rfl ?_
   by_cases q:(mD f Ar).c=3
   ·exact Or.inl (by rw [q];rfl)
   ·exact Or.inr ⟨by simpa using q,by rw [h3.resolve_left q];rfl⟩
  ·rw [if_neg h3,if_neg h3]
   refine rmx_y f g Ar Br _ _ _ _ _ _ _ _ _ _ _ _ _ _ w c1 c2 rfl rfl ?_ ?_ _ (fun W=>hV (mD f Ar) (mD g Br) (mX f) (mX g) W (mD_256 f Ar) (mD_256 g Br) (mX_or f) (mX_or g) (mD_x f Ar).1 (mD_x g Br).1 (mD_x f Ar).2 (mD_x g Br).2)
   ·simpa using fun q=>h3 (Or.inl q)
   ·simpa using fun q=>h3 (Or.inr q)
theorem rcompare20 (hV:ValC)(n:Int)(Ar Br:Nat)(w:World)(hA:Ar<2^256)(hB:Br<2^256) :
  CB 12 #[.int .i64 n,A4 Ar,A4 Br] w (.tuple #[.int .i64 (oMc n Ar n Br),.bool (oMo n Ar n Br),.int .i64 (oME n Ar n Br)]) :=
 rcmp20 n Ar Br _ _ _ w (fun W=>rmix20 hV n Ar n Br W hA hB)
end
section
theorem nine_cases {i:Nat}(h:i<9):i=0∨i=1∨i=2∨i=3∨i=4∨i=5∨i=6∨i=7∨i=8:=by omega
attribute [local irreducible] W4 Nt Nz NT
section
variable (n:Int)(B:Nat)(c x:Int)(s g:Bool)(k:Nat)(E b num wi pr ex le mo pa:Int)(nm:ByteArray)(de:Bool)(w:World)(hT:Tab w)
include hT
theorem unp_e
  (c1:∀ W,Tab W->CB 81 #[.int .i64 n] W (.tuple #[.agg #[.int .i64 num,.string nm,.int .i64 b,.int .i64 wi,.int .i64 pr,.int .i64 ex,.int .i64 le,.int .i64 mo,.int .i64 pa,.bool de],.int .i64 1])) :
  CB 40 #[.int .i64 n,A4 B] w (.tuple #[OV 0 false false 0 0 0,.int .i64 1]):=by
 have hsm:=cell_set_map
 have z0:W4 0 0=0/\W4 0 1=0/\W4 0 2=0/\W4 0 3=0:=by unfold W4;decide
 obtain ⟨z0,z1,z2,z3⟩:=z0
 unfold OV
 rw [z0,z1,z2,z3]
 go_enter Tryz.func40,Tryz.ntmps40
 go_wp2_with (go_at_call 81;refine (c1 _ (hT.go bgo)).mono ?_;rintro r w1 ⟨rfl,hb1⟩;obtain ⟨_,_,_,_,hA1,_⟩:=wz w hb1;obtain ⟨_,_⟩:=zf hb1 (w.heap.size+1);clear hb1)
 exact bodyPost_ret (by simp only [results,Tryz.results40];go_simp) rfl ⟨rfl,bgo⟩
variable (c1:∀ W,Tab W->CB 81 #[.int .i64 n] W (.tuple #[.agg #[.int .i64 num,.string nm,.int .i64 b,.int .i64 wi,.int .i64 pr,.int .i64 ex,.int .i64 le,.int .i64 mo,.int .i64 pa,.bool de],.int .i64 0]))
include c1
theorem unp_b (hb:b=2)
  (c2:∀ W,Tab W->CB 82 #[.int .i64 n,A4 B] W (.tuple #[DV c s g x k,.int .i64 E])) :
  CB 40 #[.int .i64 n,A4 B] w (.tuple #[OV c s g x k 2,.int .i64 E]):=by
 have hsm:=cell_set_map
 subst hb
 unfold OV
 go_enter Tryz.func40,Tryz.ntmps40
 go_wp2_with (first
  | (go_at_call 81;refine (c1 _ (hT.go bgo)).mono ?_;rintro r w1 ⟨rfl,hb1⟩;obtain ⟨_,_,_,_,hA1,_⟩:=wz w hb1;obtain ⟨_,_⟩:=zf hb1 (w.heap.size+1);clear hb1)
  | (go_at_call 82;refine (c2 _ (hT.go bgo)).mono ?_;rintro r w2 ⟨rfl,hb2⟩;obtain ⟨_,_,_,_,hA2,_⟩:=wz w hb2;obtain ⟨_,_⟩:=zf hb2 (w.heap.size+1);obtain ⟨_,_⟩:=zf hb2 w1.heap.size;obtain ⟨_,_⟩:=zf hb2 (w1.heap.size+1);clear hb2))
 exact bodyPost_ret (by simp only [results,Tryz.results40];go_simp) rfl ⟨rfl,bgo⟩
theorem unp_d (hb:b=10)(ok:Bool)
  (c2:∀ W,Tab W->CB 66 #[.int .i64 n,A4 B] W (.tuple #[DV c s g x k,.bool ok,.int .i64 E])) :
  CB 40 #[.int .i64 n,A4 B] w (.tuple #[OV c s g x k 10,.int .i64 E]):=by
 have hsm:=cell_set_map
 subst hb
 unfold OV
 go_enter Tryz.func40,Tryz.ntmps40
 go_wp2_with (first
  | (go_at_call 81;refine (c1 _ (hT.go bgo)).mono ?_;rintro r w1 ⟨rfl,hb1⟩;obtain ⟨_,_,_,_,hA1,_⟩:=wz w hb1;obtain ⟨_,_⟩:=zf hb1 (w.heap.size+1);clear hb1)
  | (go_at_call 66;refine (c2 _ (hT.go bgo)).mono ?_;rintro r w2 ⟨rfl,hb2⟩;obtain ⟨_,_,_,_,hA2,_⟩:=wz w hb2;obtain ⟨_,_⟩:=zf hb2 (w.heap.size+1);obtain ⟨_,_⟩:=zf hb2 w1.heap.size;obtain ⟨_,_⟩:=zf hb2 (w1.heap.size+1);clear hb2))
 exact bodyPost_ret (by simp only [results,Tryz.results40];go_simp) rfl ⟨rfl,bgo⟩
end
theorem unp_v (n:Int)(B:Nat)(w:World)(hT:Tab w)(hB:B<2^256):∃ c s g x k b,(mE n B=0->OV c s g x k b=OV (mD n B).c (mD n B).s (mD n B).g (mD n B).x (mD n B).k ((mX n:Nat):Int)) /\
  ∀ W,Tab W->CB 40 #[.int .i64 n,A4 B] W (.tuple #[OV c s g x k b,.int .i64 (mE n B)]):=by
 by_cases ho:okN n
 ·have c1:=fun W hW=>ofv_any n W hW
  rw [show infoE n=0 from if_pos ho] at c1
  by_cases hb:binN n
  ·have e1:mE n B=unE n B:=if_pos hb
   have e2:mD n B=unD n B:=if_pos hb
   have e3:mX n=2:=if_pos hb
   rw [e1,e2,e3]
   exact ⟨_,_,_,_,_,_,fun _=>rfl,fun W hW=>unp_b n B _ _ _ _ _ _ _ _ _ _ _ _ _ _ _ _ W hW c1 (bin_fields hb).2.1 (fun W' h=>unpack_any n B W' h hB)⟩
  ·have e1:mE n B=vUE n B:=if_neg hb
   have e2:mD n B=vUD n B:=if_neg hb
   have e3:mX n=10:=if_neg hb
   have h10:baseN n=10:=(not_bin hb).elim (fun h=>h.2) (fun h=>absurd ho h)
   rw [e1,e2,e3]
   exact ⟨_,_,_,_,_,_,fun _=>rfl,fun W hW=>unp_d n B _ _ _ _ _ _ _ _ _ _ _ _ _ _ _ _ W hW c1 h10 _ (fun W' h=>dunpk14 n B hB W' h)⟩
 ·have c1:=fun W hW=>ofv_any n W hW
  rw [show infoE n=1 from if_neg ho] at c1
  have hb:¬ binN n:=fun h=>ho (by unfold binN at h;unfold okN;omega)
  have hd:¬ goodD n B:=fun h=>ho (dec_fields h.1).1
  have e1:mE n B=1:=(if_neg hb).trans (if_neg hd)
  rw [e1]
  exact ⟨_,_,_,_,_,_,fun h=>absurd h (by decide),fun W hW=>unp_e n B _ _ _ _ _ _ _ _ _ _ W hW c1⟩
section
variable (f n:Int)(A B:Nat)(c x b:Int)(s g:Bool)(k:Nat)(c' x' b':Int)(s' g':Bool)(k':Nat)(E E':Int)(w:World)(hT:Tab w)
 (c1:∀ W,Tab W->CB 40 #[.int .i64 f,A4 A] W (.tuple #[OV c s g x k b,.int .i64 E]))
include hT c1
theorem both_e (hE:(E==0)=false) :
  CB 30 #[.int .i64 f,A4 A,.int .i64 n,A4 B] w (.tuple #[OV c s g x k b,OV 0 false false 0 0 0,.int .i64 E]):=by
 have hsm:=cell_set_map
 have z0:W4 0 0=0/\W4 0 1=0/\W4 0 2=0/\W4 0 3=0:=by unfold W4;decide
 obtain ⟨z0,z1,z2,z3⟩:=z0
 have hcs:OCs 0 false false 0 0 0=#[.int .i64 0,.bool false,.bool false,.int .i64 0,.int .u64 0,.int .u64 0,.int .u64 0,.int .u64 0,.int .i64 0]:=by unfold OCs;rw [z0,z1,z2,z3]
 go_enter Tryz.func30,Tryz.ntmps30
 go_wp2_with (go_at_call 40;refine (c1 _ (hT.go bgo)).mono ?_;rintro r w1 ⟨rfl,hb1⟩;obtain ⟨_,_,_,_,hA1,_⟩:=wz w hb1;obtain ⟨_,_⟩:=zf hb1 (w.heap.size+1);obtain ⟨_,_⟩:=zf hb1 (w.heap.size+1+1);obtain ⟨_,_⟩:=zf hb1 (w.heap.size+1+1+1);clear hb1)
 refine regBo (b:=w.heap.size) (w0:=w) (h:=w.heap.size+1+1) (j:=w.heap.size+1+1+1) (c:=c) (s:=s) (g:=g) (x:=x) (k:=k) (e:=b) (c':=0) (s':=false) (g':=false) (x':=0) (k':=0) (e':=0) (E:=E) rfl rfl rfl rfl bgo (by omega) (by omega) (by omega) ⟨by first|omega|(simp;omega)|simp,rfl,fun i hi=>?_,fun i=>by go_simp⟩ ⟨by first|omega|(simp;omega)|simp,rfl,fun i hi=>?_,fun i=>by go_simp⟩ ?_
 ·rcases nine_cases hi with rfl|rfl|rfl|rfl|rfl|rfl|rfl|rfl|rfl<;>go_simp
 ·rw [hcs]
  rcases nine_cases hi with rfl|rfl|rfl|rfl|rfl|rfl|rfl|rfl|rfl<;>go_simp
 intro a' w4 hbe h8 h9 h10 hsz hdf hF2
 have ha:=act_of [25,26,27,0,1,10] 6 rfl hsz hdf hF2
 rw [ha]
 simp only [List.foldl_cons,List.foldl_nil,Act.put,List.setIfInBounds_toArray,List.set_cons_succ,List.set_cons_zero,h10]
 generalize slot a' 25=s25
 generalize slot a' 26=s26
 generalize slot a' 27=s27
 generalize slot a' 0=s0
 generalize slot a' 1=s1
 clear ha h10 hsz hdf hF2
 obtain ⟨l8,_,k8,_⟩:=h8
 obtain ⟨l9,_,k9,_⟩:=h9
 have p0:w4.cell? ⟨w.heap.size+1+1,0,none⟩=some (.int .i64 c):=k8 0 (by decide)
 have p1:w4.cell? ⟨w.heap.size+1+1,1,none⟩=some (.bool s):=k8 1 (by decide)
 have p2:w4.cell? ⟨w.heap.size+1+1,2,none⟩=some (.bool g):=k8 2 (by decide)
 have p3:w4.cell? ⟨w.heap.size+1+1,3,none⟩=some (.int .i64 x):=k8 3 (by decide)
 have p4:w4.cell? ⟨w.heap.size+1+1,4,none⟩=some (.int .u64 (W4 k 0)):=k8 4 (by decide)
 have p5:w4.cell? ⟨w.heap.size+1+1,5,none⟩=some (.int .u64 (W4 k 1)):=k8 5 (by decide)
 have p6:w4.cell? ⟨w.heap.size+1+1,6,none⟩=some (.int .u64 (W4 k 2)):=k8 6 (by decide)
 have p7:w4.cell? ⟨w.heap.size+1+1,7,none⟩=some (.int .u64 (W4 k 3)):=k8 7 (by decide)
 have p8:w4.cell? ⟨w.heap.size+1+1,8,none⟩=some (.int .i64 b):=k8 8 (by decide)
 have q0:w4.cell? ⟨w.heap.size+1+1+1,0,none⟩=some (.int .i64 0):=k9 0 (by decide)
 have q1:w4.cell? ⟨w.heap.size+1+1+1,1,none⟩=some (.bool false):=k9 1 (by decide)
 have q2:w4.cell? ⟨w.heap.size+1+1+1,2,none⟩=some (.bool false):=k9 2 (by decide)
 have q3:w4.cell? ⟨w.heap.size+1+1+1,3,none⟩=some (.int .i64 0):=k9 3 (by decide)
 have q4:w4.cell? ⟨w.heap.size+1+1+1,4,none⟩=some (.int .u64 (W4 0 0)):=k9 4 (by decide)
 have q5:w4.cell? ⟨w.heap.size+1+1+1,5,none⟩=some (.int .u64 (W4 0 1)):=k9 5 (by decide)
 have q6:w4.cell? ⟨w.heap.size+1+1+1,6,none⟩=some (.int .u64 (W4 0 2)):=k9 6 (by decide)
 have q7:w4.cell? ⟨w.heap.size+1+1+1,7,none⟩=some (.int .u64 (W4 0 3)):=k9 7 (by decide)
 have q8:w4.cell? ⟨w.heap.size+1+1+1,8,none⟩=some (.int .i64 0):=k9 8 (by decide)
 clear k8 k9
 go_wp2
 exact bodyPost_ret (by simp only [results,Tryz.results30];go_simp) rfl ⟨rfl,bgo⟩
variable (c2:∀ W,Tab W->CB 40 #[.int .i64 n,A4 B] W (.tuple #[OV c' s' g' x' k' b',.int .i64 E']))
include c2
theorem both_k (hE:E=0) :
  CB 30 #[.int .i64 f,A4 A,.int .i64 n,A4 B] w (.tuple #[OV c s g x k b,OV c' s' g' x' k' b',.int .i64 E']):=by
 subst hE
 have hsm:=cell_set_map
 go_enter Tryz.func30,Tryz.ntmps30
 go_wp2_with (first
  | (have:=hA1;go_at_call 40;refine (c2 _ (hT.go bgo)).mono ?_;rintro r w2 ⟨rfl,hb2⟩;obtain ⟨_,_,_,_,hA2,_⟩:=wz w hb2;obtain ⟨_,_⟩:=zf hb2 (w.heap.size+1);obtain ⟨_,_⟩:=zf hb2 (w.heap.size+1+1);obtain ⟨_,_⟩:=zf hb2 (w.heap.size+1+1+1);clear hb2)
  | (go_at_call 40;refine (c1 _ (hT.go bgo)).mono ?_;rintro r w1 ⟨rfl,hb1⟩;obtain ⟨_,_,_,_,hA1,_⟩:=wz w hb1;obtain ⟨_,_⟩:=zf hb1 (w.heap.size+1);obtain ⟨_,_⟩:=zf hb1 (w.heap.size+1+1);obtain ⟨_,_⟩:=zf hb1 (w.heap.size+1+1+1);clear hb1))
 refine regBo (b:=w.heap.size) (w0:=w) (h:=w.heap.size+1+1) (j:=w.heap.size+1+1+1) (c:=c) (s:=s) (g:=g) (x:=x) (k:=k) (e:=b) (c':=c') (s':=s') (g':=g') (x':=x') (k':=k') (e':=b') (E:=E') rfl rfl rfl rfl bgo (by omega) (by omega) (by omega) ⟨by first|omega|(simp;omega)|simp,rfl,fun i hi=>?_,fun i=>by go_simp⟩ ⟨by first|omega|(simp;omega)|simp,rfl,fun i hi=>?_,fun i=>by go_simp⟩ ?_
 ·rcases nine_cases hi with rfl|rfl|rfl|rfl|rfl|rfl|rfl|rfl|rfl<;>go_simp
 ·rcases nine_cases hi with rfl|rfl|rfl|rfl|rfl|rfl|rfl|rfl|rfl<;>go_simp
 intro a' w4 hbe h8 h9 h10 hsz hdf hF2
 have ha:=act_of [25,26,27,0,1,10] 6 rfl hsz hdf hF2
 rw [ha]
 simp only [List.foldl_cons,List.foldl_nil,Act.put,List.setIfInBounds_toArray,List.set_cons_succ,List.set_cons_zero,h10]
 generalize slot a' 25=s25
 generalize slot a' 26=s26
 generalize slot a' 27=s27
 generalize slot a' 0=s0
 generalize slot a' 1=s1
 clear ha h10 hsz hdf hF2
 obtain ⟨l8,_,k8,_⟩:=h8
 obtain ⟨l9,_,k9,_⟩:=h9
 have p0:w4.cell? ⟨w.heap.size+1+1,0,none⟩=some (.int .i64 c):=k8 0 (by decide)
 have p1:w4.cell? ⟨w.heap.size+1+1,1,none⟩=some (.bool s):=k8 1 (by decide)
 have p2:w4.cell? ⟨w.heap.size+1+1,2,none⟩=some (.bool g):=k8 2 (by decide)
 have p3:w4.cell? ⟨w.heap.size+1+1,3,none⟩=some (.int .i64 x):=k8 3 (by decide)
 have p4:w4.cell? ⟨w.heap.size+1+1,4,none⟩=some (.int .u64 (W4 k 0)):=k8 4 (by decide)
 have p5:w4.cell? ⟨w.heap.size+1+1,5,none⟩=some (.int .u64 (W4 k 1)):=k8 5 (by decide)
 have p6:w4.cell? ⟨w.heap.size+1+1,6,none⟩=some (.int .u64 (W4 k 2)):=k8 6 (by decide)
 have p7:w4.cell? ⟨w.heap.size+1+1,7,none⟩=some (.int .u64 (W4 k 3)):=k8 7 (by decide)
 have p8:w4.cell? ⟨w.heap.size+1+1,8,none⟩=some (.int .i64 b):=k8 8 (by decide)
 have q0:w4.cell? ⟨w.heap.size+1+1+1,0,none⟩=some (.int .i64 c'):=k9 0 (by decide)
 have q1:w4.cell? ⟨w.heap.size+1+1+1,1,none⟩=some (.bool s'):=k9 1 (by decide)
 have q2:w4.cell? ⟨w.heap.size+1+1+1,2,none⟩=some (.bool g'):=k9 2 (by decide)
 have q3:w4.cell? ⟨w.heap.size+1+1+1,3,none⟩=some (.int .i64 x'):=k9 3 (by decide)
 have q4:w4.cell? ⟨w.heap.size+1+1+1,4,none⟩=some (.int .u64 (W4 k' 0)):=k9 4 (by decide)
 have q5:w4.cell? ⟨w.heap.size+1+1+1,5,none⟩=some (.int .u64 (W4 k' 1)):=k9 5 (by decide)
 have q6:w4.cell? ⟨w.heap.size+1+1+1,6,none⟩=some (.int .u64 (W4 k' 2)):=k9 6 (by decide)
 have q7:w4.cell? ⟨w.heap.size+1+1+1,7,none⟩=some (.int .u64 (W4 k' 3)):=k9 7 (by decide)
 have q8:w4.cell? ⟨w.heap.size+1+1+1,8,none⟩=some (.int .i64 b'):=k9 8 (by decide)
 clear k8 k9
 go_wp2
 exact bodyPost_ret (by simp only [results,Tryz.results30];go_simp) rfl ⟨rfl,bgo⟩
end
end
def sgV (s s':Bool)(r q:Int):Int:=if s&&s' then q else if s then -1 else if s' then 1 else r
def szD (a:Dat)(X:Nat)(b:Dat)(Y:Nat):Int:=szV a.c a.k X a.x b.c b.k Y b.x
def outD (a b:Dat)(X:Nat):Int :=
 if a.c≠b.c then sgn a.c b.c
 else if a.c≠3 then (if szD a X b X≠0 then szD a X b X else sgn a.x b.x)
 else if a.g≠b.g then (if a.g then -1 else 1)
 else sgn (a.k:Int) (b.k:Int)
theorem szD_N {a b:Dat}{X Y:Nat}(h1:¬ (a.c=2∨b.c=2))(h2:¬ (a.k=0∨b.k=0)):szD a X b Y=sgn ((oN a X*oD b Y:Nat):Int) ((oN b Y*oD a X:Nat):Int):=by
 unfold szD szV
 rw [if_neg h1,if_neg h2]
 rfl
theorem szD_swap (a b:Dat)(X Y:Nat):szD b Y a X=- szD a X b Y:=by
 unfold szD szV
 by_cases h:a.c=2∨b.c=2
 ·rw [if_pos h,if_pos h.symm,sgn_neg a.c]
 ·rw [if_neg h,if_neg (fun q=>h q.symm)]
  by_cases h2:a.k=0∨b.k=0
  ·rw [if_pos h2,if_pos h2.symm,sgn_neg (a.k:Int)]
  ·rw [if_neg h2,if_neg (fun q=>h2 q.symm),sgn_neg ((a.k*X^a.x.toNat*(1*Y^(-b.x).toNat):Nat):Int)]
theorem sgV_ff (r q:Int):sgV false false r q=r:=rfl
theorem sgV_tf (r q:Int):sgV true false r q=-1:=rfl
theorem sgV_ft (r q:Int):sgV false true r q=1:=rfl
theorem sgV_tt (r q:Int):sgV true true r q=q:=rfl
def nghtD (d:Dat):Prop:=d.c=1/\d.k=0
instance (d:Dat):Decidable (nghtD d):=inferInstanceAs (Decidable (_/\_))
theorem oS_n {d:Dat}(h:nghtD d):oS d=0:=if_pos h
theorem oS_y {d:Dat}(h:¬ nghtD d):oS d=if d.s then -1 else 1:=if_neg h
theorem szD_n1 {a b:Dat}{X Y:Nat}(ha:nghtD a)(hb:¬ nghtD b)(hbc:b.c=1∨b.c=2):szD a X b Y=-1:=by
 obtain ⟨a1,a2⟩:=ha
 unfold szD szV
 rcases hbc with h|h
 ·have hk:b.k≠0:=fun q=>hb ⟨h,q⟩
  rw [if_neg (by omega),if_pos (Or.inl a2),a2]
  unfold sgn
  rw [if_pos (by omega)]
 ·rw [if_pos (Or.inr h),a1,h]
  decide
theorem oV_sg {a b:Dat}{X Y:Nat}(ha:a.c=1∨a.c=2)(hb:b.c=1∨b.c=2)(h0:¬ (nghtD a/\nghtD b)):sgV a.s b.s (szD a X b Y) (szD b Y a X)=oV a X b Y:=by
 by_cases hna:nghtD a
 ·have hnb:¬ nghtD b:=fun h=>h0 ⟨hna,h⟩
  have e1:=szD_n1 (X:=X) (Y:=Y) hna hnb hb
  rw [szD_swap a b X Y,e1,oV_a (Or.inr (oS_n hna)),oS_n hna,oS_y hnb]
  cases a.s<;>cases b.s<;>decide
 ·by_cases hnb:nghtD b
  ·have e1:=szD_n1 (X:=Y) (Y:=X) hnb hna ha
   rw [szD_swap b a Y X,e1,oV_swap b Y a X,oV_a (Or.inr (oS_n hnb)),oS_n hnb,oS_y hna]
   cases a.s<;>cases b.s<;>decide
  ·have ea:=oS_y hna
   have eb:=oS_y hnb
   by_cases hs:a.s=b.s
   ·have hS:oS a=oS b:=by rw [ea,eb,hs]
    have hS0:oS a≠0:=by rw [ea];cases a.s<;>decide
    have key:oV a X b Y=oS a*szD a X b Y:=by
     by_cases h2:a.c=2∨b.c=2
     ·rw [oV_b hS hS0 h2]
      unfold szD szV
      rw [if_pos h2]
     ·have ka:¬ (a.k=0∨b.k=0):=by
       rintro (h|h)
       ·exact hna ⟨by omega,h⟩
       ·exact hnb ⟨by omega,h⟩
      rw [oV_c hS hS0 h2,szD_N h2 ka]
    rw [key,ea,szD_swap a b X Y,← hs]
    cases a.s
    ·rw [sgV_ff];simp
    ·rw [sgV_tt];simp
   ·rw [oV_a (Or.inl (by rw [ea,eb];revert hs;cases a.s<;>cases b.s<;>decide)),ea,eb]
    revert hs
    cases a.s<;>cases b.s<;>intro hs<;>first|(exact absurd rfl hs)|simp [sgV,sgn]
theorem szD_nn {a b:Dat}{X Y:Nat}(ha:nghtD a)(hb:nghtD b):szD a X b Y=0:=by
 obtain ⟨a1,a2⟩:=ha
 obtain ⟨b1,b2⟩:=hb
 unfold szD szV
 rw [if_neg (by omega),if_pos (Or.inl a2),a2,b2]
 exact sgn_self _
theorem oV_nn {a b:Dat}{X Y:Nat}(ha:nghtD a)(hb:nghtD b):oV a X b Y=0:=by
 rw [oV_a (Or.inr (oS_n ha)),oS_n ha,oS_n hb];decide
theorem oV_same {a b:Dat}{X Y:Nat}(ha:a.c=1∨a.c=2)(hb:b.c=1∨b.c=2)(hs:a.s=b.s):oV a X b Y=if a.s then szD b Y a X else szD a X b Y:=by
 by_cases h:nghtD a/\nghtD b
 ·rw [oV_nn h.1 h.2,szD_nn h.1 h.2,szD_nn h.2 h.1,ite_self]
 ·rw [← oV_sg ha hb h,← hs]
  cases a.s
  ·rw [sgV_ff];rfl
  ·rw [sgV_tt];rfl
theorem oT_sg {a b:Dat}{X:Nat}(ha:a.c=1∨a.c=2∨a.c=3)(hb:b.c=1∨b.c=2∨b.c=3):sgV a.s b.s (outD a b X) (outD b a X)=oT a b X:=by
 by_cases hs:a.s=b.s
 ·by_cases h3:a.c=3
  ·by_cases h3':b.c=3
   ·have c0:¬ a.c≠b.c:=fun h=>h (h3.trans h3'.symm)
    have c0':¬ b.c≠a.c:=fun h=>h (h3'.trans h3.symm)
    unfold outD oT oR oG
    rw [if_neg c0,if_neg c0',if_neg (show ¬ a.c≠3 from fun h=>h h3),if_neg (show ¬ b.c≠3 from fun h=>h h3'),if_pos h3,if_pos h3',if_pos h3,← hs]
    rw [sgn_neg (a.k:Int) (b.k:Int)]
    generalize sgn (a.k:Int) (b.k:Int)=z
    cases a.s<;>cases a.g<;>cases b.g<;>simp [sgV,sgn]
   ·have c0:a.c≠b.c:=by omega
    unfold outD oT oR
    rw [if_pos c0,if_pos (Ne.symm c0),if_pos h3,if_neg h3',← hs,h3]
    have hb2:b.c=1∨b.c=2:=by omega
    rcases hb2 with e|e<;>rw [e]<;>cases a.s<;>cases a.g<;>simp [sgV,sgn]
  ·by_cases h3':b.c=3
   ·have c0:a.c≠b.c:=by omega
    unfold outD oT oR
    rw [if_pos c0,if_pos (Ne.symm c0),if_neg h3,if_pos h3',← hs,h3']
    have ha2:a.c=1∨a.c=2:=by omega
    rcases ha2 with e|e<;>rw [e]<;>cases a.s<;>cases b.g<;>simp [sgV,sgn]
   ·have ha2:a.c=1∨a.c=2:=by omega
    have hb2:b.c=1∨b.c=2:=by omega
    have eR:oR a=oR b:=by unfold oR;rw [if_neg h3,if_neg h3',hs]
    have eV:=oV_same (X:=X) (Y:=X) ha2 hb2 hs
    unfold oT
    rw [if_neg (fun h=>h eR),if_neg h3,eV,← hs]
    unfold outD oG
    by_cases hc:a.c=b.c
    ·rw [if_neg (show ¬ a.c≠b.c from fun h=>h hc),if_neg (show ¬ b.c≠a.c from fun h=>h hc.symm),if_pos h3,if_pos h3']
     rw [sgn_neg a.x b.x]
     generalize szD a X b X=z
     generalize szD b X a X=y
     cases a.s
     ·rw [sgV_ff]
      by_cases hz:z=0<;>simp [hz]
     ·rw [sgV_tt]
      by_cases hz:y=0<;>simp [hz]
    ·rw [if_pos hc,if_pos (Ne.symm hc)]
     have h2:a.c=2∨b.c=2:=by omega
     have e1:szD a X b X=sgn a.c b.c:=by unfold szD szV;rw [if_pos h2]
     have e2:szD b X a X=sgn b.c a.c:=by unfold szD szV;rw [if_pos h2.symm]
     rw [e1,e2]
     have hor:(a.c=1/\b.c=2)∨(a.c=2/\b.c=1):=by omega
     rcases hor with ⟨q1,q2⟩|⟨q1,q2⟩<;>rw [q1,q2]<;>cases a.s<;>simp [sgV,sgn]
 ·have hR:∀ d:Dat,(d.s=true->oR d<=-1)/\(d.s=false->1<=oR d):=by
   intro d
   unfold oR
   constructor<;>intro h<;>rw [h]<;>simp only [if_true,Bool.false_eq_true,if_false]<;>split<;>(try split)<;>omega
  have h1:=hR a
  have h2:=hR b
  unfold oT
  revert hs h1 h2
  cases a.s<;>cases b.s<;>intro hs h1 h2
  ·exact absurd rfl hs
  ·have p:=h1.2 rfl
   have q:=h2.1 rfl
   rw [if_pos (by omega),sgV_ft]
   unfold sgn
   rw [if_neg (by omega),if_pos (by omega)]
  ·have p:=h1.1 rfl
   have q:=h2.2 rfl
   rw [if_pos (by omega),sgV_tf]
   unfold sgn
   rw [if_pos (by omega)]
  ·exact absurd rfl hs
section
abbrev zd:Array Value:=#[.int .i64 0,.bool false,.bool false,.int .i64 0,.int .u64 0,.int .u64 0,.int .u64 0,.int .u64 0]
theorem below_cellsD {n b:Nat}{a:World}(hb:n<=b):∀ (vs:List Value) (o:Nat) (W:World),Below n a W->Below n a (W.setCells b o vs)
 | [],_,_,h=>h
 | v::r,o,W,h=>below_cellsD hb r (o+1) _ (h.setCell hb v)
def D8 (g:Nat)(cs:Array Value)(w:World):Prop:=g<w.heap.size/\cs.size=8/\(∀ i,i<8->w.cell? ⟨g,i,none⟩=cs[i]?)/\∀ i,w.frozen? ⟨g,i,none⟩=false
theorem D8.next {g:Nat}{cs:Array Value}{w w':World}(h:D8 g cs w)(hb:Below w.heap.size w w'):D8 g cs w' :=
 ⟨Nat.lt_of_lt_of_le h.1 hb.size,h.2.1,fun i hi=>(hb.cell (p:=⟨g,i,none⟩) h.1).trans (h.2.2.1 i hi),fun i=>(hb.frozen (p:=⟨g,i,none⟩) h.1).trans (h.2.2.2 i)⟩
theorem D8.new (w:World):D8 w.heap.size zd (w.alloc (.cells zd 34)):=by
 refine ⟨by simp,rfl,fun i hi=>?_,fun i=>?_⟩
 ·rw [World.cell?_alloc_new]
 ·simp [go_sem]
theorem D8.put {g:Nat}{cs cs':Array Value}{w:World}(h:D8 g cs w)(hs:cs'.size=8):D8 g cs' (w.setCells g 0 cs'.toList):=by
 have hin:=World.cell?_setCells_in g cs'.toList 0 w (fun j hj=>by
  rw [Nat.zero_add,h.2.2.1 j (by simpa [hs] using hj),Array.getElem?_eq_getElem (by rw [h.2.1];simpa [hs] using hj)];rfl)
 refine ⟨Nat.lt_of_lt_of_le h.1 (below_cellsD (n:=0) (Nat.zero_le _) _ _ _ (Below.refl 0 w)).size,hs,fun i hi=>?_,fun i=>?_⟩
 ·have:=hin i (by simpa [hs] using hi)
  rw [Nat.zero_add] at this
  rw [this,Array.getElem?_eq_getElem (by rw [hs];exact hi)]
  simp
 ·rw [World.frozen?_setCells];exact h.2.2.2 i
attribute [local irreducible] W4 Nt NT
section
variable {a:Act}{w:World}{K:Act->World->Prop}{Q:Exit->Act->World->Prop}{d p q:Nat}{ty:TypeId}{pos:String}{after:Array Edge}{gd:Option (Nat×Bool)}
theorem od_bs1 (hK:K (a.put (some d) (.slice (some ⟨w.heap.size,0,none⟩) 1 1)) (w.alloc (.cells #[.int .u64 1] 22))):Oper.wp Tryz.prog { dst:=some d,op:=Op.buildSlice 48 1 #[(0,Operand.const (.int .u64 1))],type:=ty,pos:=pos,after:=after,guard:=gd } a w K Q:=by
 simp [go_sem]
 exact hK
end
end
section
attribute [local irreducible] W4 NT NV
section
variable {a:Act}{w:World}{K:Act->World->Prop}{Q:Exit->Act->World->Prop}{d p:Nat}{ty:TypeId}{pos:String}{after:Array Edge}{gd:Option (Nat×Bool)}
theorem og_c4t {F:Nat}{p0 p1 p2 p3:Nat}{u0 u1 u2 u3:Value}{ts:Array TypeId}(hr:Sem.run Tryz.prog (callFunc F #[u0,u1,u2,u3]) w=.ok (.enter F #[u0,u1,u2,u3]) w)(h0:slot a p0=u0)(h1:slot a p1=u1)(h2:slot a p2=u2)(h3:slot a p3=u3)(hc:Calls Tryz.prog F #[u0,u1,u2,u3] w fun e w'=>∃ v,e=.returned v/\K (a.put (some d) v) w'):Oper.wp Tryz.prog { dst:=some d,op:=Op.call { callee:=Callee.value (Operand.func F),args:=#[Operand.tmp p0,Operand.tmp p1,Operand.tmp p2,Operand.tmp p3],argTypes:=ts },type:=ty,pos:=pos,after:=after,guard:=gd } a w K Q:=by
 unfold slot at h0 h1 h2 h3
 simp [go_sem,h0,h1,h2,h3,hr]
 refine hc.mono ?_
 rintro e w' ⟨v,rfl,hK⟩
 exact hK
end
theorem nat_20 (k:Nat)(hk:k<2^256)(W:World):CE 48 #[A4 k] W (NT 7000 k):=by
 refine (rnat13 k W hk).mono ?_
 rintro r w' ⟨g,m,cap,rfl,_,hn,hb⟩
 exact ⟨_,rfl,hn.more (by decide),hb⟩
def TW2 (X Y:Nat)(v:Value)(w:World):Prop:=∃ a b,v=.tuple #[a,b]/\NT 7000 X a w/\NT 7000 Y b w
theorem TW2.next {X Y:Nat}{v:Value}{w w':World}(h:TW2 X Y v w)(hb:Below w.heap.size w w'):TW2 X Y v w':=by
 obtain ⟨a,b,e,h1,h2⟩:=h
 exact ⟨a,b,e,h1.next hb,h2.next hb⟩
noncomputable def opsV6:List Oper:=(Tryz.f34.body.bind (findR 6)).getD []
def slotsV6:List Nat:=[45,46,47,48,49,50,51,52]
def slotsAV6:List Nat:=[45,46,47,48,49,50,51,52,44,53,54,11,12]
theorem regV6 {h1 k X Y:Nat}{x P:Int}{a0:Act}{ws:World}{Q:Exit->Act->World->Prop}(hP:∀ c a d v w,Q (.panic c) (Act.put a d v) w->Q (.panic c) a w)(hs:a0.tmps.size=75)(g1:slot a0 4=.pointer (some ⟨h1,0,none⟩))(gP:slot a0 1=.int .u64 P)(hlt:h1<ws.heap.size)(k3:ws.cell? ⟨h1,3,none⟩=some (.int .i64 x))
  (k4:ws.cell? ⟨h1,4,none⟩=some (.int .u64 (W4 k 0))) (k5:ws.cell? ⟨h1,5,none⟩=some (.int .u64 (W4 k 1))) (k6:ws.cell? ⟨h1,6,none⟩=some (.int .u64 (W4 k 2))) (k7:ws.cell? ⟨h1,7,none⟩=some (.int .u64 (W4 k 3)))
  (c1:∀ W,CE 48 #[A4 k] W (NT 7000 k))
  (c2:∀ W p q,NT 7000 k p W->NT 1 1 q W->Calls Tryz.prog 77 #[p,q,.int .u64 P,.int .i64 x] W fun e w'=>∃ u,e=.returned u/\TW2 X Y u w'/\Below W.heap.size W w')
  (hQ:∀ (a:Act) (w:World) (u v:Value),slot a 11=u->slot a 12=v->NT 7000 X u w->NT 7000 Y v w->a.tmps.size=75->a.defers=a0.defers->(∀ t,(∀ i,i<13->slotsAV6.getD i 0≠t)->slot a t=slot a0 t)->Below ws.heap.size ws w->Q .normal a w) :
  (Code.region 6 opsV6.toArray true).wp Tryz.prog Q a0 ws:=by
 refine wp_region_memr 8 75 slotsV6 [iW (.pointer (some ⟨h1,4,none⟩)),iW (A4 k),NT 7000 k,NT 1 1,iW (.int .u64 P),iW (.pointer (some ⟨h1,3,none⟩)),iW (.int .i64 x),TW2 X Y] (fun w w'=>Below w.heap.size w w') (fun L f w=>Below ws.heap.size ws w) (by kernel_rfl) (by kernel_rfl) hP (by kernel_rfl) hs ?_ (Below.refl _ _).drew ?_ ?_
 ·intro p hp
  simp only [List.mem_cons,List.not_mem_nil,or_false] at hp
  rcases hp with rfl|rfl|rfl|rfl|rfl|rfl|rfl|rfl
  all_goals first|exact fun _ _ _ h _=>h|exact fun _ _ _ h hb=>h.next hb
 ·intro L i o a w hi ho hL hcl he hM hF hv
  have f1:slot a 4=.pointer (some ⟨h1,0,none⟩):=(hF 4 (by decide)).trans g1
  have fP:slot a 1=.int .u64 P:=(hF 1 (by decide)).trans gP
  have hor:i=0∨i=1∨i=2∨i=3∨i=4∨i=5∨i=6∨i=7:=by omega
  rcases hor with rfl|rfl|rfl|rfl|rfl|rfl|rfl|rfl
  ·obtain rfl:=Option.some.inj (show opsV6[0]?=some o from ho)
   exact og_fad4 f1 ⟨_,rfl,rfl,Below.refl _ _,hM⟩
  ·obtain rfl:=Option.some.inj (show opsV6[1]?=some o from ho)
   exact og_ldB (i:=4) (hv 0 (by decide) rfl (he ⟨0,.data⟩ (by simp) rfl):slot a 45=.pointer (some ⟨h1,4,none⟩)) ((hM.cell (p:=⟨h1,4,none⟩) hlt).trans k4) ((hM.cell (p:=⟨h1,5,none⟩) hlt).trans k5) ((hM.cell (p:=⟨h1,6,none⟩) hlt).trans k6) ((hM.cell (p:=⟨h1,7,none⟩) hlt).trans k7) ⟨_,rfl,rfl,Below.refl _ _,hM⟩
  ·obtain rfl:=Option.some.inj (show opsV6[2]?=some o from ho)
   refine og_c1 (by simp [go_sem]) (hv 1 (by decide) rfl (he ⟨1,.data⟩ (by simp) rfl):slot a 46=A4 k) ((c1 w).mono ?_)
   rintro e w' ⟨v,rfl,hSv,hb⟩
   exact ⟨v,rfl,_,rfl,hSv,hb,bnx hM hb⟩
  ·obtain rfl:=Option.some.inj (show opsV6[3]?=some o from ho)
   have hb:=below1 w (.cells #[.int .u64 1] 22)
   exact od_bs1 ⟨_,rfl,nt_un1 rfl rfl (by decide) (by decide),hb,bnx hM hb⟩
  ·obtain rfl:=Option.some.inj (show opsV6[4]?=some o from ho)
   exact og_mv fP ⟨_,rfl,rfl,Below.refl _ _,hM⟩
  ·obtain rfl:=Option.some.inj (show opsV6[5]?=some o from ho)
   exact og_fad3 f1 ⟨_,rfl,rfl,Below.refl _ _,hM⟩
  ·obtain rfl:=Option.some.inj (show opsV6[6]?=some o from ho)
   exact og_ld3 (hv 5 (by decide) rfl (he ⟨5,.data⟩ (by simp) rfl):slot a 50=.pointer (some ⟨h1,3,none⟩)) ((hM.cell (p:=⟨h1,3,none⟩) hlt).trans k3) ⟨_,rfl,rfl,Below.refl _ _,hM⟩
  ·obtain rfl:=Option.some.inj (show opsV6[7]?=some o from ho)
   refine og_c4t (by simp [go_sem]) rfl rfl (hv 4 (by decide) rfl (he ⟨4,.data⟩ (by simp) rfl):slot a 49=.int .u64 P) (hv 6 (by decide) rfl (he ⟨6,.data⟩ (by simp) rfl):slot a 51=.int .i64 x) ((c2 w _ _ (hv 2 (by decide) rfl (he ⟨2,.data⟩ (by simp) rfl)) (hv 3 (by decide) rfl (he ⟨3,.data⟩ (by simp) rfl))).mono ?_)
   rintro e w' ⟨v,rfl,hSv,hb⟩
   exact ⟨_,rfl,_,rfl,hSv,hb,bnx hM hb⟩
 ·intro L a w hL hM hsz hdf hF hv
  obtain ⟨q,q',e,hq,hq'⟩:=(hv 7 (by decide) rfl:TW2 X Y (slot a 52) w)
  refine BigFrame.wpList_want rfl fun K hK=>og_mv e (hK _ _ ?_)
  clear K hK
  refine BigFrame.wpList_want rfl fun K hK=>og_ext (slot_put (by omega)) rfl (hK _ _ ?_)
  clear K hK
  refine BigFrame.wpList_want rfl fun K hK=>og_ext ((slot_put_ne (by decide)).trans (slot_put (by omega))) rfl (hK _ _ ?_)
  clear K hK
  refine BigFrame.wpList_want rfl fun K hK=>og_as ((slot_put_ne (by decide)).trans (slot_put (by rw [put_size];omega))) (hK _ _ ?_)
  clear K hK
  refine BigFrame.wpList_want rfl fun K hK=>og_as ((slot_put_ne (by decide)).trans (slot_put (by simp only [put_size];omega))) (hK _ _ ?_)
  clear K hK
  refine hQ _ _ q q' ((slot_put_ne (by decide)).trans (slot_put (by simp only [put_size];omega))) (slot_put (by simp only [put_size];omega)) hq hq' (by simp only [put_size];exact hsz) hdf (fun t ht=>?_) hM
  rw [slot_put_ne (show 12≠t from ht 12 (by decide)),slot_put_ne (show 11≠t from ht 11 (by decide)),slot_put_ne (show 54≠t from ht 10 (by decide)),slot_put_ne (show 53≠t from ht 9 (by decide)),slot_put_ne (show 44≠t from ht 8 (by decide))]
  exact hF t fun i hi=>by
   have:=ht i (by omega)
   have hor:i=0∨i=1∨i=2∨i=3∨i=4∨i=5∨i=6∨i=7:=by omega
   rcases hor with rfl|rfl|rfl|rfl|rfl|rfl|rfl|rfl<;>exact this
noncomputable def opsV7:List Oper:=(Tryz.f34.body.bind (findR 7)).getD []
def slotsV7:List Nat:=[56,57,58,59,60,61,62,63]
def slotsAV7:List Nat:=[56,57,58,59,60,61,62,63,55,64,65,13,14]
theorem regV7 {h1 k X Y:Nat}{x P:Int}{a0:Act}{ws:World}{Q:Exit->Act->World->Prop}(hP:∀ c a d v w,Q (.panic c) (Act.put a d v) w->Q (.panic c) a w)(hs:a0.tmps.size=75)(g1:slot a0 6=.pointer (some ⟨h1,0,none⟩))(gP:slot a0 3=.int .u64 P)(hlt:h1<ws.heap.size)(k3:ws.cell? ⟨h1,3,none⟩=some (.int .i64 x))
  (k4:ws.cell? ⟨h1,4,none⟩=some (.int .u64 (W4 k 0))) (k5:ws.cell? ⟨h1,5,none⟩=some (.int .u64 (W4 k 1))) (k6:ws.cell? ⟨h1,6,none⟩=some (.int .u64 (W4 k 2))) (k7:ws.cell? ⟨h1,7,none⟩=some (.int .u64 (W4 k 3)))
  (c1:∀ W,CE 48 #[A4 k] W (NT 7000 k))
  (c2:∀ W p q,NT 7000 k p W->NT 1 1 q W->Calls Tryz.prog 77 #[p,q,.int .u64 P,.int .i64 x] W fun e w'=>∃ u,e=.returned u/\TW2 X Y u w'/\Below W.heap.size W w')
  (hQ:∀ (a:Act) (w:World) (u v:Value),slot a 13=u->slot a 14=v->NT 7000 X u w->NT 7000 Y v w->a.tmps.size=75->a.defers=a0.defers->(∀ t,(∀ i,i<13->slotsAV7.getD i 0≠t)->slot a t=slot a0 t)->Below ws.heap.size ws w->Q .normal a w) :
  (Code.region 7 opsV7.toArray true).wp Tryz.prog Q a0 ws:=by
 refine wp_region_memr 8 75 slotsV7 [iW (.pointer (some ⟨h1,4,none⟩)),iW (A4 k),NT 7000 k,NT 1 1,iW (.int .u64 P),iW (.pointer (some ⟨h1,3,none⟩)),iW (.int .i64 x),TW2 X Y] (fun w w'=>Below w.heap.size w w') (fun L f w=>Below ws.heap.size ws w) (by kernel_rfl) (by kernel_rfl) hP (by kernel_rfl) hs ?_ (Below.refl _ _).drew ?_ ?_
 ·intro p hp
  simp only [List.mem_cons,List.not_mem_nil,or_false] at hp
  rcases hp with rfl|rfl|rfl|rfl|rfl|rfl|rfl|rfl
  all_goals first|exact fun _ _ _ h _=>h|exact fun _ _ _ h hb=>h.next hb
 ·intro L i o a w hi ho hL hcl he hM hF hv
  have f1:slot a 6=.pointer (some ⟨h1,0,none⟩):=(hF 6 (by decide)).trans g1
  have fP:slot a 3=.int .u64 P:=(hF 3 (by decide)).trans gP
  have hor:i=0∨i=1∨i=2∨i=3∨i=4∨i=5∨i=6∨i=7:=by omega
  rcases hor with rfl|rfl|rfl|rfl|rfl|rfl|rfl|rfl
  ·obtain rfl:=Option.some.inj (show opsV7[0]?=some o from ho)
   exact og_fad4 f1 ⟨_,rfl,rfl,Below.refl _ _,hM⟩
  ·obtain rfl:=Option.some.inj (show opsV7[1]?=some o from ho)
   exact og_ldB (i:=4) (hv 0 (by decide) rfl (he ⟨0,.data⟩ (by simp) rfl):slot a 56=.pointer (some ⟨h1,4,none⟩)) ((hM.cell (p:=⟨h1,4,none⟩) hlt).trans k4) ((hM.cell (p:=⟨h1,5,none⟩) hlt).trans k5) ((hM.cell (p:=⟨h1,6,none⟩) hlt).trans k6) ((hM.cell (p:=⟨h1,7,none⟩) hlt).trans k7) ⟨_,rfl,rfl,Below.refl _ _,hM⟩
  ·obtain rfl:=Option.some.inj (show opsV7[2]?=some o from ho)
   refine og_c1 (by simp [go_sem]) (hv 1 (by decide) rfl (he ⟨1,.data⟩ (by simp) rfl):slot a 57=A4 k) ((c1 w).mono ?_)
   rintro e w' ⟨v,rfl,hSv,hb⟩
   exact ⟨v,rfl,_,rfl,hSv,hb,bnx hM hb⟩
  ·obtain rfl:=Option.some.inj (show opsV7[3]?=some o from ho)
   have hb:=below1 w (.cells #[.int .u64 1] 22)
   exact od_bs1 ⟨_,rfl,nt_un1 rfl rfl (by decide) (by decide),hb,bnx hM hb⟩
  ·obtain rfl:=Option.some.inj (show opsV7[4]?=some o from ho)
   exact og_mv fP ⟨_,rfl,rfl,Below.refl _ _,hM⟩
  ·obtain rfl:=Option.some.inj (show opsV7[5]?=some o from ho)
   exact og_fad3 f1 ⟨_,rfl,rfl,Below.refl _ _,hM⟩
  ·obtain rfl:=Option.some.inj (show opsV7[6]?=some o from ho)
   exact og_ld3 (hv 5 (by decide) rfl (he ⟨5,.data⟩ (by simp) rfl):slot a 61=.pointer (some ⟨h1,3,none⟩)) ((hM.cell (p:=⟨h1,3,none⟩) hlt).trans k3) ⟨_,rfl,rfl,Below.refl _ _,hM⟩
  ·obtain rfl:=Option.some.inj (show opsV7[7]?=some o from ho)
   refine og_c4t (by simp [go_sem]) rfl rfl (hv 4 (by decide) rfl (he ⟨4,.data⟩ (by simp) rfl):slot a 60=.int .u64 P) (hv 6 (by decide) rfl (he ⟨6,.data⟩ (by simp) rfl):slot a 62=.int .i64 x) ((c2 w _ _ (hv 2 (by decide) rfl (he ⟨2,.data⟩ (by simp) rfl)) (hv 3 (by decide) rfl (he ⟨3,.data⟩ (by simp) rfl))).mono ?_)
   rintro e w' ⟨v,rfl,hSv,hb⟩
   exact ⟨_,rfl,_,rfl,hSv,hb,bnx hM hb⟩
 ·intro L a w hL hM hsz hdf hF hv
  obtain ⟨q,q',e,hq,hq'⟩:=(hv 7 (by decide) rfl:TW2 X Y (slot a 63) w)
  refine BigFrame.wpList_want rfl fun K hK=>og_mv e (hK _ _ ?_)
  clear K hK
  refine BigFrame.wpList_want rfl fun K hK=>og_ext (slot_put (by omega)) rfl (hK _ _ ?_)
  clear K hK
  refine BigFrame.wpList_want rfl fun K hK=>og_ext ((slot_put_ne (by decide)).trans (slot_put (by omega))) rfl (hK _ _ ?_)
  clear K hK
  refine BigFrame.wpList_want rfl fun K hK=>og_as ((slot_put_ne (by decide)).trans (slot_put (by rw [put_size];omega))) (hK _ _ ?_)
  clear K hK
  refine BigFrame.wpList_want rfl fun K hK=>og_as ((slot_put_ne (by decide)).trans (slot_put (by simp only [put_size];omega))) (hK _ _ ?_)
  clear K hK
  refine hQ _ _ q q' ((slot_put_ne (by decide)).trans (slot_put (by simp only [put_size];omega))) (slot_put (by simp only [put_size];omega)) hq hq' (by simp only [put_size];exact hsz) hdf (fun t ht=>?_) hM
  rw [slot_put_ne (show 14≠t from ht 12 (by decide)),slot_put_ne (show 13≠t from ht 11 (by decide)),slot_put_ne (show 65≠t from ht 10 (by decide)),slot_put_ne (show 64≠t from ht 9 (by decide)),slot_put_ne (show 55≠t from ht 8 (by decide))]
  exact hF t fun i hi=>by
   have:=ht i (by omega)
   have hor:i=0∨i=1∨i=2∨i=3∨i=4∨i=5∨i=6∨i=7:=by omega
   rcases hor with rfl|rfl|rfl|rfl|rfl|rfl|rfl|rfl<;>exact this
section
variable (c x c' x':Int)(s g s' g':Bool)(k k':Nat)(P P' S T:Int)(w:World)
 (c1:∀ W,CB 76 #[DV c s g x k] W (.int .i64 S))
 (c2:∀ W,CB 76 #[DV c' s' g' x' k'] W (.int .i64 T))
include c1 c2
theorem rval_o (V:Int)(h:(S != T)=true∨((S != T)=false/\(S==0)=true))(c3:∀ W,CQ 37 #[.int .i64 S,.int .i64 T] W (.int .i64 V)) :
  CB 34 #[DV c s g x k,.int .u64 P,DV c' s' g' x' k',.int .u64 P'] w (.int .i64 V):=by
 have hsm:=cell_set_map
 unfold DV at *
 rcases h with h|⟨h,h'⟩
 all_goals
  go_enter Tryz.func34,Tryz.ntmps34
  go_wp2
  refine wp_tail 4 (by kernel_rfl) (by kernel_rfl) (by kernel_rfl) (fun _ _ d _ _ h=>by cases d<;>exact h) fun hne hcell=>?_
  simp only [List.take_succ_cons,List.take_zero,List.drop_succ_cons,List.drop_zero]
  repeat go_big_quiet_step (fail)
  go_big_quiet_step ((go_at_call 76;exact calls_wd _ bk_next (c1 _)))
  repeat go_big_quiet_step (fail)
  go_big_quiet_step ((go_at_call 76;exact calls_wd _ bk_next (c2 _)))
  refine wpQuiet_nil fun w2 hb2=>?_
  obtain ⟨_,_,_,_,hA2,_⟩:=wz w hb2;obtain ⟨_,_⟩:=zf hb2 (w.heap.size+1);clear hb2
  go_wp2_with (go_at_call 37;refine (c3 _).mono ?_;rintro r w3 ⟨rfl,rfl⟩)
  go_ret
  exact ⟨rfl,bgo⟩
variable (h:(S != T)=false)(h':(S==0)=false)
include h h'
theorem rval_2 (V:Int)(hS:-1<=S/\S<=1)(hV:-1<=V/\V<=1)(h2:(c==2)=true∨((c==2)=false/\(c'==2)=true))(c3:∀ W,CQ 37 #[.int .i64 c,.int .i64 c'] W (.int .i64 V)) :
  CB 34 #[DV c s g x k,.int .u64 P,DV c' s' g' x' k',.int .u64 P'] w (.int .i64 (S*V)):=by
 have hsm:=cell_set_map
 have hSV:-1<=S*V/\S*V<=1:=by
  have:S=-1∨S=0∨S=1:=by omega
  rcases this with e|e|e<;>rw [e]<;>omega
 unfold DV at *
 rcases h2 with h2|⟨h2,h3⟩
 all_goals
  go_enter Tryz.func34,Tryz.ntmps34
  go_wp2
  refine wp_tail 4 (by kernel_rfl) (by kernel_rfl) (by kernel_rfl) (fun _ _ d _ _ h=>by cases d<;>exact h) fun hne hcell=>?_
  simp only [List.take_succ_cons,List.take_zero,List.drop_succ_cons,List.drop_zero]
  repeat go_big_quiet_step (fail)
  go_big_quiet_step ((go_at_call 76;exact calls_wd _ bk_next (c1 _)))
  repeat go_big_quiet_step (fail)
  go_big_quiet_step ((go_at_call 76;exact calls_wd _ bk_next (c2 _)))
  refine wpQuiet_nil fun w2 hb2=>?_
  obtain ⟨_,_,_,_,hA2,_⟩:=wz w hb2;obtain ⟨_,_⟩:=zf hb2 (w.heap.size+1);clear hb2
  go_wp2_with (go_at_call 37;refine (c3 _).mono ?_;rintro r w3 ⟨rfl,rfl⟩)
  go_ret
  exact ⟨by first|rfl|(go_num),bgo⟩
theorem rval_k (V:Int)(X Y X' Y':Nat)(hS:-1<=S/\S<=1)(hV:-1<=V/\V<=1)(h2:(c==2)=false)(h3:(c'==2)=false)(hk:k<2^256)(hk':k'<2^256)
  (c4:∀ W p q,NT 7000 k p W->NT 1 1 q W->Calls Tryz.prog 77 #[p,q,.int .u64 P,.int .i64 x] W fun e w'=>∃ u,e=.returned u/\TW2 X Y u w'/\Below W.heap.size W w')
  (c5:∀ W p q,NT 7000 k' p W->NT 1 1 q W->Calls Tryz.prog 77 #[p,q,.int .u64 P',.int .i64 x'] W fun e w'=>∃ u,e=.returned u/\TW2 X' Y' u w'/\Below W.heap.size W w')
  (c6:∀ W p q,NT 7000 X p W->NT 7000 Y' q W->CE 24 #[p,q] W (NV 14001 (X*Y')))
  (c7:∀ W p q,NT 7000 X' p W->NT 7000 Y q W->CE 24 #[p,q] W (NV 14001 (X'*Y)))
  (c8:∀ W p q,NV 14001 (X*Y') p W->NV 14001 (X'*Y) q W->CB 25 #[p,q] W (.int .i64 V)) :
  CB 34 #[DV c s g x k,.int .u64 P,DV c' s' g' x' k',.int .u64 P'] w (.int .i64 (S*V)):=by
 have hsm:=cell_set_map
 have hSV:-1<=S*V/\S*V<=1:=by
  have:S=-1∨S=0∨S=1:=by omega
  rcases this with e|e|e<;>rw [e]<;>omega
 unfold DV at *
 go_enter Tryz.func34,Tryz.ntmps34
 go_wp2
 refine wp_tail 4 (by kernel_rfl) (by kernel_rfl) (by kernel_rfl) (fun _ _ d _ _ h=>by cases d<;>exact h) fun hne hcell=>?_
 simp only [List.take_succ_cons,List.take_zero,List.drop_succ_cons,List.drop_zero]
 repeat go_big_quiet_step (fail)
 go_big_quiet_step ((go_at_call 76;exact calls_wd _ bk_next (c1 _)))
 repeat go_big_quiet_step (fail)
 go_big_quiet_step ((go_at_call 76;exact calls_wd _ bk_next (c2 _)))
 refine wpQuiet_nil fun w2 hb2=>?_
 obtain ⟨_,_,_,_,hA2,_⟩:=wz w hb2;obtain ⟨_,_⟩:=zf hb2 (w.heap.size+1);clear hb2
 go_wp2
 refine regV6 (h1:=w.heap.size) (k:=k) (X:=X) (Y:=Y) (x:=x) (P:=P) (fun _ _ d _ _ h=>by cases d<;>exact h) rfl rfl rfl (by first|omega|(simp;omega)|simp) (by go_simp) (by go_simp) (by go_simp) (by go_simp) (by go_simp) (fun W=>nat_20 k hk W) c4 ?_
 intro a' w4 u4 v4 h4 h5 hu4 hv4 hsz hdf hF2 hb4
 have ha:=act_of slotsAV6 13 rfl hsz hdf hF2
 rw [ha]
 simp only [slotsAV6,List.foldl_cons,List.foldl_nil,Act.put,List.setIfInBounds_toArray,List.set_cons_succ,List.set_cons_zero,h4,h5]
 generalize slot a' 45=s45
 generalize slot a' 46=s46
 generalize slot a' 47=s47
 generalize slot a' 48=s48
 generalize slot a' 49=s49
 generalize slot a' 50=s50
 generalize slot a' 51=s51
 generalize slot a' 52=s52
 generalize slot a' 44=s44
 generalize slot a' 53=s53
 generalize slot a' 54=s54
 clear ha h4 h5 hsz hdf hF2
 obtain ⟨_,_,_,_,hA4,_⟩:=wz w hb4;obtain ⟨_,_⟩:=zf hb4 (w.heap.size+1);clear hb4
 go_wp2
 refine regV7 (h1:=w.heap.size+1) (k:=k') (X:=X') (Y:=Y') (x:=x') (P:=P') (fun _ _ d _ _ h=>by cases d<;>exact h) rfl rfl rfl (by first|omega|(simp;omega)|simp) (by go_simp) (by go_simp) (by go_simp) (by go_simp) (by go_simp) (fun W=>nat_20 k' hk' W) c5 ?_
 intro a' w5 u5 v5 h4 h5 hu5 hv5 hsz hdf hF2 hb5
 have ha:=act_of slotsAV7 13 rfl hsz hdf hF2
 rw [ha]
 simp only [slotsAV7,List.foldl_cons,List.foldl_nil,Act.put,List.setIfInBounds_toArray,List.set_cons_succ,List.set_cons_zero,h4,h5]
 generalize slot a' 56=s56
 generalize slot a' 57=s57
 generalize slot a' 58=s58
 generalize slot a' 59=s59
 generalize slot a' 60=s60
 generalize slot a' 61=s61
 generalize slot a' 62=s62
 generalize slot a' 63=s63
 generalize slot a' 55=s55
 generalize slot a' 64=s64
 generalize slot a' 65=s65
 have hu4':=hu4.next hb5
 have hv4':=hv4.next hb5
 clear ha h4 h5 hsz hdf hF2 hu4 hv4
 obtain ⟨_,_,_,_,hA5,_⟩:=wz w hb5;obtain ⟨_,_⟩:=zf hb5 (w.heap.size+1);clear hb5
 go_wp2_with (first
  | (have:=hA6;go_at_call 24;refine (c7 _ _ _ hn6 hm6).mono ?_;rintro r w7 ⟨t7,rfl,ht7,hb7⟩;have ht6':=ht6.next hb7;obtain ⟨_,_,_,_,hA7,_⟩:=wz w hb7;obtain ⟨_,_⟩:=zf hb7 (w.heap.size+1);clear hb7)
  | (go_at_call 24;refine (c6 _ _ _ hu4' hv5).mono ?_;rintro r w6 ⟨t6,rfl,ht6,hb6⟩;have hn6:=hu5.next hb6;have hm6:=hv4'.next hb6;obtain ⟨_,_,_,_,hA6,_⟩:=wz w hb6;obtain ⟨_,_⟩:=zf hb6 (w.heap.size+1);clear hb6)
  | (go_at_call 25;refine (c8 _ _ _ ht6' ht7).mono ?_;rintro r w8 ⟨rfl,hb8⟩;obtain ⟨_,_,_,_,hA8,_⟩:=wz w hb8;obtain ⟨_,_⟩:=zf hb8 (w.heap.size+1);clear hb8))
 go_ret
 exact ⟨by first|rfl|(go_num),bgo⟩
end
theorem oS_bd (d:Dat):-1<=oS d/\oS d<=1:=by unfold oS;split<;>(try split)<;>omega
theorem scale20 {P:Nat}(hP:P=2∨P=10){k:Nat}(hk:k<2^256){x:Int}(hx:-17000<=x/\x<=17000)(W:World){p q:Value}(hp:NT 7000 k p W)(hq:NT 1 1 q W) :
  Calls Tryz.prog 77 #[p,q,.int .u64 (P:Int),.int .i64 x] W fun e w'=>∃ u,e=.returned u/\TW2 (k*P^x.toNat) (1*P^(-x).toNat) u w'/\Below W.heap.size W w':=by
 have hb:bl k<=256:=bl_le.2 hk
 have h1:bl 1<=1:=bl_le.2 (by decide)
 rcases hP with rfl|rfl
 ·refine (rscale2 x hx (hp.tight (by omega)) (hq.more (by decide)) (by omega) (by omega)).mono fun e w' ⟨a,b,e1,e2,e3,e4⟩=>⟨_,e1,⟨a,b,rfl,e2.more (by decide),e3.more (by decide)⟩,e4⟩
 ·refine (rscaleT x (by omega) hp (hq.more (by decide)) (by omega) (by omega)).mono fun e w' ⟨a,b,e1,e2,e3,e4⟩=>⟨_,e1,⟨a,b,rfl,e2,e3⟩,e4⟩
theorem rvalues20:ValC:=by
 intro a b x y W ha hb hx hy xa xb _ _
 obtain ⟨c,s,g,e,k⟩:=a
 obtain ⟨c',s',g',e',k'⟩:=b
 have c1:=fun W=>rside20 c s g e k W ha
 have c2:=fun W=>rside20 c' s' g' e' k' W hb
 have b1:=oS_bd ⟨c,s,g,e,k⟩
 unfold oV
 by_cases h:oS ⟨c,s,g,e,k⟩≠oS ⟨c',s',g',e',k'⟩∨oS ⟨c,s,g,e,k⟩=0
 ·rw [if_pos h]
  refine rval_o c e c' e' s g s' g' k k' _ _ _ _ W c1 c2 _ ?_ (fun W=>rorder20 _ _ W)
  by_cases h1:oS ⟨c,s,g,e,k⟩=oS ⟨c',s',g',e',k'⟩
  ·exact Or.inr ⟨by simpa using h1,by simpa using h.resolve_left (fun q=>q h1)⟩
  ·exact Or.inl (by simpa using h1)
 ·have h1:oS ⟨c,s,g,e,k⟩=oS ⟨c',s',g',e',k'⟩:=Classical.byContradiction fun q=>h (Or.inl q)
  have h2:¬ oS ⟨c,s,g,e,k⟩=0:=fun q=>h (Or.inr q)
  rw [if_neg h]
  by_cases h3:c=2∨c'=2
  ·rw [if_pos h3]
   refine rval_2 c e c' e' s g s' g' k k' _ _ _ _ W c1 c2 (by simpa using h1) (by simpa using h2) _ b1 (sgn_bd _ _) ?_ (fun W=>rorder20 _ _ W)
   by_cases q:c=2
   ·exact Or.inl (by rw [q];rfl)
   ·exact Or.inr ⟨by simpa using q,by rw [h3.resolve_left q];rfl⟩
  ·rw [if_neg h3]
   exact rval_k c e c' e' s g s' g' k k' _ _ _ _ W c1 c2 (by simpa using h1) (by simpa using h2) _ _ _ _ _ b1 (sgn_bd _ _) (by simpa using fun q=>h3 (Or.inl q)) (by simpa using fun q=>h3 (Or.inr q)) ha hb
    (fun W p q hp hq=>scale20 hx ha xa W hp hq) (fun W p q hp hq=>scale20 hy hb xb W hp hq)
    (fun W p q hp hq=>(rtimes_nt (by decide) (by decide) hp.nv hq.nv).mono fun e w' ⟨u,e1,e2,e3⟩=>⟨u,e1,(e2.nv).more (by decide),e3⟩)
    (fun W p q hp hq=>(rtimes_nt (by decide) (by decide) hp.nv hq.nv).mono fun e w' ⟨u,e1,e2,e3⟩=>⟨u,e1,(e2.nv).more (by decide),e3⟩)
    (fun W p q hp hq=>(rcmp_nv (by decide) (by decide) hp hq).mono fun e w' ⟨e1,e2⟩=>⟨e1,e2▸Below.refl _ _⟩)
end
section
attribute [local irreducible] W4 Nt
theorem oV_bd (a:Dat)(x:Nat)(b:Dat)(y:Nat):-1<=oV a x b y/\oV a x b y<=1:=by
 have hS:=oS_bd a
 have hm:∀ t:Int,-1<=t/\t<=1->-1<=oS a*t/\oS a*t<=1:=fun t ht=>by
  have:oS a=-1∨oS a=0∨oS a=1:=by omega
  rcases this with e|e|e<;>rw [e]<;>omega
 unfold oV
 split
 ·exact sgn_bd _ _
 ·split
  ·exact hm _ (sgn_bd _ _)
  ·exact hm _ (sgn_bd _ _)
section
variable (n:Int)(Ar Br:Nat)(c x c' x':Int)(s e s' e':Bool)(k k':Nat)(P P':Int)(E E':Int)(w:World)
 (c1:∀ W,CB 15 #[.int .i64 n,A4 Ar] W (.tuple #[DV c s e x k,.int .u64 P,.int .i64 E]))
 (c2:∀ W,CB 15 #[.int .i64 n,A4 Br] W (.tuple #[DV c' s' e' x' k',.int .u64 P',.int .i64 E']))
include c1 c2
theorem rto_e (h:(E != 0)=true∨((E != 0)=false/\(E' != 0)=true)) :
  CB 14 #[.int .i64 n,A4 Ar,A4 Br] w (.tuple #[.int .i64 0,.int .i64 1]):=by
 have hsm:=cell_set_map
 unfold DV A4 at *
 rcases h with h|⟨h,h'⟩
 all_goals
  go_enter Tryz.func14,Tryz.ntmps14
  go_wp2_with (first
  | (have:=hA1;go_at_call 15;refine (c2 _).mono ?_;rintro r w2 ⟨rfl,hb2⟩;obtain ⟨_,_,_,_,hA2,_⟩:=wz w hb2;obtain ⟨_,_⟩:=zf hb2 (w.heap.size+1);obtain ⟨_,_⟩:=zf hb2 w1.heap.size;clear hb2)
  | (go_at_call 15;refine (c1 _).mono ?_;rintro r w1 ⟨rfl,hb1⟩;obtain ⟨_,_,_,_,hA1,_⟩:=wz w hb1;obtain ⟨_,_⟩:=zf hb1 (w.heap.size+1);clear hb1))
  exact bodyPost_ret (by simp only [results,Tryz.results14];go_simp) rfl ⟨rfl,bgo⟩
variable (hE:(E != 0)=false)(hE':(E' != 0)=false)(R R':Int)
 (c3:∀ W,CB 36 #[DV c s e x k] W (.int .i64 R))
 (c4:∀ W,CB 36 #[DV c' s' e' x' k'] W (.int .i64 R'))
include hE hE' c3 c4
theorem rto_r (V:Int)(h:(R != R')=true)(c5:∀ W,CQ 37 #[.int .i64 R,.int .i64 R'] W (.int .i64 V)) :
  CB 14 #[.int .i64 n,A4 Ar,A4 Br] w (.tuple #[.int .i64 V,.int .i64 0]):=by
 have hsm:=cell_set_map
 unfold DV A4 at *
 go_enter Tryz.func14,Tryz.ntmps14
 go_wp2_with (first
  | (have:=hA1;go_at_call 15;refine (c2 _).mono ?_;rintro r w2 ⟨rfl,hb2⟩;obtain ⟨_,_,_,_,hA2,_⟩:=wz w hb2;obtain ⟨_,_⟩:=zf hb2 (w.heap.size+1);obtain ⟨_,_⟩:=zf hb2 w1.heap.size;clear hb2)
  | (go_at_call 15;refine (c1 _).mono ?_;rintro r w1 ⟨rfl,hb1⟩;obtain ⟨_,_,_,_,hA1,_⟩:=wz w hb1;obtain ⟨_,_⟩:=zf hb1 (w.heap.size+1);clear hb1))
 refine wp_tail 4 (by kernel_rfl) (by kernel_rfl) (by kernel_rfl) (fun _ _ d _ _ h=>by cases d<;>exact h) fun hne hcell=>?_
 simp only [List.take_succ_cons,List.take_zero,List.drop_succ_cons,List.drop_zero]
 repeat go_big_quiet_step (fail)
 go_big_quiet_step ((go_at_call 36;exact calls_wd _ bk_next (c3 _)))
 repeat go_big_quiet_step (fail)
 go_big_quiet_step ((go_at_call 36;exact calls_wd _ bk_next (c4 _)))
 refine wpQuiet_nil fun w3 hb3=>?_
 obtain ⟨_,_,_,_,hA3,_⟩:=wz w hb3;obtain ⟨_,_⟩:=zf hb3 (w.heap.size+1);obtain ⟨_,_⟩:=zf hb3 w1.heap.size;obtain ⟨_,_⟩:=zf hb3 w2.heap.size;clear hb3
 go_wp2_with (go_at_call 37;refine (c5 _).mono ?_;rintro r w4 ⟨rfl,rfl⟩)
 exact bodyPost_ret (by simp only [results,Tryz.results14];go_simp) rfl ⟨rfl,bgo⟩
variable (h:(R != R')=false)
include h
theorem rto_3p (V:Int)(hV:-1<=V/\V<=1)(hs:s=false)(hc:c=3)(hk:k<2^256)(hk':k'<2^256)
  (cC:∀ W p q,Nt 4 k p W->Nt 4 k' q W->CB 25 #[p,q] W (.int .i64 V)) :
  CB 14 #[.int .i64 n,A4 Ar,A4 Br] w (.tuple #[.int .i64 (V),.int .i64 0]):=by
 have hsm:=cell_set_map
 subst hs hc
 unfold DV A4 at *
 go_enter Tryz.func14,Tryz.ntmps14
 go_wp2_with (first
  | (have:=hA1;go_at_call 15;refine (c2 _).mono ?_;rintro r w2 ⟨rfl,hb2⟩;obtain ⟨_,_,_,_,hA2,_⟩:=wz w hb2;obtain ⟨_,_⟩:=zf hb2 (w.heap.size+1);obtain ⟨_,_⟩:=zf hb2 w1.heap.size;clear hb2)
  | (go_at_call 15;refine (c1 _).mono ?_;rintro r w1 ⟨rfl,hb1⟩;obtain ⟨_,_,_,_,hA1,_⟩:=wz w hb1;obtain ⟨_,_⟩:=zf hb1 (w.heap.size+1);clear hb1))
 refine wp_tail 4 (by kernel_rfl) (by kernel_rfl) (by kernel_rfl) (fun _ _ d _ _ h=>by cases d<;>exact h) fun hne hcell=>?_
 simp only [List.take_succ_cons,List.take_zero,List.drop_succ_cons,List.drop_zero]
 repeat go_big_quiet_step (fail)
 go_big_quiet_step ((go_at_call 36;exact calls_wd _ bk_next (c3 _)))
 repeat go_big_quiet_step (fail)
 go_big_quiet_step ((go_at_call 36;exact calls_wd _ bk_next (c4 _)))
 refine wpQuiet_nil fun w3 hb3=>?_
 obtain ⟨_,_,_,_,hA3,_⟩:=wz w hb3;obtain ⟨_,_⟩:=zf hb3 (w.heap.size+1);obtain ⟨_,_⟩:=zf hb3 w1.heap.size;obtain ⟨_,_⟩:=zf hb3 w2.heap.size;clear hb3
 go_wp2
 have uX:=nt_at (W:=w3) (k:=k) (g:=w1.heap.size) hk (by omega) (by go_simp) (by go_simp) (by go_simp) (by go_simp)
 have uY:=nt_at (W:=w3) (k:=k') (g:=w2.heap.size) hk' (by omega) (by go_simp) (by go_simp) (by go_simp) (by go_simp)
 refine wp_tail 7 (by kernel_rfl) (by kernel_rfl) (by kernel_rfl) (fun _ _ d _ _ h=>by cases d<;>exact h) fun hne hcell=>?_
 simp only [List.take_succ_cons,List.take_zero,List.drop_succ_cons,List.drop_zero]
 repeat go_big_quiet_step (fail)
 go_big_quiet_step ((go_at_call 25;exact calls_wd _ bk_next (cC _ _ _ (uX.next (Wd.h _)) (uY.next (Wd.h _)))))
 repeat go_big_quiet_step (fail)
 refine wpQuiet_nil fun w4 hb4=>?_
 obtain ⟨_,_,_,_,hA4,_⟩:=wz w hb4;obtain ⟨_,_⟩:=zf hb4 (w.heap.size+1);obtain ⟨_,_⟩:=zf hb4 w1.heap.size;obtain ⟨_,_⟩:=zf hb4 w2.heap.size;clear hb4
 go_wp2
 exact bodyPost_ret (v:=.tuple #[.int .i64 (V),.int .i64 0]) (by simp only [results,Tryz.results14];go_simp) rfl ⟨rfl,bgo⟩
theorem rto_3m (V:Int)(hV:-1<=V/\V<=1)(hs:s=true)(hc:c=3)(hk:k<2^256)(hk':k'<2^256)
  (cC:∀ W p q,Nt 4 k p W->Nt 4 k' q W->CB 25 #[p,q] W (.int .i64 V)) :
  CB 14 #[.int .i64 n,A4 Ar,A4 Br] w (.tuple #[.int .i64 (-1*V),.int .i64 0]):=by
 have hsm:=cell_set_map
 subst hs hc
 unfold DV A4 at *
 go_enter Tryz.func14,Tryz.ntmps14
 go_wp2_with (first
  | (have:=hA1;go_at_call 15;refine (c2 _).mono ?_;rintro r w2 ⟨rfl,hb2⟩;obtain ⟨_,_,_,_,hA2,_⟩:=wz w hb2;obtain ⟨_,_⟩:=zf hb2 (w.heap.size+1);obtain ⟨_,_⟩:=zf hb2 w1.heap.size;clear hb2)
  | (go_at_call 15;refine (c1 _).mono ?_;rintro r w1 ⟨rfl,hb1⟩;obtain ⟨_,_,_,_,hA1,_⟩:=wz w hb1;obtain ⟨_,_⟩:=zf hb1 (w.heap.size+1);clear hb1))
 refine wp_tail 4 (by kernel_rfl) (by kernel_rfl) (by kernel_rfl) (fun _ _ d _ _ h=>by cases d<;>exact h) fun hne hcell=>?_
 simp only [List.take_succ_cons,List.take_zero,List.drop_succ_cons,List.drop_zero]
 repeat go_big_quiet_step (fail)
 go_big_quiet_step ((go_at_call 36;exact calls_wd _ bk_next (c3 _)))
 repeat go_big_quiet_step (fail)
 go_big_quiet_step ((go_at_call 36;exact calls_wd _ bk_next (c4 _)))
 refine wpQuiet_nil fun w3 hb3=>?_
 obtain ⟨_,_,_,_,hA3,_⟩:=wz w hb3;obtain ⟨_,_⟩:=zf hb3 (w.heap.size+1);obtain ⟨_,_⟩:=zf hb3 w1.heap.size;obtain ⟨_,_⟩:=zf hb3 w2.heap.size;clear hb3
 go_wp2
 have uX:=nt_at (W:=w3) (k:=k) (g:=w1.heap.size) hk (by omega) (by go_simp) (by go_simp) (by go_simp) (by go_simp)
 have uY:=nt_at (W:=w3) (k:=k') (g:=w2.heap.size) hk' (by omega) (by go_simp) (by go_simp) (by go_simp) (by go_simp)
 refine wp_tail 7 (by kernel_rfl) (by kernel_rfl) (by kernel_rfl) (fun _ _ d _ _ h=>by cases d<;>exact h) fun hne hcell=>?_
 simp only [List.take_succ_cons,List.take_zero,List.drop_succ_cons,List.drop_zero]
 repeat go_big_quiet_step (fail)
 go_big_quiet_step ((go_at_call 25;exact calls_wd _ bk_next (cC _ _ _ (uX.next (Wd.h _)) (uY.next (Wd.h _)))))
 repeat go_big_quiet_step (fail)
 refine wpQuiet_nil fun w4 hb4=>?_
 obtain ⟨_,_,_,_,hA4,_⟩:=wz w hb4;obtain ⟨_,_⟩:=zf hb4 (w.heap.size+1);obtain ⟨_,_⟩:=zf hb4 w1.heap.size;obtain ⟨_,_⟩:=zf hb4 w2.heap.size;clear hb4
 go_wp2
 exact bodyPost_ret (v:=.tuple #[.int .i64 (-1*V),.int .i64 0]) (by simp only [results,Tryz.results14];go_simp) rfl ⟨rfl,bgo⟩
theorem rto_vp (V:Int)(hV:-1<=V/\V<=1)(hs:s=false)(hc:(c==3)=false)(h0:(V==0)=false)
  (c6:∀ W,CB 34 #[DV c s e x k,.int .u64 P,DV c' s' e' x' k',.int .u64 P] W (.int .i64 V)) :
  CB 14 #[.int .i64 n,A4 Ar,A4 Br] w (.tuple #[.int .i64 (V),.int .i64 0]):=by
 have hsm:=cell_set_map
 subst hs
 unfold DV A4 at *
 go_enter Tryz.func14,Tryz.ntmps14
 go_wp2_with (first
  | (have:=hA1;go_at_call 15;refine (c2 _).mono ?_;rintro r w2 ⟨rfl,hb2⟩;obtain ⟨_,_,_,_,hA2,_⟩:=wz w hb2;obtain ⟨_,_⟩:=zf hb2 (w.heap.size+1);obtain ⟨_,_⟩:=zf hb2 w1.heap.size;clear hb2)
  | (go_at_call 15;refine (c1 _).mono ?_;rintro r w1 ⟨rfl,hb1⟩;obtain ⟨_,_,_,_,hA1,_⟩:=wz w hb1;obtain ⟨_,_⟩:=zf hb1 (w.heap.size+1);clear hb1))
 refine wp_tail 4 (by kernel_rfl) (by kernel_rfl) (by kernel_rfl) (fun _ _ d _ _ h=>by cases d<;>exact h) fun hne hcell=>?_
 simp only [List.take_succ_cons,List.take_zero,List.drop_succ_cons,List.drop_zero]
 repeat go_big_quiet_step (fail)
 go_big_quiet_step ((go_at_call 36;exact calls_wd _ bk_next (c3 _)))
 repeat go_big_quiet_step (fail)
 go_big_quiet_step ((go_at_call 36;exact calls_wd _ bk_next (c4 _)))
 refine wpQuiet_nil fun w3 hb3=>?_
 obtain ⟨_,_,_,_,hA3,_⟩:=wz w hb3;obtain ⟨_,_⟩:=zf hb3 (w.heap.size+1);obtain ⟨_,_⟩:=zf hb3 w1.heap.size;obtain ⟨_,_⟩:=zf hb3 w2.heap.size;clear hb3
 go_wp2_with (first
  | (go_at_call 34;refine (c6 _).mono ?_;rintro r w4 ⟨rfl,hb4⟩;obtain ⟨_,_,_,_,hA4,_⟩:=wz w hb4;obtain ⟨_,_⟩:=zf hb4 (w.heap.size+1);obtain ⟨_,_⟩:=zf hb4 w1.heap.size;obtain ⟨_,_⟩:=zf hb4 w2.heap.size;clear hb4))
 exact bodyPost_ret (v:=.tuple #[.int .i64 (V),.int .i64 0]) (by simp only [results,Tryz.results14];go_simp) rfl ⟨rfl,bgo⟩
theorem rto_vm (V:Int)(hV:-1<=V/\V<=1)(hs:s=true)(hc:(c==3)=false)(h0:(V==0)=false)
  (c6:∀ W,CB 34 #[DV c s e x k,.int .u64 P,DV c' s' e' x' k',.int .u64 P] W (.int .i64 V)) :
  CB 14 #[.int .i64 n,A4 Ar,A4 Br] w (.tuple #[.int .i64 (V),.int .i64 0]):=by
 have hsm:=cell_set_map
 subst hs
 unfold DV A4 at *
 go_enter Tryz.func14,Tryz.ntmps14
 go_wp2_with (first
  | (have:=hA1;go_at_call 15;refine (c2 _).mono ?_;rintro r w2 ⟨rfl,hb2⟩;obtain ⟨_,_,_,_,hA2,_⟩:=wz w hb2;obtain ⟨_,_⟩:=zf hb2 (w.heap.size+1);obtain ⟨_,_⟩:=zf hb2 w1.heap.size;clear hb2)
  | (go_at_call 15;refine (c1 _).mono ?_;rintro r w1 ⟨rfl,hb1⟩;obtain ⟨_,_,_,_,hA1,_⟩:=wz w hb1;obtain ⟨_,_⟩:=zf hb1 (w.heap.size+1);clear hb1))
 refine wp_tail 4 (by kernel_rfl) (by kernel_rfl) (by kernel_rfl) (fun _ _ d _ _ h=>by cases d<;>exact h) fun hne hcell=>?_
 simp only [List.take_succ_cons,List.take_zero,List.drop_succ_cons,List.drop_zero]
 repeat go_big_quiet_step (fail)
 go_big_quiet_step ((go_at_call 36;exact calls_wd _ bk_next (c3 _)))
 repeat go_big_quiet_step (fail)
 go_big_quiet_step ((go_at_call 36;exact calls_wd _ bk_next (c4 _)))
 refine wpQuiet_nil fun w3 hb3=>?_
 obtain ⟨_,_,_,_,hA3,_⟩:=wz w hb3;obtain ⟨_,_⟩:=zf hb3 (w.heap.size+1);obtain ⟨_,_⟩:=zf hb3 w1.heap.size;obtain ⟨_,_⟩:=zf hb3 w2.heap.size;clear hb3
 go_wp2_with (first
  | (go_at_call 34;refine (c6 _).mono ?_;rintro r w4 ⟨rfl,hb4⟩;obtain ⟨_,_,_,_,hA4,_⟩:=wz w hb4;obtain ⟨_,_⟩:=zf hb4 (w.heap.size+1);obtain ⟨_,_⟩:=zf hb4 w1.heap.size;obtain ⟨_,_⟩:=zf hb4 w2.heap.size;clear hb4))
 exact bodyPost_ret (v:=.tuple #[.int .i64 (V),.int .i64 0]) (by simp only [results,Tryz.results14];go_simp) rfl ⟨rfl,bgo⟩
theorem rto_0p (V:Int)(hV:-1<=V/\V<=1)(hs:s=false)(hc:(c==3)=false)(h0:V=0)(U:Int)(hU:-1<=U/\U<=1)(c7:∀ W,CQ 37 #[.int .i64 x,.int .i64 x'] W (.int .i64 U))
  (c6:∀ W,CB 34 #[DV c s e x k,.int .u64 P,DV c' s' e' x' k',.int .u64 P] W (.int .i64 V)) :
  CB 14 #[.int .i64 n,A4 Ar,A4 Br] w (.tuple #[.int .i64 (U),.int .i64 0]):=by
 have hsm:=cell_set_map
 subst hs
 unfold DV A4 at *
 go_enter Tryz.func14,Tryz.ntmps14
 go_wp2_with (first
  | (have:=hA1;go_at_call 15;refine (c2 _).mono ?_;rintro r w2 ⟨rfl,hb2⟩;obtain ⟨_,_,_,_,hA2,_⟩:=wz w hb2;obtain ⟨_,_⟩:=zf hb2 (w.heap.size+1);obtain ⟨_,_⟩:=zf hb2 w1.heap.size;clear hb2)
  | (go_at_call 15;refine (c1 _).mono ?_;rintro r w1 ⟨rfl,hb1⟩;obtain ⟨_,_,_,_,hA1,_⟩:=wz w hb1;obtain ⟨_,_⟩:=zf hb1 (w.heap.size+1);clear hb1))
 refine wp_tail 4 (by kernel_rfl) (by kernel_rfl) (by kernel_rfl) (fun _ _ d _ _ h=>by cases d<;>exact h) fun hne hcell=>?_
 simp only [List.take_succ_cons,List.take_zero,List.drop_succ_cons,List.drop_zero]
 repeat go_big_quiet_step (fail)
 go_big_quiet_step ((go_at_call 36;exact calls_wd _ bk_next (c3 _)))
 repeat go_big_quiet_step (fail)
 go_big_quiet_step ((go_at_call 36;exact calls_wd _ bk_next (c4 _)))
 refine wpQuiet_nil fun w3 hb3=>?_
 obtain ⟨_,_,_,_,hA3,_⟩:=wz w hb3;obtain ⟨_,_⟩:=zf hb3 (w.heap.size+1);obtain ⟨_,_⟩:=zf hb3 w1.heap.size;obtain ⟨_,_⟩:=zf hb3 w2.heap.size;clear hb3
 go_wp2_with (first
  | (go_at_call 34;refine (c6 _).mono ?_;rintro r w4 ⟨rfl,hb4⟩;obtain ⟨_,_,_,_,hA4,_⟩:=wz w hb4;obtain ⟨_,_⟩:=zf hb4 (w.heap.size+1);obtain ⟨_,_⟩:=zf hb4 w1.heap.size;obtain ⟨_,_⟩:=zf hb4 w2.heap.size;clear hb4)
  | (go_at_call 37;refine (c7 _).mono ?_;rintro r w5 ⟨rfl,rfl⟩))
 exact bodyPost_ret (v:=.tuple #[.int .i64 (U),.int .i64 0]) (by simp only [results,Tryz.results14];go_simp) rfl ⟨rfl,bgo⟩
theorem rto_0m (V:Int)(hV:-1<=V/\V<=1)(hs:s=true)(hc:(c==3)=false)(h0:V=0)(U:Int)(hU:-1<=U/\U<=1)(c7:∀ W,CQ 37 #[.int .i64 x,.int .i64 x'] W (.int .i64 U))
  (c6:∀ W,CB 34 #[DV c s e x k,.int .u64 P,DV c' s' e' x' k',.int .u64 P] W (.int .i64 V)) :
  CB 14 #[.int .i64 n,A4 Ar,A4 Br] w (.tuple #[.int .i64 (-1*U),.int .i64 0]):=by
 have hsm:=cell_set_map
 subst hs
 unfold DV A4 at *
 go_enter Tryz.func14,Tryz.ntmps14
 go_wp2_with (first
  | (have:=hA1;go_at_call 15;refine (c2 _).mono ?_;rintro r w2 ⟨rfl,hb2⟩;obtain ⟨_,_,_,_,hA2,_⟩:=wz w hb2;obtain ⟨_,_⟩:=zf hb2 (w.heap.size+1);obtain ⟨_,_⟩:=zf hb2 w1.heap.size;clear hb2)
  | (go_at_call 15;refine (c1 _).mono ?_;rintro r w1 ⟨rfl,hb1⟩;obtain ⟨_,_,_,_,hA1,_⟩:=wz w hb1;obtain ⟨_,_⟩:=zf hb1 (w.heap.size+1);clear hb1))
 refine wp_tail 4 (by kernel_rfl) (by kernel_rfl) (by kernel_rfl) (fun _ _ d _ _ h=>by cases d<;>exact h) fun hne hcell=>?_
 simp only [List.take_succ_cons,List.take_zero,List.drop_succ_cons,List.drop_zero]
 repeat go_big_quiet_step (fail)
 go_big_quiet_step ((go_at_call 36;exact calls_wd _ bk_next (c3 _)))
 repeat go_big_quiet_step (fail)
 go_big_quiet_step ((go_at_call 36;exact calls_wd _ bk_next (c4 _)))
 refine wpQuiet_nil fun w3 hb3=>?_
 obtain ⟨_,_,_,_,hA3,_⟩:=wz w hb3;obtain ⟨_,_⟩:=zf hb3 (w.heap.size+1);obtain ⟨_,_⟩:=zf hb3 w1.heap.size;obtain ⟨_,_⟩:=zf hb3 w2.heap.size;clear hb3
 go_wp2_with (first
  | (go_at_call 34;refine (c6 _).mono ?_;rintro r w4 ⟨rfl,hb4⟩;obtain ⟨_,_,_,_,hA4,_⟩:=wz w hb4;obtain ⟨_,_⟩:=zf hb4 (w.heap.size+1);obtain ⟨_,_⟩:=zf hb4 w1.heap.size;obtain ⟨_,_⟩:=zf hb4 w2.heap.size;clear hb4)
  | (go_at_call 37;refine (c7 _).mono ?_;rintro r w5 ⟨rfl,rfl⟩))
 exact bodyPost_ret (v:=.tuple #[.int .i64 (-1*U),.int .i64 0]) (by simp only [results,Tryz.results14];go_simp) rfl ⟨rfl,bgo⟩
end
theorem cmp_nt {K K' A B:Nat}{v v':Value}{w:World}(hK:K<1000000)(hK':K'<1000000)(h:Nt K A v w)(h':Nt K' B v' w) :
  CB 25 #[v,v'] w (.int .i64 (sgn (A:Int) B)):=by
 unfold Nt at h h'
 obtain ⟨a,k,c,z,rfl,hk,hN,hz⟩:=h
 obtain ⟨a2,k2,c2,z2,rfl,hk2,hN2,hz2⟩:=h'
 have:=rcmp_any _ _ k c k2 c2 z z2 w (by omega) (by omega) hN hN2
 rw [hz,hz2] at this
 exact this.mono fun e w' h=>⟨h.1,h.2▸Below.refl _ _⟩
theorem rtotal20 (n:Int)(Ar Br:Nat)(w:World)(hA:Ar<2^256)(hB:Br<2^256) :
  CB 14 #[.int .i64 n,A4 Ar,A4 Br] w (.tuple #[.int .i64 (oTc n Ar Br),.int .i64 (oTE n Ar Br)]):=by
 have c1:=fun W=>rmean20 n Ar W hA
 have c2:=fun W=>rmean20 n Br W hB
 have a1:=mD_256 n Ar
 have a2:=mD_256 n Br
 have c6:=fun W=>rvalues20 (mD n Ar) (mD n Br) (mX n) (mX n) W a1 a2 (mX_or n) (mX_or n) (mD_x n Ar).1 (mD_x n Br).1 (mD_x n Ar).2 (mD_x n Br).2
 unfold oTc oTE
 by_cases h:mE n Ar≠0∨mE n Br≠0
 ·rw [if_pos h,if_pos h]
  refine rto_e n Ar Br _ _ _ _ _ _ _ _ _ _ _ _ _ _ w c1 c2 ?_
  by_cases h1:mE n Ar=0
  ·exact Or.inr ⟨by rw [h1];rfl,by simpa using h.resolve_left (fun q=>q h1)⟩
  ·exact Or.inl (by simpa using h1)
 ·have h1:mE n Ar=0:=Classical.byContradiction fun q=>h (Or.inl q)
  have h2:mE n Br=0:=Classical.byContradiction fun q=>h (Or.inr q)
  rw [if_neg h,if_neg h]
  rw [h1] at c1
  rw [h2] at c2
  generalize mD n Ar=a at *
  generalize mD n Br=b at *
  obtain ⟨c,s,g,x,k⟩:=a
  obtain ⟨c',s',g',x',k'⟩:=b
  have c3:=fun W=>rrank20 c s g x k W
  have c4:=fun W=>rrank20 c' s' g' x' k' W
  by_cases hR:oR ⟨c,s,g,x,k⟩=oR ⟨c',s',g',x',k'⟩
  ·have hR':(oR ⟨c,s,g,x,k⟩ != oR ⟨c',s',g',x',k'⟩)=false:=by simpa using hR
   by_cases hc:c=3
   ·rw [oT_3 hR hc]
    cases s
    ·show Calls Tryz.prog _ _ _ fun r w'=>r=.returned (.tuple #[.int .i64 (1*sgn (k:Int) (k':Int)),_])/\_
     rw [Int.one_mul]
     exact rto_3p n Ar Br _ _ _ _ _ _ _ _ _ _ _ _ _ _ w c1 c2 rfl rfl _ _ c3 c4 hR' _ (sgn_bd _ _) rfl hc a1 a2 (fun W p q hp hq=>cmp_nt (by decide) (by decide) hp hq)
    ·show Calls Tryz.prog _ _ _ fun r w'=>r=.returned (.tuple #[.int .i64 (-1*sgn (k:Int) (k':Int)),_])/\_
     exact rto_3m n Ar Br _ _ _ _ _ _ _ _ _ _ _ _ _ _ w c1 c2 rfl rfl _ _ c3 c4 hR' _ (sgn_bd _ _) rfl hc a1 a2 (fun W p q hp hq=>cmp_nt (by decide) (by decide) hp hq)
   ·rw [oT_v hR hc]
    have hc':(c==3)=false:=by simpa using hc
    have hbd:-1<=oV ⟨c,s,g,x,k⟩ (mX n) ⟨c',s',g',x',k'⟩ (mX n)/\oV ⟨c,s,g,x,k⟩ (mX n) ⟨c',s',g',x',k'⟩ (mX n)<=1:=oV_bd _ _ _ _
    by_cases h0:oV ⟨c,s,g,x,k⟩ (mX n) ⟨c',s',g',x',k'⟩ (mX n)=0
    ·rw [if_pos h0]
     cases s
     ·show Calls Tryz.prog _ _ _ fun r w'=>r=.returned (.tuple #[.int .i64 (1*sgn x x'),_])/\_
      rw [Int.one_mul]
      exact rto_0p n Ar Br _ _ _ _ _ _ _ _ _ _ _ _ _ _ w c1 c2 rfl rfl _ _ c3 c4 hR' _ hbd rfl hc' h0 _ (sgn_bd _ _) (fun W=>rorder20 _ _ W) c6
     ·show Calls Tryz.prog _ _ _ fun r w'=>r=.returned (.tuple #[.int .i64 (-1*sgn x x'),_])/\_
      exact rto_0m n Ar Br _ _ _ _ _ _ _ _ _ _ _ _ _ _ w c1 c2 rfl rfl _ _ c3 c4 hR' _ hbd rfl hc' h0 _ (sgn_bd _ _) (fun W=>rorder20 _ _ W) c6
    ·rw [if_neg h0]
     have h0':(oV ⟨c,s,g,x,k⟩ (mX n) ⟨c',s',g',x',k'⟩ (mX n)==0)=false:=by simpa using h0
     cases s
     ·exact rto_vp n Ar Br _ _ _ _ _ _ _ _ _ _ _ _ _ _ w c1 c2 rfl rfl _ _ c3 c4 hR' _ hbd rfl hc' h0' c6
     ·exact rto_vm n Ar Br _ _ _ _ _ _ _ _ _ _ _ _ _ _ w c1 c2 rfl rfl _ _ c3 c4 hR' _ hbd rfl hc' h0' c6
  ·rw [show oT ⟨c,s,g,x,k⟩ ⟨c',s',g',x',k'⟩ (mX n)=sgn (oR ⟨c,s,g,x,k⟩) (oR ⟨c',s',g',x',k'⟩) from if_pos hR]
   exact rto_r n Ar Br _ _ _ _ _ _ _ _ _ _ _ _ _ _ w c1 c2 rfl rfl _ _ c3 c4 _ (by simpa using hR) (fun W=>rorder20 _ _ W)
end
section
structure OrdC (TT:World->Prop):Prop where
 next:∀ w w',TT w->Below w.heap.size w w'->TT w'
 cm:∀ n Ar Br W,Ar<2^256->Br<2^256->TT W->CB 11 #[.int .i64 n,A4 Ar,A4 Br] W (.tuple #[.int .i64 (oMc n Ar n Br),.bool (oMo n Ar n Br),.int .i64 (oME n Ar n Br)])
structure OrdM (TT:World->Prop):Prop where
 mx:∀ f Ar g Br W,Ar<2^256->Br<2^256->TT W->CB 9 #[.int .i64 f,A4 Ar,.int .i64 g,A4 Br] W (.tuple #[.int .i64 (oMc f Ar g Br),.bool (oMo f Ar g Br),.int .i64 (oME f Ar g Br)])
structure OrdT (TT:World->Prop):Prop where
 ttl:∀ n Ar Br W,Ar<2^256->Br<2^256->TT W->CB 13 #[.int .i64 n,A4 Ar,A4 Br] W (.tuple #[.int .i64 (oTc n Ar Br),.int .i64 (oTE n Ar Br)])
theorem awk20_T:oMc 3 1065353216 3 1073741824=-1/\oMo 3 1065353216 3 1073741824=true/\oME 3 1065353216 3 1073741824=0:=⟨by kernel_rfl,by kernel_rfl,by kernel_rfl⟩
theorem awk20_W:(W4 1065353216 0=1065353216/\W4 1065353216 1=0/\W4 1065353216 2=0/\W4 1065353216 3=0)/\(W4 1073741824 0=1073741824/\W4 1073741824 1=0/\W4 1073741824 2=0/\W4 1073741824 3=0):=⟨⟨by decide,by decide,by decide,by decide⟩,⟨by decide,by decide,by decide,by decide⟩⟩
attribute [local irreducible] W4
theorem awake20 {TT:World->Prop}(h:OrdC TT)(w:World)(hT:TT w):CB 8 #[] w (.bool true):=by
 have c9:=fun W hW=>h.cm 3 1065353216 1073741824 W (by decide) (by decide) hW
 obtain ⟨e1,e2,e4⟩:=awk20_T
 obtain ⟨⟨w0,w1,w2,w3⟩,u0,u1,u2,u3⟩:=awk20_W
 rw [e1,e2,e4] at c9
 unfold A4 at c9
 rw [w0,w1,w2,w3,u0,u1,u2,u3] at c9
 clear w0 w1 w2 w3 u0 u1 u2 u3 e1 e2 e4
 have hsm:=cell_set_map
 go_enter Tryz.func8,Tryz.ntmps8
 go_wp2_with (go_at_call 11;refine (c9 _ (h.next _ _ hT bgo)).mono ?_;rintro r w1 ⟨rfl,hb1⟩;obtain ⟨_,_,hA1,_⟩:=wf w hb1;clear hb1)
 go_ret
 exact ⟨by first|rfl|simp,bgo⟩
section
variable (TT:World->Prop)(hTT:∀ w w',TT w->Below w.heap.size w w'->TT w')(w:World)(hT:TT w)
 (c8:∀ W,TT W->CB 8 #[] W (.bool true))
variable (f g:Int)(Ar Br Cr:Nat)
include hTT hT c8
theorem cp20_w (C X Z:Int)(o o':Bool)(E E':Int)(hC:-1<=C/\C<=1)(hZ:Z=-C)(oz:Bool)(ez:Int)
  (c9:∀ W,TT W->CB 9 #[.int .i64 f,A4 Ar,.int .i64 g,A4 Br] W (.tuple #[.int .i64 C,.bool o,.int .i64 E]))
  (c10:∀ W,CB 10 #[.int .i64 f,A4 Ar,.int .i64 g,A4 Br] W (.tuple #[.int .i64 C,.bool o,.int .i64 E]))
  (c11:∀ W,TT W->CB 11 #[.int .i64 f,A4 Ar,A4 Br] W (.tuple #[.int .i64 X,.bool o',.int .i64 E']))
  (c12:∀ W,CB 12 #[.int .i64 f,A4 Ar,A4 Br] W (.tuple #[.int .i64 X,.bool o',.int .i64 E']))
  (c13:∀ W,TT W->CB 9 #[.int .i64 g,A4 Br,.int .i64 f,A4 Ar] W (.tuple #[.int .i64 Z,.bool oz,.int .i64 ez])) :
  CB 3 #[.int .i64 f,A4 Ar,.int .i64 g,A4 Br] w (.bool true):=by
 have hsm:=cell_set_map
 subst hZ
 unfold A4 at *
 cases o<;>cases o'
 all_goals (
  go_enter Tryz.func3,Tryz.ntmps3
  go_wp2_with (first
   | (go_at_call 8;refine (c8 _ (hTT _ _ hT bgo)).mono ?_;rintro r w1 ⟨rfl,hb1⟩;obtain ⟨_,_,_,_,hA1,_⟩:=wz w hb1;obtain ⟨_,_⟩:=zf hb1 (w.heap.size+1);clear hb1)
   | (have:=hA5;go_at_call 9;refine (c13 _ (hTT _ _ hT bgo)).mono ?_;rintro r w6 ⟨rfl,hb6⟩;obtain ⟨_,_,_,_,hA6,_⟩:=wz w hb6;obtain ⟨_,_⟩:=zf hb6 (w.heap.size+1);clear hb6)
   | (go_at_call 9;refine (c9 _ (hTT _ _ hT bgo)).mono ?_;rintro r w2 ⟨rfl,hb2⟩;obtain ⟨_,_,_,_,hA2,_⟩:=wz w hb2;obtain ⟨_,_⟩:=zf hb2 (w.heap.size+1);clear hb2)
   | (go_at_call 10;refine (c10 _).mono ?_;rintro r w3 ⟨rfl,hb3⟩;obtain ⟨_,_,_,_,hA3,_⟩:=wz w hb3;obtain ⟨_,_⟩:=zf hb3 (w.heap.size+1);clear hb3)
   | (go_at_call 11;refine (c11 _ (hTT _ _ hT bgo)).mono ?_;rintro r w4 ⟨rfl,hb4⟩;obtain ⟨_,_,_,_,hA4,_⟩:=wz w hb4;obtain ⟨_,_⟩:=zf hb4 (w.heap.size+1);clear hb4)
   | (go_at_call 12;refine (c12 _).mono ?_;rintro r w5 ⟨rfl,hb5⟩;obtain ⟨_,_,_,_,hA5,_⟩:=wz w hb5;obtain ⟨_,_⟩:=zf hb5 (w.heap.size+1);clear hb5))
  go_ret
  exact ⟨by first|rfl|simp,bgo⟩)
variable (n:Int)
variable (X E:Int)
 (c9:∀ W,TT W->CB 13 #[.int .i64 n,A4 Ar,A4 Br] W (.tuple #[.int .i64 X,.int .i64 E]))
 (c10:∀ W,CB 14 #[.int .i64 n,A4 Ar,A4 Br] W (.tuple #[.int .i64 X,.int .i64 E]))
include c9 c10
theorem to20_e (h:(E != 0)=true) :
  CB 4 #[.int .i64 n,A4 Ar,A4 Br,A4 Cr] w (.bool true):=by
 have hsm:=cell_set_map
 unfold A4 at *
 go_enter Tryz.func4,Tryz.ntmps4
 go_wp2_with (first
  | (go_at_call 8;refine (c8 _ (hTT _ _ hT bgo)).mono ?_;rintro r w1 ⟨rfl,hb1⟩;obtain ⟨_,_,_,_,hA1,_⟩:=wz w hb1;obtain ⟨_,_⟩:=zf hb1 (w.heap.size+1);obtain ⟨_,_⟩:=zf hb1 (w.heap.size+1+1);clear hb1)
  | (go_at_call 13;refine (c9 _ (hTT _ _ hT bgo)).mono ?_;rintro r w2 ⟨rfl,hb2⟩;obtain ⟨_,_,_,_,hA2,_⟩:=wz w hb2;obtain ⟨_,_⟩:=zf hb2 (w.heap.size+1);obtain ⟨_,_⟩:=zf hb2 (w.heap.size+1+1);clear hb2)
  | (go_at_call 14;refine (c10 _).mono ?_;rintro r w3 ⟨rfl,hb3⟩;obtain ⟨_,_,_,_,hA3,_⟩:=wz w hb3;obtain ⟨_,_⟩:=zf hb3 (w.heap.size+1);obtain ⟨_,_⟩:=zf hb3 (w.heap.size+1+1);clear hb3))
 go_ret
 exact ⟨by first|rfl|simp,bgo⟩
theorem to20_y (hE:E=0)(Z U V G ez ev:Int)(c x c' x':Int)(s i s' i':Bool)(k k':Nat)(P P':Int)(hX:-1<=X/\X<=1)(hZ:Z=-X)
  (hq:(X=0/\decide (c=c'/\s=s'/\i=i'/\x=x'/\W4 k 0=W4 k' 0/\W4 k 1=W4 k' 1/\W4 k 2=W4 k' 2/\W4 k 3=W4 k' 3)=true)∨((X==0)=false/\decide (c=c'/\s=s'/\i=i'/\x=x'/\W4 k 0=W4 k' 0/\W4 k 1=W4 k' 1/\W4 k 2=W4 k' 2/\W4 k 3=W4 k' 3)=false))
  (hf:(G != 0)=true∨((G != 0)=false/\(X > 0∨(¬ X > 0/\(U > 0∨(¬ U > 0/\V<=0))))))
  (c11:∀ W,TT W->CB 13 #[.int .i64 n,A4 Br,A4 Ar] W (.tuple #[.int .i64 Z,.int .i64 ez]))
  (c12:∀ W,TT W->CB 13 #[.int .i64 n,A4 Br,A4 Cr] W (.tuple #[.int .i64 U,.int .i64 G]))
  (c13:∀ W,TT W->CB 13 #[.int .i64 n,A4 Ar,A4 Cr] W (.tuple #[.int .i64 V,.int .i64 ev]))
  (c14:∀ W,CB 15 #[.int .i64 n,A4 Ar] W (.tuple #[DV c s i x k,.int .u64 P,.int .i64 0]))
  (c15:∀ W,CB 15 #[.int .i64 n,A4 Br] W (.tuple #[DV c' s' i' x' k',.int .u64 P',.int .i64 0])) :
  CB 4 #[.int .i64 n,A4 Ar,A4 Br,A4 Cr] w (.bool true):=by
 have hsm:=cell_set_map
 have e27:=eq27 c c' s s' i i' x x' (W4 k 0) (W4 k 1) (W4 k 2) (W4 k 3) (W4 k' 0) (W4 k' 1) (W4 k' 2) (W4 k' 3)
 subst hE hZ
 unfold DV A4 at *
 rcases hq with ⟨rfl,hq⟩|⟨hx0,hq⟩
 ·rw [hq] at e27
  clear hq
  rcases hf with h|⟨h,h1|⟨h1,h2|⟨h2,h3⟩⟩⟩
  all_goals try exact absurd h1 (by decide)
  all_goals (
   go_enter Tryz.func4,Tryz.ntmps4
   go_wp2_with (first
    | (go_at_call 8;refine (c8 _ (hTT _ _ hT bgo)).mono ?_;rintro r w1 ⟨rfl,hb1⟩;obtain ⟨_,_,_,_,hA1,_⟩:=wz w hb1;obtain ⟨_,_⟩:=zf hb1 (w.heap.size+1);obtain ⟨_,_⟩:=zf hb1 (w.heap.size+1+1);clear hb1)
    | (have:=hA7;go_at_call 13;refine (c13 _ (hTT _ _ hT bgo)).mono ?_;rintro r w8 ⟨rfl,hb8⟩;obtain ⟨_,_,_,_,hA8,_⟩:=wz w hb8;obtain ⟨_,_⟩:=zf hb8 (w.heap.size+1);obtain ⟨_,_⟩:=zf hb8 (w.heap.size+1+1);obtain ⟨_,_⟩:=zf hb8 w5.heap.size;obtain ⟨_,_⟩:=zf hb8 w6.heap.size;clear hb8)
    | (have:=hA6;go_at_call 13;refine (c12 _ (hTT _ _ hT bgo)).mono ?_;rintro r w7 ⟨rfl,hb7⟩;obtain ⟨_,_,_,_,hA7,_⟩:=wz w hb7;obtain ⟨_,_⟩:=zf hb7 (w.heap.size+1);obtain ⟨_,_⟩:=zf hb7 (w.heap.size+1+1);obtain ⟨_,_⟩:=zf hb7 w5.heap.size;obtain ⟨_,_⟩:=zf hb7 w6.heap.size;clear hb7)
    | (have:=hA3;go_at_call 13;refine (c11 _ (hTT _ _ hT bgo)).mono ?_;rintro r w4 ⟨rfl,hb4⟩;obtain ⟨_,_,_,_,hA4,_⟩:=wz w hb4;obtain ⟨_,_⟩:=zf hb4 (w.heap.size+1);obtain ⟨_,_⟩:=zf hb4 (w.heap.size+1+1);clear hb4)
    | (go_at_call 13;refine (c9 _ (hTT _ _ hT bgo)).mono ?_;rintro r w2 ⟨rfl,hb2⟩;obtain ⟨_,_,_,_,hA2,_⟩:=wz w hb2;obtain ⟨_,_⟩:=zf hb2 (w.heap.size+1);obtain ⟨_,_⟩:=zf hb2 (w.heap.size+1+1);clear hb2)
    | (go_at_call 14;refine (c10 _).mono ?_;rintro r w3 ⟨rfl,hb3⟩;obtain ⟨_,_,_,_,hA3,_⟩:=wz w hb3;obtain ⟨_,_⟩:=zf hb3 (w.heap.size+1);obtain ⟨_,_⟩:=zf hb3 (w.heap.size+1+1);clear hb3)
    | (have:=hA5;go_at_call 15;refine (c15 _).mono ?_;rintro r w6 ⟨rfl,hb6⟩;obtain ⟨_,_,_,_,hA6,_⟩:=wz w hb6;obtain ⟨_,_⟩:=zf hb6 (w.heap.size+1);obtain ⟨_,_⟩:=zf hb6 (w.heap.size+1+1);obtain ⟨_,_⟩:=zf hb6 w5.heap.size;clear hb6)
    | (go_at_call 15;refine (c14 _).mono ?_;rintro r w5 ⟨rfl,hb5⟩;obtain ⟨_,_,_,_,hA5,_⟩:=wz w hb5;obtain ⟨_,_⟩:=zf hb5 (w.heap.size+1);obtain ⟨_,_⟩:=zf hb5 (w.heap.size+1+1);clear hb5))
   go_ret
   exact ⟨by first|rfl|simp,bgo⟩)
 ·rw [hq] at e27
  clear hq
  rcases hf with h|⟨h,h1|⟨h1,h2|⟨h2,h3⟩⟩⟩
  all_goals (
   go_enter Tryz.func4,Tryz.ntmps4
   go_wp2_with (first
    | (go_at_call 8;refine (c8 _ (hTT _ _ hT bgo)).mono ?_;rintro r w1 ⟨rfl,hb1⟩;obtain ⟨_,_,_,_,hA1,_⟩:=wz w hb1;obtain ⟨_,_⟩:=zf hb1 (w.heap.size+1);obtain ⟨_,_⟩:=zf hb1 (w.heap.size+1+1);clear hb1)
    | (have:=hA7;go_at_call 13;refine (c13 _ (hTT _ _ hT bgo)).mono ?_;rintro r w8 ⟨rfl,hb8⟩;obtain ⟨_,_,_,_,hA8,_⟩:=wz w hb8;obtain ⟨_,_⟩:=zf hb8 (w.heap.size+1);obtain ⟨_,_⟩:=zf hb8 (w.heap.size+1+1);obtain ⟨_,_⟩:=zf hb8 w5.heap.size;obtain ⟨_,_⟩:=zf hb8 w6.heap.size;clear hb8)
    | (have:=hA6;go_at_call 13;refine (c12 _ (hTT _ _ hT bgo)).mono ?_;rintro r w7 ⟨rfl,hb7⟩;obtain ⟨_,_,_,_,hA7,_⟩:=wz w hb7;obtain ⟨_,_⟩:=zf hb7 (w.heap.size+1);obtain ⟨_,_⟩:=zf hb7 (w.heap.size+1+1);obtain ⟨_,_⟩:=zf hb7 w5.heap.size;obtain ⟨_,_⟩:=zf hb7 w6.heap.size;clear hb7)
    | (have:=hA3;go_at_call 13;refine (c11 _ (hTT _ _ hT bgo)).mono ?_;rintro r w4 ⟨rfl,hb4⟩;obtain ⟨_,_,_,_,hA4,_⟩:=wz w hb4;obtain ⟨_,_⟩:=zf hb4 (w.heap.size+1);obtain ⟨_,_⟩:=zf hb4 (w.heap.size+1+1);clear hb4)
    | (go_at_call 13;refine (c9 _ (hTT _ _ hT bgo)).mono ?_;rintro r w2 ⟨rfl,hb2⟩;obtain ⟨_,_,_,_,hA2,_⟩:=wz w hb2;obtain ⟨_,_⟩:=zf hb2 (w.heap.size+1);obtain ⟨_,_⟩:=zf hb2 (w.heap.size+1+1);clear hb2)
    | (go_at_call 14;refine (c10 _).mono ?_;rintro r w3 ⟨rfl,hb3⟩;obtain ⟨_,_,_,_,hA3,_⟩:=wz w hb3;obtain ⟨_,_⟩:=zf hb3 (w.heap.size+1);obtain ⟨_,_⟩:=zf hb3 (w.heap.size+1+1);clear hb3)
    | (have:=hA5;go_at_call 15;refine (c15 _).mono ?_;rintro r w6 ⟨rfl,hb6⟩;obtain ⟨_,_,_,_,hA6,_⟩:=wz w hb6;obtain ⟨_,_⟩:=zf hb6 (w.heap.size+1);obtain ⟨_,_⟩:=zf hb6 (w.heap.size+1+1);obtain ⟨_,_⟩:=zf hb6 w5.heap.size;clear hb6)
    | (go_at_call 15;refine (c14 _).mono ?_;rintro r w5 ⟨rfl,hb5⟩;obtain ⟨_,_,_,_,hA5,_⟩:=wz w hb5;obtain ⟨_,_⟩:=zf hb5 (w.heap.size+1);obtain ⟨_,_⟩:=zf hb5 (w.heap.size+1+1);clear hb5))
   go_ret
   exact ⟨by first|rfl|simp,bgo⟩)
end
def oL (n:Int):Int:=if binN n then leastN n else (fD n).l
theorem mX_pos (n:Int):0<mX n:=by rcases mX_or n with h|h<;>omega
theorem mD_K {n:Int}{B:Nat}(h:mE n B=0):oK (oL n) (mD n B):=by
 unfold mE at h
 unfold oL mD
 by_cases hb:binN n
 ·rw [if_pos hb] at h
  rw [if_pos hb,if_pos hb]
  have hg:goodN n B:=by
   refine Classical.byContradiction fun q=>?_
   rw [show unE n B=1 from if_neg q] at h
   omega
  rcases und_is hg with ⟨h1,h2,h3,h4,h5,h6⟩|⟨h1,h2,h3,h4⟩|⟨h1,h2,h3,h4⟩
  ·exact Or.inl ⟨h1,h2,h4⟩
  ·exact Or.inr (Or.inl ⟨h1,h2,h3,h4⟩)
  ·exact Or.inr (Or.inr ⟨h1,h2⟩)
 ·rw [if_neg hb] at h
  rw [if_neg hb,if_neg hb]
  have hg:goodD n B:=by
   refine Classical.byContradiction fun q=>?_
   rw [show vUE n B=1 from if_neg q] at h
   omega
  rw [show vUD n B=vM (fD n) B from if_pos hg]
  rcases vM_is (fD_ok n) B with ⟨h1,h2,h3,h4,h5⟩|⟨h1,h2,h3,h4⟩|⟨h1,h2,h3⟩
  ·exact Or.inl ⟨h1,h2,h4⟩
  ·exact Or.inr (Or.inl ⟨h1,h2,h4,h3⟩)
  ·exact Or.inr (Or.inr ⟨h1,h2⟩)
theorem oMc_bd (f:Int)(A:Nat)(g:Int)(B:Nat):-1<=oMc f A g B/\oMc f A g B<=1:=by
 unfold oMc
 split
 ·decide
 ·split
  ·decide
  ·exact oV_bd _ _ _ _
theorem oT_bd (a b:Dat)(x:Nat):-1<=oT a b x/\oT a b x<=1:=by
 have hm:∀ t:Int,-1<=t/\t<=1->-1<=oG a*t/\oG a*t<=1:=fun t ht=>by
  rcases oG_sq a with ⟨_,e⟩|⟨_,e⟩<;>rw [e]<;>omega
 unfold oT
 split
 ·exact sgn_bd _ _
 ·split
  ·exact hm _ (sgn_bd _ _)
  ·split
   ·exact hm _ (sgn_bd _ _)
   ·exact oV_bd _ _ _ _
theorem w4_dq {u v:Nat}(hu:u<2^256)(hv:v<2^256):decide (W4 u 0=W4 v 0/\W4 u 1=W4 v 1/\W4 u 2=W4 v 2/\W4 u 3=W4 v 3)=decide (u=v):=by
 by_cases h:u=v
 ·subst h
  rw [decide_eq_true ⟨rfl,rfl,rfl,rfl⟩,decide_eq_true rfl]
 ·rw [decide_eq_false h]
  refine decide_eq_false fun ⟨a,b,c,d⟩=>h ?_
  have h1:=W4_val4 hu
  have h2:=W4_val4 hv
  have h3:val (W4 u) 4=val (W4 v) 4:=by simp only [val,a,b,c,d]
  omega
theorem dat_iff {a b:Dat}(ha:a.k<2^256)(hb:b.k<2^256):(a.c=b.c/\a.s=b.s/\a.g=b.g/\a.x=b.x/\W4 a.k 0=W4 b.k 0/\W4 a.k 1=W4 b.k 1/\W4 a.k 2=W4 b.k 2/\W4 a.k 3=W4 b.k 3)↔a=b:=by
 constructor
 ·rintro ⟨h1,h2,h3,h4,h5⟩
  have hk:a.k=b.k:=of_decide_eq_true ((w4_dq ha hb).symm.trans (decide_eq_true h5))
  obtain ⟨c,s,g,x,k⟩:=a
  obtain ⟨c',s',g',x',k'⟩:=b
  dsimp only at h1 h2 h3 h4 hk
  rw [h1,h2,h3,h4,hk]
 ·rintro rfl
  exact ⟨rfl,rfl,rfl,rfl,rfl,rfl,rfl,rfl⟩
section
variable {TT:World->Prop}(h:OrdC TT)(w:World)(hT:TT w)
include h hT
theorem compares20_v (hM:OrdM TT)(f:Int)(Ar:Nat)(g:Int)(Br:Nat)(hA:Ar<2^256)(hB:Br<2^256) :
  CB 3 #[.int .i64 f,A4 Ar,.int .i64 g,A4 Br] w (.bool true) :=
 cp20_w TT h.next w hT (fun W hW=>awake20 h W hW) f g Ar Br _ _ _ _ _ _ _ (oMc_bd f Ar g Br) (oMc_swap f Ar g Br) _ _ (fun W hW=>hM.mx f Ar g Br W hA hB hW) (fun W=>rmix20 rvalues20 f Ar g Br W hA hB)
  (fun W hW=>h.cm f Ar Br W hA hB hW) (fun W=>rcompare20 rvalues20 f Ar Br W hA hB) (fun W hW=>hM.mx g Br f Ar W hB hA hW)
theorem totals20_v (hO:OrdT TT)(n:Int)(Ar Br Cr:Nat)(hA:Ar<2^256)(hB:Br<2^256)(hC:Cr<2^256) :
  CB 4 #[.int .i64 n,A4 Ar,A4 Br,A4 Cr] w (.bool true):=by
 have c8:=fun W hW=>awake20 h W hW
 have c9:=fun W hW=>hO.ttl n Ar Br W hA hB hW
 have c10:=fun W=>rtotal20 n Ar Br W hA hB
 by_cases q:mE n Ar≠0∨mE n Br≠0
 ·exact to20_e TT h.next w hT c8 Ar Br Cr n _ _ c9 c10 (by rw [show oTE n Ar Br=1 from if_pos q];rfl)
 ·have h1:mE n Ar=0:=Classical.byContradiction fun p=>q (Or.inl p)
  have h2:mE n Br=0:=Classical.byContradiction fun p=>q (Or.inr p)
  have q':¬ (mE n Br≠0∨mE n Ar≠0):=fun p=>q p.symm
  have k1:=mD_K h1
  have k2:=mD_K h2
  have c11:=fun W hW=>hO.ttl n Br Ar W hB hA hW
  have c12:=fun W hW=>hO.ttl n Br Cr W hB hC hW
  have c13:=fun W hW=>hO.ttl n Ar Cr W hA hC hW
  have c14:=fun W=>rmean20 n Ar W hA
  have c15:=fun W=>rmean20 n Br W hB
  rw [h1] at c14
  rw [h2] at c15
  have eX:oTc n Ar Br=oT (mD n Ar) (mD n Br) (mX n):=if_neg q
  have eZ:oTc n Br Ar=oT (mD n Br) (mD n Ar) (mX n):=if_neg q'
  have hd:=dat_iff (mD_256 n Ar) (mD_256 n Br)
  refine to20_y TT h.next w hT c8 Ar Br Cr n _ _ c9 c10 (if_neg q) _ _ _ _ _ _ _ _ _ _ _ _ _ _ _ _ _ _ (by rw [eX];exact oT_bd _ _ _) (by rw [eX,eZ];exact oT_swap (mX_pos n) k1 k2) ?_ ?_ c11 c12 c13 c14 c15
  ·rw [eX]
   by_cases h0:mD n Ar=mD n Br
   ·exact Or.inl ⟨(oT_zero (mX_pos n) k1 k2).2 h0,decide_eq_true (hd.2 h0)⟩
   ·exact Or.inr ⟨by simpa using fun p=>h0 ((oT_zero (mX_pos n) k1 k2).1 p),decide_eq_false (fun p=>h0 (hd.1 p))⟩
  ·by_cases p:mE n Cr=0
   ·right
    have eU:oTc n Br Cr=oT (mD n Br) (mD n Cr) (mX n):=if_neg (by omega)
    have eV:oTc n Ar Cr=oT (mD n Ar) (mD n Cr) (mX n):=if_neg (by omega)
    refine ⟨by rw [show oTE n Br Cr=0 from if_neg (by omega)];rfl,?_⟩
    rw [eX,eU,eV]
    by_cases g1:oT (mD n Ar) (mD n Br) (mX n) > 0
    ·exact Or.inl g1
    ·refine Or.inr ⟨g1,?_⟩
     by_cases g2:oT (mD n Br) (mD n Cr) (mX n) > 0
     ·exact Or.inl g2
     ·exact Or.inr ⟨g2,oT_trans (mX_pos n) k1 k2 (mD_K p) (by omega) (by omega)⟩
   ·left
    rw [show oTE n Br Cr=1 from if_pos (Or.inr p)]
    rfl
end
end
section
attribute [local irreducible] W4 Nt Nz NT
abbrev FnV (f:Nat):Value:=.func (.func f) #[] #[]
section
variable (c x b:Int)(s g:Bool)(k:Nat)(c' x' b':Int)(s' g':Bool)(k':Nat)(R R':Int)(w:World)
theorem sg_s
  (c1:∀ W,CB 33 #[OV c s g x k b,OV c' s' g' x' k' b'] W (.int .i64 R))
  (c2:∀ W,CB 33 #[OV c' s' g' x' k' b',OV c s g x k b] W (.int .i64 R')) :
  CB 32 #[OV c s g x k b,OV c' s' g' x' k' b',FnV 33] w (.int .i64 (sgV s s' R R')):=by
 have hsm:=cell_set_map
 cases s<;>cases s'
 ·go_enter Tryz.func32,Tryz.ntmps32
  go_wp2_with (go_at_call 33;refine (c1 _).mono ?_;rintro r w1 ⟨rfl,hb1⟩;obtain ⟨_,_,_,_,hA1,_⟩:=wz w hb1;obtain ⟨_,_⟩:=zf hb1 (w.heap.size+1);clear hb1)
  go_ret
  exact ⟨by first|rfl|simp,bgo⟩
 ·go_enter Tryz.func32,Tryz.ntmps32
  go_wp2
  go_ret
  exact ⟨by first|rfl|simp,bgo⟩
 ·go_enter Tryz.func32,Tryz.ntmps32
  go_wp2
  go_ret
  exact ⟨by first|rfl|simp,bgo⟩
 ·go_enter Tryz.func32,Tryz.ntmps32
  go_wp2_with (go_at_call 33;refine (c2 _).mono ?_;rintro r w2 ⟨rfl,hb2⟩;obtain ⟨_,_,_,_,hA2,_⟩:=wz w hb2;obtain ⟨_,_⟩:=zf hb2 (w.heap.size+1);clear hb2)
  go_ret
  exact ⟨by first|rfl|simp,bgo⟩
theorem sg_o
  (c1:∀ W,CB 35 #[OV c s g x k b,OV c' s' g' x' k' b'] W (.int .i64 R))
  (c2:∀ W,CB 35 #[OV c' s' g' x' k' b',OV c s g x k b] W (.int .i64 R')) :
  CB 32 #[OV c s g x k b,OV c' s' g' x' k' b',FnV 35] w (.int .i64 (sgV s s' R R')):=by
 have hsm:=cell_set_map
 cases s<;>cases s'
 ·go_enter Tryz.func32,Tryz.ntmps32
  go_wp2_with (go_at_call 35;refine (c1 _).mono ?_;rintro r w1 ⟨rfl,hb1⟩;obtain ⟨_,_,_,_,hA1,_⟩:=wz w hb1;obtain ⟨_,_⟩:=zf hb1 (w.heap.size+1);clear hb1)
  go_ret
  exact ⟨by first|rfl|simp,bgo⟩
 ·go_enter Tryz.func32,Tryz.ntmps32
  go_wp2
  go_ret
  exact ⟨by first|rfl|simp,bgo⟩
 ·go_enter Tryz.func32,Tryz.ntmps32
  go_wp2
  go_ret
  exact ⟨by first|rfl|simp,bgo⟩
 ·go_enter Tryz.func32,Tryz.ntmps32
  go_wp2_with (go_at_call 35;refine (c2 _).mono ?_;rintro r w2 ⟨rfl,hb2⟩;obtain ⟨_,_,_,_,hA2,_⟩:=wz w hb2;obtain ⟨_,_⟩:=zf hb2 (w.heap.size+1);clear hb2)
  go_ret
  exact ⟨by first|rfl|simp,bgo⟩
end
theorem cor_v (Z C:Int)(v:Value)(w:World)(h:TwI Z C v w):CB 78 #[v] w (.int .i64 (if Z≠0 then Z else C)):=by
 unfold TwI at h
 obtain ⟨g,rfl,hlt,h0,h1⟩:=h
 go_enter Tryz.func78,Tryz.ntmps78
 go_wp2
 go_loopw [5,8] (fun v5 t wr=>∃ i:Nat,i<=2/\t=.int .i64 i/\(1<=i->Z=0)/\(2<=i->C=0)/\Below w.heap.size w wr) (fun _ t _=>2-(intOf t).toNat)
 case atStart=>exact ⟨0,by decide,rfl,fun h=>absurd h (by decide),fun h=>absurd h (by decide),bgo⟩
 case round =>
  obtain ⟨i,hi,rfl,hz,hc,hb⟩:=hrel
  have q0:wr.cell? ⟨g,0,none⟩=some (.int .i64 Z):=(hb.cell (p:=⟨g,0,none⟩) hlt).trans h0
  have q1:wr.cell? ⟨g,1,none⟩=some (.int .i64 C):=(hb.cell (p:=⟨g,1,none⟩) hlt).trans h1
  have hor:i=0∨i=1∨i=2:=by omega
  rcases hor with rfl|rfl|rfl
  ·by_cases hZ:Z=0
   ·have hZ':(Z != 0)=false:=by simpa using hZ
    go_wp2
    go_roundw
    case rel=>exact ⟨1,by decide,rfl,fun _=>hZ,fun h=>absurd h (by decide),hb⟩
    case measure=>simp [intOf]
   ·have hZ':(Z != 0)=true:=by simpa using hZ
    go_wp2
    go_ret
    exact ⟨by simp [hZ],hb⟩
  ·have hZ:=hz (by decide)
   by_cases hC:C=0
   ·have hC':(C != 0)=false:=by simpa using hC
    go_wp2
    go_roundw
    case rel=>exact ⟨2,by decide,rfl,fun _=>hZ,fun _=>hC,hb⟩
    case measure=>simp [intOf]
   ·have hC':(C != 0)=true:=by simpa using hC
    go_wp2
    go_ret
    exact ⟨by first|rfl|simp,hb⟩
  ·have hZ:=hz (by decide)
   have hC:=hc (by decide)
   go_wp2
   go_ret
   exact ⟨by simp [hZ,hC],hb⟩
section
variable (c x b:Int)(s g:Bool)(k:Nat)(hk:k<2^256)(c' x' b':Int)(s' g':Bool)(k':Nat)(hk':k'<2^256)(w:World)
theorem ow_c (h:(c != c')=true):CB 35 #[OV c s g x k b,OV c' s' g' x' k' b'] w (.int .i64 (sgn c c')):=by
 have hsm:=cell_set_map
 have c9:=fun W=>compare_int c c' W
 go_enter Tryz.func35,Tryz.ntmps35
 go_wp2_with (go_at_call 72;refine (c9 _).mono ?_;rintro r w1 ⟨rfl,rfl⟩)
 go_ret
 exact ⟨by first|rfl|simp,bgo⟩
theorem ow_n (h:(c != c')=false)(h3:(c != 3)=true)(Z:Int)
  (c1:∀ W,CB 33 #[OV c s g x k b,OV c' s' g' x' k' b'] W (.int .i64 Z)) :
  CB 35 #[OV c s g x k b,OV c' s' g' x' k' b'] w (.int .i64 (if Z≠0 then Z else sgn x x')):=by
 have hsm:=cell_set_map
 have c9:∀ W,CB 72 #[.int .i64 x,.int .i64 x'] W (.int .i64 (sgn x x')):=fun W=>(compare_int x x' W).mono fun r w' h=>⟨h.1,h.2▸Below.refl _ _⟩
 generalize hR:(if Z≠0 then Z else sgn x x')=R
 go_enter Tryz.func35,Tryz.ntmps35
 go_wp2
 refine regOw4 (h:=w.heap.size) (j:=w.heap.size+1) (k:=k) (k':=k') (c:=c) (x:=x) (b:=b) (s:=s) (g:=g) (c':=c') (x':=x') (b':=b') (s':=s') (g':=g') (Z:=Z) (C:=sgn x x') (R:=R) (fun _ _ d _ _ h=>by cases d<;>exact h) rfl rfl rfl (by first|omega|(simp;omega)|simp) (by go_simp) (by go_simp) (by go_simp) (by go_simp) (by go_simp) (by go_simp) (by go_simp) (by go_simp) (by go_simp) (by first|omega|(simp;omega)|simp) (by go_simp) (by go_simp) (by go_simp) (by go_simp) (by go_simp) (by go_simp) (by go_simp) (by go_simp) (by go_simp) c1 c9 (fun W v hv=>by rw [← hR];exact cor_v Z (sgn x x') v W hv) ?_
 intro a' w4 h4 hsz hdf hF2 hb4
 have ha:=act_of slotsAOw4 13 rfl hsz hdf hF2
 rw [ha]
 simp only [slotsAOw4,List.foldl_cons,List.foldl_nil,Act.put,List.setIfInBounds_toArray,List.set_cons_succ,List.set_cons_zero,h4]
 generalize slot a' 25=s25
 generalize slot a' 26=s26
 generalize slot a' 27=s27
 generalize slot a' 28=s28
 generalize slot a' 29=s29
 generalize slot a' 30=s30
 generalize slot a' 31=s31
 generalize slot a' 32=s32
 generalize slot a' 33=s33
 generalize slot a' 34=s34
 generalize slot a' 35=s35
 generalize slot a' 36=s36
 clear ha h4 hsz hdf hF2
 obtain ⟨_,_,_,_,hA4,_⟩:=wz w hb4;obtain ⟨_,_⟩:=zf hb4 (w.heap.size+1);clear hb4
 go_wp2
 go_ret
 exact ⟨by first|rfl|simp,bgo⟩
theorem ow_s (h:(c != c')=false)(h3:(c != 3)=false)(R:Int)(hg:(g=true/\g'=false/\R=-1)∨(g=false/\g'=true/\R=1)) :
  CB 35 #[OV c s g x k b,OV c' s' g' x' k' b'] w (.int .i64 R):=by
 have hsm:=cell_set_map
 rcases hg with ⟨rfl,rfl,rfl⟩|⟨rfl,rfl,rfl⟩
 all_goals
  go_enter Tryz.func35,Tryz.ntmps35
  go_wp2
  go_ret
  exact ⟨by first|rfl|simp,bgo⟩
include hk hk'
theorem ow_p (h:(c != c')=false)(h3:(c != 3)=false)(hg:g=g')(R:Int)
  (c3:∀ W v v',Nt 4 k v W->Nt 4 k' v' W->CB 73 #[v,v'] W (.int .i64 R)) :
  CB 35 #[OV c s g x k b,OV c' s' g' x' k' b'] w (.int .i64 R):=by
 have hbx:=fun W hW=>op_new (w0:=w) (w:=W) (c:=c) (s:=s) (g:=g) (x:=x) (b:=b) (t:=60) hk hW
 have hby:∀ W,Below ((w.alloc (.cells (OCs c s g x k b) 60)).alloc (.cells (OCs c' s' g' x' k' b') 60)).heap.size ((w.alloc (.cells (OCs c s g x k b) 60)).alloc (.cells (OCs c' s' g' x' k' b') 60)) W->Nt 4 k' (.slice (some ⟨w.heap.size+1,4,none⟩) 4 4) W:=fun W hW=>by
  have:=op_new (w0:=w.alloc (.cells (OCs c s g x k b) 60)) (w:=W) (c:=c') (s:=s') (g:=g') (x:=x') (b:=b') (t:=60) hk' hW
  rwa [show (w.alloc (.cells (OCs c s g x k b) 60)).heap.size=w.heap.size+1 by simp] at this
 clear hk hk'
 have hsm:=cell_set_map
 subst hg
 cases g
 all_goals
  go_enter Tryz.func35,Tryz.ntmps35
  go_wp2
  refine wp_tail 6 (by kernel_rfl) (by kernel_rfl) (by kernel_rfl) (fun _ _ d _ _ h=>by cases d<;>exact h) fun hne hcell=>?_
  simp only [List.take_succ_cons,List.take_zero,List.drop_succ_cons,List.drop_zero]
  repeat go_big_quiet_step (fail)
  refine wpQuiet_nil fun w2 hb2=>?_
  have hv0:=hbx _ (bnx (below1 _ _) hb2)
  have hv1:=hby _ hb2
  obtain ⟨_,_,_,_,hA2,_⟩:=wz w hb2;obtain ⟨_,_⟩:=zf hb2 (w.heap.size+1);clear hb2
  go_wp2_with (go_at_call 73;refine (c3 _ _ _ hv0 hv1).mono ?_;rintro r w3 ⟨rfl,hb3⟩;obtain ⟨_,_,_,_,hA3,_⟩:=wz w hb3;obtain ⟨_,_⟩:=zf hb3 (w.heap.size+1);clear hb3)
  go_ret
  exact ⟨by first|rfl|simp,bgo⟩
end
end
section
attribute [local irreducible] W4 Nt Nz NT
section
variable (f n:Int)(A B:Nat)(c x b:Int)(s g:Bool)(k:Nat)(c' x' b':Int)(s' g':Bool)(k':Nat)(E:Int)(w:World)(hT:Tab w)
 (cB:∀ W,Tab W->CB 30 #[.int .i64 f,A4 A,.int .i64 n,A4 B] W (.tuple #[OV c s g x k b,OV c' s' g' x' k' b',.int .i64 E]))
include hT cB
theorem mx_e (h:(E != 0)=true∨((E != 0)=false/\E=0/\((c==3)=true∨((c==3)=false/\(c'==3)=true)))) :
  CB 9 #[.int .i64 f,A4 A,.int .i64 n,A4 B] w (.tuple #[.int .i64 0,.bool false,.int .i64 E]):=by
 have hsm:=cell_set_map
 rcases h with h|⟨h,rfl,h3|⟨h3,h4⟩⟩
 all_goals
  go_enter Tryz.func9,Tryz.ntmps9
  go_wp2_with (go_at_call 30;refine (cB _ (hT.go bgo)).mono ?_;rintro r w1 ⟨rfl,hb1⟩;obtain ⟨_,_,_,_,hA1,_⟩:=wz w hb1;obtain ⟨_,_⟩:=zf hb1 (w.heap.size+1);clear hb1)
  exact bodyPost_ret (by simp only [results,Tryz.results9];go_simp) rfl ⟨rfl,bgo⟩
variable (hE:E=0)(h3:(c==3)=false)(h4:(c'==3)=false)
include hE h3 h4
theorem mx_0
  (c1:∀ W,CB 31 #[OV c s g x k b] W (.bool true))
  (c2:∀ W,CB 31 #[OV c' s' g' x' k' b'] W (.bool true)) :
  CB 9 #[.int .i64 f,A4 A,.int .i64 n,A4 B] w (.tuple #[.int .i64 0,.bool true,.int .i64 0]):=by
 subst hE
 have hsm:=cell_set_map
 go_enter Tryz.func9,Tryz.ntmps9
 go_wp2_with (first
  | (go_at_call 30;refine (cB _ (hT.go bgo)).mono ?_;rintro r w1 ⟨rfl,hb1⟩;obtain ⟨_,_,_,_,hA1,_⟩:=wz w hb1;obtain ⟨_,_⟩:=zf hb1 (w.heap.size+1);clear hb1)
  | (have:=hA2;go_at_call 31;refine (c2 _).mono ?_;rintro r w3 ⟨rfl,hb3⟩;obtain ⟨_,_,_,_,hA3,_⟩:=wz w hb3;obtain ⟨_,_⟩:=zf hb3 (w.heap.size+1);obtain ⟨_,_⟩:=zf hb3 w1.heap.size;obtain ⟨_,_⟩:=zf hb3 (w1.heap.size+1);clear hb3)
  | (go_at_call 31;refine (c1 _).mono ?_;rintro r w2 ⟨rfl,hb2⟩;obtain ⟨_,_,_,_,hA2,_⟩:=wz w hb2;obtain ⟨_,_⟩:=zf hb2 (w.heap.size+1);obtain ⟨_,_⟩:=zf hb2 w1.heap.size;obtain ⟨_,_⟩:=zf hb2 (w1.heap.size+1);clear hb2))
 exact bodyPost_ret (by simp only [results,Tryz.results9];go_simp) rfl ⟨rfl,bgo⟩
theorem mx_v (n1 n2:Bool)(hn:n1=false∨(n1=true/\n2=false))(R:Int)
  (c1:∀ W,CB 31 #[OV c s g x k b] W (.bool n1))
  (c2:∀ W,CB 31 #[OV c' s' g' x' k' b'] W (.bool n2))
  (c3:∀ W,CB 32 #[OV c s g x k b,OV c' s' g' x' k' b',FnV 33] W (.int .i64 R)) :
  CB 9 #[.int .i64 f,A4 A,.int .i64 n,A4 B] w (.tuple #[.int .i64 R,.bool true,.int .i64 0]):=by
 subst hE
 have hsm:=cell_set_map
 rcases hn with rfl|⟨rfl,rfl⟩
 all_goals
  go_enter Tryz.func9,Tryz.ntmps9
  go_wp2_with (first
   | (go_at_call 30;refine (cB _ (hT.go bgo)).mono ?_;rintro r w1 ⟨rfl,hb1⟩;obtain ⟨_,_,_,_,hA1,_⟩:=wz w hb1;obtain ⟨_,_⟩:=zf hb1 (w.heap.size+1);clear hb1)
   | (have:=hA2;go_at_call 31;refine (c2 _).mono ?_;rintro r w3 ⟨rfl,hb3⟩;obtain ⟨_,_,_,_,hA3,_⟩:=wz w hb3;obtain ⟨_,_⟩:=zf hb3 (w.heap.size+1);obtain ⟨_,_⟩:=zf hb3 w1.heap.size;obtain ⟨_,_⟩:=zf hb3 (w1.heap.size+1);clear hb3)
   | (go_at_call 31;refine (c1 _).mono ?_;rintro r w2 ⟨rfl,hb2⟩;obtain ⟨_,_,_,_,hA2,_⟩:=wz w hb2;obtain ⟨_,_⟩:=zf hb2 (w.heap.size+1);obtain ⟨_,_⟩:=zf hb2 w1.heap.size;obtain ⟨_,_⟩:=zf hb2 (w1.heap.size+1);clear hb2)
   | (go_at_call 32;refine (c3 _).mono ?_;rintro r w4 ⟨rfl,hb4⟩;obtain ⟨_,_,_,_,hA4,_⟩:=wz w hb4;obtain ⟨_,_⟩:=zf hb4 (w.heap.size+1);obtain ⟨_,_⟩:=zf hb4 w1.heap.size;obtain ⟨_,_⟩:=zf hb4 (w1.heap.size+1);clear hb4))
  exact bodyPost_ret (by simp only [results,Tryz.results9];go_simp) rfl ⟨rfl,bgo⟩
end
section
variable (n:Int)(A B:Nat)(c x b:Int)(s g:Bool)(k:Nat)(c' x' b':Int)(s' g':Bool)(k':Nat)(E:Int)(w:World)(hT:Tab w)
 (cB:∀ W,Tab W->CB 30 #[.int .i64 n,A4 A,.int .i64 n,A4 B] W (.tuple #[OV c s g x k b,OV c' s' g' x' k' b',.int .i64 E]))
include hT cB
theorem tl_e (h:(E != 0)=true) :
  CB 13 #[.int .i64 n,A4 A,A4 B] w (.tuple #[.int .i64 0,.int .i64 E]):=by
 have hsm:=cell_set_map
 go_enter Tryz.func13,Tryz.ntmps13
 go_wp2_with (go_at_call 30;refine (cB _ (hT.go bgo)).mono ?_;rintro r w1 ⟨rfl,hb1⟩;obtain ⟨_,_,_,_,hA1,_⟩:=wz w hb1;obtain ⟨_,_⟩:=zf hb1 (w.heap.size+1);clear hb1)
 exact bodyPost_ret (by simp only [results,Tryz.results13];go_simp) rfl ⟨rfl,bgo⟩
theorem tl_v (hE:E=0)(R:Int)
  (c3:∀ W,CB 32 #[OV c s g x k b,OV c' s' g' x' k' b',FnV 35] W (.int .i64 R)) :
  CB 13 #[.int .i64 n,A4 A,A4 B] w (.tuple #[.int .i64 R,.int .i64 0]):=by
 subst hE
 have hsm:=cell_set_map
 go_enter Tryz.func13,Tryz.ntmps13
 go_wp2_with (first
  | (go_at_call 30;refine (cB _ (hT.go bgo)).mono ?_;rintro r w1 ⟨rfl,hb1⟩;obtain ⟨_,_,_,_,hA1,_⟩:=wz w hb1;obtain ⟨_,_⟩:=zf hb1 (w.heap.size+1);clear hb1)
  | (go_at_call 32;refine (c3 _).mono ?_;rintro r w4 ⟨rfl,hb4⟩;obtain ⟨_,_,_,_,hA4,_⟩:=wz w hb4;obtain ⟨_,_⟩:=zf hb4 (w.heap.size+1);obtain ⟨_,_⟩:=zf hb4 w1.heap.size;obtain ⟨_,_⟩:=zf hb4 (w1.heap.size+1);clear hb4))
 exact bodyPost_ret (by simp only [results,Tryz.results13];go_simp) rfl ⟨rfl,bgo⟩
end
theorem cmp_l (n:Int)(A B:Nat)(C E:Int)(o:Bool)(w:World)(hT:Tab w)
  (c1:∀ W,Tab W->CB 9 #[.int .i64 n,A4 A,.int .i64 n,A4 B] W (.tuple #[.int .i64 C,.bool o,.int .i64 E])) :
  CB 11 #[.int .i64 n,A4 A,A4 B] w (.tuple #[.int .i64 C,.bool o,.int .i64 E]):=by
 have hsm:=cell_set_map
 go_enter Tryz.func11,Tryz.ntmps11
 go_wp2_with (go_at_call 9;refine (c1 _ (hT.go bgo)).mono ?_;rintro r w1 ⟨rfl,hb1⟩;obtain ⟨_,_,_,_,hA1,_⟩:=wz w hb1;obtain ⟨_,_⟩:=zf hb1 (w.heap.size+1);clear hb1)
 exact bodyPost_ret (by simp only [results,Tryz.results11];go_simp) rfl ⟨rfl,bgo⟩
end
section
attribute [local irreducible] W4 Nt Nz NT
theorem mE_or (n:Int)(B:Nat):mE n B=0∨mE n B=1:=by
 unfold mE unE vUE
 split<;>split<;>simp
abbrev ODv (d:Dat)(X:Nat):Value:=OV d.c d.s d.g d.x d.k ((X:Nat):Int)
theorem both_no {f n:Int}{A B:Nat}(hA:A<2^256)(hB:B<2^256)(w:World)(hT:Tab w)(h:mE f A≠0∨mE n B≠0) :
  ∃ c s g x k b c' s' g' x' k' b',∀ W,Tab W->CB 30 #[.int .i64 f,A4 A,.int .i64 n,A4 B] W (.tuple #[OV c s g x k b,OV c' s' g' x' k' b',.int .i64 1]):=by
 obtain ⟨c,s,g,x,k,b,_,cU⟩:=unp_v f A w hT hA
 obtain ⟨c',s',g',x',k',b',_,cV⟩:=unp_v n B w hT hB
 rcases mE_or f A with h1|h1
 ·rcases mE_or n B with h2|h2
  ·omega
  ·rw [h1] at cU
   rw [h2] at cV
   exact ⟨c,s,g,x,k,b,c',s',g',x',k',b',fun W hW=>both_k f n A B c x b s g k c' x' b' s' g' k' 0 1 W hW cU cV rfl⟩
 ·rw [h1] at cU
  exact ⟨c,s,g,x,k,b,0,false,false,0,0,0,fun W hW=>both_e f n A B c x b s g k 1 W hW cU rfl⟩
theorem both_yes {f n:Int}{A B:Nat}(hA:A<2^256)(hB:B<2^256)(w:World)(hT:Tab w)(h1:mE f A=0)(h2:mE n B=0) :
  ∀ W,Tab W->CB 30 #[.int .i64 f,A4 A,.int .i64 n,A4 B] W (.tuple #[ODv (mD f A) (mX f),ODv (mD n B) (mX n),.int .i64 0]):=by
 obtain ⟨c,s,g,x,k,b,e1,cU⟩:=unp_v f A w hT hA
 obtain ⟨c',s',g',x',k',b',e2,cV⟩:=unp_v n B w hT hB
 rw [e1 h1,h1] at cU
 rw [e2 h2,h2] at cV
 exact fun W hW=>both_k f n A B _ _ _ _ _ _ _ _ _ _ _ _ 0 0 W hW cU cV rfl
theorem mD_c {n:Int}{B:Nat}(h:mE n B=0):(mD n B).c=1∨(mD n B).c=2∨(mD n B).c=3:=by
 rcases mD_K h with ⟨q,_⟩|⟨q,_⟩|⟨q,_⟩<;>omega
theorem szD_v {a b:Dat}{X Y:Nat}(hX:X=2∨X=10)(hY:Y=2∨Y=10)(hc:a.c=1∨a.c=2)(hc':b.c=1∨b.c=2)(hk:a.k<2^256)(hk':b.k<2^256)
  (hx:(-17000<=a.x/\a.x<=17000)/\(X=10->-10000<=a.x/\a.x<=10000)) (hy:(-17000<=b.x/\b.x<=17000)/\(Y=10->-10000<=b.x/\b.x<=10000)) (W:World) :
  CB 33 #[ODv a X,ODv b Y] W (.int .i64 (szD a X b Y)) :=
 osz_v hX hY rfl rfl hc hc' hk hk' (by omega) (by omega) hx.2 hy.2 W
theorem ord_mx (f:Int)(A:Nat)(n:Int)(B:Nat)(w:World)(hA:A<2^256)(hB:B<2^256)(hT:Tab w) :
  CB 9 #[.int .i64 f,A4 A,.int .i64 n,A4 B] w (.tuple #[.int .i64 (oMc f A n B),.bool (oMo f A n B),.int .i64 (oME f A n B)]):=by
 unfold oMc oMo oME
 by_cases h:mE f A≠0∨mE n B≠0
 ·rw [if_pos h,if_pos h,if_pos h]
  obtain ⟨c,s,g,x,k,b,c',s',g',x',k',b',cB⟩:=both_no hA hB w hT h
  exact mx_e f n A B c x b s g k c' x' b' s' g' k' 1 w hT cB (Or.inl rfl)
 ·have h1:mE f A=0:=Classical.byContradiction fun q=>h (Or.inl q)
  have h2:mE n B=0:=Classical.byContradiction fun q=>h (Or.inr q)
  rw [if_neg h,if_neg h,if_neg h]
  have cB:=both_yes hA hB w hT h1 h2
  have ka:=mD_256 f A
  have kb:=mD_256 n B
  have ca:=mD_c h1
  have cb:=mD_c h2
  have xa:=mD_x f A
  have xb:=mD_x n B
  have Xa:=mX_or f
  have Xb:=mX_or n
  generalize mD f A=a at *
  generalize mD n B=d at *
  generalize mX f=X at *
  generalize mX n=Y at *
  by_cases h3:a.c=3∨d.c=3
  ·rw [if_pos h3,if_pos h3]
   refine mx_e f n A B _ _ _ _ _ _ _ _ _ _ _ _ 0 w hT cB (Or.inr ⟨rfl,rfl,?_⟩)
   by_cases q:a.c=3
   ·exact Or.inl (by rw [q];rfl)
   ·exact Or.inr ⟨by simpa using q,by rw [h3.resolve_left q];rfl⟩
  ·rw [if_neg h3,if_neg h3]
   have ha2:a.c=1∨a.c=2:=by omega
   have hb2:d.c=1∨d.c=2:=by omega
   have e3:(a.c==3)=false:=by simpa using fun q=>h3 (Or.inl q)
   have e4:(d.c==3)=false:=by simpa using fun q=>h3 (Or.inr q)
   have c1:=fun W=>ont_v a.c a.x ((X:Nat):Int) a.s a.g a.k ka W
   have c2:=fun W=>ont_v d.c d.x ((Y:Nat):Int) d.s d.g d.k kb W
   by_cases hna:nghtD a
   ·by_cases hnb:nghtD d
    ·rw [oV_nn hna hnb]
     have d1:decide (a.c=1/\a.k=0)=true:=decide_eq_true hna
     have d2:decide (d.c=1/\d.k=0)=true:=decide_eq_true hnb
     rw [d1] at c1
     rw [d2] at c2
     exact mx_0 f n A B _ _ _ _ _ _ _ _ _ _ _ _ 0 w hT cB rfl e3 e4 c1 c2
    ·rw [← oV_sg ha2 hb2 (fun q=>hnb q.2)]
     exact mx_v f n A B _ _ _ _ _ _ _ _ _ _ _ _ 0 w hT cB rfl e3 e4 _ _ (Or.inr ⟨decide_eq_true hna,decide_eq_false hnb⟩) _ c1 c2 (fun W=>sg_s _ _ _ _ _ _ _ _ _ _ _ _ _ _ W (fun W=>szD_v Xa Xb ha2 hb2 ka kb xa xb W) (fun W=>szD_v Xb Xa hb2 ha2 kb ka xb xa W))
   ·rw [← oV_sg ha2 hb2 (fun q=>hna q.1)]
    exact mx_v f n A B _ _ _ _ _ _ _ _ _ _ _ _ 0 w hT cB rfl e3 e4 _ _ (Or.inl (decide_eq_false hna)) _ c1 c2 (fun W=>sg_s _ _ _ _ _ _ _ _ _ _ _ _ _ _ W (fun W=>szD_v Xa Xb ha2 hb2 ka kb xa xb W) (fun W=>szD_v Xb Xa hb2 ha2 kb ka xb xa W))
theorem outD_v {a b:Dat}{X:Nat}(hX:X=2∨X=10)(hc:a.c=1∨a.c=2∨a.c=3)(hc':b.c=1∨b.c=2∨b.c=3)(hk:a.k<2^256)(hk':b.k<2^256)
  (hx:(-17000<=a.x/\a.x<=17000)/\(X=10->-10000<=a.x/\a.x<=10000)) (hy:(-17000<=b.x/\b.x<=17000)/\(X=10->-10000<=b.x/\b.x<=10000)) (W:World) :
  CB 35 #[ODv a X,ODv b X] W (.int .i64 (outD a b X)):=by
 unfold outD
 by_cases h:a.c≠b.c
 ·rw [if_pos h]
  exact ow_c _ _ _ _ _ _ _ _ _ _ _ _ W (by simpa using h)
 ·rw [if_neg h]
  have h':a.c=b.c:=Classical.byContradiction h
  have e1:(a.c != b.c)=false:=by simpa using h'
  by_cases h3:a.c≠3
  ·rw [if_pos h3]
   exact ow_n _ _ _ _ _ _ _ _ _ _ _ _ W e1 (by simpa using h3) _ (fun W=>szD_v hX hX (by omega) (by omega) hk hk' hx hy W)
  ·rw [if_neg h3]
   have e3:(a.c != 3)=false:=by simpa using h3
   by_cases hg:a.g≠b.g
   ·rw [if_pos hg]
    refine ow_s _ _ _ _ _ _ _ _ _ _ _ _ W e1 e3 _ ?_
    revert hg
    cases a.g<;>cases b.g<;>simp
   ·rw [if_neg hg]
    exact ow_p _ _ _ _ _ _ hk _ _ _ _ _ _ hk' W e1 e3 (Classical.byContradiction hg) _ (fun W v v' hv hv'=>ncmp_v (by decide) (by decide) hv hv')
theorem ord_tl (n:Int)(A:Nat)(B:Nat)(w:World)(hA:A<2^256)(hB:B<2^256)(hT:Tab w) :
  CB 13 #[.int .i64 n,A4 A,A4 B] w (.tuple #[.int .i64 (oTc n A B),.int .i64 (oTE n A B)]):=by
 unfold oTc oTE
 by_cases h:mE n A≠0∨mE n B≠0
 ·rw [if_pos h,if_pos h]
  obtain ⟨c,s,g,x,k,b,c',s',g',x',k',b',cB⟩:=both_no hA hB w hT h
  exact tl_e n A B c x b s g k c' x' b' s' g' k' 1 w hT cB rfl
 ·have h1:mE n A=0:=Classical.byContradiction fun q=>h (Or.inl q)
  have h2:mE n B=0:=Classical.byContradiction fun q=>h (Or.inr q)
  rw [if_neg h,if_neg h]
  have cB:=both_yes hA hB w hT h1 h2
  have ka:=mD_256 n A
  have kb:=mD_256 n B
  have ca:=mD_c h1
  have cb:=mD_c h2
  have xa:=mD_x n A
  have xb:=mD_x n B
  have Xa:=mX_or n
  rw [← oT_sg ca cb]
  exact tl_v n A B _ _ _ _ _ _ _ _ _ _ _ _ 0 w hT cB rfl _ (fun W=>sg_o _ _ _ _ _ _ _ _ _ _ _ _ _ _ W (fun W=>outD_v Xa ca cb ka kb xa xb W) (fun W=>outD_v Xa cb ca kb ka xb xa W))
theorem ordM:OrdM Tab:=⟨fun f Ar g Br W hA hB hT=>ord_mx f Ar g Br W hA hB hT⟩
theorem ordC:OrdC Tab:=⟨fun w w' h hb=>h.go hb,fun n Ar Br W hA hB hT=>cmp_l n Ar Br _ _ _ W hT (fun W' hT'=>ord_mx n Ar n Br W' hA hB hT')⟩
theorem ordT:OrdT Tab:=⟨fun n Ar Br W hA hB hT=>ord_tl n Ar Br W hA hB hT⟩
theorem orderCompares_any (f:Int)(Ar:Nat)(g:Int)(Br:Nat)(w:World)(hT:Tab w)(hA:Ar<2^256)(hB:Br<2^256) :
  CB 3 #[.int .i64 f,A4 Ar,.int .i64 g,A4 Br] w (.bool true):=by
 exact compares20_v ordC w hT ordM f Ar g Br hA hB
theorem orderTotals_any (n:Int)(Ar Br Cr:Nat)(w:World)(hT:Tab w)(hA:Ar<2^256)(hB:Br<2^256)(hC:Cr<2^256) :
  CB 4 #[.int .i64 n,A4 Ar,A4 Br,A4 Cr] w (.bool true):=by
 exact totals20_v ordC w hT ordT n Ar Br Cr hA hB hC
end
end Go.Proofs.YtgknbdehlmlipaaGreatDoor
