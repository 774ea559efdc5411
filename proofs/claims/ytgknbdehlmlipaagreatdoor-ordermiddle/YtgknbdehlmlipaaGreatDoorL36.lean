/-
  Texts that the proof leans on.
-/
import Derived.Test.YtgknbdehlmlipaaGreatDoorL30
import Derived.Test.YtgknbdehlmlipaaGreatDoorL22
import Derived.Test.YtgknbdehlmlipaaGreatDoorL24
import Derived.Test.YtgknbdehlmlipaaGreatDoorL33
import Derived.Test.YtgknbdehlmlipaaGreatDoorL21
import Derived.Test.YtgknbdehlmlipaaGreatDoorL18
import Derived.Test.YtgknbdehlmlipaaGreatDoorL6
import Derived.Test.YtgknbdehlmlipaaGreatDoorL9
import Derived.Deep.Cut
import Derived.Deep.CutRange
import Derived.Deep.RegionWith
import Derived.Test.YtgknbdehlmlipaaGreatDoorL1
import Derived.Test.YtgknbdehlmlipaaGreatDoorL26
import Derived.Test.YtgknbdehlmlipaaGreatDoorL2
import Derived.Test.YtgknbdehlmlipaaGreatDoorL10
import Derived.Test.YtgknbdehlmlipaaGreatDoorL29
import Derived.Test.YtgknbdehlmlipaaGreatDoorL3
import Derived.Test.YtgknbdehlmlipaaGreatDoorL7
import Derived.Test.YtgknbdehlmlipaaGreatDoorL32
import Derived.Test.YtgknbdehlmlipaaGreatDoorL23
set_option linter.unusedVariables false
set_option linter.unusedSectionVars false
set_option linter.unusedSimpArgs false
set_option maxHeartbeats 8000000
set_option maxRecDepth 20000
namespace Go.Proofs.YtgknbdehlmlipaaGreatDoor
open Go.RowKit
section
theorem five_bl (k:Nat):bl (5^k)<=3*k+1:=by
 refine bl_le.2 ?_
 have h1:5^k<=8^k:=Nat.pow_le_pow_left (by decide) k
 have h2:(8:Nat)^k=2^(3*k):=by rw [Nat.pow_mul]
 have h3:(2:Nat)^(3*k)<2^(3*k+1):=Nat.pow_lt_pow_right (by decide) (by omega)
 omega
theorem bl_mul (a b:Nat):bl (a*b)<=bl a+bl b:=by
 refine bl_le.2 ?_
 rw [Nat.pow_add]
 have h1:=bl_le.1 (Nat.le_refl (bl a))
 have h2:=bl_le.1 (Nat.le_refl (bl b))
 exact Nat.mul_lt_mul'' h1 h2
theorem npow5 (m:Nat)(w:World)(hm:m<=12000):Calls Tryz.prog 96 #[.int .i64 5,.int .i64 (m:Int)] w fun r w'=>∃ v,r=.returned (.tuple #[v,.int .i64 0])/\Nt 2001 (5^m) v w'/\Below w.heap.size w w':=by
 refine (npow_any 5 m w (Or.inl rfl) hm).mono fun r w' ⟨g,k,cap,z,e1,hk,hN,hv,hs,hB⟩=>⟨_,e1,⟨_,k,cap,z,rfl,hk,hN,?_⟩,hB⟩
 rw [hv];simp
attribute [local irreducible] W4 Nz Nt
end
section
theorem NT.nz {K V:Nat}{v:Value}{w:World}(h:NT K V v w):Nz K V v w:=by
 obtain ⟨g,k,cap,z,h1,h2,h3,h4,h5⟩:=h
 exact ⟨_,k,cap,z,h1,h2,h3,h4,h5⟩
theorem NT.nt {K V:Nat}{v:Value}{w:World}(h:NT K V v w):Nt K V v w:=h.nz.nt
theorem nmul_w {K K' A P:Nat}{v v':Value}{w:World}(hK:K<100000000)(hK':K'<100000000)(h:Nt K A v w)(h':Nt K' P v' w)(hb:bl A+bl P<=127000) :
  Calls Tryz.prog 97 #[v,v'] w fun r w'=>∃ q,r=.returned (.tuple #[q,.int .i64 0])/\NT 2001 (A*P) q w'/\Below w.heap.size w w':=by
 obtain ⟨a,k,cap,z,rfl,hk,hN,hv⟩:=h
 obtain ⟨a',k',cap',z',rfl,hk',hN',hv'⟩:=h'
 have s1:=(size_bl (m:=(bl A+63)/64) hN.2.2.1 hv).2 (by omega)
 have s2:=(size_bl (m:=(bl P+63)/64) hN'.2.2.1 hv').2 (by omega)
 refine (nmul_any a a' k cap k' cap' z z' w (by omega) (by omega) hN hN' (by omega)).mono fun r w' ⟨g,q,cp,y,e1,hq,hNq,hvq,hsq,hB⟩=>⟨_,e1,⟨g,q,cp,y,rfl,by omega,hNq,?_,hsq⟩,hB⟩
 rw [hvq,hv,hv'];simp
theorem nshl_w {K V:Nat}{v:Value}{w:World}(d:Nat)(hK:K<100000000)(h:Nt K V v w)(hd:bl V+d<=127000) :
  Calls Tryz.prog 131 #[v,.int .i64 (d:Int)] w fun e w'=>∃ r,e=.returned (.tuple #[r,.int .i64 0])/\NT 2001 (V*2^d) r w'/\Below w.heap.size w w':=by
 obtain ⟨a,k,cap,z,rfl,hk,hN,hv⟩:=h
 have hs:=(size_bl (m:=(bl V+63)/64) hN.2.2.1 hv).2 (by omega)
 refine (nshl_any a k cap z d w (by omega) hN (by omega) (by omega)).mono fun e w' ⟨g,k',cap',z',h1,h2,h3,h4,h5,h6⟩=>⟨_,h1,⟨g,k',cap',z',rfl,h2,h3,?_,h5⟩,h6⟩
 rw [h4,hv];simp
theorem npow5z (m:Nat)(w:World)(hm:m<=12000):Calls Tryz.prog 96 #[.int .i64 5,.int .i64 (m:Int)] w fun r w'=>∃ v,r=.returned (.tuple #[v,.int .i64 0])/\NT 2001 (5^m) v w'/\Below w.heap.size w w':=by
 refine (npow_any 5 m w (Or.inl rfl) hm).mono fun r w' ⟨g,k,cap,z,e1,hk,hN,hv,hs,hB⟩=>⟨_,e1,⟨g,k,cap,z,rfl,hk,hN,?_,hs⟩,hB⟩
 rw [hv];simp
theorem nt_un1 {W:World}{g V:Nat}{vi:Int}(hg:g=W.heap.size)(hv:vi=(V:Int))(hb:V<18446744073709551616)(h0:V≠0):NT 1 V (.slice (some ⟨g,0,none⟩) 1 1) (W.alloc (.cells #[.int .u64 vi] 22)):=by
 subst hg hv
 refine ⟨_,1,1,oneW V,rfl,Nat.le_refl _,num_one W V (by omega),val_one1 V,?_⟩
 have:oneW (V:Int) 0≠0:=by simp [oneW];omega
 simp [sizeL,this]
theorem npow2z (m:Nat)(w:World)(hm:m<=12000):Calls Tryz.prog 96 #[.int .i64 2,.int .i64 (m:Int)] w fun r w'=>∃ v,r=.returned (.tuple #[v,.int .i64 0])/\Nt 2001 (2^m) v w'/\Below w.heap.size w w':=by
 refine (npow_two m w hm).mono fun r w' ⟨g,k,cap,z,e1,hk,hN,hv,hs,hB⟩=>⟨_,e1,⟨_,k,cap,z,rfl,hk,hN,?_⟩,hB⟩
 rw [hv];simp
attribute [local irreducible] W4 Nz Nt NT
def gsP (k:Nat)(x:Int):Int:=(((bl k:Int)-1+x)*30103).tdiv 100000-1
end
section
abbrev OV (c:Int)(s g:Bool)(x:Int)(k:Nat)(b:Int):Value:=.agg #[.int .i64 c,.bool s,.bool g,.int .i64 x,.int .u64 (W4 k 0),.int .u64 (W4 k 1),.int .u64 (W4 k 2),.int .u64 (W4 k 3),.int .i64 b]
abbrev OCs (c:Int)(s g:Bool)(x:Int)(k:Nat)(b:Int):Array Value:=#[.int .i64 c,.bool s,.bool g,.int .i64 x,.int .u64 (W4 k 0),.int .u64 (W4 k 1),.int .u64 (W4 k 2),.int .u64 (W4 k 3),.int .i64 b]
theorem nt_off {w:World}{h o k:Nat}(hk:k<2^256)(hlt:h<w.heap.size)(hc:∀ i,i<4->w.cell? ⟨h,o+i,none⟩=some (.int .u64 (W4 k i))) :
  Nt 4 k (.slice (some ⟨h,o,none⟩) 4 4) w:=by
 refine ⟨_,4,4,lowW (W4 k) 4,rfl,Nat.le_refl _,⟨Nat.le_refl _,by unfold maxLen;omega,?_,?_,Or.inr ⟨h,o,rfl,hlt,?_⟩⟩,?_⟩
 ·intro i
  by_cases hi:i<4
  ·rw [lowW_lt hi];exact W4_words k i
  ·rw [show lowW (W4 k) 4 i=0 from if_neg hi];exact ⟨Int.le_refl _,by decide⟩
 ·intro i hi
  exact if_neg (by omega)
 ·intro i hi
  rw [lowW_lt hi,hc i hi]
 ·rw [val_congr (x:=lowW (W4 k) 4) (y:=W4 k) 4 (fun i hi=>lowW_lt hi),W4_val4 hk]
theorem op_new {w0 w:World}{c x b:Int}{s g:Bool}{k:Nat}{t:TypeId}(hk:k<2^256)(hb:Below (w0.alloc (.cells (OCs c s g x k b) t)).heap.size (w0.alloc (.cells (OCs c s g x k b) t)) w) :
  Nt 4 k (.slice (some ⟨w0.heap.size,4,none⟩) 4 4) w:=by
 have hs:w0.heap.size<(w0.alloc (.cells (OCs c s g x k b) t)).heap.size:=by simp
 refine nt_off hk (Nat.lt_of_lt_of_le hs hb.size) fun i hi=>?_
 rw [hb.cell (p:=⟨w0.heap.size,4+i,none⟩) hs,World.cell?_alloc_new]
 have:i=0∨i=1∨i=2∨i=3:=by omega
 rcases this with rfl|rfl|rfl|rfl<;>rfl
theorem b4_new {w0 w:World}{k:Nat}{t:TypeId}(hk:k<2^256)(hb:Below (w0.alloc (.cells #[.int .u64 (W4 k 0),.int .u64 (W4 k 1),.int .u64 (W4 k 2),.int .u64 (W4 k 3)] t)).heap.size (w0.alloc (.cells #[.int .u64 (W4 k 0),.int .u64 (W4 k 1),.int .u64 (W4 k 2),.int .u64 (W4 k 3)] t)) w) :
  Nt 4 k (.slice (some ⟨w0.heap.size,0,none⟩) 4 4) w:=by
 have hs:w0.heap.size<(w0.alloc (.cells #[.int .u64 (W4 k 0),.int .u64 (W4 k 1),.int .u64 (W4 k 2),.int .u64 (W4 k 3)] t)).heap.size:=by simp
 refine nt_off hk (Nat.lt_of_lt_of_le hs hb.size) fun i hi=>?_
 rw [hb.cell (p:=⟨w0.heap.size,0+i,none⟩) hs,World.cell?_alloc_new]
 have:i=0∨i=1∨i=2∨i=3:=by omega
 rcases this with rfl|rfl|rfl|rfl<;>rfl
attribute [local irreducible] W4 Nt Nz NT
section
variable (c x b:Int)(s g:Bool)(k:Nat)(hk:k<2^256)(w:World)
include hk
theorem ont_v:CB 31 #[OV c s g x k b] w (.bool (decide (c=1/\k=0))):=by
 have hb0:=op_new (w0:=w) (w:=w.alloc (.cells (OCs c s g x k b) 60)) (c:=c) (s:=s) (g:=g) (x:=x) (b:=b) (t:=60) hk (Below.refl _ _)
 have hln:=nlen_v (by decide) hb0
 have hd:(((bl k:Nat):Int)==0)=decide (k=0):=by
  by_cases h:k=0
  ·subst h;rfl
  ·rw [decide_eq_false h];have:=mt bl_zero.1 h;simp;omega
 have hsm:=cell_set_map
 by_cases hc:c=1
 ·subst hc
  have e:decide ((1:Int)=1/\k=0)=decide (k=0):=by simp
  rw [e]
  clear e
  go_enter Tryz.func31,Tryz.ntmps31
  go_wp2_with (go_at_call 71;refine hln.mono ?_;rintro r w1 ⟨rfl,rfl⟩)
  go_ret
  exact ⟨by first|rfl|simp,bgo⟩
 ·have h1:(c==1)=false:=by simpa using hc
  have e:decide (c=1/\k=0)=false:=by simp [hc]
  rw [e]
  clear e
  go_enter Tryz.func31,Tryz.ntmps31
  go_wp2
  go_ret
  exact ⟨by first|rfl|simp,bgo⟩
theorem reach_2 (hx:-20000<=x/\x<=20000):CB 74 #[OV c s g x k 2] w (.tuple #[.int .i64 (rcL 2 x k),.int .i64 (rcU 2 x k)]):=by
 have hbl:=bl_le.2 hk
 have hsm:=cell_set_map
 have e1:rcL 2 x k=1000*((bl k:Int)-1)+1000*x:=rfl
 have e2:rcU 2 x k=1000*(bl k:Int)+1000*x:=rfl
 rw [e1,e2]
 clear e1 e2
 go_enter Tryz.func74,Tryz.ntmps74
 go_wp2
 refine wp_whole (by kernel_rfl) (by kernel_rfl) fun hne hcell=>?_
 repeat go_big_quiet_step (fail)
 refine wpQuiet_nil fun w1 hb1=>?_
 have hb0:=op_new (w0:=w) (w:=w1) (c:=c) (s:=s) (g:=g) (x:=x) (b:=2) (t:=60) hk hb1
 obtain ⟨_,_,_,_,hA1,_⟩:=wz w hb1;clear hb1
 go_wp2_with (go_at_call 71;refine (nlen_v (by decide) hb0).mono ?_;rintro r w2 ⟨rfl,rfl⟩)
 exact bodyPost_ret (v:=.tuple #[.int .i64 (1000*((bl k:Int)-1)+1000*x),.int .i64 (1000*(bl k:Int)+1000*x)]) (by simp only [results,Tryz.results74];go_simp) rfl ⟨rfl,bgo⟩
theorem reach_10 (hx:-10000<=x/\x<=10000):CB 74 #[OV c s g x k 10] w (.tuple #[.int .i64 (rcL 10 x k),.int .i64 (rcU 10 x k)]):=by
 have hbl:=bl_le.2 hk
 have hsm:=cell_set_map
 have e1:rcL 10 x k=1000*((bl k:Int)-1)+min (3321*x) (3322*x):=rfl
 have e2:rcU 10 x k=1000*(bl k:Int)+max (3321*x) (3322*x):=rfl
 rw [e1,e2]
 clear e1 e2
 go_enter Tryz.func74,Tryz.ntmps74
 go_wp2
 refine wp_whole (by kernel_rfl) (by kernel_rfl) fun hne hcell=>?_
 repeat go_big_quiet_step (fail)
 refine wpQuiet_nil fun w1 hb1=>?_
 have hq0:=op_new (w0:=w) (w:=w1) (c:=c) (s:=s) (g:=g) (x:=x) (b:=10) (t:=60) hk hb1
 obtain ⟨_,_,_,_,hA1,_⟩:=wz w hb1;clear hb1
 go_wp2
 refine wp_whole (by kernel_rfl) (by kernel_rfl) fun hne hcell=>?_
 repeat go_big_quiet_step (fail)
 refine wpQuiet_nil fun w3 hb3=>?_
 have hb0:=hq0.next hb3
 obtain ⟨_,_,_,_,hA3,_⟩:=wz w hb3;clear hb3
 go_wp2_with (go_at_call 71;refine (nlen_v (by decide) hb0).mono ?_;rintro r w2 ⟨rfl,rfl⟩)
 exact bodyPost_ret (v:=.tuple #[.int .i64 (1000*((bl k:Int)-1)+min (3321*x) (3322*x)),.int .i64 (1000*(bl k:Int)+max (3321*x) (3322*x))]) (by simp only [results,Tryz.results74];go_simp) rfl ⟨rfl,bgo⟩
theorem fives_2:CB 106 #[OV c s g x k 2] w (.int .i64 (fvE 2 x)):=by
 have hsm:=cell_set_map
 rw [show fvE 2 x=0 from rfl]
 go_enter Tryz.func106,Tryz.ntmps106
 go_wp2
 go_ret
 exact ⟨by first|rfl|simp,bgo⟩
theorem fives_10:CB 106 #[OV c s g x k 10] w (.int .i64 (fvE 10 x)):=by
 have hsm:=cell_set_map
 rw [show fvE 10 x=x from rfl]
 go_enter Tryz.func106,Tryz.ntmps106
 go_wp2
 go_ret
 exact ⟨by first|rfl|simp,bgo⟩
end
end
theorem und_is {m:Int}{B:Nat}(h:goodN m B):isD (fN m) (leastN m) (mostN m) (unD m B):=by
 obtain ⟨S,E,F,hS,hE,hFr,hBe⟩:=fields_in h.2
 have hu:unD m B=mean (fN m) (eN m) (leastN m) S E F:=by
  unfold unD;rw [if_pos h,hBe,unp_mean _ hS hE hFr]
 rw [hu]
 exact (mean_isD (bin_fm h.1) hS hE hFr).1
theorem fN_two {n:Int}(hb:binN n):2<=fN n:=by
 rcases bin_cases hb with rfl|rfl|rfl|rfl|rfl|rfl<;>decide
theorem pk_good {n:Int}{D:Dat}(hb:binN n)(h:isD (fN n) (leastN n) (mostN n) D):goodN n (pkV n D)/\unD n (pkV n D)=D :=
 back_pk (by unfold pkE;rw [if_pos hb,if_pos h])
theorem hush_is {f:Nat}{l m:Int}{D:Dat}(h:isD f l m D):isD f l m (hush D):=by
 rcases h with ⟨h1,h2,h3,h4,h5,h6⟩|⟨h1,h2,h3,h4⟩|⟨h1,h2,h3,h4⟩
 ·exact Or.inl ⟨h1,rfl,h3,h4,h5,h6⟩
 ·exact Or.inr (Or.inl ⟨h1,rfl,h3,h4⟩)
 ·exact Or.inr (Or.inr ⟨h1,h2,h3,Or.inr rfl⟩)
theorem qu_self {m:Int}{B:Nat}(h:goodN m B):quV m B=pkV m (hush (unD m B))/\quE m B=0/\((unD m B).g=false->quV m B=B):=by
 have e1:quV m B=pkV m (hush (unD m B)):=if_pos h
 refine ⟨e1,?_,fun hg=>?_⟩
 ·have:quE m B=pkE m (hush (unD m B)):=if_pos h
  rw [this]
  unfold pkE
  rw [if_pos h.1,if_pos (hush_is (und_is h))]
 ·rw [e1,show hush (unD m B)=unD m B by unfold hush;rw [← hg]]
  exact (back_un h).2
/-! the sign -/
/-! the order -/
/-! what Convert answers -/
def cnG (m t d:Int)(B:Nat):Prop:=goodN m B/\binN t/\knB d
instance (m t d:Int) (B:Nat):Decidable (cnG m t d B):=by unfold cnG;infer_instance
section
theorem val_odd {z:Nat->Int}{k V:Nat}(hk:0<k)(hv:val z k=(V:Int)):(V:Int)%2=z 0%2:=by
 have key:∀ j,val z (j+1)%2=z 0%2:=by
  intro j
  induction j with
  | zero=>simp [val]
  | succ j ih =>
   have:val z (j+1+1)=val z (j+1)+z (j+1)*18446744073709551616^(j+1):=rfl
   rw [this,Int.pow_succ,show z (j+1)*(18446744073709551616^j*18446744073709551616)=2*(z (j+1)*18446744073709551616^j*9223372036854775808) by grind,Int.add_mul_emod_self_left]
   exact ih
 obtain ⟨j,rfl⟩:∃ j,k=j+1:=⟨k-1,by omega⟩
 rw [← hv];exact key j
attribute [local irreducible] NV NT
end
def Prt.at (p:Prt)(s:Bool):Prt:=⟨p.cls,s,p.sn,p.dig,p.ex⟩
/-! Make by value -/
/-! Read by value -/
section
attribute [local irreducible] W4 Nz Nt NT
def nbB (n x:Int)(k:Nat):Bool:=decide (leastN n<x)&&decide (k=2^fN n)
end
section
attribute [local irreducible] NT NV
theorem rpow_ntw (b n:Nat)(w:World)(hb0:b≠0)(hb:b<18446744073709551616)(hn:n<=60000) :
  CE 26 #[.int .u64 (b:Int),.int .i64 (n:Int)] w (NT (4*n+2) (b^n)):=by
 have hN1:=(nt_unit (W:=w) (g:=w.heap.size) (V:=1) (vi:=1) rfl rfl (by decide) (by decide)).next (below1 _ (.cells #[.int .u64 (b:Int)] 22))
 have hN2:=nt_unit (W:=w.alloc (.cells #[.int .u64 1] 22)) (g:=w.heap.size+1) (V:=b) (vi:=(b:Int)) (by simp) rfl hb hb0
 have HB:Hid (Below w.heap.size w ((w.alloc (.cells #[.int .u64 1] 22)).alloc (.cells #[.int .u64 (b:Int)] 22))):=((Below.refl _ _).alloc (Nat.le_refl _) _).alloc (by simp) _
 go_enter Tryz.func26,Tryz.ntmps26
 go_wp2
 generalize (w.alloc (.cells #[.int .u64 1] 22)).alloc (.cells #[.int .u64 (b:Int)] 22)=wA at *
 go_loopw [1,5,6] (fun nv ov sv wr=>∃ (m P X Y:Nat),nv=.int .i64 (m:Int)/\m<=n/\1<=P/\m*P<=n/\P<=2*n+1/\NT (2*P-1) X ov wr/\NT (2*P-1) Y sv wr/\Hid (X*Y^m=b^n)/\Below w.heap.size w wr) (fun nv _ _ _=>(intOf nv).toNat)
 case atStart=>exact ⟨n,1,1,b,rfl,Nat.le_refl _,Nat.le_refl _,by omega,by omega,hN1,hN2,by show _=_;rw [Nat.one_mul],HB.out⟩
 case round =>
  clear hN1 hN2 HB
  obtain ⟨m,P,X,Y,rfl,hmn,hP,hmP,hP2,hN1,hN2,hv,hB⟩:=hrel
  by_cases h0:m=0
  ·subst h0
   have HV:Hid (X=b^n):=by show _=_;have:=hv.out;rw [Nat.pow_zero,Nat.mul_one] at this;exact this
   clear hN2 hv
   go_wp2
   go_ret
   exact ⟨_,rfl,by rw [← HV.out];exact hN1.more (by omega),hB⟩
  ·have hm0:(0:Int)<m:=by omega
   have hPn:P<=n:=by
    have:1*P<=m*P:=Nat.mul_le_mul_right P (by omega)
    omega
   have hq2:(m:Int)/2=((m/2:Nat):Int):=by omega
   have hr2:(m:Int)%2=((m%2:Nat):Int):=by omega
   have hmP':m/2*(2*P)<=n:=by
    have h1:m/2*2<=m:=Nat.div_mul_le_self m 2
    have h2:m/2*2*P<=m*P:=Nat.mul_le_mul_right P h1
    rw [← Nat.mul_assoc];omega
   have HPH:Hid (Y^m=(if m%2=1 then Y else 1)*(Y*Y)^(m/2)):=nat_half _ _
   generalize hq:m/2=q at *
   by_cases hodd:m%2=1
   ·rw [hodd] at hr2
    rw [if_pos hodd] at HPH
    have t1:=rtimes_nt (by omega) (by omega) hN1.nv hN2.nv
    by_cases hq0:q=0
    ·subst hq0
     have hq00:(m:Int)/2=0:=hq2
     clear hq2
     go_wp2_with (go_at_call 24;refine t1.mono ?_;rintro e w1 ⟨r1,rfl,hr1,hb1⟩;clear t1)
     have HV3:Hid (X*Y*Y^0=b^n):=by
      show _=_
      rw [← hv.out,HPH.out];simp
     have hN2':=hN2.next hb1
     have hB1:=hB.trans (hb1.mono hB.size)
     clear hN1 hN2 hv
     go_roundw
     case rel=>exact ⟨0,2*P,X*Y,Y,rfl,by omega,by omega,by omega,by omega,hr1.more (by omega),hN2'.more (by omega),HV3,hB1⟩
     case measure=>simp [intOf];omega
    ·have hq0':(0:Int)<q:=by omega
     go_wp2_with (go_at_call 24;refine t1.mono ?_;rintro e w1 ⟨r1,rfl,hr1,hb1⟩;clear t1)
     have hB1:=hB.trans (hb1.mono hB.size)
     have hN21:=hN2.next hb1
     have t2:=rtimes_nt (by omega) (by omega) hN21.nv hN21.nv
     go_wp2_with (go_at_call 24;refine t2.mono ?_;rintro e w2 ⟨r2,rfl,hr2',hb2⟩;clear t2)
     have HV3:Hid (X*Y*(Y*Y)^q=b^n):=by
      show _=_
      rw [← hv.out,HPH.out,Nat.mul_assoc]
     have hr1':=hr1.next hb2
     have hB2:=hB1.trans (hb2.mono hB1.size)
     clear hN1 hN2 hN21 hr1 hv
     go_roundw
     case rel=>exact ⟨q,2*P,X*Y,Y*Y,rfl,by omega,by omega,by omega,by omega,hr1'.more (by omega),hr2'.more (by omega),HV3,hB2⟩
     case measure=>simp [intOf];omega
   ·have h20:m%2=0:=by omega
    rw [h20] at hr2
    rw [if_neg hodd,Nat.one_mul] at HPH
    have hq0':(0:Int)<q:=by omega
    have t2:=rtimes_nt (by omega) (by omega) hN2.nv hN2.nv
    go_wp2_with (go_at_call 24;refine t2.mono ?_;rintro e w2 ⟨r2,rfl,hr2',hb2⟩;clear t2)
    have HV3:Hid (X*(Y*Y)^q=b^n):=by
     show _=_
     rw [← hv.out,HPH.out]
    have hN1':=hN1.next hb2
    have hB2:=hB.trans (hb2.mono hB.size)
    clear hN1 hN2 hv
    go_roundw
    case rel=>exact ⟨q,2*P,X,Y*Y,rfl,by omega,by omega,by omega,by omega,hN1'.more (by omega),hr2'.more (by omega),HV3,hB2⟩
    case measure=>simp [intOf];omega
section
variable (x:Int)(vn vd:Value)(A KK:Nat)(w:World)(hx:-60000<=x/\x<=60000)
include hx
end
end
section
attribute [local irreducible] W4 NT NV
theorem nt_oneB {W:World}{g:Nat}(hg:g=W.heap.size):NT 900 1 (.slice (some ⟨g,0,none⟩) 1 1) (W.alloc (.cells #[.int .u64 1] 22)):=by
 have h:=nt_un1 (W:=W) (V:=1) (vi:=1) hg rfl (by decide) (by decide)
 unfold NT at h ⊢
 obtain ⟨g',k',c',z,h1,h2,h3⟩:=h
 exact ⟨g',k',c',z,h1,Nat.le_trans h2 (by decide),h3⟩
end
end Go.Proofs.YtgknbdehlmlipaaGreatDoor
