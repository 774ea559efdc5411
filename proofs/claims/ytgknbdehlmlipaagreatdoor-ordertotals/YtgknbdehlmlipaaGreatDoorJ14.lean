/-
  Texts that the proof leans on.
-/
import Derived.Test.YtgknbdehlmlipaaGreatDoorJ11
import Derived.Test.YtgknbdehlmlipaaGreatDoorJ2
set_option linter.unusedVariables false
set_option linter.unusedSectionVars false
set_option linter.unusedSimpArgs false
set_option maxHeartbeats 8000000
set_option maxRecDepth 20000
namespace Go.Proofs.YtgknbdehlmlipaaGreatDoor
open Go.RowKit
def dlG (n:Nat):Nat:=n/100/8*4+n/10%10/8*2+n%10/8
def dlR (g:Nat):Nat×Nat×Nat :=
 if g=0 then (10,11,22) else if g=1 then (10,11,4) else if g=2 then (10,12,5) else if g=4 then (12,11,6) else if g=3 then (10,2,7) else if g=5 then (11,1,7) else if g=6 then (12,0,7) else (0,3,7)
def dlT (n r:Nat):Nat:=if 10<=r then (if r%10=0 then n/100 else if r%10=1 then n/10%10 else n%10)/2%4 else r
def dlE (n:Nat):Nat:=dlT n (dlR (dlG n)).1*256+n/100%2*128+dlT n (dlR (dlG n)).2.1*32+n/10%10%2*16+dlT n (dlR (dlG n)).2.2*2+n%10%2
def dlM (d n:Nat):Bool:=dlE n==d||(d/32%4==3&&d/2%8==7&&dlE n==d%256)
def dlD (d:Nat):Nat :=
 let a:=d/128;let b:=d/16%8;let x:=d%2
 let p:=d/256;let q:=d/128%2;let s:=d/32%4;let t:=d/16%2
 if d/8%2=0 then a*100+b*10+d%8
 else if d/2%4=0 then a*100+b*10+(8+x)
 else if d/2%4=1 then a*100+(8+t)*10+(s*2+x)
 else if d/2%4=2 then (8+q)*100+b*10+(p*2+x)
 else if s=0 then (8+q)*100+(8+t)*10+(p*2+x)
 else if s=1 then (8+q)*100+(p*2+t)*10+(8+x)
 else if s=2 then a*100+(8+t)*10+(8+x)
 else (8+q)*100+(8+t)*10+(8+x)
def upTo (f:Nat->Bool):Nat->Bool
 | 0=>true
 | i+1=>f i&&upTo f i
theorem upTo_all {f:Nat->Bool}:∀ {m:Nat},upTo f m=true->∀ i,i<m->f i=true
 | 0,_,i,hi=>absurd hi (Nat.not_lt_zero i)
 | m+1,h,i,hi=>by
  unfold upTo at h
  rw [Bool.and_eq_true] at h
  rcases Nat.lt_succ_iff_lt_or_eq.1 hi with h1|h1
  ·exact upTo_all h.2 i h1
  ·rw [h1];exact h.1
theorem dl_back:∀ n,n<1000->dlD (dlE n)=n/\dlE n<1024:=fun n hn=>by
 have h:=upTo_all (f:=fun n=>decide (dlD (dlE n)=n/\dlE n<1024)) (m:=1000) (by decide +kernel) n hn
 exact of_decide_eq_true h
theorem dl_means:∀ d,d<1024->dlD d<1000/\dlM d (dlD d)=true/\(d/32%4=3->d/2%8=7->dlD (d%256)=dlD d):=fun d hd=>by
 have h:=upTo_all (f:=fun d=>decide (dlD d<1000/\dlM d (dlD d)=true/\(d/32%4=3->d/2%8=7->dlD (d%256)=dlD d))) (m:=1024) (by decide +kernel) d hd
 exact of_decide_eq_true h
theorem dl_only {d n:Nat}(hd:d<1024)(hn:n<1000):dlM d n=true↔n=dlD d:=by
 constructor
 ·intro h
  unfold dlM at h
  rw [Bool.or_eq_true,Bool.and_eq_true,Bool.and_eq_true] at h
  have hb:=(dl_back n hn).1
  rcases h with h|⟨⟨h1,h2⟩,h3⟩
  ·rw [beq_iff_eq] at h
   rw [← hb,h]
  ·rw [beq_iff_eq] at h1 h2 h3
   rw [← hb,h3]
   exact (dl_means d hd).2.2 h1 h2
 ·rintro rfl
  exact (dl_means d hd).2.1
/-! declets in a row -/
def dlP:Nat->Nat->Nat
 | 0,_=>0
 | c+1,a=>dlE (a%1000)+1024*dlP c (a/1000)
def dlU:Nat->Nat->Nat
 | 0,_=>0
 | c+1,b=>dlD (b%1024)+1000*dlU c (b/1024)
theorem dlP_lt:∀ (c a:Nat),dlP c a<1024^c
 | 0,a=>by unfold dlP;decide
 | c+1,a=>by
  unfold dlP
  have h1:=(dl_back (a%1000) (Nat.mod_lt _ (by decide))).2
  have h2:=dlP_lt c (a/1000)
  rw [Nat.pow_succ]
  omega
theorem dlU_lt:∀ (c b:Nat),dlU c b<1000^c
 | 0,b=>by unfold dlU;decide
 | c+1,b=>by
  unfold dlU
  have h1:=(dl_means (b%1024) (Nat.mod_lt _ (by decide))).1
  have h2:=dlU_lt c (b/1024)
  rw [Nat.pow_succ]
  omega
def dPv (C:Nat)(n:Int):Nat:=if 0<=n/\n<=11 then (if C<1000^n.toNat then dlP n.toNat C else 0) else 0
def dPe (C:Nat)(n:Int):Int:=if 0<=n/\n<=11 then (if C<1000^n.toNat then 0 else 3) else 1
def dUv (B:Nat)(n:Int):Nat:=if 0<=n/\n<=11 then (if B<1024^n.toNat then dlU n.toNat B else 0) else 0
def dUe (B:Nat)(n:Int):Int:=if 0<=n/\n<=11 then (if B<1024^n.toNat then 0 else 3) else 1
theorem dlP_snoc:∀ (c a:Nat),dlP (c+1) a=dlP c a+dlE (a/1000^c%1000)*1024^c
 | 0,a=>by
  show dlE (a%1000)+1024*dlP 0 (a/1000)=dlP 0 a+_
  rw [show dlP 0 (a/1000)=0 from rfl,show dlP 0 a=0 from rfl]
  simp
 | c+1,a=>by
  show dlE (a%1000)+1024*dlP (c+1) (a/1000)=(dlE (a%1000)+1024*dlP c (a/1000))+_
  rw [dlP_snoc c (a/1000),Nat.div_div_eq_div_mul,show 1000*1000^c=1000^(c+1) by rw [Nat.pow_succ,Nat.mul_comm],Nat.pow_succ 1024 c,Nat.mul_add,Nat.mul_comm 1024 (dlE _*_),Nat.mul_assoc,Nat.add_assoc]
theorem dlP_256 (c a:Nat)(hc:c<=11):dlP c a<2^256:=by
 have h:=dlP_lt c a
 have h2:(1024:Nat)^c<=1024^11:=Nat.pow_le_pow_right (by decide) hc
 have h3:(1024:Nat)^11<2^256:=by decide
 omega
theorem dlU_256 (c a:Nat)(hc:c<=11):dlU c a<2^256:=by
 have h:=dlU_lt c a
 have h2:(1000:Nat)^c<=1000^11:=Nat.pow_le_pow_right (by decide) hc
 have h3:(1000:Nat)^11<2^256:=by decide
 omega
theorem dlU_step:∀ (c b:Nat),dlU (c+1) b=dlU c (b/1024)*1000+dlD (b%1024):=fun c b=>by
 show dlD (b%1024)+1000*dlU c (b/1024)=_
 omega
theorem dlG_lt {n:Nat}(hn:n<1000):dlG n<8:=by
 unfold dlG;omega
theorem row_v (g:Nat)(hg:g<8)(w:World):CB 116 #[.int .i64 (g:Int)] w (.agg #[.int .i64 ((dlR g).1:Int),.int .i64 ((dlR g).2.1:Int),.int .i64 ((dlR g).2.2:Int)]):=by
 have h:g=0∨g=1∨g=2∨g=3∨g=4∨g=5∨g=6∨g=7:=by omega
 rcases h with rfl|rfl|rfl|rfl|rfl|rfl|rfl|rfl
 all_goals (
  go_enter Tryz.func116,Tryz.ntmps116
  go_wp2
  exact bodyPost_ret (by simp only [results,Tryz.results116];go_simp;exact ⟨rfl,rfl,rfl⟩) rfl ⟨rfl,bgo⟩)
end Go.Proofs.YtgknbdehlmlipaaGreatDoor
