/-
  Texts that the proof leans on.
-/
import Derived.Test.YtahfkpjhlbiamaaGreatDoorL4
import Derived.Deep.RegionHeld3
import Derived.BigRegion
import Derived.Deep.DrawnRows
set_option linter.unusedVariables false
set_option linter.unusedSimpArgs false
set_option linter.unusedSectionVars false
set_option maxRecDepth 20000
namespace Go.Proofs.YtahfkpjhlbiamaaGreatDoor
open Go.RowKit
theorem made_zero (k:Nat):madeCells (Value.int .u64 0).cells k=arrOf (fun _=>0) k:=by
 apply Array.ext
 ·simp [madeCells]
 ·intro i h1 h2
  rw [arrOf_get]
  simp [madeCells,Value.cells,Nat.mod_one]
theorem make_any (L:Int)(k:Nat)(hL:L=k)(hk:k<8589934592)(w:World):(Instr.makeSlice 61 (.int .i64 L) (.int .i64 L)).run Tryz.prog w=.ok (.slice (some ⟨w.heap.size,0,none⟩) k k) (w.alloc (.cells (arrOf (fun _=>0) k) 22)):=by
 obtain ⟨i0,hi,hz0,hz1,hz2⟩:=info_parts Tryz.info22
 rw [run_make w 61 22 i0 (.int .u64 0) Tryz.underlying61 hi hz0 .i64 .i64 L L (by omega) (by omega) (by rw [hz2];omega) (by omega)]
 have e1:L.toNat=k:=by omega
 rw [e1,hz1,Nat.mul_one,made_zero]
theorem num_of_block {w:World}{k:Nat}{x:Nat->Int}{ss:Array Value}(hk:k<8589934592)(hx:Words x)(hz:∀ i,k<=i->x i=0)(hsz:ss.size=k)(hss:∀ j h,ss[j]'h=Value.int .u64 (x j)):Num (w.alloc (.cells ss 22)) (some ⟨w.heap.size,0,none⟩) k k x:=by
 refine ⟨Nat.le_refl _,by unfold maxLen;omega,hx,hz,Or.inr ⟨w.heap.size,0,rfl,by simp,fun i hi=>?_⟩⟩
 rw [Nat.zero_add,World.cell?_alloc_new,Array.getElem?_eq_getElem (by omega),hss i (by omega)]
theorem below1 (w:World)(o:Obj):Below w.heap.size w (w.alloc o):=(Below.refl _ _).alloc (Nat.le_refl _) _
theorem sumW_words (x y:Nat->Int):Words (sumW x y):=fun i=>⟨Int.emod_nonneg _ (by decide),by have:=Int.emod_lt_of_pos (x i+y i+carryW x y i) (b:=18446744073709551616) (by decide);unfold sumW;omega⟩
theorem difW_words (x y:Nat->Int):Words (difW x y):=fun i=>⟨Int.emod_nonneg _ (by decide),by have:=Int.emod_lt_of_pos (x i-y i-borW x y i) (b:=18446744073709551616) (by decide);unfold difW;omega⟩
section
attribute [local go_sem ↓] Go.wp_at_zero Go.wp_at_succ
attribute [local go_sem] setCell_drewN alloc_drewN
def orW (a b:Int):Int:=bits BinOp.or IntKind.u64 a b
theorem orW_eq (a b:Int)(ha:0<=a/\a<=18446744073709551615)(hb:0<=b/\b<=18446744073709551615):orW a b=((a.toNat ||| b.toNat:Nat):Int):=u64_or a b ha.1 (by omega) hb.1 (by omega)
theorem orW_comm (a b:Int)(ha:0<=a/\a<=18446744073709551615)(hb:0<=b/\b<=18446744073709551615):orW a b=orW b a:=by
 rw [orW_eq a b ha hb,orW_eq b a hb ha,Nat.or_comm]
theorem orW_zero (a:Int)(ha:0<=a/\a<=18446744073709551615):orW a 0=a:=by
 rw [orW_eq a 0 ha (by decide)];simp;omega
theorem zero_orW (a:Int)(ha:0<=a/\a<=18446744073709551615):orW 0 a=a:=by
 rw [orW_eq 0 a (by decide) ha];simp;omega
theorem orW_word (a b:Int)(ha:0<=a/\a<=18446744073709551615)(hb:0<=b/\b<=18446744073709551615):0<=orW a b/\orW a b<=18446744073709551615:=by
 rw [orW_eq a b ha hb]
 have:a.toNat ||| b.toNat<2^64:=Nat.or_lt_two_pow (by omega) (by omega)
 omega
theorem wrap_word (a:Int):0<=IntKind.u64.wrap a/\IntKind.u64.wrap a<=18446744073709551615:=by
 simp only [IntKind.wrap,IntKind.bits,IntKind.signed]
 have h1:=Int.emod_nonneg a (b:=18446744073709551616) (by decide)
 have h2:=Int.emod_lt_of_pos a (b:=18446744073709551616) (by decide)
 simp;omega
theorem wrap_id (a:Int)(ha:0<=a/\a<=18446744073709551615):IntKind.u64.wrap a=a:=by
 simp only [IntKind.wrap,IntKind.bits,IntKind.signed]
 simp;omega
theorem div_word (a:Int)(e:Nat)(ha:0<=a/\a<=18446744073709551615):0<=a/2^e/\a/2^e<=18446744073709551615:=by
 have hp:(0:Int)<2^e:=Int.pow_pos (by decide)
 have h1:=Int.ediv_nonneg ha.1 (Int.le_of_lt hp)
 have h2:=Int.ediv_le_self (2^e) ha.1
 omega
def lowp (x:Nat->Int)(q r j:Nat):Int:=if q+1<=j/\0<r then x (j-q-1)/2^(64-r) else 0
def finL (x:Nat->Int)(q r j:Nat):Int:=if q<=j then orW (lowp x q r j) (IntKind.u64.wrap (x (j-q)*2^r)) else 0
theorem lowp_word {x:Nat->Int}(hx:Words x)(q r j:Nat):0<=lowp x q r j/\lowp x q r j<=18446744073709551615:=by
 unfold lowp;split
 ·exact div_word _ _ (hx _)
 ·decide
theorem finL_words {x:Nat->Int}(hx:Words x)(q r:Nat):Words (finL x q r):=fun j=>by
 unfold finL;split
 ·exact orW_word _ _ (lowp_word hx q r j) (wrap_word _)
 ·decide
end
def dlG (n:Nat):Nat:=n/100/8*4+n/10%10/8*2+n%10/8
def dlR (g:Nat):Nat×Nat×Nat :=
 if g=0 then (10,11,22) else if g=1 then (10,11,4) else if g=2 then (10,12,5) else if g=4 then (12,11,6) else if g=3 then (10,2,7) else if g=5 then (11,1,7) else if g=6 then (12,0,7) else (0,3,7)
def dlT (n r:Nat):Nat:=if 10<=r then (if r%10=0 then n/100 else if r%10=1 then n/10%10 else n%10)/2%4 else r
def dlE (n:Nat):Nat:=dlT n (dlR (dlG n)).1*256+n/100%2*128+dlT n (dlR (dlG n)).2.1*32+n/10%10%2*16+dlT n (dlR (dlG n)).2.2*2+n%10%2
def dlM (d n:Nat):Bool:=dlE n==d||(d/32%4==3&&d/2%8==7&&dlE n==d%256)
def dlD (d:Nat):Nat :=
 let a:=d/128;let b:=d/16%8;let x:=d%2
 let p:=d/256;let q:=d/128%2;let s:=d/32%4;let t:=d/16%2
 if d/8%2=0 then a*100+b*10+d%8
 else if d/2%4=0 then a*100+b*10+(8+x)
 else if d/2%4=1 then a*100+(8+t)*10+(s*2+x)
 else if d/2%4=2 then (8+q)*100+b*10+(p*2+x)
 else if s=0 then (8+q)*100+(8+t)*10+(p*2+x)
 else if s=1 then (8+q)*100+(p*2+t)*10+(8+x)
 else if s=2 then a*100+(8+t)*10+(8+x)
 else (8+q)*100+(8+t)*10+(8+x)
def upTo (f:Nat->Bool):Nat->Bool
 | 0=>true
 | i+1=>f i&&upTo f i
theorem upTo_all {f:Nat->Bool}:∀ {m:Nat},upTo f m=true->∀ i,i<m->f i=true
 | 0,_,i,hi=>absurd hi (Nat.not_lt_zero i)
 | m+1,h,i,hi=>by
  unfold upTo at h
  rw [Bool.and_eq_true] at h
  rcases Nat.lt_succ_iff_lt_or_eq.1 hi with h1|h1
  ·exact upTo_all h.2 i h1
  ·rw [h1];exact h.1
theorem dl_back:∀ n,n<1000->dlD (dlE n)=n/\dlE n<1024:=fun n hn=>by
 have h:=upTo_all (f:=fun n=>decide (dlD (dlE n)=n/\dlE n<1024)) (m:=1000) (by decide +kernel) n hn
 exact of_decide_eq_true h
theorem dl_means:∀ d,d<1024->dlD d<1000/\dlM d (dlD d)=true/\(d/32%4=3->d/2%8=7->dlD (d%256)=dlD d):=fun d hd=>by
 have h:=upTo_all (f:=fun d=>decide (dlD d<1000/\dlM d (dlD d)=true/\(d/32%4=3->d/2%8=7->dlD (d%256)=dlD d))) (m:=1024) (by decide +kernel) d hd
 exact of_decide_eq_true h
/-! declets in a row -/
def dlP:Nat->Nat->Nat
 | 0,_=>0
 | c+1,a=>dlE (a%1000)+1024*dlP c (a/1000)
def dlU:Nat->Nat->Nat
 | 0,_=>0
 | c+1,b=>dlD (b%1024)+1000*dlU c (b/1024)
theorem dlP_lt:∀ (c a:Nat),dlP c a<1024^c
 | 0,a=>by unfold dlP;decide
 | c+1,a=>by
  unfold dlP
  have h1:=(dl_back (a%1000) (Nat.mod_lt _ (by decide))).2
  have h2:=dlP_lt c (a/1000)
  rw [Nat.pow_succ]
  omega
theorem dlU_lt:∀ (c b:Nat),dlU c b<1000^c
 | 0,b=>by unfold dlU;decide
 | c+1,b=>by
  unfold dlU
  have h1:=(dl_means (b%1024) (Nat.mod_lt _ (by decide))).1
  have h2:=dlU_lt c (b/1024)
  rw [Nat.pow_succ]
  omega
theorem dl_there:∀ (c a:Nat),a<1000^c->dlU c (dlP c a)=a
 | 0,a,h=>by
  rw [Nat.pow_zero] at h
  unfold dlU
  omega
 | c+1,a,h=>by
  unfold dlU dlP
  obtain ⟨h1,h2⟩:=dl_back (a%1000) (Nat.mod_lt _ (by decide))
  rw [Nat.add_mul_mod_self_left,Nat.mod_eq_of_lt h2,h1,Nat.add_mul_div_left _ _ (by decide),Nat.div_eq_of_lt h2,Nat.zero_add,dl_there c (a/1000) (by rw [Nat.pow_succ] at h;omega)]
  omega
def dPv (C:Nat)(n:Int):Nat:=if 0<=n/\n<=11 then (if C<1000^n.toNat then dlP n.toNat C else 0) else 0
def dPe (C:Nat)(n:Int):Int:=if 0<=n/\n<=11 then (if C<1000^n.toNat then 0 else 3) else 1
def dUv (B:Nat)(n:Int):Nat:=if 0<=n/\n<=11 then (if B<1024^n.toNat then dlU n.toNat B else 0) else 0
def dUe (B:Nat)(n:Int):Int:=if 0<=n/\n<=11 then (if B<1024^n.toNat then 0 else 3) else 1
theorem dlP_snoc:∀ (c a:Nat),dlP (c+1) a=dlP c a+dlE (a/1000^c%1000)*1024^c
 | 0,a=>by
  show dlE (a%1000)+1024*dlP 0 (a/1000)=dlP 0 a+_
  rw [show dlP 0 (a/1000)=0 from rfl,show dlP 0 a=0 from rfl]
  simp
 | c+1,a=>by
  show dlE (a%1000)+1024*dlP (c+1) (a/1000)=(dlE (a%1000)+1024*dlP c (a/1000))+_
  rw [dlP_snoc c (a/1000),Nat.div_div_eq_div_mul,show 1000*1000^c=1000^(c+1) by rw [Nat.pow_succ,Nat.mul_comm],Nat.pow_succ 1024 c,Nat.mul_add,Nat.mul_comm 1024 (dlE _*_),Nat.mul_assoc,Nat.add_assoc]
theorem dlP_256 (c a:Nat)(hc:c<=11):dlP c a<2^256:=by
 have h:=dlP_lt c a
 have h2:(1024:Nat)^c<=1024^11:=Nat.pow_le_pow_right (by decide) hc
 have h3:(1024:Nat)^11<2^256:=by decide
 omega
theorem dlU_step:∀ (c b:Nat),dlU (c+1) b=dlU c (b/1024)*1000+dlD (b%1024):=fun c b=>by
 show dlD (b%1024)+1000*dlU c (b/1024)=_
 omega
end Go.Proofs.YtahfkpjhlbiamaaGreatDoor
