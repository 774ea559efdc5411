/-
  Texts that the proof leans on.
-/
import Derived.Test.YtgknbdehlmlipaaGreatDoorL24
import Derived.Test.YtgknbdehlmlipaaGreatDoorL2
import Derived.Test.YtgknbdehlmlipaaGreatDoorL8
import Derived.Deep.Cut
import Derived.Deep.CutRange
set_option maxHeartbeats 8000000
set_option linter.unusedVariables false
set_option linter.unusedSectionVars false
set_option linter.unusedSimpArgs false
set_option maxRecDepth 20000
namespace Go.Proofs.YtgknbdehlmlipaaGreatDoor
open Go.RowKit
section
theorem puts_slot (a:Act):∀ (D:List Nat) (b:Act),(D.foldl (fun b d=>b.put (some d) (slot a d)) b).tmps.size=b.tmps.size/\(D.foldl (fun b d=>b.put (some d) (slot a d)) b).defers=b.defers/\∀ t,t<b.tmps.size->slot (D.foldl (fun b d=>b.put (some d) (slot a d)) b) t=if t ∈ D then slot a t else slot b t
 | [],b=>⟨rfl,rfl,fun t ht=>by simp⟩
 | d::D,b=>by
  obtain ⟨h1,h2,h3⟩:=puts_slot a D (b.put (some d) (slot a d))
  have hs:(b.put (some d) (slot a d)).tmps.size=b.tmps.size:=by simp [Act.put]
  refine ⟨h1.trans hs,h2,fun t ht=>?_⟩
  rw [List.foldl_cons,h3 t (by rw [hs];exact ht)]
  by_cases hD:t ∈ D
  ·rw [if_pos hD,if_pos (List.mem_cons_of_mem _ hD)]
  ·rw [if_neg hD]
   by_cases hd:t=d
   ·subst hd
    rw [if_pos List.mem_cons_self,slot_put ht]
   ·rw [if_neg (by simp [hd,hD]),slot_put_ne (fun h=>hd h.symm)]
theorem act_of {a a0:Act}(D:List Nat)(n:Nat)(hn:D.length=n)(hsz:a.tmps.size=a0.tmps.size)(hdf:a.defers=a0.defers)(hF:∀ t,(∀ i,i<n->D.getD i 0≠t)->slot a t=slot a0 t) :
  a=D.foldl (fun b d=>b.put (some d) (slot a d)) a0:=by
 obtain ⟨h1,h2,h3⟩:=puts_slot a D a0
 generalize D.foldl (fun b d=>b.put (some d) (slot a d)) a0=b at *
 have key:∀ t,t<a0.tmps.size->slot a t=slot b t:=fun t ht=>by
  rw [h3 t ht]
  by_cases hD:t ∈ D
  ·rw [if_pos hD]
  ·rw [if_neg hD]
   refine hF t fun i hi e=>hD ?_
   rw [← e,List.getD_eq_getElem?_getD,List.getElem?_eq_getElem (by omega)]
   exact List.getElem_mem _
 have ht:a.tmps=b.tmps:=by
  apply Array.ext (by omega)
  intro i h4 h5
  have:=key i (by omega)
  unfold slot at this
  rw [Array.getElem?_eq_getElem h4,Array.getElem?_eq_getElem h5] at this
  exact this
 cases a;cases b
 simp only at ht hdf h2 ⊢
 rw [ht,hdf,h2]
theorem runpack_bad (n:Int)(B:Nat)(w:World)(hB:B<2^256)(h:¬ goodN n B) :
  CB 18 #[.int .i64 n,A4 B] w (.tuple #[DV 0 false false 0 0,.int .i64 1]):=by
 have c24:=fun w=>rgood_any n B hB w
 rw [decide_eq_false h] at c24
 unfold DV
 simp only [W4_zero]
 clear h hB
 go_enter Tryz.func18,Tryz.ntmps18
 go_wp2_with (go_at_call 51;refine (c24 _).mono ?_;rintro x w1 ⟨rfl,hb1⟩;obtain ⟨_,_,_,_,hA1,_⟩:=wz w hb1;obtain ⟨_,_⟩:=zf hb1 (w.heap.size+1);clear hb1)
 have hsm:=cell_set_map
 exact bodyPost_ret (v:=.tuple #[.agg #[.int .i64 0,.bool false,.bool false,.int .i64 0,.int .u64 0,.int .u64 0,.int .u64 0,.int .u64 0],.int .i64 1]) (by simp only [results,Tryz.results18];go_simp) rfl ⟨rfl,bgo⟩
theorem pow_e' {e:Nat}(h15:e<=15):(1:Int)<=2^e/\(2:Int)^e<=32768:=by
 have b:(2:Nat)^e<=2^15:=Nat.pow_le_pow_right (by decide) h15
 have a:1<=2^e:=Nat.one_le_two_pow
 have c:((2:Int)^e)=((2^e:Nat):Int):=by simp
 rw [c];omega
attribute [local irreducible] W4 NT NV
section
variable (n:Int)(B:Nat)(f e Fr En S:Nat)(l m pay wd:Int)(nm:ByteArray)(w:World)(hf:2<=f/\f<=240)(he:e<=15)(hEn:En<9223372036854775808)(hS9:S<9223372036854775808)
 (c24:∀ w,CB 51 #[.int .i64 n,A4 B] w (.bool true))
 (c25:∀ w,CB 20 #[.int .i64 n] w (.tuple #[.agg #[.int .i64 n,.string nm,.int .i64 2,.int .i64 wd,.int .i64 ((f:Int)+1),.int .i64 e,.int .i64 l,.int .i64 m,.int .i64 pay,.bool false],.int .i64 0]))
 (c0:∀ w,CE 52 #[A4 B,.int .i64 0,.int .i64 f] w (NT 19 Fr))
 (c1:∀ w,CE 52 #[A4 B,.int .i64 f,.int .i64 e] w (NT 19 En))
 (c26:∀ w,CE 52 #[A4 B,.int .i64 ((f:Int)+e),.int .i64 1] w (NT 19 S))
include hf he hEn hS9 c24 c25 c0 c1 c26
theorem runpack_inf (hE:((En:Int)==2^e-1)=true)(h0:Fr=0) :
  CB 18 #[.int .i64 n,A4 B] w (.tuple #[.agg #[.int .i64 2,.bool ((S:Int)==1),.bool false,.int .i64 0,.int .u64 0,.int .u64 0,.int .u64 0,.int .u64 0],.int .i64 0]):=by
 go_enter Tryz.func18,Tryz.ntmps18
 go_wp2_with (first
  | (go_at_call 51;refine (c24 _).mono ?_;rintro x w1 ⟨rfl,hb1⟩;obtain ⟨_,_,_,_,hA1,_⟩:=wz w hb1;obtain ⟨_,_⟩:=zf hb1 (w.heap.size+1);clear hb1)
  | (go_at_call 20;refine (c25 _).mono ?_;rintro x w2 ⟨rfl,hb2⟩;obtain ⟨_,_,_,_,hA2,_⟩:=wz w hb2;obtain ⟨_,_⟩:=zf hb2 (w.heap.size+1);clear hb2))
 have k0:w2.cell? ⟨w.heap.size,0,none⟩=some (.int .u64 (W4 B 0)):=(by go_simp)
 have k1:w2.cell? ⟨w.heap.size,1,none⟩=some (.int .u64 (W4 B 1)):=(by go_simp)
 have k2:w2.cell? ⟨w.heap.size,2,none⟩=some (.int .u64 (W4 B 2)):=(by go_simp)
 have k3:w2.cell? ⟨w.heap.size,3,none⟩=some (.int .u64 (W4 B 3)):=(by go_simp)
 refine reg5 (gb:=w.heap.size) (gi:=w2.heap.size) (f:=f) (e:=e) (B:=B) c0 c1 hEn rfl rfl rfl rfl (by simp;omega) (by simp) (fun i hi=>?_) (by go_simp) ?_
 ·have:i=0∨i=1∨i=2∨i=3:=by omega
  rcases this with rfl|rfl|rfl|rfl<;>go_simp
 intro a w3 v hv h9 h10 hsz hdf hF hb3
 have ha:=act_of slots5 11 rfl hsz hdf hF
 rw [ha]
 simp only [slots5,List.foldl_cons,List.foldl_nil,Act.put,List.setIfInBounds_toArray,List.set_cons_succ,List.set_cons_zero,h9,h10]
 generalize slot a 25=s25
 generalize slot a 26=s26
 generalize slot a 27=s27
 generalize slot a 28=s28
 generalize slot a 29=s29
 generalize slot a 30=s30
 generalize slot a 31=s31
 generalize slot a 32=s32
 generalize slot a 33=s33
 clear ha hF hsz hdf h9 h10 a
 obtain ⟨_,_,_,_,hA3,_⟩:=wz w hb3;obtain ⟨_,_⟩:=zf hb3 (w.heap.size+1);obtain ⟨_,_⟩:=zf hb3 w2.heap.size;clear hb3
 obtain ⟨gv,kv,cv,rfl,hkv,hkz⟩:=hv.zero
 have hp:=pow_e' he
 obtain rfl:kv=0:=hkz.2 h0
 generalize (En:Int)=E at *
 clear hkz h0 hv hkv k0 k1 k2 k3 c0 c1
 go_wp2_with (first
  | (go_at_call 52;refine (c26 _).mono ?_;rintro x w4 ⟨v4,rfl,hn4,hb4⟩;obtain ⟨_,_,_,_,hA4,_⟩:=wz w hb4;obtain ⟨_,_⟩:=zf hb4 (w.heap.size+1);obtain ⟨_,_⟩:=zf hb4 w2.heap.size;clear hb4)
  | (go_at_call 53;refine (number_nv hn4.nv (by decide) hS9).mono ?_;rintro x w5 ⟨rfl,rfl⟩))
 have hsm:=cell_set_map
 go_wp2
 exact bodyPost_ret (v:=.tuple #[.agg #[.int .i64 2,.bool ((S:Int)==1),.bool false,.int .i64 0,.int .u64 0,.int .u64 0,.int .u64 0,.int .u64 0],.int .i64 0]) (by simp only [results,Tryz.results18];go_simp) rfl ⟨rfl,bgo⟩
theorem runpack_nan (hE:((En:Int)==2^e-1)=true)(h0:Fr≠0)(Sg Pl:Nat)(hS8:Sg<9223372036854775808)
 (c26b:∀ w,CE 52 #[A4 B,.int .i64 ((f:Int)-1),.int .i64 1] w (NT 19 Sg))
 (c26c:∀ w,CE 52 #[A4 B,.int .i64 0,.int .i64 ((f:Int)-1)] w (NT 19 Pl)) :
  CB 18 #[.int .i64 n,A4 B] w (.tuple #[.agg #[.int .i64 3,.bool ((S:Int)==1),.bool ((Sg:Int)==0),.int .i64 0,.int .u64 (W4 Pl 0),.int .u64 (W4 Pl 1),.int .u64 (W4 Pl 2),.int .u64 (W4 Pl 3)],.int .i64 0]):=by
 go_enter Tryz.func18,Tryz.ntmps18
 go_wp2_with (first
  | (go_at_call 51;refine (c24 _).mono ?_;rintro x w1 ⟨rfl,hb1⟩;obtain ⟨_,_,_,_,hA1,_⟩:=wz w hb1;obtain ⟨_,_⟩:=zf hb1 (w.heap.size+1);clear hb1)
  | (go_at_call 20;refine (c25 _).mono ?_;rintro x w2 ⟨rfl,hb2⟩;obtain ⟨_,_,_,_,hA2,_⟩:=wz w hb2;obtain ⟨_,_⟩:=zf hb2 (w.heap.size+1);clear hb2))
 have k0:w2.cell? ⟨w.heap.size,0,none⟩=some (.int .u64 (W4 B 0)):=(by go_simp)
 have k1:w2.cell? ⟨w.heap.size,1,none⟩=some (.int .u64 (W4 B 1)):=(by go_simp)
 have k2:w2.cell? ⟨w.heap.size,2,none⟩=some (.int .u64 (W4 B 2)):=(by go_simp)
 have k3:w2.cell? ⟨w.heap.size,3,none⟩=some (.int .u64 (W4 B 3)):=(by go_simp)
 refine reg5 (gb:=w.heap.size) (gi:=w2.heap.size) (f:=f) (e:=e) (B:=B) c0 c1 hEn rfl rfl rfl rfl (by simp;omega) (by simp) (fun i hi=>?_) (by go_simp) ?_
 ·have:i=0∨i=1∨i=2∨i=3:=by omega
  rcases this with rfl|rfl|rfl|rfl<;>go_simp
 intro a w3 v hv h9 h10 hsz hdf hF hb3
 have ha:=act_of slots5 11 rfl hsz hdf hF
 rw [ha]
 simp only [slots5,List.foldl_cons,List.foldl_nil,Act.put,List.setIfInBounds_toArray,List.set_cons_succ,List.set_cons_zero,h9,h10]
 generalize slot a 25=s25
 generalize slot a 26=s26
 generalize slot a 27=s27
 generalize slot a 28=s28
 generalize slot a 29=s29
 generalize slot a 30=s30
 generalize slot a 31=s31
 generalize slot a 32=s32
 generalize slot a 33=s33
 clear ha hF hsz hdf h9 h10 a
 obtain ⟨_,_,_,_,hA3,_⟩:=wz w hb3;obtain ⟨_,_⟩:=zf hb3 (w.heap.size+1);obtain ⟨_,_⟩:=zf hb3 w2.heap.size;clear hb3
 obtain ⟨gv,kv,cv,rfl,hkv,hkz⟩:=hv.zero
 have hp:=pow_e' he
 have hkn:¬ ((kv:Int)=0):=fun h=>h0 (hkz.1 (by omega))
 have hkb:((kv:Int)==0)=false:=by simpa using hkn
 generalize (En:Int)=E at *
 clear hkz h0 hv hkv hkn k0 k1 k2 k3 c0 c1
 have hsm:=cell_set_map
 go_wp2_with (first
  | (have:=hA6;go_at_call 52;refine (c26c _).mono ?_;rintro x w7 ⟨v7,rfl,hn7,hb7⟩;obtain ⟨_,_,_,_,hA7,_⟩:=wz w hb7;obtain ⟨_,_⟩:=zf hb7 (w.heap.size+1);obtain ⟨_,_⟩:=zf hb7 w2.heap.size;obtain ⟨_,_⟩:=zf hb7 w5.heap.size;clear hb7)
  | (have:=hA6;go_at_call 53;refine (number_nv hn6.nv (by decide) hS8).mono ?_;rintro x w8 ⟨rfl,rfl⟩)
  | (have:=hA4;go_at_call 52;refine (c26b _).mono ?_;rintro x w6 ⟨v6,rfl,hn6,hb6⟩;obtain ⟨_,_,_,_,hA6,_⟩:=wz w hb6;obtain ⟨_,_⟩:=zf hb6 (w.heap.size+1);obtain ⟨_,_⟩:=zf hb6 w2.heap.size;obtain ⟨_,_⟩:=zf hb6 w5.heap.size;clear hb6)
  | (go_at_call 28;refine (bits_nv hn7.nv).mono ?_;rintro x w9 ⟨rfl,hb9⟩;obtain ⟨_,_,_,_,hA9,_⟩:=wz w hb9;obtain ⟨_,_⟩:=zf hb9 (w.heap.size+1);obtain ⟨_,_⟩:=zf hb9 w2.heap.size;obtain ⟨_,_⟩:=zf hb9 w5.heap.size;clear hb9)
  | (go_at_call 52;refine (c26 _).mono ?_;rintro x w4 ⟨v4,rfl,hn4,hb4⟩;obtain ⟨_,_,_,_,hA4,_⟩:=wz w hb4;obtain ⟨_,_⟩:=zf hb4 (w.heap.size+1);obtain ⟨_,_⟩:=zf hb4 w2.heap.size;clear hb4)
  | (go_at_call 53;refine (number_nv hn4.nv (by decide) hS9).mono ?_;rintro x w5 ⟨rfl,rfl⟩))
 go_wp2
 exact bodyPost_ret (v:=.tuple #[.agg #[.int .i64 3,.bool ((S:Int)==1),.bool ((Sg:Int)==0),.int .i64 0,.int .u64 (W4 Pl 0),.int .u64 (W4 Pl 1),.int .u64 (W4 Pl 2),.int .u64 (W4 Pl 3)],.int .i64 0]) (by simp only [results,Tryz.results18];go_simp) rfl ⟨rfl,bgo⟩
theorem runpack_sub (hE:((En:Int)==2^e-1)=false)(h0:(En:Int)=0) :
  CB 18 #[.int .i64 n,A4 B] w (.tuple #[.agg #[.int .i64 1,.bool ((S:Int)==1),.bool false,.int .i64 l,.int .u64 (W4 Fr 0),.int .u64 (W4 Fr 1),.int .u64 (W4 Fr 2),.int .u64 (W4 Fr 3)],.int .i64 0]):=by
 go_enter Tryz.func18,Tryz.ntmps18
 go_wp2_with (first
  | (go_at_call 51;refine (c24 _).mono ?_;rintro x w1 ⟨rfl,hb1⟩;obtain ⟨_,_,_,_,hA1,_⟩:=wz w hb1;obtain ⟨_,_⟩:=zf hb1 (w.heap.size+1);clear hb1)
  | (go_at_call 20;refine (c25 _).mono ?_;rintro x w2 ⟨rfl,hb2⟩;obtain ⟨_,_,_,_,hA2,_⟩:=wz w hb2;obtain ⟨_,_⟩:=zf hb2 (w.heap.size+1);clear hb2))
 have k0:w2.cell? ⟨w.heap.size,0,none⟩=some (.int .u64 (W4 B 0)):=(by go_simp)
 have k1:w2.cell? ⟨w.heap.size,1,none⟩=some (.int .u64 (W4 B 1)):=(by go_simp)
 have k2:w2.cell? ⟨w.heap.size,2,none⟩=some (.int .u64 (W4 B 2)):=(by go_simp)
 have k3:w2.cell? ⟨w.heap.size,3,none⟩=some (.int .u64 (W4 B 3)):=(by go_simp)
 refine reg5 (gb:=w.heap.size) (gi:=w2.heap.size) (f:=f) (e:=e) (B:=B) c0 c1 hEn rfl rfl rfl rfl (by simp;omega) (by simp) (fun i hi=>?_) (by go_simp) ?_
 ·have:i=0∨i=1∨i=2∨i=3:=by omega
  rcases this with rfl|rfl|rfl|rfl<;>go_simp
 intro a w3 v hv h9 h10 hsz hdf hF hb3
 have ha:=act_of slots5 11 rfl hsz hdf hF
 rw [ha]
 simp only [slots5,List.foldl_cons,List.foldl_nil,Act.put,List.setIfInBounds_toArray,List.set_cons_succ,List.set_cons_zero,h9,h10]
 generalize slot a 25=s25
 generalize slot a 26=s26
 generalize slot a 27=s27
 generalize slot a 28=s28
 generalize slot a 29=s29
 generalize slot a 30=s30
 generalize slot a 31=s31
 generalize slot a 32=s32
 generalize slot a 33=s33
 clear ha hF hsz hdf h9 h10 a
 obtain ⟨_,_,_,_,hA3,_⟩:=wz w hb3;obtain ⟨_,_⟩:=zf hb3 (w.heap.size+1);obtain ⟨_,_⟩:=zf hb3 w2.heap.size;clear hb3
 obtain ⟨gv,kv,cv,rfl,hkv,hkz⟩:=hv.zero
 have hp:=pow_e' he
 generalize (En:Int)=E at *
 clear hkz hkv k0 k1 k2 k3 c0 c1
 have hsm:=cell_set_map
 go_wp2_with (first
  | (go_at_call 52;refine (c26 _).mono ?_;rintro x w4 ⟨v4,rfl,hn4,hb4⟩;replace hv:=hv.next hb4;obtain ⟨_,_,_,_,hA4,_⟩:=wz w hb4;obtain ⟨_,_⟩:=zf hb4 (w.heap.size+1);obtain ⟨_,_⟩:=zf hb4 w2.heap.size;clear hb4)
  | (go_at_call 53;refine (number_nv hn4.nv (by decide) hS9).mono ?_;rintro x w5 ⟨rfl,rfl⟩))
 go_region_with (go_at_call 28;refine (bits_nv (hv.nv.next bgo)).mono ?_;rintro x w9 ⟨rfl,hb9⟩;obtain ⟨_,_,_,_,hA9,_⟩:=wz w hb9;obtain ⟨_,_⟩:=zf hb9 (w.heap.size+1);obtain ⟨_,_⟩:=zf hb9 w2.heap.size;obtain ⟨_,_⟩:=zf hb9 w5.heap.size;clear hb9)
 all_goals
  go_wp2
  exact bodyPost_ret (v:=.tuple #[.agg #[.int .i64 1,.bool ((S:Int)==1),.bool false,.int .i64 l,.int .u64 (W4 Fr 0),.int .u64 (W4 Fr 1),.int .u64 (W4 Fr 2),.int .u64 (W4 Fr 3)],.int .i64 0]) (by simp only [results,Tryz.results18];go_simp) rfl ⟨rfl,bgo⟩
end
end
section
def findR (n:Nat):Code->Option (List Oper)
 | .region i o _=>if i=n then some o.toList else none
 | .seq a b=>match findR n a with|some l=>some l|none=>findR n b
 | .cond _ a b=>match findR n a with|some l=>some l|none=>findR n b
 | .block _ c=>findR n c
 | .loop c=>findR n c
 | _=>none
abbrev iW (v:Value):Value->World->Prop:=fun x _=>x=v
section
variable {P:Program}{a:Act}{w:World}{K:Act->World->Prop}{Q:Exit->Act->World->Prop}{d p q:Nat}{ty:TypeId}{pos:String}{after:Array Edge}{gd:Option (Nat×Bool)}
theorem og_mv {v:Value}(h1:slot a p=v)(hK:K (a.put (some d) v) w):Oper.wp P { dst:=some d,op:=Op.move (Operand.tmp p),type:=ty,pos:=pos,after:=after,guard:=gd } a w K Q:=by
 unfold slot at h1
 simp [go_sem,h1]
 exact hK
theorem og_as {v:Value}(h1:slot a p=v)(hK:K (a.put (some d) v) w):Oper.wp P { dst:=some d,op:=Op.assign (Operand.tmp p),type:=ty,pos:=pos,after:=after,guard:=gd } a w K Q:=by
 unfold slot at h1
 simp [go_sem,h1]
 exact hK
theorem og_ld3 {g i:Nat}{v:Value}(h1:slot a p=.pointer (some ⟨g,i,none⟩))(h2:w.cell? ⟨g,i,none⟩=some v)(hK:K (a.put (some d) v) w):Oper.wp Tryz.prog { dst:=some d,op:=Op.load 3 (Operand.tmp p),type:=ty,pos:=pos,after:=after,guard:=gd } a w K Q:=by
 unfold slot at h1
 simp [go_sem,h1,h2]
 exact hK
theorem og_fad3 {g:Nat}(h1:slot a p=.pointer (some ⟨g,0,none⟩))(hK:K (a.put (some d) (.pointer (some ⟨g,3,none⟩))) w):Oper.wp Tryz.prog { dst:=some d,op:=Op.fieldAddr 34 (Operand.tmp p) 3,type:=ty,pos:=pos,after:=after,guard:=gd } a w K Q:=by
 unfold slot at h1
 simp [go_sem,h1]
 exact hK
theorem og_neg {x:Int}(hx:-1000000<=x/\x<=1000000)(h1:slot a p=.int .i64 x)(hK:K (a.put (some d) (.int .i64 (-x))) w):Oper.wp Tryz.prog { dst:=some d,op:=Op.unOp UnOp.neg 3 (Operand.tmp p),type:=ty,pos:=pos,after:=after,guard:=gd } a w K Q:=by
 unfold slot at h1
 have e:IntKind.i64.wrap (-x)=-x:=by rw [IntKind.wrap_i64];omega
 simp [go_sem,h1,e]
 exact hK
theorem og_ldB {g i X:Nat}(h1:slot a p=.pointer (some ⟨g,i,none⟩))(c0:w.cell? ⟨g,i,none⟩=some (.int .u64 (W4 X 0)))(c1:w.cell? ⟨g,i+1,none⟩=some (.int .u64 (W4 X 1)))(c2:w.cell? ⟨g,i+2,none⟩=some (.int .u64 (W4 X 2)))(c3:w.cell? ⟨g,i+3,none⟩=some (.int .u64 (W4 X 3)))(hK:K (a.put (some d) (A4 X)) w):Oper.wp Tryz.prog { dst:=some d,op:=Op.load 24 (Operand.tmp p),type:=ty,pos:=pos,after:=after,guard:=gd } a w K Q:=by
 unfold slot at h1
 simp [go_sem,h1,c0,c1,c2,c3]
 exact hK
theorem og_fad4 {g:Nat}(h1:slot a p=.pointer (some ⟨g,0,none⟩))(hK:K (a.put (some d) (.pointer (some ⟨g,4,none⟩))) w):Oper.wp Tryz.prog { dst:=some d,op:=Op.fieldAddr 34 (Operand.tmp p) 4,type:=ty,pos:=pos,after:=after,guard:=gd } a w K Q:=by
 unfold slot at h1
 simp [go_sem,h1]
 exact hK
end
end
section
section
variable {a:Act}{w:World}{K:Act->World->Prop}{Q:Exit->Act->World->Prop}{d p:Nat}{ty:TypeId}{pos:String}{after:Array Edge}{gd:Option (Nat×Bool)}
theorem og_c1 {F:Nat}{p0:Nat}{u0:Value}{ts:Array TypeId}(hr:Sem.run Tryz.prog (callFunc F #[u0]) w=.ok (.enter F #[u0]) w)(h0:slot a p0=u0)(hc:Calls Tryz.prog F #[u0] w fun e w'=>∃ v,e=.returned v/\K (a.put (some d) v) w'):Oper.wp Tryz.prog { dst:=some d,op:=Op.call { callee:=Callee.value (Operand.func F),args:=#[Operand.tmp p0],argTypes:=ts },type:=ty,pos:=pos,after:=after,guard:=gd } a w K Q:=by
 unfold slot at h0
 simp [go_sem,h0,hr]
 refine hc.mono ?_
 rintro e w' ⟨v,rfl,hK⟩
 exact hK
theorem og_c2 {F:Nat}{p0 p1:Nat}{u0 u1:Value}{ts:Array TypeId}(hr:Sem.run Tryz.prog (callFunc F #[u0,u1]) w=.ok (.enter F #[u0,u1]) w)(h0:slot a p0=u0)(h1:slot a p1=u1)(hc:Calls Tryz.prog F #[u0,u1] w fun e w'=>∃ v,e=.returned v/\K (a.put (some d) v) w'):Oper.wp Tryz.prog { dst:=some d,op:=Op.call { callee:=Callee.value (Operand.func F),args:=#[Operand.tmp p0,Operand.tmp p1],argTypes:=ts },type:=ty,pos:=pos,after:=after,guard:=gd } a w K Q:=by
 unfold slot at h0 h1
 simp [go_sem,h0,h1,hr]
 refine hc.mono ?_
 rintro e w' ⟨v,rfl,hK⟩
 exact hK
theorem og_ext {P:Program}{vs:Array Value}{i:Nat}{v:Value}(h1:slot a p=.tuple vs)(h2:vs[i]?=some v)(hK:K (a.put (some d) v) w):Oper.wp P { dst:=some d,op:=Op.extract (Operand.tmp p) i,type:=ty,pos:=pos,after:=after,guard:=gd } a w K Q:=by
 unfold slot at h1
 simp [go_sem,h1,h2]
 exact hK
end
end
section
attribute [local irreducible] W4 NT NV
section
variable (n:Int)(B:Nat)(f e Fr En S:Nat)(l m pay wd:Int)(nm:ByteArray)(w:World)(hf:2<=f/\f<=240)(he:e<=15)(hEn:En<9223372036854775808)(hS9:S<9223372036854775808)
 (c24:∀ w,CB 51 #[.int .i64 n,A4 B] w (.bool true))
 (c25:∀ w,CB 20 #[.int .i64 n] w (.tuple #[.agg #[.int .i64 n,.string nm,.int .i64 2,.int .i64 wd,.int .i64 ((f:Int)+1),.int .i64 e,.int .i64 l,.int .i64 m,.int .i64 pay,.bool false],.int .i64 0]))
 (c0:∀ w,CE 52 #[A4 B,.int .i64 0,.int .i64 f] w (NT 19 Fr))
 (c1:∀ w,CE 52 #[A4 B,.int .i64 f,.int .i64 e] w (NT 19 En))
 (c26:∀ w,CE 52 #[A4 B,.int .i64 ((f:Int)+e),.int .i64 1] w (NT 19 S))
include hf he hEn hS9 c24 c25 c0 c1 c26
theorem runpack_norm (hE:((En:Int)==2^e-1)=false)(h0:((En:Int)==0)=false)(hl:-1000000<=l/\l<=0)(hEb:(En:Int)<=32768)(Pw:Nat)
 (c30:∀ w,CE 26 #[.int .u64 2,.int .i64 f] w (NV 50000 Pw)) :
  CB 18 #[.int .i64 n,A4 B] w (.tuple #[.agg #[.int .i64 1,.bool ((S:Int)==1),.bool false,.int .i64 (l-1+En),.int .u64 (W4 (Fr+Pw) 0),.int .u64 (W4 (Fr+Pw) 1),.int .u64 (W4 (Fr+Pw) 2),.int .u64 (W4 (Fr+Pw) 3)],.int .i64 0]):=by
 go_enter Tryz.func18,Tryz.ntmps18
 go_wp2_with (first
  | (go_at_call 51;refine (c24 _).mono ?_;rintro x w1 ⟨rfl,hb1⟩;obtain ⟨_,_,_,_,hA1,_⟩:=wz w hb1;obtain ⟨_,_⟩:=zf hb1 (w.heap.size+1);clear hb1)
  | (go_at_call 20;refine (c25 _).mono ?_;rintro x w2 ⟨rfl,hb2⟩;obtain ⟨_,_,_,_,hA2,_⟩:=wz w hb2;obtain ⟨_,_⟩:=zf hb2 (w.heap.size+1);clear hb2))
 have k0:w2.cell? ⟨w.heap.size,0,none⟩=some (.int .u64 (W4 B 0)):=(by go_simp)
 have k1:w2.cell? ⟨w.heap.size,1,none⟩=some (.int .u64 (W4 B 1)):=(by go_simp)
 have k2:w2.cell? ⟨w.heap.size,2,none⟩=some (.int .u64 (W4 B 2)):=(by go_simp)
 have k3:w2.cell? ⟨w.heap.size,3,none⟩=some (.int .u64 (W4 B 3)):=(by go_simp)
 refine reg5 (gb:=w.heap.size) (gi:=w2.heap.size) (f:=f) (e:=e) (B:=B) c0 c1 hEn rfl rfl rfl rfl (by simp;omega) (by simp) (fun i hi=>?_) (by go_simp) ?_
 ·have:i=0∨i=1∨i=2∨i=3:=by omega
  rcases this with rfl|rfl|rfl|rfl<;>go_simp
 intro a w3 v hv h9 h10 hsz hdf hF hb3
 have ha:=act_of slots5 11 rfl hsz hdf hF
 rw [ha]
 simp only [slots5,List.foldl_cons,List.foldl_nil,Act.put,List.setIfInBounds_toArray,List.set_cons_succ,List.set_cons_zero,h9,h10]
 generalize slot a 25=s25
 generalize slot a 26=s26
 generalize slot a 27=s27
 generalize slot a 28=s28
 generalize slot a 29=s29
 generalize slot a 30=s30
 generalize slot a 31=s31
 generalize slot a 32=s32
 generalize slot a 33=s33
 clear ha hF hsz hdf h9 h10 a
 obtain ⟨_,_,_,_,hA3,_⟩:=wz w hb3;obtain ⟨_,_⟩:=zf hb3 (w.heap.size+1);obtain ⟨_,_⟩:=zf hb3 w2.heap.size;clear hb3
 obtain ⟨gv,kv,cv,rfl,hkv,hkz⟩:=hv.zero
 have hp:=pow_e' he
 have hE0:(0:Int)<=En:=by omega
 clear hkz hkv k0 k1 k2 k3 c0 c1
 have hsm:=cell_set_map
 go_wp2_with (first
  | (go_at_call 52;refine (c26 _).mono ?_;rintro x w4 ⟨v4,rfl,hn4,hb4⟩;replace hv:=hv.next hb4;obtain ⟨_,_,_,_,hA4,_⟩:=wz w hb4;obtain ⟨_,_⟩:=zf hb4 (w.heap.size+1);obtain ⟨_,_⟩:=zf hb4 w2.heap.size;clear hb4)
  | (go_at_call 53;refine (number_nv hn4.nv (by decide) hS9).mono ?_;rintro x w5 ⟨rfl,rfl⟩))
 go_region_with (first
  | (go_at_call 26;refine (c30 _).mono ?_;rintro x w6 ⟨v6,rfl,hn6,hb6⟩;replace hv:=hv.next (bnext bgo hb6);obtain ⟨_,_,_,_,hA6,_⟩:=wz w hb6;obtain ⟨_,_⟩:=zf hb6 (w.heap.size+1);obtain ⟨_,_⟩:=zf hb6 w2.heap.size;obtain ⟨_,_⟩:=zf hb6 w5.heap.size;clear hb6)
  | (go_at_call 21;refine (radd_nv (by decide) (by decide) hv.nv hn6).mono ?_;rintro x w7 ⟨v7,rfl,hn7,hb7⟩;obtain ⟨_,_,_,_,hA7,_⟩:=wz w hb7;obtain ⟨_,_⟩:=zf hb7 (w.heap.size+1);obtain ⟨_,_⟩:=zf hb7 w2.heap.size;obtain ⟨_,_⟩:=zf hb7 w5.heap.size;clear hb7)
  | (go_at_call 28;refine (bits_nv hn7).mono ?_;rintro x w9 ⟨rfl,hb9⟩;obtain ⟨_,_,_,_,hA9,_⟩:=wz w hb9;obtain ⟨_,_⟩:=zf hb9 (w.heap.size+1);obtain ⟨_,_⟩:=zf hb9 w2.heap.size;obtain ⟨_,_⟩:=zf hb9 w5.heap.size;clear hb9))
 all_goals
  go_wp2
  exact bodyPost_ret (v:=.tuple #[.agg #[.int .i64 1,.bool ((S:Int)==1),.bool false,.int .i64 (l-1+En),.int .u64 (W4 (Fr+Pw) 0),.int .u64 (W4 (Fr+Pw) 1),.int .u64 (W4 (Fr+Pw) 2),.int .u64 (W4 (Fr+Pw) 3)],.int .i64 0]) (by simp only [results,Tryz.results18];go_simp) rfl ⟨rfl,bgo⟩
end
theorem rpow_nv (f:Nat)(w:World)(hf:f<=12000):CE 26 #[.int .u64 2,.int .i64 f] w (NV 50000 (2^f)):=by
 refine (rpow_any 2 f w (by decide) (by omega)).mono ?_
 rintro x w' ⟨g,k,cap,z,rfl,hk,hN,hv,hb⟩
 refine ⟨_,rfl,?_,hb⟩
 unfold NV
 exact ⟨g,k,cap,z,rfl,by omega,hN,by rw [hv];simp⟩
theorem bin_more {n:Int}(h:binN n):numN n=n/\denseN n=false:=by
 rcases bin_cases h with rfl|rfl|rfl|rfl|rfl|rfl<;>exact ⟨by decide,by decide⟩
theorem runpack_ok (n:Int)(B:Nat)(w:World)(hB:B<2^256)(h:goodN n B) :
  CB 18 #[.int .i64 n,A4 B] w (.tuple #[(unp (fN n) (eN n) (leastN n) B).v,.int .i64 0]):=by
 have hF:=bin_fm h.1
 obtain ⟨hok,hb2,hpr,hex,hwd,hpy⟩:=bin_fields h.1
 obtain ⟨hnum,hden⟩:=bin_more h.1
 have c24:=fun w=>rgood_any n B hB w
 rw [decide_eq_true h] at c24
 have c25:=fun w=>rofv_any n w
 rw [show infoE n=0 from if_pos hok,hnum,hb2,hpr,hex,hden] at c25
 have hf:2<=fN n/\fN n<=240:=⟨hF.f2,hF.f240⟩
 have he:=hF.e15
 have hfe:=hF.fe
 have hp:=pow_e hF.e2 hF.e15
 have hpc:((2:Int)^eN n)=((2^eN n:Nat):Int):=by simp
 have hEl:B/2^fN n%2^eN n<2^eN n:=Nat.mod_lt _ (Nat.two_pow_pos _)
 have c0:=fun w=>field_any B 0 (fN n) w hB (by decide) (by omega)
 rw [show ((0:Nat):Int)=0 from rfl,Nat.pow_zero,Nat.div_one] at c0
 have c1:=fun w=>field_any B (fN n) (eN n) w hB (by omega) (by omega)
 have c26:=fun w=>field_any B (fN n+eN n) 1 w hB (by omega) (by omega)
 rw [Int.natCast_add,show ((1:Nat):Int)=1 from rfl,Nat.pow_one] at c26
 have hS9:B/2^(fN n+eN n)%2<9223372036854775808:=by omega
 have hEn:B/2^fN n%2^eN n<9223372036854775808:=by rw [hpc] at hp;omega
 unfold unp
 by_cases h1:B/2^fN n%2^eN n=2^eN n-1
 ·rw [if_pos h1]
  have hE:(((B/2^fN n%2^eN n:Nat):Int)==2^eN n-1)=true:=by
   rw [hpc] at hp ⊢;rw [h1];simp;omega
  unfold spc
  by_cases h2:B%2^fN n=0
  ·rw [if_pos h2]
   have:=runpack_inf n B (fN n) (eN n) _ _ _ _ _ _ _ _ w hf he hEn hS9 c24 c25 c0 c1 c26 hE h2
   have e:(Dat.mk 2 (sgB (fN n) (eN n) B) false 0 0).v=.agg #[.int .i64 2,.bool (((B/2^(fN n+eN n)%2:Nat):Int)==1),.bool false,.int .i64 0,.int .u64 0,.int .u64 0,.int .u64 0,.int .u64 0]:=by
    unfold Dat.v DV sgB;simp only [W4_zero]
   rw [e];exact this
  ·rw [if_neg h2]
   have c26b:=fun w=>field_any B (fN n-1) 1 w hB (by omega) (by omega)
   rw [show ((fN n-1:Nat):Int)=(fN n:Int)-1 by omega,show ((1:Nat):Int)=1 from rfl,Nat.pow_one] at c26b
   have c26c:=fun w=>field_any B 0 (fN n-1) w hB (by omega) (by omega)
   rw [show ((fN n-1:Nat):Int)=(fN n:Int)-1 by omega,show ((0:Nat):Int)=0 from rfl,Nat.pow_zero,Nat.div_one] at c26c
   have:=runpack_nan n B (fN n) (eN n) _ _ _ _ _ _ _ _ w hf he hEn hS9 c24 c25 c0 c1 c26 hE h2 _ _ (by omega) c26b c26c
   have hm:B%2^fN n=B%2^(fN n-1)+2^(fN n-1)*(B/2^(fN n-1)%2):=by
    have:2^fN n=2^(fN n-1)*2:=by rw [← Nat.pow_succ];congr 1;omega
    rw [this];exact Nat.mod_mul
   have hpl:B%2^(fN n-1)<2^(fN n-1):=Nat.mod_lt _ (Nat.two_pow_pos _)
   have e:(if B%2^fN n<2^(fN n-1) then (Dat.mk 3 (sgB (fN n) (eN n) B) true 0 (B%2^fN n)) else ⟨3,sgB (fN n) (eN n) B,false,0,B%2^fN n-2^(fN n-1)⟩)=⟨3,sgB (fN n) (eN n) B,(((B/2^(fN n-1)%2:Nat):Int)==0),0,B%2^(fN n-1)⟩:=by
    have h01:B/2^(fN n-1)%2=0∨B/2^(fN n-1)%2=1:=by omega
    rcases h01 with h0|h0
    ·rw [h0,Nat.mul_zero,Nat.add_zero] at hm
     rw [if_pos (by omega),hm,h0];rfl
    ·rw [h0,Nat.mul_one] at hm
     rw [if_neg (by omega),h0,show B%2^fN n-2^(fN n-1)=B%2^(fN n-1) by omega];rfl
   rw [e]
   exact this
 ·rw [if_neg h1]
  have hE:(((B/2^fN n%2^eN n:Nat):Int)==2^eN n-1)=false:=by
   rw [hpc] at hp ⊢;rw [beq_eq_false_iff_ne];omega
  by_cases h2:B/2^fN n%2^eN n=0
  ·rw [if_pos h2]
   exact runpack_sub n B (fN n) (eN n) _ _ _ _ _ _ _ _ w hf he hEn hS9 c24 c25 c0 c1 c26 hE (by omega)
  ·rw [if_neg h2]
   have:=runpack_norm n B (fN n) (eN n) _ _ _ _ _ _ _ _ w hf he hEn hS9 c24 c25 c0 c1 c26 hE (by rw [beq_eq_false_iff_ne];omega) ⟨hF.l1,hF.l0⟩ (by rw [hpc] at hp;omega) (2^fN n) (fun w=>rpow_nv (fN n) w (by omega))
   rw [show leastN n-1+((B/2^fN n%2^eN n:Nat):Int)=leastN n+((B/2^fN n%2^eN n:Nat)-1:Int) by omega] at this
   exact this
theorem runpack_any (n:Int)(B:Nat)(w:World)(hB:B<2^256) :
  CB 18 #[.int .i64 n,A4 B] w (.tuple #[(unD n B).v,.int .i64 (unE n B)]):=by
 unfold unD unE
 by_cases h:goodN n B
 ·rw [if_pos h,if_pos h];exact runpack_ok n B w hB h
 ·rw [if_neg h,if_neg h];exact runpack_bad n B w hB h
end
section
structure Four (w:World) (g o k:Nat):Prop where
 cell:∀ i,i<4->w.cell? ⟨g,o+i,none⟩=some (.int .u64 (W4 k i))
theorem Four.next {w w':World}{g o k:Nat}(h:Four w g o k)(hg:g<w.heap.size)(hb:Below w.heap.size w w'):Four w' g o k :=
 ⟨fun i hi=>by rw [hb.cell (p:=⟨g,o+i,none⟩) hg];exact h.cell i hi⟩
structure Dc (w:World) (g:Nat) (c:Int) (s b:Bool) (x:Int) (k:Nat):Prop where
 c0:w.cell? ⟨g,0,none⟩=some (.int .i64 c)
 c1:w.cell? ⟨g,1,none⟩=some (.bool s)
 c2:w.cell? ⟨g,2,none⟩=some (.bool b)
 c3:w.cell? ⟨g,3,none⟩=some (.int .i64 x)
 c4:w.cell? ⟨g,4,none⟩=some (.int .u64 (W4 k 0))
 c5:w.cell? ⟨g,5,none⟩=some (.int .u64 (W4 k 1))
 c6:w.cell? ⟨g,6,none⟩=some (.int .u64 (W4 k 2))
 c7:w.cell? ⟨g,7,none⟩=some (.int .u64 (W4 k 3))
theorem Dc.next {w w':World}{g:Nat}{c:Int}{s b:Bool}{x:Int}{k:Nat}(h:Dc w g c s b x k)(hg:g<w.heap.size)(hb:Below w.heap.size w w'):Dc w' g c s b x k :=
  ⟨by rw [hb.cell (p:=⟨g,0,none⟩) hg,h.c0],by rw [hb.cell (p:=⟨g,1,none⟩) hg,h.c1],by rw [hb.cell (p:=⟨g,2,none⟩) hg,h.c2],by rw [hb.cell (p:=⟨g,3,none⟩) hg,h.c3],
   by rw [hb.cell (p:=⟨g,4,none⟩) hg,h.c4],by rw [hb.cell (p:=⟨g,5,none⟩) hg,h.c5],by rw [hb.cell (p:=⟨g,6,none⟩) hg,h.c6],by rw [hb.cell (p:=⟨g,7,none⟩) hg,h.c7]⟩
def mo (A B i:Nat):Bool:=decide (val (W4 B) i<val (W4 A) i)
attribute [local irreducible] W4 mo
end
section
attribute [local irreducible] W4 NT NV
def hush (d:Dat):Dat:=⟨d.c,d.s,false,d.x,d.k⟩
def quV (n:Int)(B:Nat):Nat:=if goodN n B then pkV n (hush (unD n B)) else 0
def quE (n:Int)(B:Nat):Int:=if goodN n B then pkE n (hush (unD n B)) else 1
end
end Go.Proofs.YtgknbdehlmlipaaGreatDoor
