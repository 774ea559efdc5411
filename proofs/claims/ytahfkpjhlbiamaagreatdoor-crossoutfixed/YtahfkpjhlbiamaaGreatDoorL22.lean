/-
  Texts that the proof leans on.
-/
import Derived.Test.YtahfkpjhlbiamaaGreatDoorL21
import Derived.Test.YtahfkpjhlbiamaaGreatDoorL6
import Derived.Test.YtahfkpjhlbiamaaGreatDoorL1
set_option linter.unusedVariables false
set_option linter.unusedSectionVars false
set_option linter.unusedSimpArgs false
set_option maxRecDepth 20000
namespace Go.Proofs.YtahfkpjhlbiamaaGreatDoor
open Go.RowKit
section
theorem NT.stays (K V:Nat):Stays (NT K V):=fun v w w' h hb=>h.next hb
section
variable {a:Act}{w:World}{K:Act->World->Prop}{Q:Exit->Act->World->Prop}{d p q r:Nat}{ty:TypeId}{pos:String}{after:Array Edge}{gd:Option (Nat×Bool)}
end
end
section
theorem puts_slot (a:Act):∀ (D:List Nat) (b:Act),(D.foldl (fun b d=>b.put (some d) (slot a d)) b).tmps.size=b.tmps.size/\(D.foldl (fun b d=>b.put (some d) (slot a d)) b).defers=b.defers/\∀ t,t<b.tmps.size->slot (D.foldl (fun b d=>b.put (some d) (slot a d)) b) t=if t ∈ D then slot a t else slot b t
 | [],b=>⟨rfl,rfl,fun t ht=>by simp⟩
 | d::D,b=>by
  obtain ⟨h1,h2,h3⟩:=puts_slot a D (b.put (some d) (slot a d))
  have hs:(b.put (some d) (slot a d)).tmps.size=b.tmps.size:=by simp [Act.put]
  refine ⟨h1.trans hs,h2,fun t ht=>?_⟩
  rw [List.foldl_cons,h3 t (by rw [hs];exact ht)]
  by_cases hD:t ∈ D
  ·rw [if_pos hD,if_pos (List.mem_cons_of_mem _ hD)]
  ·rw [if_neg hD]
   by_cases hd:t=d
   ·subst hd
    rw [if_pos List.mem_cons_self,slot_put ht]
   ·rw [if_neg (by simp [hd,hD]),slot_put_ne (fun h=>hd h.symm)]
theorem act_of {a a0:Act}(D:List Nat)(n:Nat)(hn:D.length=n)(hsz:a.tmps.size=a0.tmps.size)(hdf:a.defers=a0.defers)(hF:∀ t,(∀ i,i<n->D.getD i 0≠t)->slot a t=slot a0 t) :
  a=D.foldl (fun b d=>b.put (some d) (slot a d)) a0:=by
 obtain ⟨h1,h2,h3⟩:=puts_slot a D a0
 generalize D.foldl (fun b d=>b.put (some d) (slot a d)) a0=b at *
 have key:∀ t,t<a0.tmps.size->slot a t=slot b t:=fun t ht=>by
  rw [h3 t ht]
  by_cases hD:t ∈ D
  ·rw [if_pos hD]
  ·rw [if_neg hD]
   refine hF t fun i hi e=>hD ?_
   rw [← e,List.getD_eq_getElem?_getD,List.getElem?_eq_getElem (by omega)]
   exact List.getElem_mem _
 have ht:a.tmps=b.tmps:=by
  apply Array.ext (by omega)
  intro i h4 h5
  have:=key i (by omega)
  unfold slot at this
  rw [Array.getElem?_eq_getElem h4,Array.getElem?_eq_getElem h5] at this
  exact this
 cases a;cases b
 simp only at ht hdf h2 ⊢
 rw [ht,hdf,h2]
attribute [local irreducible] W4 NT NV
section
variable (n:Int)(B:Nat)(f e Fr En S:Nat)(l m pay wd:Int)(nm:ByteArray)(w:World)(hf:2<=f/\f<=240)(he:e<=15)(hEn:En<9223372036854775808)(hS9:S<9223372036854775808)
 (c24:∀ w,CB 12 #[.int .i64 n,A4 B] w (.bool true))
 (c25:∀ w,CB 20 #[.int .i64 n] w (.tuple #[.agg #[.int .i64 n,.string nm,.int .i64 2,.int .i64 wd,.int .i64 ((f:Int)+1),.int .i64 e,.int .i64 l,.int .i64 m,.int .i64 pay,.bool false],.int .i64 0]))
 (c0:∀ w,CE 60 #[A4 B,.int .i64 0,.int .i64 f] w (NT 19 Fr))
 (c1:∀ w,CE 60 #[A4 B,.int .i64 f,.int .i64 e] w (NT 19 En))
 (c26:∀ w,CE 60 #[A4 B,.int .i64 ((f:Int)+e),.int .i64 1] w (NT 19 S))
include hf he hEn hS9 c24 c25 c0 c1 c26
end
end
end Go.Proofs.YtahfkpjhlbiamaaGreatDoor
