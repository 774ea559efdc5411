/-
  Texts that the proof leans on.
-/
import Derived.Test.YtahfkpjhlbiamaaGreatDoorJ1
import Derived.Test.YtahfkpjhlbiamaaGreatDoorJ23
import Derived.Test.YtahfkpjhlbiamaaGreatDoorJ18
import Derived.Test.YtahfkpjhlbiamaaGreatDoorJ19
import Derived.Test.YtahfkpjhlbiamaaGreatDoorJ3
set_option maxHeartbeats 8000000
set_option linter.unusedVariables false
set_option linter.unusedSectionVars false
set_option linter.unusedSimpArgs false
set_option maxRecDepth 20000
namespace Go.Proofs.YtahfkpjhlbiamaaGreatDoor
open Go.RowKit
section
attribute [local irreducible] W4 NT NV
section
variable {a:Act}{w:World}{K:Act->World->Prop}{Q:Exit->Act->World->Prop}{d p:Nat}{ty:TypeId}{pos:String}{after:Array Edge}{gd:Option (Nat×Bool)}
theorem zK9 {x c:Int}(h0:0<=x)(h1:x<=1000)(hc0:0<=c)(hc1:c<=1000)(hc2:0<=c*x)(hc3:c*x<=1000000)(hx:slot a p=.int .i64 x)(hK:K (a.put (some d) (.int .i64 (c*x))) w):Oper.wp Tryz.prog { dst:=some d,op:=Op.binOp BinOp.mul 3 (Operand.const (.int .i64 c)) (Operand.tmp p) 3,type:=ty,pos:=pos,after:=after,guard:=gd } a w K Q:=by
 unfold slot at hx
 have e:IntKind.i64.wrap (c*x)=c*x:=by
  rw [IntKind.wrap_i64]
  generalize c*x=y at *
  omega
 simp [go_sem,hx,e]
 exact hK
end
noncomputable def zBq:List Oper:=(Tryz.f42.body.bind (zQo 28)).getD []
def zR8:List Nat:=[146,147,148,149,150,151,152]
def zEj:List Nat:=[146,147,148,149,150,151,152,16]
theorem zSw {a:Act}{d:Nat}{v:Value}:(a.put (some d) v).tmps.size=a.tmps.size:=by simp [Act.put]
theorem reg28 {gl gt lead D M C U:Nat}{J:Int}{a0:Act}{ws:World}{Q:Exit->Act->World->Prop}(hP:∀ c a d v w,Q (.panic c) (Act.put a d v) w->Q (.panic c) a w)(hs:a0.tmps.size=174)
  (g16:slot a0 16=.slice (some ⟨gl,0,none⟩) 1 1) (g9:slot a0 9=.int .i64 J) (g14:slot a0 14=.pointer (some ⟨gt,0,none⟩)) (hJ0:0<=J) (hJ1:J<=11)
  (uL:NV 1 lead (.slice (some ⟨gl,0,none⟩) 1 1) ws) (uT:NV 4 U (.slice (some ⟨gt,0,none⟩) 4 4) ws)
  (cP:∀ W,CE 64 #[.int .u64 10,.int .i64 (3*J)] W (NV 50000 D))
  (cT:∀ W v v',NV 1 lead v W->NV 50000 D v' W->CE 86 #[v,v'] W (NT 60000 M))
  (cA:∀ W v v',NT 60000 M v W->NV 4 U v' W->CE 63 #[v,v'] W (NV 70000 C))
  (hQ:∀ (a:Act) (w:World) (u:Value),slot a 16=u->NV 70000 C u w->a.tmps.size=174->a.defers=a0.defers->(∀ t,(∀ i,i<8->zEj.getD i 0≠t)->slot a t=slot a0 t)->Below ws.heap.size ws w->Q .normal a w) :
  (Code.region 28 zBq.toArray true).wp Tryz.prog Q a0 ws:=by
 refine zLk 7 174 zR8 [iW (.slice (some ⟨gl,0,none⟩) 1 1),iW (.int .i64 J),iW (.int .i64 (3*J)),NV 50000 D,NT 60000 M,iW (.slice (some ⟨gt,0,none⟩) 4 4),NV 70000 C] (fun w w'=>Below w.heap.size w w') (fun L f w=>Below ws.heap.size ws w) (by kernel_rfl) (by kernel_rfl) hP (by kernel_rfl) hs ?_ (Below.refl _ _).drew ?_ ?_
 ·intro p hp
  simp only [List.mem_cons,List.not_mem_nil,or_false] at hp
  rcases hp with rfl|rfl|rfl|rfl|rfl|rfl|rfl
  all_goals first|exact fun _ _ _ h _=>h|exact fun _ _ _ h hb=>h.next hb
 ·intro L i o a w hi ho hL hcl he hM hF hv
  have f16:slot a 16=.slice (some ⟨gl,0,none⟩) 1 1:=(hF 16 (by decide)).trans g16
  have f9:slot a 9=.int .i64 J:=(hF 9 (by decide)).trans g9
  have f14:slot a 14=.pointer (some ⟨gt,0,none⟩):=(hF 14 (by decide)).trans g14
  have hor:i=0∨i=1∨i=2∨i=3∨i=4∨i=5∨i=6:=by omega
  rcases hor with rfl|rfl|rfl|rfl|rfl|rfl|rfl
  ·obtain rfl:=Option.some.inj (show zBq[0]?=some o from ho)
   exact zB3 f16 ⟨_,rfl,rfl,Below.refl _ _,hM⟩
  ·obtain rfl:=Option.some.inj (show zBq[1]?=some o from ho)
   exact zB3 f9 ⟨_,rfl,rfl,Below.refl _ _,hM⟩
  ·obtain rfl:=Option.some.inj (show zBq[2]?=some o from ho)
   exact zK9 hJ0 (by omega) (by decide) (by decide) (by omega) (by omega) (hv 1 (by decide) rfl (he ⟨1,.data⟩ (by simp) rfl):slot a 147=.int .i64 J) ⟨_,rfl,rfl,Below.refl _ _,hM⟩
  ·obtain rfl:=Option.some.inj (show zBq[3]?=some o from ho)
   refine og_pow (u0:=.int .u64 10) (hv 2 (by decide) rfl (he ⟨2,.data⟩ (by simp) rfl):slot a 148=.int .i64 (3*J)) ((cP w).mono ?_)
   rintro e w' ⟨v,rfl,hSv,hb⟩
   exact ⟨v,rfl,_,rfl,hSv,hb,bnx hM hb⟩
  ·obtain rfl:=Option.some.inj (show zBq[4]?=some o from ho)
   refine og_c2 (by simp [go_sem]) (hv 0 (by decide) rfl (he ⟨0,.data⟩ (by simp) rfl):slot a 146=.slice (some ⟨gl,0,none⟩) 1 1) rfl ((cT w _ _ (uL.next hM) (hv 3 (by decide) rfl (he ⟨3,.data⟩ (by simp) rfl))).mono ?_)
   rintro e w' ⟨v,rfl,hSv,hb⟩
   exact ⟨v,rfl,_,rfl,hSv,hb,bnx hM hb⟩
  ·obtain rfl:=Option.some.inj (show zBq[5]?=some o from ho)
   exact og_slB f14 ⟨_,rfl,rfl,Below.refl _ _,hM⟩
  ·obtain rfl:=Option.some.inj (show zBq[6]?=some o from ho)
   refine og_c2 (by simp [go_sem]) rfl (hv 5 (by decide) rfl (he ⟨5,.data⟩ (by simp) rfl):slot a 151=.slice (some ⟨gt,0,none⟩) 4 4) ((cA w _ _ (hv 4 (by decide) rfl (he ⟨4,.data⟩ (by simp) rfl)) (uT.next hM)).mono ?_)
   rintro e w' ⟨v,rfl,hSv,hb⟩
   exact ⟨v,rfl,_,rfl,hSv,hb,bnx hM hb⟩
 ·intro L a w hL hM hsz hdf hF hv
  have hq:=(hv 6 (by decide) rfl:NV 70000 C (slot a 152) w)
  refine BigFrame.wpList_want rfl fun K hK=>og_as rfl (hK _ _ ?_)
  clear K hK
  refine hQ _ _ _ (zRg (by omega)) hq (by simp only [zSw];exact hsz) hdf (fun t ht=>?_) hM
  rw [zCc (show 16≠t from ht 7 (by decide))]
  exact hF t fun i hi=>by
   have:=ht i (by omega)
   have hor:i=0∨i=1∨i=2∨i=3∨i=4∨i=5∨i=6:=by omega
   rcases hor with rfl|rfl|rfl|rfl|rfl|rfl|rfl<;>exact this
end
end Go.Proofs.YtahfkpjhlbiamaaGreatDoor
