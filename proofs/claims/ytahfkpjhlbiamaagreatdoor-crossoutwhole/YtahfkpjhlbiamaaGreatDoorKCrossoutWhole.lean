/-
  CrossoutWhole: whole numbers that fit come out with the exponent 0, halves with -1, and raise nothing, for every input.
-/
import Derived.Test.YtahfkpjhlbiamaaGreatDoorCards
import Derived.Test.YtahfkpjhlbiamaaGreatDoorTie
import Derived.Test.YtahfkpjhlbiamaaGreatDoorJ39
import Derived.Test.YtahfkpjhlbiamaaGreatDoorJ16
set_option linter.unusedVariables false
set_option linter.unusedSimpArgs false
set_option maxRecDepth 100000
namespace Go.Proofs.YtahfkpjhlbiamaaGreatDoor
open Go.ChangeShapes Go.WideShapes Go.ChangeAt Go.RowKit
theorem crossoutWhole_contract (H:Type)(enc:TypeId×Value->H)(W:World)(hT:Tab W/\Tb10 W)(base:Nat)(args:Array Value)(ds gs:List (DataW H))(before:List MemPlace)
  (hval:∀ (j:Nat) t v,Tryz.f7.params[j]?=some t->args[j]?=some v->Value.okWide Tryz.prog W .any base t v)
  (hW:DataW.Whole enc Tryz.prog Tryz.f7.params.toList Rows.crossoutWholeSpec.vars false W args.toList ds gs before) :
  Calls Tryz.prog 7 args W fun e W'=>∃ v,e=.returned v/\Rows.crossoutWholeSpec.post enc Tryz.prog Tryz.f7 false true false false W args v W':=by
 have hW':=hW
 have hlt:=hW.lt
 obtain ⟨p,q,hA0,hV,rfl,hfz,hnd⟩:=hW
 have hA:DataW.TrodAll enc Tryz.prog W 0 (fun _=>true) true Tryz.f7.params.toList args.toList ds p:=hA0
 rw [Tryz.params7] at hA hval
 obtain ⟨v0,vs0,d0,ds0,p0,q0,hargs0,rfl,rfl,h0,r0⟩:=trodAll_cons hA
 obtain ⟨v1,vs1,d1,ds1,p1,q1,rfl,rfl,rfl,h1,r1⟩:=trodAll_cons r0
 obtain ⟨v2,vs2,d2,ds2,p2,q2,rfl,rfl,rfl,h2,r2⟩:=trodAll_cons r1
 obtain ⟨v3,vs3,d3,ds3,p3,q3,rfl,rfl,rfl,h3,r3⟩:=trodAll_cons r2
 obtain ⟨v4,vs4,d4,ds4,p4,q4,rfl,rfl,rfl,h4,r4⟩:=trodAll_cons r3
 obtain ⟨rfl,rfl,rfl⟩:=trodAll_nil r4
 obtain rfl:args=#[v0,v1,v2,v3,v4]:=by cases args;simp_all
 obtain ⟨rfl,rfl⟩:=trodVars_none hV
 obtain ⟨z0,rfl,rfl,rfl,w0⟩:=open_int Tryz.underlying51 (hval 0 51 v0 rfl rfl) h0
 obtain ⟨z1,rfl,rfl,rfl,w1⟩:=open_int Tryz.underlying3 (hval 1 3 v1 rfl rfl) h1
 obtain ⟨z2,rfl,rfl,rfl,w2⟩:=open_int Tryz.underlying3 (hval 2 3 v2 rfl rfl) h2
 obtain ⟨z3,rfl,rfl,rfl⟩:=open_bool Tryz.underlying4 (hval 3 4 v3 rfl rfl) h3
 obtain ⟨z4,rfl,rfl,rfl⟩:=open_bool Tryz.underlying4 (hval 4 4 v4 rfl rfl) h4
 clear hA0
 simp only [List.append_nil] at hW' hlt
 have cc:=zFi z0 z1 z2 z3 z4 W hT.1 hT.2 (bounds_u16 w0)
 refine cc.mono fun e W' ⟨he,hb⟩=>?_
 subst he
 exact ⟨_,rfl,_,_,_,[],_,[],hW',trodAll_cons_mk (shut_bool Tryz.underlying4 _) trodAll_mk0,(trodAll_cons_mk (shut_int Tryz.underlying51 w0) (trodAll_cons_mk (shut_int Tryz.underlying3 w1) (trodAll_cons_mk (shut_int Tryz.underlying3 w2) (trodAll_cons_mk (shut_bool Tryz.underlying4 _) (trodAll_cons_mk (shut_bool Tryz.underlying4 _) trodAll_mk0))))),rfl,hb.frame _,fun h=>by cases h⟩
theorem crossoutWhole_laid (os:Os):laidMet Tryz.prog Rows.crossoutWholeRow.laid ((zXb os).forCall (fun _ _=>0) ⟨#[],#[.int .u16 0,.int .i64 0,.int .i64 0,.bool false,.bool false],[]⟩).memory :=
 laidMet_of_run' 8 (by kernel_rfl) (by kernel_rfl)
theorem crossoutWhole_reads (os:Os){H:Type}(enc:TypeId×Value->H):∃ places,DataW.whole enc Tryz.prog ((zXb os).forCall (fun _ _=>0) ⟨#[],#[.int .u16 0,.int .i64 0,.int .i64 0,.bool false,.bool false],[]⟩).memory Tryz.f7.params.toList Rows.crossoutWholeSpec.vars false (#[.int .u16 0,.int .i64 0,.int .i64 0,.bool false,.bool false]:Array Value).toList 8=some ([.lit (.int .u16 0),.lit (.int .i64 0),.lit (.int .i64 0),.lit (.bool false),.lit (.bool false)],[],places) :=
 ⟨[],by kernel_rfl⟩
set_option maxRecDepth 100000 in
theorem crossoutWhole_lifted (os:Os)(started:os.Started)(H:Type)(enc:TypeId×Value->H)(F:Stop.Interp) :
  ReturnsInHanded {} Tryz.checked os 7 .any ((OpenSpec.ofChange Rows.crossoutWholeSpec).preRow enc Tryz.prog Tryz.f7 Rows.crossoutWholeRow.domain false Rows.crossoutWholeRow.laid) (((OpenSpec.ofChange Rows.crossoutWholeSpec).at F).post enc Tryz.prog Tryz.f7 false true false false):=by
 obtain ⟨places,hx⟩:=crossoutWhole_reads os enc
 refine returnsInHanded_of_row (C:=Tryz.checked) (s:=OpenSpec.ofChange Rows.crossoutWholeSpec) Tryz.own started (by kernel_rfl) Tryz.func7
  (witness_row_at (enc:=enc) (C:=Tryz.checked) false (zXb os) #[.int .u16 0,.int .i64 0,.int .i64 0,.bool false,.bool false] rfl (by kernel_rfl) (by kernel_rfl) (by kernel_rfl)
   (OpenSpec.preRow_of_cond 8 hx (by kernel_rfl) (fun k hk=>by cases hk) (by kernel_rfl) (crossoutWhole_laid os))) ?_
 intro W base args ds gs before hval hW _ _ _ hL _ _
 exact crossoutWhole_contract H enc W ⟨zCg hL,zDf hL⟩ base args ds gs before hval hW
theorem zEi:(Rows.crossoutWholeRow.inPlace==Tryz.pinned.checked.prog.inPlace 7)=true:=by kernel_rfl
theorem zDi:(Rows.crossoutWholeRow.unfollowed==Tryz.pinned.checked.prog.unfollowed 7)=true:=by kernel_rfl
theorem zCi:(Rows.crossoutWholeRow.recurses==Tryz.pinned.checked.prog.recurses 7)=true:=by kernel_rfl
theorem zBi:(Rows.crossoutWholeRow.named==Tryz.pinned.checked.prog.varsNamed 7)=true:=by kernel_rfl
theorem zVf:joinedFacts Tryz.pinned.checked.prog 7 Tryz.f7 (OpenSpec.ofChange Rows.crossoutWholeSpec).bare Rows.crossoutWholeRow=true:=by
 unfold joinedFacts
 rw [zEi,zDi,zCi,zBi]
 kernel_rfl
theorem crossoutWhole_holds:Rows.CrossoutWholeSaid :=
 OpenClaim.holds_of_cond 7 Tryz.f7 rfl rfl rfl rfl rfl rfl rfl ⟨rfl,rfl,rfl,rfl,rfl⟩ rfl rfl rfl rfl rfl (by kernel_rfl) Tryz.func7 zVf
  (of_decide_eq_true (by kernel_rfl)) (by unfold Func.isWrapper;first|(rw [if_pos (by decide +kernel)];kernel_rfl)|(rw [if_neg (by decide +kernel)];exact ⟨rfl,rfl⟩))
  (fun os started H enc _ F=>by rw [OpenClaim.pre_eq_preRow];exact crossoutWhole_lifted os started H enc F)
theorem crossoutWhole_plain (f:FuncId)(fn:Func)(hf:Tryz.pinned.checked.prog.funcNamed "caliper/caliperlaw19.CrossoutWhole" = some f)(hfn:Tryz.pinned.checked.prog.funcs[f]?=some fn) :
  false=Tryz.pinned.checked.prog.looks []/\∀ (j:Nat) t,fn.params[j]?=some t->Tryz.pinned.checked.prog.wantsStandIn t=false:=by
 obtain rfl:f=7:=Option.some.inj ((show Tryz.prog.funcNamed "caliper/caliperlaw19.CrossoutWhole" = some 7 by kernel_rfl).symm.trans hf) |>.symm
 obtain rfl:fn=Tryz.f7:=(Option.some.inj (Tryz.func7.symm.trans hfn)).symm
 refine ⟨by kernel_rfl,fun j t ht=>?_⟩
 rw [Tryz.params7] at ht
 have hm:t=51∨t=3∨t=4:=by simpa using Array.mem_of_getElem? ht
 rcases hm with rfl|rfl|rfl
 ·exact (show Tryz.prog.wantsStandIn 51=false by kernel_rfl)
 ·exact (show Tryz.prog.wantsStandIn 3=false by kernel_rfl)
 ·exact (show Tryz.prog.wantsStandIn 4=false by kernel_rfl)
theorem crossoutWhole_card:Rows.CrossoutWholeCardSaid :=
 Claim7.holds_tied_plain_at .later [] _ _ _ _ crossoutWhole_holds (fun _ h=>by cases h) (by kernel_rfl) (fun _ h=>by cases h) crossoutWhole_row_tie rfl ⟨rfl,rfl⟩ (by kernel_rfl) rfl crossoutWhole_plain (by kernel_rfl)
end Go.Proofs.YtahfkpjhlbiamaaGreatDoor
