/-
  DectextReads: any text, and any parts, are read into any decimal format as the document says. Condition: the listed package-level variables start as the program's text lays them.
-/
import Derived.Test.YtpabnhlfbjkmaaaGreatDoorCards
import Derived.Test.YtpabnhlfbjkmaaaGreatDoorTie
import Derived.Test.YtpabnhlfbjkmaaaGreatDoorR47
import Derived.Test.YtpabnhlfbjkmaaaGreatDoorR26
import Derived.Test.YtpabnhlfbjkmaaaGreatDoorR20
import Derived.Test.YtpabnhlfbjkmaaaGreatDoorR8
import Derived.Test.YtpabnhlfbjkmaaaGreatDoorR4
import Derived.Test.YtpabnhlfbjkmaaaGreatDoorR13
set_option linter.unusedVariables false
set_option linter.unusedSimpArgs false
set_option maxRecDepth 100000
namespace Go.Proofs.YtpabnhlfbjkmaaaGreatDoor
open Go.ChangeShapes Go.WideShapes Go.ChangeAt Go.RowKit
theorem dectextReads_contract (H:Type)(enc:TypeId×Value->H)(W:World)(hT:Tab W/\Tb10 W)(base:Nat)(args:Array Value)(ds gs:List (DataW H))(before:List MemPlace)
  (hval:∀ (j:Nat) t v,Tryz.f4.params[j]?=some t->args[j]?=some v->Value.okWide Tryz.prog W .any base t v)
  (hW:DataW.Whole enc Tryz.prog Tryz.f4.params.toList Rows.dectextReadsSpec.vars false W args.toList ds gs before) :
  Calls Tryz.prog 4 args W fun e W'=>∃ v,e=.returned v/\Rows.dectextReadsSpec.post enc Tryz.prog Tryz.f4 false true false false W args v W':=by
 have hW':=hW
 have hlt:=hW.lt
 obtain ⟨p,q,hA0,hV,rfl,hfz,hnd⟩:=hW
 have hA:DataW.TrodAll enc Tryz.prog W 0 (fun _=>true) true Tryz.f4.params.toList args.toList ds p:=hA0
 rw [Tryz.params4] at hA hval
 obtain ⟨v0,vs0,d0,ds0,p0,q0,hargs0,rfl,rfl,h0,r0⟩:=trodAll_cons hA
 obtain ⟨v1,vs1,d1,ds1,p1,q1,rfl,rfl,rfl,h1,r1⟩:=trodAll_cons r0
 obtain ⟨v2,vs2,d2,ds2,p2,q2,rfl,rfl,rfl,h2,r2⟩:=trodAll_cons r1
 obtain ⟨v3,vs3,d3,ds3,p3,q3,rfl,rfl,rfl,h3,r3⟩:=trodAll_cons r2
 obtain ⟨rfl,rfl,rfl⟩:=trodAll_nil r3
 obtain rfl:args=#[v0,v1,v2,v3]:=by cases args;simp_all
 obtain ⟨rfl,rfl⟩:=trodVars_none hV
 obtain ⟨z0,rfl,rfl,rfl,w0⟩:=open_int Tryz.underlying3 (hval 0 3 v0 rfl rfl) h0
 obtain ⟨z1,rfl,rfl,rfl,w1⟩:=open_int Tryz.underlying3 (hval 1 3 v1 rfl rfl) h1
 obtain ⟨s2,rfl,rfl,rfl,w2⟩:=Go.ChangeMaps.open_string Tryz.underlying9 (hval 2 9 v2 rfl rfl) h2
 have t3:=h3
 obtain ⟨P3,hb3,rfl,rfl⟩:=zPt (hval 3 31 v3 rfl rfl) h3
 clear hA0
 simp only [List.append_nil] at hW' hlt
 have cc:=zDj z0 z1 s2 P3 W hT.1 hT.2 hb3
 refine cc.mono fun e W' ⟨he,hb⟩=>?_
 subst he
 exact ⟨_,rfl,_,_,_,[],_,[],hW',trodAll_cons_mk (shut_bool Tryz.underlying4 _) trodAll_mk0,(trodAll_cons_mk (shut_int Tryz.underlying3 w0) (trodAll_cons_mk (shut_int Tryz.underlying3 w1) (trodAll_cons_mk (Go.ChangeMaps.shut_string Tryz.underlying9 w2) (trodAll_cons_mk (Below.trod Tryz.laidOut Tryz.rec31 Tryz.row31 t3 hb (fun x hx=>hlt x (by simp [hx]))) trodAll_mk0)))),rfl,hb.frame _,fun h=>by cases h⟩
theorem dectextReads_laid (os:Os):laidMet Tryz.prog Rows.dectextReadsRow.laid ((zJi os).forCall (fun _ _=>0) ⟨#[],#[.int .i64 0,.int .i64 0,.string ⟨#[]⟩,.agg #[.int .i64 0,.bool false,.bool false,.string ⟨#[]⟩,.int .i64 0]],[]⟩).memory :=
 laidMet_of_run' 8 (by kernel_rfl) (by kernel_rfl)
theorem dectextReads_reads (os:Os){H:Type}(enc:TypeId×Value->H):∃ places,DataW.whole enc Tryz.prog ((zJi os).forCall (fun _ _=>0) ⟨#[],#[.int .i64 0,.int .i64 0,.string ⟨#[]⟩,.agg #[.int .i64 0,.bool false,.bool false,.string ⟨#[]⟩,.int .i64 0]],[]⟩).memory Tryz.f4.params.toList Rows.dectextReadsSpec.vars false (#[.int .i64 0,.int .i64 0,.string ⟨#[]⟩,.agg #[.int .i64 0,.bool false,.bool false,.string ⟨#[]⟩,.int .i64 0]]:Array Value).toList 8=some ([.lit (.int .i64 0),.lit (.int .i64 0),.lit (.string []),.agg [.lit (.int .i64 0),.lit (.bool false),.lit (.bool false),.lit (.string []),.lit (.int .i64 0)]],[],places) :=
 ⟨[],by kernel_rfl⟩
set_option maxRecDepth 100000 in
theorem dectextReads_lifted (os:Os)(started:os.Started)(H:Type)(enc:TypeId×Value->H)(F:Stop.Interp) :
  ReturnsInHanded {} Tryz.checked os 4 .any ((OpenSpec.ofChange Rows.dectextReadsSpec).preRow enc Tryz.prog Tryz.f4 Rows.dectextReadsRow.domain false Rows.dectextReadsRow.laid) (((OpenSpec.ofChange Rows.dectextReadsSpec).at F).post enc Tryz.prog Tryz.f4 false true false false):=by
 obtain ⟨places,hx⟩:=dectextReads_reads os enc
 refine returnsInHanded_of_row (C:=Tryz.checked) (s:=OpenSpec.ofChange Rows.dectextReadsSpec) Tryz.own started (by kernel_rfl) Tryz.func4
  (witness_row_at (enc:=enc) (C:=Tryz.checked) false (zJi os) #[.int .i64 0,.int .i64 0,.string ⟨#[]⟩,.agg #[.int .i64 0,.bool false,.bool false,.string ⟨#[]⟩,.int .i64 0]] rfl (by kernel_rfl) (by kernel_rfl) (by kernel_rfl)
   (OpenSpec.preRow_of_cond 8 hx (by kernel_rfl) (fun k hk=>by cases hk) (by kernel_rfl) (dectextReads_laid os))) ?_
 intro W base args ds gs before hval hW _ _ _ hL _ _
 exact dectextReads_contract H enc W ⟨zXp hL,zHo hL⟩ base args ds gs before hval hW
theorem dectextReads_holds:Rows.DectextReadsSaid :=
 OpenClaim.holds_of_cond 4 Tryz.f4 rfl rfl rfl rfl rfl rfl rfl ⟨rfl,rfl,rfl,rfl,rfl⟩ rfl rfl rfl rfl rfl (by kernel_rfl) Tryz.func4 (by kernel_rfl)
  (of_decide_eq_true (by kernel_rfl)) (by unfold Func.isWrapper;first|(rw [if_pos (by decide +kernel)];kernel_rfl)|(rw [if_neg (by decide +kernel)];exact ⟨rfl,rfl⟩))
  (fun os started H enc _ F=>by rw [OpenClaim.pre_eq_preRow];exact dectextReads_lifted os started H enc F)
theorem dectextReads_plain (f:FuncId)(fn:Func)(hf:Tryz.pinned.checked.prog.funcNamed "caliper/caliperlaw16.DectextReads" = some f)(hfn:Tryz.pinned.checked.prog.funcs[f]?=some fn) :
  false=Tryz.pinned.checked.prog.looks []/\∀ (j:Nat) t,fn.params[j]?=some t->Tryz.pinned.checked.prog.wantsStandIn t=false:=by
 obtain rfl:f=4:=Option.some.inj ((show Tryz.prog.funcNamed "caliper/caliperlaw16.DectextReads" = some 4 by kernel_rfl).symm.trans hf) |>.symm
 obtain rfl:fn=Tryz.f4:=(Option.some.inj (Tryz.func4.symm.trans hfn)).symm
 refine ⟨by kernel_rfl,fun j t ht=>?_⟩
 rw [Tryz.params4] at ht
 have hm:t=3∨t=9∨t=31:=by simpa using Array.mem_of_getElem? ht
 rcases hm with rfl|rfl|rfl
 ·exact (show Tryz.prog.wantsStandIn 3=false by kernel_rfl)
 ·exact (show Tryz.prog.wantsStandIn 9=false by kernel_rfl)
 ·exact (show Tryz.prog.wantsStandIn 31=false by kernel_rfl)
theorem dectextReads_card:Rows.DectextReadsCardSaid :=
 Claim7.holds_tied_plain_at .later [] _ _ _ _ dectextReads_holds (fun _ h=>by cases h) (by kernel_rfl) (fun _ h=>by cases h) dectextReads_row_tie rfl ⟨rfl,rfl⟩ (by kernel_rfl) rfl dectextReads_plain (by kernel_rfl)
end Go.Proofs.YtpabnhlfbjkmaaaGreatDoor
