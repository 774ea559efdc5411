/-
  Texts that the proof leans on.
-/
import Derived.Test.YtjfeaiaafbaobaaGreatDoorJ19
import Derived.Test.YtjfeaiaafbaobaaGreatDoorJ17
import Derived.Deep.MidRow
import Derived.Test.YtjfeaiaafbaobaaGreatDoorJ1
set_option maxHeartbeats 8000000
set_option linter.unusedVariables false
set_option linter.unusedSectionVars false
set_option linter.unusedSimpArgs false
set_option maxRecDepth 20000
namespace Go.Proofs.YtjfeaiaafbaobaaGreatDoor
open Go.RowKit
section
def ld18 (a:Addr):Sem (Array Value):=loadCellsFrom a 0 18 #[]
theorem ld18_eq (a:Addr):loadCellsFrom a 0 18 #[]=ld18 a:=rfl
theorem ld18_run {P:Program}(W:World)(b:Nat)(f:Nat->Value)(h:∀ i,i<18->W.cell? ⟨b,i,none⟩=some (f i)) :
  (ld18 ⟨b,0,none⟩).run P W=.ok ((List.range 18).map f).toArray W:=by
 have:=run_loadCellsFrom (P:=P) W ⟨b,0,none⟩ f 18 0 #[] (fun j hj=>by
  have hadd:(⟨b,0,none⟩:Addr).add (0+j)=⟨b,0+j,none⟩:=by unfold Addr.add;split<;>simp_all
  rw [hadd,Nat.zero_add]
  exact h j hj)
 unfold ld18
 rw [this]
 simp
def ld18x (a:Addr):Sem (Array Value):=loadCellsFrom a 0 18 #[]
theorem ld18_got {P:Program}(W:World)(b:Nat) :
  (ld18 ⟨b,0,none⟩).run P W=if (W.cell? ⟨b,0,none⟩).isSome=true/\(W.cell? ⟨b,1,none⟩).isSome=true/\(W.cell? ⟨b,2,none⟩).isSome=true/\(W.cell? ⟨b,3,none⟩).isSome=true/\(W.cell? ⟨b,4,none⟩).isSome=true/\(W.cell? ⟨b,5,none⟩).isSome=true/\(W.cell? ⟨b,6,none⟩).isSome=true/\(W.cell? ⟨b,7,none⟩).isSome=true/\(W.cell? ⟨b,8,none⟩).isSome=true/\(W.cell? ⟨b,9,none⟩).isSome=true/\(W.cell? ⟨b,10,none⟩).isSome=true/\(W.cell? ⟨b,11,none⟩).isSome=true/\(W.cell? ⟨b,12,none⟩).isSome=true/\(W.cell? ⟨b,13,none⟩).isSome=true/\(W.cell? ⟨b,14,none⟩).isSome=true/\(W.cell? ⟨b,15,none⟩).isSome=true/\(W.cell? ⟨b,16,none⟩).isSome=true/\(W.cell? ⟨b,17,none⟩).isSome=true then .ok #[(W.cell? ⟨b,0,none⟩).getD undef,(W.cell? ⟨b,1,none⟩).getD undef,(W.cell? ⟨b,2,none⟩).getD undef,(W.cell? ⟨b,3,none⟩).getD undef,(W.cell? ⟨b,4,none⟩).getD undef,(W.cell? ⟨b,5,none⟩).getD undef,(W.cell? ⟨b,6,none⟩).getD undef,(W.cell? ⟨b,7,none⟩).getD undef,(W.cell? ⟨b,8,none⟩).getD undef,(W.cell? ⟨b,9,none⟩).getD undef,(W.cell? ⟨b,10,none⟩).getD undef,(W.cell? ⟨b,11,none⟩).getD undef,(W.cell? ⟨b,12,none⟩).getD undef,(W.cell? ⟨b,13,none⟩).getD undef,(W.cell? ⟨b,14,none⟩).getD undef,(W.cell? ⟨b,15,none⟩).getD undef,(W.cell? ⟨b,16,none⟩).getD undef,(W.cell? ⟨b,17,none⟩).getD undef] W else (ld18x ⟨b,0,none⟩).run P W:=by
 split
 ·rename_i hc
  obtain ⟨h0,h1,h2,h3,h4,h5,h6,h7,h8,h9,h10,h11,h12,h13,h14,h15,h16,h17⟩:=hc
  have h:∀ i,i<18->W.cell? ⟨b,i,none⟩=some ((W.cell? ⟨b,i,none⟩).getD undef):=by
   intro i hi
   have hs:(W.cell? ⟨b,i,none⟩).isSome=true:=by
    rcases (show i=0∨i=1∨i=2∨i=3∨i=4∨i=5∨i=6∨i=7∨i=8∨i=9∨i=10∨i=11∨i=12∨i=13∨i=14∨i=15∨i=16∨i=17 by omega) with e|e|e|e|e|e|e|e|e|e|e|e|e|e|e|e|e|e<;>subst e<;>assumption
   cases hc:W.cell? ⟨b,i,none⟩ with
   | none=>rw [hc] at hs;cases hs
   | some v=>rfl
  exact ld18_run (P:=P) W b (fun i=>(W.cell? ⟨b,i,none⟩).getD undef) h
 ·rfl
attribute [local irreducible] W4
attribute [local go_sem ↓] ld18_eq
attribute [local go_sem] ld18_got
section
variable (dn:Bool)(g t bl:Int)(wo co pa:Nat)(le mo:Int)(w:World)(B Fr:Nat)(s:Bool)(G V:Int)
 (cs:∀ W,CB 95 #[LD dn g t bl wo co pa le mo,A4 B] W (.tuple #[.bool s,.int .u64 G,A4 Fr]))
 (ck:∀ W,CB 96 #[LD dn g t bl wo co pa le mo,.int .u64 G] W (.int .u64 V))
include cs ck
theorem dmean_i (h30:(V==30)=true):CB 57 #[LD dn g t bl wo co pa le mo,A4 B] w (DV 2 s false 0 0):=by
 have hsm:=cell_set_map
 have hz:DV 2 s false 0 0=.agg #[.int .i64 2,.bool s,.bool false,.int .i64 0,.int .u64 0,.int .u64 0,.int .u64 0,.int .u64 0]:=by unfold DV;simp only [W4_zero]
 rw [hz]
 go_enter Tryz.func57,Tryz.ntmps57
 go_wp2_with (first
  | (go_at_call 95;refine (cs _).mono ?_;rintro r w1 ⟨rfl,hb1⟩;obtain ⟨_,_,_,_,hA1,_⟩:=wz w hb1;obtain ⟨_,_⟩:=zf hb1 (w.heap.size+1);obtain ⟨_,_⟩:=zf hb1 (w.heap.size+1+1);clear hb1)
  | (go_at_call 96;refine (ck _).mono ?_;rintro r w2 ⟨rfl,hb2⟩;obtain ⟨_,_,_,_,hA2,_⟩:=wz w hb2;obtain ⟨_,_⟩:=zf hb2 (w.heap.size+1);obtain ⟨_,_⟩:=zf hb2 (w.heap.size+1+1);obtain ⟨_,_⟩:=zf hb2 w1.heap.size;clear hb2))
 exact bodyPost_ret (by simp only [results,Tryz.results57];go_simp) rfl ⟨rfl,bgo⟩
variable (U K:Nat)
 (cr:∀ W,CB 99 #[LD dn g t bl wo co pa le mo,A4 Fr] W (A4 U))
include cr
theorem dmean_n (q:Bool)(h30:(V==30)=false)(h31:(V==31)=true)
  (cq:∀ W,CB 97 #[LD dn g t bl wo co pa le mo,.int .u64 G] W (.bool q))
  (co':∀ W,CB 98 #[A4 U,A4 pa] W (A4 K)) :
  CB 57 #[LD dn g t bl wo co pa le mo,A4 B] w (DV 3 s q 0 K):=by
 have hsm:=cell_set_map
 go_enter Tryz.func57,Tryz.ntmps57
 go_wp2_with (first
  | (go_at_call 95;refine (cs _).mono ?_;rintro r w1 ⟨rfl,hb1⟩;obtain ⟨_,_,_,_,hA1,_⟩:=wz w hb1;obtain ⟨_,_⟩:=zf hb1 (w.heap.size+1);obtain ⟨_,_⟩:=zf hb1 (w.heap.size+1+1);clear hb1)
  | (go_at_call 96;refine (ck _).mono ?_;rintro r w2 ⟨rfl,hb2⟩;obtain ⟨_,_,_,_,hA2,_⟩:=wz w hb2;obtain ⟨_,_⟩:=zf hb2 (w.heap.size+1);obtain ⟨_,_⟩:=zf hb2 (w.heap.size+1+1);obtain ⟨_,_⟩:=zf hb2 w1.heap.size;clear hb2))
 refine wp_tail 10 (by kernel_rfl) (by kernel_rfl) (by kernel_rfl) (fun _ _ d _ _ h=>by cases d<;>exact h) fun hne hcell=>?_
 simp only [List.take_succ_cons,List.take_zero,List.drop_succ_cons,List.drop_zero]
 repeat go_big_quiet_step (fail)
 go_big_quiet_step ((go_at_call 97;exact calls_wd _ bk_next (cq _)))
 repeat go_big_quiet_step (fail)
 go_big_quiet_step ((go_at_call 99;exact calls_wd _ bk_next (cr _)))
 repeat go_big_quiet_step (fail)
 go_big_quiet_step ((go_at_call 98;exact calls_wd _ bk_next (co' _)))
 repeat go_big_quiet_step (fail)
 refine wpQuiet_nil fun w3 hb3=>?_
 obtain ⟨_,_,_,_,hA3,_⟩:=wz w hb3;obtain ⟨_,_⟩:=zf hb3 (w.heap.size+1);obtain ⟨_,_⟩:=zf hb3 (w.heap.size+1+1);obtain ⟨_,_⟩:=zf hb3 w1.heap.size;clear hb3
 go_wp2
 exact bodyPost_ret (v:=DV 3 s q 0 K) (by simp only [results,Tryz.results57];go_simp) rfl ⟨rfl,bgo⟩
theorem dmean_f (F L c1 c2:Int)(M C:Nat)(h30:(V==30)=false)(h31:(V==31)=false)(hF0:0<=F)(hF1:F<=1000000)(hl0:-1000000<=le)(hl1:le<=1000000)
  (cp:∀ W,CB 100 #[LD dn g t bl wo co pa le mo,.int .u64 G] W (.tuple #[.int .u64 F,.int .u64 L]))
  (cm:∀ W,CB 101 #[A4 wo,.int .u64 L] W (.tuple #[A4 M,.int .u64 c1]))
  (ca:∀ W,CB 102 #[A4 M,A4 U] W (.tuple #[A4 C,.int .u64 c2]))
  (co':∀ W,CB 98 #[A4 C,A4 co] W (A4 K)) :
  CB 57 #[LD dn g t bl wo co pa le mo,A4 B] w (DV 1 s false (F+le) K):=by
 have hsm:=cell_set_map
 go_enter Tryz.func57,Tryz.ntmps57
 go_wp2_with (first
  | (go_at_call 95;refine (cs _).mono ?_;rintro r w1 ⟨rfl,hb1⟩;obtain ⟨_,_,_,_,hA1,_⟩:=wz w hb1;obtain ⟨_,_⟩:=zf hb1 (w.heap.size+1);obtain ⟨_,_⟩:=zf hb1 (w.heap.size+1+1);clear hb1)
  | (go_at_call 96;refine (ck _).mono ?_;rintro r w2 ⟨rfl,hb2⟩;obtain ⟨_,_,_,_,hA2,_⟩:=wz w hb2;obtain ⟨_,_⟩:=zf hb2 (w.heap.size+1);obtain ⟨_,_⟩:=zf hb2 (w.heap.size+1+1);obtain ⟨_,_⟩:=zf hb2 w1.heap.size;clear hb2)
  | (go_at_call 100;refine (cp _).mono ?_;rintro r w3 ⟨rfl,hb3⟩;obtain ⟨_,_,_,_,hA3,_⟩:=wz w hb3;obtain ⟨_,_⟩:=zf hb3 (w.heap.size+1);obtain ⟨_,_⟩:=zf hb3 (w.heap.size+1+1);obtain ⟨_,_⟩:=zf hb3 w1.heap.size;clear hb3)
  | (go_at_call 101;refine (cm _).mono ?_;rintro r w4 ⟨rfl,hb4⟩;obtain ⟨_,_,_,_,hA4,_⟩:=wz w hb4;obtain ⟨_,_⟩:=zf hb4 (w.heap.size+1);obtain ⟨_,_⟩:=zf hb4 (w.heap.size+1+1);obtain ⟨_,_⟩:=zf hb4 w1.heap.size;clear hb4))
 refine wp_tail 5 (by kernel_rfl) (by kernel_rfl) (by kernel_rfl) (fun _ _ d _ _ h=>by cases d<;>exact h) fun hne hcell=>?_
 simp only [List.take_succ_cons,List.take_zero,List.drop_succ_cons,List.drop_zero]
 repeat go_big_quiet_step (fail)
 go_big_quiet_step ((go_at_call 99;exact calls_wd _ bk_next (cr _)))
 repeat go_big_quiet_step (fail)
 go_big_quiet_step ((go_at_call 102;exact calls_wd _ bk_next (ca _)))
 repeat go_big_quiet_step (fail)
 refine wpQuiet_nil fun w5 hb5=>?_
 obtain ⟨_,_,_,_,hA5,_⟩:=wz w hb5;obtain ⟨_,_⟩:=zf hb5 (w.heap.size+1);obtain ⟨_,_⟩:=zf hb5 (w.heap.size+1+1);obtain ⟨_,_⟩:=zf hb5 w1.heap.size;obtain ⟨_,_⟩:=zf hb5 w4.heap.size;clear hb5
 go_wp2
 refine wp_tail 10 (by kernel_rfl) (by kernel_rfl) (by kernel_rfl) (fun _ _ d _ _ h=>by cases d<;>exact h) fun hne hcell=>?_
 simp only [List.take_succ_cons,List.take_zero,List.drop_succ_cons,List.drop_zero]
 repeat go_big_quiet_step (fail)
 go_big_quiet_step ((go_at_call 98;exact calls_wd _ bk_next (co' _)))
 repeat go_big_quiet_step (fail)
 refine wpQuiet_nil fun w6 hb6=>?_
 obtain ⟨_,_,_,_,hA6,_⟩:=wz w hb6;obtain ⟨_,_⟩:=zf hb6 (w.heap.size+1);obtain ⟨_,_⟩:=zf hb6 (w.heap.size+1+1);obtain ⟨_,_⟩:=zf hb6 w1.heap.size;obtain ⟨_,_⟩:=zf hb6 w4.heap.size;clear hb6
 go_wp2
 exact bodyPost_ret (v:=DV 1 s false (F+le) K) (by simp only [results,Tryz.results57];go_simp) rfl ⟨rfl,bgo⟩
end
section
variable (dn:Bool)(g t bl:Int)(wo co pa:Nat)(le mo:Int)(w:World)(c x:Int)(s q:Bool)(k P:Nat)(E:Int)
theorem dpack_1 (h:∀ W,CB 103 #[LD dn g t bl wo co pa le mo,DV 1 s q x k] W (.tuple #[A4 P,.int .i64 E])) :
  CB 58 #[LD dn g t bl wo co pa le mo,DV 1 s q x k] w (.tuple #[A4 P,.int .i64 E]):=by
 have hsm:=cell_set_map
 go_enter Tryz.func58,Tryz.ntmps58
 go_wp2_with (go_at_call 103;refine (h _).mono ?_;rintro r w1 ⟨rfl,hb1⟩;obtain ⟨_,_,_,_,hA1,_⟩:=wz w hb1;obtain ⟨_,_⟩:=zf hb1 (w.heap.size+1);obtain ⟨_,_⟩:=zf hb1 (w.heap.size+1+1);clear hb1)
 exact bodyPost_ret (v:=.tuple #[A4 P,.int .i64 E]) (by simp only [results,Tryz.results58];go_simp) rfl ⟨rfl,bgo⟩
theorem dpack_2 (h:∀ W,CB 104 #[LD dn g t bl wo co pa le mo,DV 2 s q x k] W (.tuple #[A4 P,.int .i64 E])) :
  CB 58 #[LD dn g t bl wo co pa le mo,DV 2 s q x k] w (.tuple #[A4 P,.int .i64 E]):=by
 have hsm:=cell_set_map
 go_enter Tryz.func58,Tryz.ntmps58
 go_wp2_with (go_at_call 104;refine (h _).mono ?_;rintro r w1 ⟨rfl,hb1⟩;obtain ⟨_,_,_,_,hA1,_⟩:=wz w hb1;obtain ⟨_,_⟩:=zf hb1 (w.heap.size+1);obtain ⟨_,_⟩:=zf hb1 (w.heap.size+1+1);clear hb1)
 exact bodyPost_ret (v:=.tuple #[A4 P,.int .i64 E]) (by simp only [results,Tryz.results58];go_simp) rfl ⟨rfl,bgo⟩
theorem dpack_3 (h:∀ W,CB 105 #[LD dn g t bl wo co pa le mo,DV 3 s q x k] W (.tuple #[A4 P,.int .i64 E])) :
  CB 58 #[LD dn g t bl wo co pa le mo,DV 3 s q x k] w (.tuple #[A4 P,.int .i64 E]):=by
 have hsm:=cell_set_map
 go_enter Tryz.func58,Tryz.ntmps58
 go_wp2_with (go_at_call 105;refine (h _).mono ?_;rintro r w1 ⟨rfl,hb1⟩;obtain ⟨_,_,_,_,hA1,_⟩:=wz w hb1;obtain ⟨_,_⟩:=zf hb1 (w.heap.size+1);obtain ⟨_,_⟩:=zf hb1 (w.heap.size+1+1);clear hb1)
 exact bodyPost_ret (v:=.tuple #[A4 P,.int .i64 E]) (by simp only [results,Tryz.results58];go_simp) rfl ⟨rfl,bgo⟩
theorem dpack_0 (h1:(c==1)=false)(h2:(c==2)=false)(h3:(c==3)=false) :
  CB 58 #[LD dn g t bl wo co pa le mo,DV c s q x k] w (.tuple #[A4 0,.int .i64 3]):=by
 have hsm:=cell_set_map
 rw [Z4_eq]
 go_enter Tryz.func58,Tryz.ntmps58
 go_wp2
 exact bodyPost_ret (by simp only [results,Tryz.results58];go_simp) rfl ⟨rfl,bgo⟩
end
section
variable (dn:Bool)(g t bl:Int)(wo co pa:Nat)(le mo:Int)(w:World)(x:Int)(s q:Bool)(k J:Nat)(G:Int)
theorem dinf_s:CB 104 #[LD dn g t bl wo co pa le mo,DV 2 s true x k] w (.tuple #[A4 0,.int .i64 3]):=by
 have hsm:=cell_set_map
 rw [Z4_eq]
 go_enter Tryz.func104,Tryz.ntmps104
 go_wp2
 exact bodyPost_ret (by simp only [results,Tryz.results104];go_simp) rfl ⟨rfl,bgo⟩
theorem dinf_x (hx:(x != 0)=true):CB 104 #[LD dn g t bl wo co pa le mo,DV 2 s false x k] w (.tuple #[A4 0,.int .i64 3]):=by
 have hsm:=cell_set_map
 rw [Z4_eq]
 go_enter Tryz.func104,Tryz.ntmps104
 go_wp2
 exact bodyPost_ret (by simp only [results,Tryz.results104];go_simp) rfl ⟨rfl,bgo⟩
theorem dinf_k (hk:decide (W4 k 0=0/\W4 k 1=0/\W4 k 2=0/\W4 k 3=0)=false):CB 104 #[LD dn g t bl wo co pa le mo,DV 2 s false 0 k] w (.tuple #[A4 0,.int .i64 3]):=by
 have hsm:=cell_set_map
 have hq:=eq24 (W4 k 0) (W4 k 1) (W4 k 2) (W4 k 3) 0 0 0 0
 rw [hk] at hq
 rw [Z4_eq]
 go_enter Tryz.func104,Tryz.ntmps104
 go_wp2
 exact bodyPost_ret (by simp only [results,Tryz.results104];go_simp) rfl ⟨rfl,bgo⟩
theorem dinf_y
  (cp:∀ W,CB 163 #[LD dn g t bl wo co pa le mo,.int .u64 30,.bool false] W (.int .u64 G))
  (cj:∀ W,CB 160 #[LD dn g t bl wo co pa le mo,.bool s,.int .u64 G,Z4] W (A4 J)) :
  CB 104 #[LD dn g t bl wo co pa le mo,DV 2 s false 0 0] w (.tuple #[A4 J,.int .i64 0]):=by
 have hsm:=cell_set_map
 have hz:DV 2 s false 0 0=.agg #[.int .i64 2,.bool s,.bool false,.int .i64 0,.int .u64 0,.int .u64 0,.int .u64 0,.int .u64 0]:=by unfold DV;simp only [W4_zero]
 rw [hz]
 unfold Z4 at *
 have hq:=eq24 0 0 0 0 0 0 0 0
 simp only [and_self,decide_true] at hq
 go_enter Tryz.func104,Tryz.ntmps104
 go_wp2
 refine wp_tail 7 (by kernel_rfl) (by kernel_rfl) (by kernel_rfl) (fun _ _ d _ _ h=>by cases d<;>exact h) fun hne hcell=>?_
 simp only [List.take_succ_cons,List.take_zero,List.drop_succ_cons,List.drop_zero]
 repeat go_big_quiet_step (fail)
 go_big_quiet_step ((go_at_call 163;exact calls_wd _ bk_next (cp _)))
 repeat go_big_quiet_step (fail)
 go_big_quiet_step ((go_at_call 160;exact calls_wd _ bk_next (cj _)))
 repeat go_big_quiet_step (fail)
 refine wpQuiet_nil fun w1 hb1=>?_
 obtain ⟨_,_,_,_,hA1,_⟩:=wz w hb1;obtain ⟨_,_⟩:=zf hb1 (w.heap.size+1);obtain ⟨_,_⟩:=zf hb1 (w.heap.size+1+1);clear hb1
 go_wp2
 exact bodyPost_ret (v:=.tuple #[A4 J,.int .i64 0]) (by simp only [results,Tryz.results104];go_simp) rfl ⟨rfl,bgo⟩
theorem dnan_x (hx:(x != 0)=true):CB 105 #[LD dn g t bl wo co pa le mo,DV 3 s q x k] w (.tuple #[A4 0,.int .i64 3]):=by
 have hsm:=cell_set_map
 rw [Z4_eq]
 go_enter Tryz.func105,Tryz.ntmps105
 go_wp2
 exact bodyPost_ret (by simp only [results,Tryz.results105];go_simp) rfl ⟨rfl,bgo⟩
variable (Q:Int)(cc:∀ W,CB 158 #[A4 k,A4 pa] W (.int .i64 Q))
include cc
theorem dnan_k (hQ:0<=Q):CB 105 #[LD dn g t bl wo co pa le mo,DV 3 s q 0 k] w (.tuple #[A4 0,.int .i64 3]):=by
 have hsm:=cell_set_map
 rw [Z4_eq]
 go_enter Tryz.func105,Tryz.ntmps105
 go_wp2_with (go_at_call 158;refine (cc _).mono ?_;rintro r w1 ⟨rfl,hb1⟩;obtain ⟨_,_,_,_,hA1,_⟩:=wz w hb1;obtain ⟨_,_⟩:=zf hb1 (w.heap.size+1);obtain ⟨_,_⟩:=zf hb1 (w.heap.size+1+1);obtain ⟨_,_⟩:=zf hb1 (w.heap.size+1+1+1);clear hb1)
 exact bodyPost_ret (by simp only [results,Tryz.results105];go_simp) rfl ⟨rfl,bgo⟩
theorem dnan_y (R:Nat)(hQ:¬ 0<=Q)
  (cp:∀ W,CB 163 #[LD dn g t bl wo co pa le mo,.int .u64 31,.bool q] W (.int .u64 G))
  (cw:∀ W,CB 162 #[LD dn g t bl wo co pa le mo,A4 k] W (A4 R))
  (cj:∀ W,CB 160 #[LD dn g t bl wo co pa le mo,.bool s,.int .u64 G,A4 R] W (A4 J)) :
  CB 105 #[LD dn g t bl wo co pa le mo,DV 3 s q 0 k] w (.tuple #[A4 J,.int .i64 0]):=by
 have hsm:=cell_set_map
 go_enter Tryz.func105,Tryz.ntmps105
 go_wp2_with (go_at_call 158;refine (cc _).mono ?_;rintro r w1 ⟨rfl,hb1⟩;obtain ⟨_,_,_,_,hA1,_⟩:=wz w hb1;obtain ⟨_,_⟩:=zf hb1 (w.heap.size+1);obtain ⟨_,_⟩:=zf hb1 (w.heap.size+1+1);obtain ⟨_,_⟩:=zf hb1 (w.heap.size+1+1+1);clear hb1)
 refine wp_tail 11 (by kernel_rfl) (by kernel_rfl) (by kernel_rfl) (fun _ _ d _ _ h=>by cases d<;>exact h) fun hne hcell=>?_
 simp only [List.take_succ_cons,List.take_zero,List.drop_succ_cons,List.drop_zero]
 repeat go_big_quiet_step (fail)
 go_big_quiet_step ((go_at_call 163;exact calls_wd _ bk_next (cp _)))
 repeat go_big_quiet_step (fail)
 go_big_quiet_step ((go_at_call 162;exact calls_wd _ bk_next (cw _)))
 repeat go_big_quiet_step (fail)
 go_big_quiet_step ((go_at_call 160;exact calls_wd _ bk_next (cj _)))
 repeat go_big_quiet_step (fail)
 refine wpQuiet_nil fun w2 hb2=>?_
 obtain ⟨_,_,_,_,hA2,_⟩:=wz w hb2;obtain ⟨_,_⟩:=zf hb2 (w.heap.size+1);obtain ⟨_,_⟩:=zf hb2 (w.heap.size+1+1);obtain ⟨_,_⟩:=zf hb2 (w.heap.size+1+1+1);clear hb2
 go_wp2
 exact bodyPost_ret (v:=.tuple #[A4 J,.int .i64 0]) (by simp only [results,Tryz.results105];go_simp) rfl ⟨rfl,bgo⟩
end
end
section
theorem bcelln {n:Nat}{W w1:World}(hb:Below n W w1):(∀ b o,b<n->w1.cell? ⟨b,o,none⟩=W.cell? ⟨b,o,none⟩)/\(∀ b o,b<n->w1.frozen? ⟨b,o,none⟩=W.frozen? ⟨b,o,none⟩) :=
 ⟨fun b o h=>hb.cell (p:=⟨b,o,none⟩) h,fun b o h=>hb.frozen (p:=⟨b,o,none⟩) h⟩
theorem below_put {n g X:Nat}{a W:World}(h:Below n a W)(hg:n<=g):Below n a (put4C W g X) :=
 (((h.setCell hg _).setCell hg _).setCell hg _).setCell hg _
attribute [local irreducible] W4
attribute [local go_sem ↓] ld18_eq
attribute [local go_sem] ld18_got
section
variable (dn:Bool)(g t bl:Int)(wo co pa:Nat)(le mo:Int)(w:World)(x:Int)(s q:Bool)(k J:Nat)(G:Int)
theorem dfin_s:CB 103 #[LD dn g t bl wo co pa le mo,DV 1 s true x k] w (.tuple #[A4 0,.int .i64 3]):=by
 have hsm:=cell_set_map
 rw [Z4_eq]
 go_enter Tryz.func103,Tryz.ntmps103
 go_wp2
 exact bodyPost_ret (by simp only [results,Tryz.results103];go_simp) rfl ⟨rfl,bgo⟩
theorem dfin_l (h:x<le):CB 103 #[LD dn g t bl wo co pa le mo,DV 1 s false x k] w (.tuple #[A4 0,.int .i64 3]):=by
 have hsm:=cell_set_map
 rw [Z4_eq]
 go_enter Tryz.func103,Tryz.ntmps103
 go_wp2
 exact bodyPost_ret (by simp only [results,Tryz.results103];go_simp) rfl ⟨rfl,bgo⟩
theorem dfin_m (h1:¬ x<le)(h2:mo<x):CB 103 #[LD dn g t bl wo co pa le mo,DV 1 s false x k] w (.tuple #[A4 0,.int .i64 3]):=by
 have hsm:=cell_set_map
 rw [Z4_eq]
 go_enter Tryz.func103,Tryz.ntmps103
 go_wp2
 exact bodyPost_ret (by simp only [results,Tryz.results103];go_simp) rfl ⟨rfl,bgo⟩
variable (Q:Int)(cc:∀ W,CB 158 #[A4 k,A4 co] W (.int .i64 Q))(h1:¬ x<le)(h2:¬ mo<x)
include cc h1 h2
theorem dfin_k (hQ:0<=Q):CB 103 #[LD dn g t bl wo co pa le mo,DV 1 s false x k] w (.tuple #[A4 0,.int .i64 3]):=by
 have hsm:=cell_set_map
 rw [Z4_eq]
 go_enter Tryz.func103,Tryz.ntmps103
 go_wp2_with (go_at_call 158;refine (cc _).mono ?_;rintro r w1 ⟨rfl,hb1⟩;obtain ⟨_,_,_,_,hA1,_⟩:=wz w hb1;obtain ⟨_,_⟩:=zf hb1 (w.heap.size+1);obtain ⟨_,_⟩:=zf hb1 (w.heap.size+1+1);obtain ⟨_,_⟩:=zf hb1 (w.heap.size+1+1+1);clear hb1)
 exact bodyPost_ret (by simp only [results,Tryz.results103];go_simp) rfl ⟨rfl,bgo⟩
theorem dfin_y (hQ:¬ 0<=Q)(m:Nat)(hm:m<=100)(R:Nat->Nat)(qc cr:Nat->Int)(hR:R 0=k)(T:Nat)(hl0:-1000000<=le)(hl1:le<=1000000)(hx1:x<=1000000)(gl:Int)
  (cq:Hid (∀ i,i<=m->∀ W,CB 158 #[A4 (R i),A4 wo] W (.int .i64 (qc i))))
  (hq1:Hid (∀ i,i<m->0<=qc i)) (hq2:Hid (¬ 0<=qc m))
  (cu:Hid (∀ i,i<m->∀ W,CB 155 #[A4 (R i),A4 wo] W (.tuple #[A4 (R (i+1)),.int .u64 (cr i)])))
  (cn:∀ W,CB 161 #[LD dn g t bl wo co pa le mo,.int .u64 (x-le),.int .u64 (m:Int)] W (.int .u64 gl))
  (cw:∀ W,CB 162 #[LD dn g t bl wo co pa le mo,A4 (R m)] W (A4 T))
  (cj:∀ W,CB 160 #[LD dn g t bl wo co pa le mo,.bool s,.int .u64 gl,A4 T] W (A4 J)) :
  CB 103 #[LD dn g t bl wo co pa le mo,DV 1 s false x k] w (.tuple #[A4 J,.int .i64 0]):=by
 have hsm:=cell_set_map
 have hxl0:0<=x-le:=by omega
 have hxl1:x-le<=2000000:=by omega
 go_enter Tryz.func103,Tryz.ntmps103
 go_wp2_with (go_at_call 158;refine (cc _).mono ?_;rintro r w1 ⟨rfl,hb1⟩;clear cc;obtain ⟨_,_,_,_,hA1,_⟩:=wz w hb1;obtain ⟨_,_⟩:=zf hb1 (w.heap.size+1);obtain ⟨_,_⟩:=zf hb1 (w.heap.size+1+1);obtain ⟨_,_⟩:=zf hb1 (w.heap.size+1+1+1);clear hb1)
 go_loopw [7,34,35,36,37,38,39,40,41,42,43,44,45,46,47] (fun t _ _ _ _ _ _ _ _ _ _ _ _ _ _ wr=>∃ (i:Nat),i<=m/\t=.int .u64 (i:Int)/\C4 (w.heap.size+1+1+1) (R i) wr/\Below (w.heap.size+1+1+1) w1 wr/\Below w.heap.size w wr) (fun t _ _ _ _ _ _ _ _ _ _ _ _ _ _ _=>m-(intOf t).toNat)
 case atStart =>
  refine ⟨0,Nat.zero_le _,rfl,?_,Below.refl _ _,bgo⟩
  rw [hR];refine ⟨by omega,?_,?_,?_,?_,?_,?_,?_,?_⟩<;>go_simp
 case round =>
  obtain ⟨i,hi,rfl,h3,hbw,hbx⟩:=hrel
  have hl3:=h3.lt
  have hl2:w.heap.size+1+1<wr.heap.size:=by omega
  have hl1:w.heap.size+1<wr.heap.size:=by omega
  have hl0:w.heap.size<wr.heap.size:=by omega
  have z0:w.heap.size<w.heap.size+1+1+1:=by omega
  have z1:w.heap.size+1<w.heap.size+1+1+1:=by omega
  have z2:w.heap.size+1+1<w.heap.size+1+1+1:=by omega
  obtain ⟨hcw,hfw⟩:=bcelln hbw
  obtain ⟨_,o0,o1,o2,o3,g0,g1,g2,g3⟩:=id h3
  have dq:=cq.out i hi
  by_cases hic:i<m
  ·have du:=cu.out i hic
   have hq:=hq1.out i hic
   have hi0:(0:Int)<=(i:Int):=by omega
   have hi1:(i:Int)<=100:=by omega
   generalize R i=Ri at *
   generalize qc i=Qi at *
   go_wp2_with (first
    | (go_at_call 158;refine (dq _).mono ?_;rintro r w2 ⟨rfl,hb2⟩;have hn3:=h3.next hb2;have hbw2:=hbw.trans (hb2.mono (by omega));obtain ⟨_,_,_,_,hA2,_⟩:=wz w hb2;obtain ⟨_,_⟩:=zf hb2 (w.heap.size+1);obtain ⟨_,_⟩:=zf hb2 (w.heap.size+1+1);obtain ⟨_,_⟩:=zf hb2 (w.heap.size+1+1+1);clear hb2)
    | (go_at_call 155;refine (du _).mono ?_;rintro r w3 ⟨rfl,hb3⟩;have hm3:=hn3.next hb3;have hbw3:=hbw2.trans (hb3.mono (by omega));obtain ⟨_,_,_,_,hA3,_⟩:=wz w hb3;obtain ⟨_,_⟩:=zf hb3 (w.heap.size+1);obtain ⟨_,_⟩:=zf hb3 (w.heap.size+1+1);obtain ⟨_,_⟩:=zf hb3 (w.heap.size+1+1+1);clear hb3))
   go_roundw
   case rel=>exact ⟨i+1,by omega,by go_num,hm3.put,below_put hbw3 (by omega),bgo⟩
   case measure=>simp [intOf];omega
  ·obtain rfl:i=m:=by omega
   have hq:=hq2.out
   clear cq cu hq1 hq2
   generalize R i=Ri at *
   generalize qc i=Qi at *
   generalize (i:Int)=mi at *
   go_wp2_with (go_at_call 158;refine (dq _).mono ?_;rintro r w2 ⟨rfl,hb2⟩;clear dq;obtain ⟨_,_,_,_,hA2,_⟩:=wz w hb2;obtain ⟨_,_⟩:=zf hb2 (w.heap.size+1);obtain ⟨_,_⟩:=zf hb2 (w.heap.size+1+1);obtain ⟨_,_⟩:=zf hb2 (w.heap.size+1+1+1);clear hb2)
   refine wp_tail 16 (by kernel_rfl) (by kernel_rfl) (by kernel_rfl) (fun _ _ d _ _ h=>by cases d<;>exact h) fun hne hcell=>?_
   simp only [List.take_succ_cons,List.take_zero,List.drop_succ_cons,List.drop_zero]
   repeat go_big_quiet_step (fail)
   go_big_quiet_step ((go_at_call 161;exact calls_wd _ bk_next (cn _)))
   repeat go_big_quiet_step (fail)
   go_big_quiet_step ((go_at_call 162;exact calls_wd _ bk_next (cw _)))
   repeat go_big_quiet_step (fail)
   go_big_quiet_step ((go_at_call 160;exact calls_wd _ bk_next (cj _)))
   repeat go_big_quiet_step (fail)
   refine wpQuiet_nil fun w3 hb3=>?_
   obtain ⟨_,_,_,_,hA3,_⟩:=wz w hb3;obtain ⟨_,_⟩:=zf hb3 (w.heap.size+1);obtain ⟨_,_⟩:=zf hb3 (w.heap.size+1+1);obtain ⟨_,_⟩:=zf hb3 (w.heap.size+1+1+1);clear hb3
   go_wp2
   exact bodyPost_ret (v:=.tuple #[A4 J,.int .i64 0]) (by simp only [results,Tryz.results103];go_simp) rfl ⟨rfl,bgo⟩
end
end
end Go.Proofs.YtjfeaiaafbaobaaGreatDoor
