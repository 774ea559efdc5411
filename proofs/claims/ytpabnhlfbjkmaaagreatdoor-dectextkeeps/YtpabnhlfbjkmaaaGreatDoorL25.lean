/-
  Texts that the proof leans on, joined: Zd.
-/
import Derived.Test.YtpabnhlfbjkmaaaGreatDoorL22
import Derived.Test.YtpabnhlfbjkmaaaGreatDoorL15
import Derived.Deep.MidRow
import Derived.Test.YtpabnhlfbjkmaaaGreatDoorL1
set_option maxHeartbeats 8000000
set_option linter.unusedVariables false
set_option linter.unusedSectionVars false
set_option linter.unusedSimpArgs false
set_option maxRecDepth 20000
namespace Go.Proofs.YtpabnhlfbjkmaaaGreatDoor
open Go.RowKit
section
def ld18 (a:Addr):Sem (Array Value):=loadCellsFrom a 0 18 #[]
theorem ld18_eq (a:Addr):loadCellsFrom a 0 18 #[]=ld18 a:=rfl
theorem ld18_run {P:Program} (W:World) (b:Nat) (f:Nat->Value) (h:∀ i,i<18->W.cell? ⟨b,i,none⟩=some (f i)) :
  (ld18 ⟨b,0,none⟩).run P W=.ok ((List.range 18).map f).toArray W:=by
 have:=run_loadCellsFrom (P:=P) W ⟨b,0,none⟩ f 18 0 #[] (fun j hj=>by
  have hadd:(⟨b,0,none⟩:Addr).add (0+j)=⟨b,0+j,none⟩:=by unfold Addr.add;split <;> simp_all
  rw [hadd,Nat.zero_add]
  exact h j hj)
 unfold ld18
 rw [this]
 simp
def ld18x (a:Addr):Sem (Array Value):=loadCellsFrom a 0 18 #[]
theorem ld18_got {P:Program} (W:World) (b:Nat) :
  (ld18 ⟨b,0,none⟩).run P W=if (W.cell? ⟨b,0,none⟩).isSome=true/\(W.cell? ⟨b,1,none⟩).isSome=true/\(W.cell? ⟨b,2,none⟩).isSome=true/\(W.cell? ⟨b,3,none⟩).isSome=true/\(W.cell? ⟨b,4,none⟩).isSome=true/\(W.cell? ⟨b,5,none⟩).isSome=true/\(W.cell? ⟨b,6,none⟩).isSome=true/\(W.cell? ⟨b,7,none⟩).isSome=true/\(W.cell? ⟨b,8,none⟩).isSome=true/\(W.cell? ⟨b,9,none⟩).isSome=true/\(W.cell? ⟨b,10,none⟩).isSome=true/\(W.cell? ⟨b,11,none⟩).isSome=true/\(W.cell? ⟨b,12,none⟩).isSome=true/\(W.cell? ⟨b,13,none⟩).isSome=true/\(W.cell? ⟨b,14,none⟩).isSome=true/\(W.cell? ⟨b,15,none⟩).isSome=true/\(W.cell? ⟨b,16,none⟩).isSome=true/\(W.cell? ⟨b,17,none⟩).isSome=true then .ok #[(W.cell? ⟨b,0,none⟩).getD undef,(W.cell? ⟨b,1,none⟩).getD undef,(W.cell? ⟨b,2,none⟩).getD undef,(W.cell? ⟨b,3,none⟩).getD undef,(W.cell? ⟨b,4,none⟩).getD undef,(W.cell? ⟨b,5,none⟩).getD undef,(W.cell? ⟨b,6,none⟩).getD undef,(W.cell? ⟨b,7,none⟩).getD undef,(W.cell? ⟨b,8,none⟩).getD undef,(W.cell? ⟨b,9,none⟩).getD undef,(W.cell? ⟨b,10,none⟩).getD undef,(W.cell? ⟨b,11,none⟩).getD undef,(W.cell? ⟨b,12,none⟩).getD undef,(W.cell? ⟨b,13,none⟩).getD undef,(W.cell? ⟨b,14,none⟩).getD undef,(W.cell? ⟨b,15,none⟩).getD undef,(W.cell? ⟨b,16,none⟩).getD undef,(W.cell? ⟨b,17,none⟩).getD undef] W else (ld18x ⟨b,0,none⟩).run P W:=by
 split
 ·rename_i hc
  obtain ⟨h0,h1,h2,h3,h4,h5,h6,h7,h8,h9,h10,h11,h12,h13,h14,h15,h16,h17⟩:=hc
  have h:∀ i,i<18->W.cell? ⟨b,i,none⟩=some ((W.cell? ⟨b,i,none⟩).getD undef):=by
   intro i hi
   have hs:(W.cell? ⟨b,i,none⟩).isSome=true:=by
    rcases (show i=0∨i=1∨i=2∨i=3∨i=4∨i=5∨i=6∨i=7∨i=8∨i=9∨i=10∨i=11∨i=12∨i=13∨i=14∨i=15∨i=16∨i=17 by omega) with e | e | e | e | e | e | e | e | e | e | e | e | e | e | e | e | e | e <;> subst e <;> assumption
   cases hc:W.cell? ⟨b,i,none⟩ with
   | none=>rw [hc] at hs;cases hs
   | some v=>rfl
  exact ld18_run (P:=P) W b (fun i=>(W.cell? ⟨b,i,none⟩).getD undef) h
 ·rfl
attribute [local irreducible] W4
attribute [local go_sem ↓] ld18_eq
attribute [local go_sem] ld18_got
section
variable (dn:Bool) (g t bl:Int) (wo co pa:Nat) (le mo:Int) (w:World) (B Fr:Nat) (s:Bool) (G V:Int)
 (cs:∀ W,CB 100 #[LD dn g t bl wo co pa le mo,A4 B] W (.tuple #[.bool s,.int .u64 G,A4 Fr]))
 (ck:∀ W,CB 101 #[LD dn g t bl wo co pa le mo,.int .u64 G] W (.int .u64 V))
include cs ck
theorem dmean_i (h30:(V == 30)=true):CB 61 #[LD dn g t bl wo co pa le mo,A4 B] w (DV 2 s false 0 0):=by
 have hsm:=cell_set_map
 have hz:DV 2 s false 0 0=.agg #[.int .i64 2,.bool s,.bool false,.int .i64 0,.int .u64 0,.int .u64 0,.int .u64 0,.int .u64 0]:=by unfold DV;simp only [W4_zero]
 rw [hz]
 go_enter Tryz.func61,Tryz.ntmps61
 go_wp2_with (first
  | (go_at_call 100;refine (cs _).mono ?_;rintro r w1 ⟨rfl,hb1⟩;obtain ⟨_,_,_,_,hA1,_⟩:=wz w hb1;obtain ⟨_,_⟩:=zf hb1 (w.heap.size+1);obtain ⟨_,_⟩:=zf hb1 (w.heap.size+1+1);clear hb1)
  | (go_at_call 101;refine (ck _).mono ?_;rintro r w2 ⟨rfl,hb2⟩;obtain ⟨_,_,_,_,hA2,_⟩:=wz w hb2;obtain ⟨_,_⟩:=zf hb2 (w.heap.size+1);obtain ⟨_,_⟩:=zf hb2 (w.heap.size+1+1);obtain ⟨_,_⟩:=zf hb2 w1.heap.size;clear hb2))
 exact bodyPost_ret (by simp only [results,Tryz.results61];go_simp) rfl ⟨rfl,bgo⟩
variable (U K:Nat)
 (cr:∀ W,CB 104 #[LD dn g t bl wo co pa le mo,A4 Fr] W (A4 U))
include cr
theorem dmean_n (q:Bool) (h30:(V == 30)=false) (h31:(V == 31)=true)
  (cq:∀ W,CB 102 #[LD dn g t bl wo co pa le mo,.int .u64 G] W (.bool q))
  (co':∀ W,CB 103 #[A4 U,A4 pa] W (A4 K)) :
  CB 61 #[LD dn g t bl wo co pa le mo,A4 B] w (DV 3 s q 0 K):=by
 have hsm:=cell_set_map
 go_enter Tryz.func61,Tryz.ntmps61
 go_wp2_with (first
  | (go_at_call 100;refine (cs _).mono ?_;rintro r w1 ⟨rfl,hb1⟩;obtain ⟨_,_,_,_,hA1,_⟩:=wz w hb1;obtain ⟨_,_⟩:=zf hb1 (w.heap.size+1);obtain ⟨_,_⟩:=zf hb1 (w.heap.size+1+1);clear hb1)
  | (go_at_call 101;refine (ck _).mono ?_;rintro r w2 ⟨rfl,hb2⟩;obtain ⟨_,_,_,_,hA2,_⟩:=wz w hb2;obtain ⟨_,_⟩:=zf hb2 (w.heap.size+1);obtain ⟨_,_⟩:=zf hb2 (w.heap.size+1+1);obtain ⟨_,_⟩:=zf hb2 w1.heap.size;clear hb2))
 refine wp_tail 10 (by kernel_rfl) (by kernel_rfl) (by kernel_rfl) (fun _ _ d _ _ h=>by cases d <;> exact h) fun hne hcell=>?_
 simp only [List.take_succ_cons,List.take_zero,List.drop_succ_cons,List.drop_zero]
 repeat go_big_quiet_step (fail)
 go_big_quiet_step ((go_at_call 102;exact calls_wd _ bk_next (cq _)))
 repeat go_big_quiet_step (fail)
 go_big_quiet_step ((go_at_call 104;exact calls_wd _ bk_next (cr _)))
 repeat go_big_quiet_step (fail)
 go_big_quiet_step ((go_at_call 103;exact calls_wd _ bk_next (co' _)))
 repeat go_big_quiet_step (fail)
 refine wpQuiet_nil fun w3 hb3=>?_
 obtain ⟨_,_,_,_,hA3,_⟩:=wz w hb3;obtain ⟨_,_⟩:=zf hb3 (w.heap.size+1);obtain ⟨_,_⟩:=zf hb3 (w.heap.size+1+1);obtain ⟨_,_⟩:=zf hb3 w1.heap.size;clear hb3
 go_wp2
 exact bodyPost_ret (v:=DV 3 s q 0 K) (by simp only [results,Tryz.results61];go_simp) rfl ⟨rfl,bgo⟩
theorem dmean_f (F L c1 c2:Int) (M C:Nat) (h30:(V == 30)=false) (h31:(V == 31)=false) (hF0:0<=F) (hF1:F<=1000000) (hl0:-1000000<=le) (hl1:le<=1000000)
  (cp:∀ W,CB 105 #[LD dn g t bl wo co pa le mo,.int .u64 G] W (.tuple #[.int .u64 F,.int .u64 L]))
  (cm:∀ W,CB 106 #[A4 wo,.int .u64 L] W (.tuple #[A4 M,.int .u64 c1]))
  (ca:∀ W,CB 107 #[A4 M,A4 U] W (.tuple #[A4 C,.int .u64 c2]))
  (co':∀ W,CB 103 #[A4 C,A4 co] W (A4 K)) :
  CB 61 #[LD dn g t bl wo co pa le mo,A4 B] w (DV 1 s false (F+le) K):=by
 have hsm:=cell_set_map
 go_enter Tryz.func61,Tryz.ntmps61
 go_wp2_with (first
  | (go_at_call 100;refine (cs _).mono ?_;rintro r w1 ⟨rfl,hb1⟩;obtain ⟨_,_,_,_,hA1,_⟩:=wz w hb1;obtain ⟨_,_⟩:=zf hb1 (w.heap.size+1);obtain ⟨_,_⟩:=zf hb1 (w.heap.size+1+1);clear hb1)
  | (go_at_call 101;refine (ck _).mono ?_;rintro r w2 ⟨rfl,hb2⟩;obtain ⟨_,_,_,_,hA2,_⟩:=wz w hb2;obtain ⟨_,_⟩:=zf hb2 (w.heap.size+1);obtain ⟨_,_⟩:=zf hb2 (w.heap.size+1+1);obtain ⟨_,_⟩:=zf hb2 w1.heap.size;clear hb2)
  | (go_at_call 105;refine (cp _).mono ?_;rintro r w3 ⟨rfl,hb3⟩;obtain ⟨_,_,_,_,hA3,_⟩:=wz w hb3;obtain ⟨_,_⟩:=zf hb3 (w.heap.size+1);obtain ⟨_,_⟩:=zf hb3 (w.heap.size+1+1);obtain ⟨_,_⟩:=zf hb3 w1.heap.size;clear hb3)
  | (go_at_call 106;refine (cm _).mono ?_;rintro r w4 ⟨rfl,hb4⟩;obtain ⟨_,_,_,_,hA4,_⟩:=wz w hb4;obtain ⟨_,_⟩:=zf hb4 (w.heap.size+1);obtain ⟨_,_⟩:=zf hb4 (w.heap.size+1+1);obtain ⟨_,_⟩:=zf hb4 w1.heap.size;clear hb4))
 refine wp_tail 5 (by kernel_rfl) (by kernel_rfl) (by kernel_rfl) (fun _ _ d _ _ h=>by cases d <;> exact h) fun hne hcell=>?_
 simp only [List.take_succ_cons,List.take_zero,List.drop_succ_cons,List.drop_zero]
 repeat go_big_quiet_step (fail)
 go_big_quiet_step ((go_at_call 104;exact calls_wd _ bk_next (cr _)))
 repeat go_big_quiet_step (fail)
 go_big_quiet_step ((go_at_call 107;exact calls_wd _ bk_next (ca _)))
 repeat go_big_quiet_step (fail)
 refine wpQuiet_nil fun w5 hb5=>?_
 obtain ⟨_,_,_,_,hA5,_⟩:=wz w hb5;obtain ⟨_,_⟩:=zf hb5 (w.heap.size+1);obtain ⟨_,_⟩:=zf hb5 (w.heap.size+1+1);obtain ⟨_,_⟩:=zf hb5 w1.heap.size;obtain ⟨_,_⟩:=zf hb5 w4.heap.size;clear hb5
 go_wp2
 refine wp_tail 10 (by kernel_rfl) (by kernel_rfl) (by kernel_rfl) (fun _ _ d _ _ h=>by cases d <;> exact h) fun hne hcell=>?_
 simp only [List.take_succ_cons,List.take_zero,List.drop_succ_cons,List.drop_zero]
 repeat go_big_quiet_step (fail)
 go_big_quiet_step ((go_at_call 103;exact calls_wd _ bk_next (co' _)))
 repeat go_big_quiet_step (fail)
 refine wpQuiet_nil fun w6 hb6=>?_
 obtain ⟨_,_,_,_,hA6,_⟩:=wz w hb6;obtain ⟨_,_⟩:=zf hb6 (w.heap.size+1);obtain ⟨_,_⟩:=zf hb6 (w.heap.size+1+1);obtain ⟨_,_⟩:=zf hb6 w1.heap.size;obtain ⟨_,_⟩:=zf hb6 w4.heap.size;clear hb6
 go_wp2
 exact bodyPost_ret (v:=DV 1 s false (F+le) K) (by simp only [results,Tryz.results61];go_simp) rfl ⟨rfl,bgo⟩
end
section
variable (dn:Bool) (g t bl:Int) (wo co pa:Nat) (le mo:Int) (w:World) (c x:Int) (s q:Bool) (k P:Nat) (E:Int)
theorem dpack_1 (h:∀ W,CB 108 #[LD dn g t bl wo co pa le mo,DV 1 s q x k] W (.tuple #[A4 P,.int .i64 E])) :
  CB 62 #[LD dn g t bl wo co pa le mo,DV 1 s q x k] w (.tuple #[A4 P,.int .i64 E]):=by
 have hsm:=cell_set_map
 go_enter Tryz.func62,Tryz.ntmps62
 go_wp2_with (go_at_call 108;refine (h _).mono ?_;rintro r w1 ⟨rfl,hb1⟩;obtain ⟨_,_,_,_,hA1,_⟩:=wz w hb1;obtain ⟨_,_⟩:=zf hb1 (w.heap.size+1);obtain ⟨_,_⟩:=zf hb1 (w.heap.size+1+1);clear hb1)
 exact bodyPost_ret (v:=.tuple #[A4 P,.int .i64 E]) (by simp only [results,Tryz.results62];go_simp) rfl ⟨rfl,bgo⟩
theorem dpack_2 (h:∀ W,CB 109 #[LD dn g t bl wo co pa le mo,DV 2 s q x k] W (.tuple #[A4 P,.int .i64 E])) :
  CB 62 #[LD dn g t bl wo co pa le mo,DV 2 s q x k] w (.tuple #[A4 P,.int .i64 E]):=by
 have hsm:=cell_set_map
 go_enter Tryz.func62,Tryz.ntmps62
 go_wp2_with (go_at_call 109;refine (h _).mono ?_;rintro r w1 ⟨rfl,hb1⟩;obtain ⟨_,_,_,_,hA1,_⟩:=wz w hb1;obtain ⟨_,_⟩:=zf hb1 (w.heap.size+1);obtain ⟨_,_⟩:=zf hb1 (w.heap.size+1+1);clear hb1)
 exact bodyPost_ret (v:=.tuple #[A4 P,.int .i64 E]) (by simp only [results,Tryz.results62];go_simp) rfl ⟨rfl,bgo⟩
theorem dpack_3 (h:∀ W,CB 110 #[LD dn g t bl wo co pa le mo,DV 3 s q x k] W (.tuple #[A4 P,.int .i64 E])) :
  CB 62 #[LD dn g t bl wo co pa le mo,DV 3 s q x k] w (.tuple #[A4 P,.int .i64 E]):=by
 have hsm:=cell_set_map
 go_enter Tryz.func62,Tryz.ntmps62
 go_wp2_with (go_at_call 110;refine (h _).mono ?_;rintro r w1 ⟨rfl,hb1⟩;obtain ⟨_,_,_,_,hA1,_⟩:=wz w hb1;obtain ⟨_,_⟩:=zf hb1 (w.heap.size+1);obtain ⟨_,_⟩:=zf hb1 (w.heap.size+1+1);clear hb1)
 exact bodyPost_ret (v:=.tuple #[A4 P,.int .i64 E]) (by simp only [results,Tryz.results62];go_simp) rfl ⟨rfl,bgo⟩
theorem dpack_0 (h1:(c == 1)=false) (h2:(c == 2)=false) (h3:(c == 3)=false) :
  CB 62 #[LD dn g t bl wo co pa le mo,DV c s q x k] w (.tuple #[A4 0,.int .i64 3]):=by
 have hsm:=cell_set_map
 rw [Z4_eq]
 go_enter Tryz.func62,Tryz.ntmps62
 go_wp2
 exact bodyPost_ret (by simp only [results,Tryz.results62];go_simp) rfl ⟨rfl,bgo⟩
end
section
variable (dn:Bool) (g t bl:Int) (wo co pa:Nat) (le mo:Int) (w:World) (x:Int) (s q:Bool) (k J:Nat) (G:Int)
theorem dinf_s:CB 109 #[LD dn g t bl wo co pa le mo,DV 2 s true x k] w (.tuple #[A4 0,.int .i64 3]):=by
 have hsm:=cell_set_map
 rw [Z4_eq]
 go_enter Tryz.func109,Tryz.ntmps109
 go_wp2
 exact bodyPost_ret (by simp only [results,Tryz.results109];go_simp) rfl ⟨rfl,bgo⟩
theorem dinf_x (hx:(x != 0)=true):CB 109 #[LD dn g t bl wo co pa le mo,DV 2 s false x k] w (.tuple #[A4 0,.int .i64 3]):=by
 have hsm:=cell_set_map
 rw [Z4_eq]
 go_enter Tryz.func109,Tryz.ntmps109
 go_wp2
 exact bodyPost_ret (by simp only [results,Tryz.results109];go_simp) rfl ⟨rfl,bgo⟩
theorem dinf_k (hk:decide (W4 k 0=0/\W4 k 1=0/\W4 k 2=0/\W4 k 3=0)=false):CB 109 #[LD dn g t bl wo co pa le mo,DV 2 s false 0 k] w (.tuple #[A4 0,.int .i64 3]):=by
 have hsm:=cell_set_map
 have hq:=eq24 (W4 k 0) (W4 k 1) (W4 k 2) (W4 k 3) 0 0 0 0
 rw [hk] at hq
 rw [Z4_eq]
 go_enter Tryz.func109,Tryz.ntmps109
 go_wp2
 exact bodyPost_ret (by simp only [results,Tryz.results109];go_simp) rfl ⟨rfl,bgo⟩
theorem dinf_y
  (cp:∀ W,CB 148 #[LD dn g t bl wo co pa le mo,.int .u64 30,.bool false] W (.int .u64 G))
  (cj:∀ W,CB 145 #[LD dn g t bl wo co pa le mo,.bool s,.int .u64 G,Z4] W (A4 J)) :
  CB 109 #[LD dn g t bl wo co pa le mo,DV 2 s false 0 0] w (.tuple #[A4 J,.int .i64 0]):=by
 have hsm:=cell_set_map
 have hz:DV 2 s false 0 0=.agg #[.int .i64 2,.bool s,.bool false,.int .i64 0,.int .u64 0,.int .u64 0,.int .u64 0,.int .u64 0]:=by unfold DV;simp only [W4_zero]
 rw [hz]
 unfold Z4 at *
 have hq:=eq24 0 0 0 0 0 0 0 0
 simp only [and_self,decide_true] at hq
 go_enter Tryz.func109,Tryz.ntmps109
 go_wp2
 refine wp_tail 7 (by kernel_rfl) (by kernel_rfl) (by kernel_rfl) (fun _ _ d _ _ h=>by cases d <;> exact h) fun hne hcell=>?_
 simp only [List.take_succ_cons,List.take_zero,List.drop_succ_cons,List.drop_zero]
 repeat go_big_quiet_step (fail)
 go_big_quiet_step ((go_at_call 148;exact calls_wd _ bk_next (cp _)))
 repeat go_big_quiet_step (fail)
 go_big_quiet_step ((go_at_call 145;exact calls_wd _ bk_next (cj _)))
 repeat go_big_quiet_step (fail)
 refine wpQuiet_nil fun w1 hb1=>?_
 obtain ⟨_,_,_,_,hA1,_⟩:=wz w hb1;obtain ⟨_,_⟩:=zf hb1 (w.heap.size+1);obtain ⟨_,_⟩:=zf hb1 (w.heap.size+1+1);clear hb1
 go_wp2
 exact bodyPost_ret (v:=.tuple #[A4 J,.int .i64 0]) (by simp only [results,Tryz.results109];go_simp) rfl ⟨rfl,bgo⟩
theorem dnan_x (hx:(x != 0)=true):CB 110 #[LD dn g t bl wo co pa le mo,DV 3 s q x k] w (.tuple #[A4 0,.int .i64 3]):=by
 have hsm:=cell_set_map
 rw [Z4_eq]
 go_enter Tryz.func110,Tryz.ntmps110
 go_wp2
 exact bodyPost_ret (by simp only [results,Tryz.results110];go_simp) rfl ⟨rfl,bgo⟩
variable (Q:Int) (cc:∀ W,CB 143 #[A4 k,A4 pa] W (.int .i64 Q))
include cc
theorem dnan_k (hQ:0<=Q):CB 110 #[LD dn g t bl wo co pa le mo,DV 3 s q 0 k] w (.tuple #[A4 0,.int .i64 3]):=by
 have hsm:=cell_set_map
 rw [Z4_eq]
 go_enter Tryz.func110,Tryz.ntmps110
 go_wp2_with (go_at_call 143;refine (cc _).mono ?_;rintro r w1 ⟨rfl,hb1⟩;obtain ⟨_,_,_,_,hA1,_⟩:=wz w hb1;obtain ⟨_,_⟩:=zf hb1 (w.heap.size+1);obtain ⟨_,_⟩:=zf hb1 (w.heap.size+1+1);obtain ⟨_,_⟩:=zf hb1 (w.heap.size+1+1+1);clear hb1)
 exact bodyPost_ret (by simp only [results,Tryz.results110];go_simp) rfl ⟨rfl,bgo⟩
theorem dnan_y (R:Nat) (hQ:¬ 0<=Q)
  (cp:∀ W,CB 148 #[LD dn g t bl wo co pa le mo,.int .u64 31,.bool q] W (.int .u64 G))
  (cw:∀ W,CB 147 #[LD dn g t bl wo co pa le mo,A4 k] W (A4 R))
  (cj:∀ W,CB 145 #[LD dn g t bl wo co pa le mo,.bool s,.int .u64 G,A4 R] W (A4 J)) :
  CB 110 #[LD dn g t bl wo co pa le mo,DV 3 s q 0 k] w (.tuple #[A4 J,.int .i64 0]):=by
 have hsm:=cell_set_map
 go_enter Tryz.func110,Tryz.ntmps110
 go_wp2_with (go_at_call 143;refine (cc _).mono ?_;rintro r w1 ⟨rfl,hb1⟩;obtain ⟨_,_,_,_,hA1,_⟩:=wz w hb1;obtain ⟨_,_⟩:=zf hb1 (w.heap.size+1);obtain ⟨_,_⟩:=zf hb1 (w.heap.size+1+1);obtain ⟨_,_⟩:=zf hb1 (w.heap.size+1+1+1);clear hb1)
 refine wp_tail 11 (by kernel_rfl) (by kernel_rfl) (by kernel_rfl) (fun _ _ d _ _ h=>by cases d <;> exact h) fun hne hcell=>?_
 simp only [List.take_succ_cons,List.take_zero,List.drop_succ_cons,List.drop_zero]
 repeat go_big_quiet_step (fail)
 go_big_quiet_step ((go_at_call 148;exact calls_wd _ bk_next (cp _)))
 repeat go_big_quiet_step (fail)
 go_big_quiet_step ((go_at_call 147;exact calls_wd _ bk_next (cw _)))
 repeat go_big_quiet_step (fail)
 go_big_quiet_step ((go_at_call 145;exact calls_wd _ bk_next (cj _)))
 repeat go_big_quiet_step (fail)
 refine wpQuiet_nil fun w2 hb2=>?_
 obtain ⟨_,_,_,_,hA2,_⟩:=wz w hb2;obtain ⟨_,_⟩:=zf hb2 (w.heap.size+1);obtain ⟨_,_⟩:=zf hb2 (w.heap.size+1+1);obtain ⟨_,_⟩:=zf hb2 (w.heap.size+1+1+1);clear hb2
 go_wp2
 exact bodyPost_ret (v:=.tuple #[A4 J,.int .i64 0]) (by simp only [results,Tryz.results110];go_simp) rfl ⟨rfl,bgo⟩
end
end
end Go.Proofs.YtpabnhlfbjkmaaaGreatDoor
