/-
  Texts that the proof leans on.
-/
import Derived.Test.YtahfkpjhlbiamaaGreatDoorJ1
set_option maxHeartbeats 8000000
set_option linter.unusedVariables false
set_option linter.unusedSimpArgs false
set_option linter.unusedSectionVars false
set_option maxRecDepth 20000
namespace Go.Proofs.YtahfkpjhlbiamaaGreatDoor
open Go.RowKit
theorem rof_1 (w:World) :
  CB 20 #[.int .i64 1] w (.tuple #[.agg (zDc 1),.int .i64 0]):=by
 show CB 20 #[.int .i64 1] w (.tuple #[.agg #[.int .i64 1,.string ⟨#[72,97,108,102]⟩,.int .i64 2,.int .i64 16,.int .i64 11,.int .i64 5,.int .i64 (-24),.int .i64 5,.int .i64 9,.bool false],.int .i64 0])
 go_enter Tryz.func20,Tryz.ntmps20
 go_wp2
 exact bodyPost_ret (v:=.tuple #[.agg #[.int .i64 1,.string ⟨#[72,97,108,102]⟩,.int .i64 2,.int .i64 16,.int .i64 11,.int .i64 5,.int .i64 (-24),.int .i64 5,.int .i64 9,.bool false],.int .i64 0]) (by rw [results_cell_tmp rfl];go_simp) rfl ⟨rfl,zLc _ _ _⟩
theorem rof_2 (w:World) :
  CB 20 #[.int .i64 2] w (.tuple #[.agg (zDc 2),.int .i64 0]):=by
 show CB 20 #[.int .i64 2] w (.tuple #[.agg #[.int .i64 2,.string ⟨#[66,114,97,105,110]⟩,.int .i64 2,.int .i64 16,.int .i64 8,.int .i64 8,.int .i64 (-133),.int .i64 120,.int .i64 6,.bool false],.int .i64 0])
 go_enter Tryz.func20,Tryz.ntmps20
 go_wp2
 exact bodyPost_ret (v:=.tuple #[.agg #[.int .i64 2,.string ⟨#[66,114,97,105,110]⟩,.int .i64 2,.int .i64 16,.int .i64 8,.int .i64 8,.int .i64 (-133),.int .i64 120,.int .i64 6,.bool false],.int .i64 0]) (by rw [results_cell_tmp rfl];go_simp) rfl ⟨rfl,zLc _ _ _⟩
theorem rof_3 (w:World) :
  CB 20 #[.int .i64 3] w (.tuple #[.agg (zDc 3),.int .i64 0]):=by
 show CB 20 #[.int .i64 3] w (.tuple #[.agg #[.int .i64 3,.string ⟨#[83,105,110,103,108,101]⟩,.int .i64 2,.int .i64 32,.int .i64 24,.int .i64 8,.int .i64 (-149),.int .i64 104,.int .i64 22,.bool false],.int .i64 0])
 go_enter Tryz.func20,Tryz.ntmps20
 go_wp2
 exact bodyPost_ret (v:=.tuple #[.agg #[.int .i64 3,.string ⟨#[83,105,110,103,108,101]⟩,.int .i64 2,.int .i64 32,.int .i64 24,.int .i64 8,.int .i64 (-149),.int .i64 104,.int .i64 22,.bool false],.int .i64 0]) (by rw [results_cell_tmp rfl];go_simp) rfl ⟨rfl,zLc _ _ _⟩
theorem rof_4 (w:World) :
  CB 20 #[.int .i64 4] w (.tuple #[.agg (zDc 4),.int .i64 0]):=by
 show CB 20 #[.int .i64 4] w (.tuple #[.agg #[.int .i64 4,.string ⟨#[68,111,117,98,108,101]⟩,.int .i64 2,.int .i64 64,.int .i64 53,.int .i64 11,.int .i64 (-1074),.int .i64 971,.int .i64 51,.bool false],.int .i64 0])
 go_enter Tryz.func20,Tryz.ntmps20
 go_wp2
 exact bodyPost_ret (v:=.tuple #[.agg #[.int .i64 4,.string ⟨#[68,111,117,98,108,101]⟩,.int .i64 2,.int .i64 64,.int .i64 53,.int .i64 11,.int .i64 (-1074),.int .i64 971,.int .i64 51,.bool false],.int .i64 0]) (by rw [results_cell_tmp rfl];go_simp) rfl ⟨rfl,zLc _ _ _⟩
theorem rof_5 (w:World) :
  CB 20 #[.int .i64 5] w (.tuple #[.agg (zDc 5),.int .i64 0]):=by
 show CB 20 #[.int .i64 5] w (.tuple #[.agg #[.int .i64 5,.string ⟨#[81,117,97,100]⟩,.int .i64 2,.int .i64 128,.int .i64 113,.int .i64 15,.int .i64 (-16494),.int .i64 16271,.int .i64 111,.bool false],.int .i64 0])
 go_enter Tryz.func20,Tryz.ntmps20
 go_wp2
 exact bodyPost_ret (v:=.tuple #[.agg #[.int .i64 5,.string ⟨#[81,117,97,100]⟩,.int .i64 2,.int .i64 128,.int .i64 113,.int .i64 15,.int .i64 (-16494),.int .i64 16271,.int .i64 111,.bool false],.int .i64 0]) (by rw [results_cell_tmp rfl];go_simp) rfl ⟨rfl,zLc _ _ _⟩
theorem rof_6 (w:World) :
  CB 20 #[.int .i64 6] w (.tuple #[.agg (zDc 6),.int .i64 0]):=by
 show CB 20 #[.int .i64 6] w (.tuple #[.agg #[.int .i64 6,.string ⟨#[79,99,116,111]⟩,.int .i64 2,.int .i64 256,.int .i64 241,.int .i64 15,.int .i64 (-16622),.int .i64 16143,.int .i64 239,.bool false],.int .i64 0])
 go_enter Tryz.func20,Tryz.ntmps20
 go_wp2
 exact bodyPost_ret (v:=.tuple #[.agg #[.int .i64 6,.string ⟨#[79,99,116,111]⟩,.int .i64 2,.int .i64 256,.int .i64 241,.int .i64 15,.int .i64 (-16622),.int .i64 16143,.int .i64 239,.bool false],.int .i64 0]) (by rw [results_cell_tmp rfl];go_simp) rfl ⟨rfl,zLc _ _ _⟩
theorem rof_7 (w:World) :
  CB 20 #[.int .i64 7] w (.tuple #[.agg (zDc 7),.int .i64 0]):=by
 show CB 20 #[.int .i64 7] w (.tuple #[.agg #[.int .i64 7,.string ⟨#[80,108,97,105,110,51,50]⟩,.int .i64 10,.int .i64 32,.int .i64 7,.int .i64 96,.int .i64 (-101),.int .i64 90,.int .i64 6,.bool false],.int .i64 0])
 go_enter Tryz.func20,Tryz.ntmps20
 go_wp2
 exact bodyPost_ret (v:=.tuple #[.agg #[.int .i64 7,.string ⟨#[80,108,97,105,110,51,50]⟩,.int .i64 10,.int .i64 32,.int .i64 7,.int .i64 96,.int .i64 (-101),.int .i64 90,.int .i64 6,.bool false],.int .i64 0]) (by rw [results_cell_tmp rfl];go_simp;rfl) rfl ⟨rfl,zLc _ _ _⟩
theorem rof_8 (w:World) :
  CB 20 #[.int .i64 8] w (.tuple #[.agg (zDc 8),.int .i64 0]):=by
 show CB 20 #[.int .i64 8] w (.tuple #[.agg #[.int .i64 8,.string ⟨#[80,108,97,105,110,54,52]⟩,.int .i64 10,.int .i64 64,.int .i64 16,.int .i64 384,.int .i64 (-398),.int .i64 369,.int .i64 15,.bool false],.int .i64 0])
 go_enter Tryz.func20,Tryz.ntmps20
 go_wp2
 exact bodyPost_ret (v:=.tuple #[.agg #[.int .i64 8,.string ⟨#[80,108,97,105,110,54,52]⟩,.int .i64 10,.int .i64 64,.int .i64 16,.int .i64 384,.int .i64 (-398),.int .i64 369,.int .i64 15,.bool false],.int .i64 0]) (by rw [results_cell_tmp rfl];go_simp;rfl) rfl ⟨rfl,zLc _ _ _⟩
theorem rof_9 (w:World) :
  CB 20 #[.int .i64 9] w (.tuple #[.agg (zDc 9),.int .i64 0]):=by
 show CB 20 #[.int .i64 9] w (.tuple #[.agg #[.int .i64 9,.string ⟨#[80,108,97,105,110,49,50,56]⟩,.int .i64 10,.int .i64 128,.int .i64 34,.int .i64 6144,.int .i64 (-6176),.int .i64 6111,.int .i64 33,.bool false],.int .i64 0])
 go_enter Tryz.func20,Tryz.ntmps20
 go_wp2
 exact bodyPost_ret (v:=.tuple #[.agg #[.int .i64 9,.string ⟨#[80,108,97,105,110,49,50,56]⟩,.int .i64 10,.int .i64 128,.int .i64 34,.int .i64 6144,.int .i64 (-6176),.int .i64 6111,.int .i64 33,.bool false],.int .i64 0]) (by rw [results_cell_tmp rfl];go_simp;rfl) rfl ⟨rfl,zLc _ _ _⟩
theorem rof_10 (w:World) :
  CB 20 #[.int .i64 10] w (.tuple #[.agg (zDc 10),.int .i64 0]):=by
 show CB 20 #[.int .i64 10] w (.tuple #[.agg #[.int .i64 10,.string ⟨#[68,101,110,115,101,51,50]⟩,.int .i64 10,.int .i64 32,.int .i64 7,.int .i64 96,.int .i64 (-101),.int .i64 90,.int .i64 6,.bool true],.int .i64 0])
 go_enter Tryz.func20,Tryz.ntmps20
 go_wp2
 exact bodyPost_ret (v:=.tuple #[.agg #[.int .i64 10,.string ⟨#[68,101,110,115,101,51,50]⟩,.int .i64 10,.int .i64 32,.int .i64 7,.int .i64 96,.int .i64 (-101),.int .i64 90,.int .i64 6,.bool true],.int .i64 0]) (by rw [results_cell_tmp rfl];go_simp;rfl) rfl ⟨rfl,zLc _ _ _⟩
theorem rof_11 (w:World) :
  CB 20 #[.int .i64 11] w (.tuple #[.agg (zDc 11),.int .i64 0]):=by
 show CB 20 #[.int .i64 11] w (.tuple #[.agg #[.int .i64 11,.string ⟨#[68,101,110,115,101,54,52]⟩,.int .i64 10,.int .i64 64,.int .i64 16,.int .i64 384,.int .i64 (-398),.int .i64 369,.int .i64 15,.bool true],.int .i64 0])
 go_enter Tryz.func20,Tryz.ntmps20
 go_wp2
 exact bodyPost_ret (v:=.tuple #[.agg #[.int .i64 11,.string ⟨#[68,101,110,115,101,54,52]⟩,.int .i64 10,.int .i64 64,.int .i64 16,.int .i64 384,.int .i64 (-398),.int .i64 369,.int .i64 15,.bool true],.int .i64 0]) (by rw [results_cell_tmp rfl];go_simp;rfl) rfl ⟨rfl,zLc _ _ _⟩
theorem rof_12 (w:World) :
  CB 20 #[.int .i64 12] w (.tuple #[.agg (zDc 12),.int .i64 0]):=by
 show CB 20 #[.int .i64 12] w (.tuple #[.agg #[.int .i64 12,.string ⟨#[68,101,110,115,101,49,50,56]⟩,.int .i64 10,.int .i64 128,.int .i64 34,.int .i64 6144,.int .i64 (-6176),.int .i64 6111,.int .i64 33,.bool true],.int .i64 0])
 go_enter Tryz.func20,Tryz.ntmps20
 go_wp2
 exact bodyPost_ret (v:=.tuple #[.agg #[.int .i64 12,.string ⟨#[68,101,110,115,101,49,50,56]⟩,.int .i64 10,.int .i64 128,.int .i64 34,.int .i64 6144,.int .i64 (-6176),.int .i64 6111,.int .i64 33,.bool true],.int .i64 0]) (by rw [results_cell_tmp rfl];go_simp;rfl) rfl ⟨rfl,zLc _ _ _⟩
theorem zO2 (n:Int)(w:World)(h:¬ okN n) :
  CB 20 #[.int .i64 n] w (.tuple #[.agg (zDc n),.int .i64 1]):=by
 rw [zWh h]
 have e1:(n==1)=false:=by unfold okN at h;simp only [beq_eq_false_iff_ne,ne_eq];omega
 have e2:(n==2)=false:=by unfold okN at h;simp only [beq_eq_false_iff_ne,ne_eq];omega
 have e3:(n==3)=false:=by unfold okN at h;simp only [beq_eq_false_iff_ne,ne_eq];omega
 have e4:(n==4)=false:=by unfold okN at h;simp only [beq_eq_false_iff_ne,ne_eq];omega
 have e5:(n==5)=false:=by unfold okN at h;simp only [beq_eq_false_iff_ne,ne_eq];omega
 have e6:(n==6)=false:=by unfold okN at h;simp only [beq_eq_false_iff_ne,ne_eq];omega
 have e7:(n==7)=false:=by unfold okN at h;simp only [beq_eq_false_iff_ne,ne_eq];omega
 have e8:(n==8)=false:=by unfold okN at h;simp only [beq_eq_false_iff_ne,ne_eq];omega
 have e9:(n==9)=false:=by unfold okN at h;simp only [beq_eq_false_iff_ne,ne_eq];omega
 have e10:(n==10)=false:=by unfold okN at h;simp only [beq_eq_false_iff_ne,ne_eq];omega
 have e11:(n==11)=false:=by unfold okN at h;simp only [beq_eq_false_iff_ne,ne_eq];omega
 have e12:(n==12)=false:=by unfold okN at h;simp only [beq_eq_false_iff_ne,ne_eq];omega
 clear h
 go_enter Tryz.func20,Tryz.ntmps20
 go_wp2
 exact bodyPost_ret (v:=.tuple #[.agg #[.int .i64 0,.string ⟨#[]⟩,.int .i64 0,.int .i64 0,.int .i64 0,.int .i64 0,.int .i64 0,.int .i64 0,.int .i64 0,.bool false],.int .i64 1]) (by rw [results_cell_tmp rfl];go_simp) rfl ⟨rfl,zLc _ _ _⟩
theorem zZ8 (n:Int)(w:World) :
  CB 20 #[.int .i64 n] w (.tuple #[.agg (zDc n),.int .i64 (zQd n)]):=by
 by_cases h:okN n
 ·rcases zEe h with rfl|rfl|rfl|rfl|rfl|rfl|rfl|rfl|rfl|rfl|rfl|rfl
  ·exact rof_1 w
  ·exact rof_2 w
  ·exact rof_3 w
  ·exact rof_4 w
  ·exact rof_5 w
  ·exact rof_6 w
  ·exact rof_7 w
  ·exact rof_8 w
  ·exact rof_9 w
  ·exact rof_10 w
  ·exact rof_11 w
  ·exact rof_12 w
 ·unfold zQd;rw [if_neg h];exact zO2 n w h
end Go.Proofs.YtahfkpjhlbiamaaGreatDoor
