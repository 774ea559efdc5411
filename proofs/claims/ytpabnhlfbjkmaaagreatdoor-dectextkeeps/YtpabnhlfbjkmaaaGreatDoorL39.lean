/-
  Texts that the proof leans on, joined: Pq.
-/
import Derived.Test.YtpabnhlfbjkmaaaGreatDoorL37
import Derived.Test.YtpabnhlfbjkmaaaGreatDoorL1
set_option maxHeartbeats 8000000
set_option linter.unusedVariables false
set_option linter.unusedSectionVars false
set_option linter.unusedSimpArgs false
set_option maxRecDepth 20000
namespace Go.Proofs.YtpabnhlfbjkmaaaGreatDoor
open Go.RowKit
section
attribute [local irreducible] W4 Nz Nt
section
variable (n:Int) (nm:ByteArray) (wd P ex lo m pa:Int) (dn:Bool) (d:Int) (c:Int) (s g:Bool) (l:List UInt8) (x:Int) (w:World)
theorem dtm_1 (hT:Tab w) (hc:c=1) (A vk:Nat) (vc vx F E:Int) (vs vg:Bool)
  (c66:∀ W,CE 82 #[.string (B l)] W (Nt 2001 A))
  (c67:∀ W v,Tab W->Nt 2001 A v W->CB 81 #[.int .i64 n,.int .i64 d,.bool s,v,.int .i64 x] W (.tuple #[DV vc vs vg vx vk,.int .i64 F,.int .i64 E])) :
  CB 38 #[IDec n nm wd P ex lo m pa dn,.int .i64 d,PV c s g l x] w (.tuple #[DV vc vs vg vx vk,.int .i64 F]):=by
 subst hc
 have hsm:=cell_set_map
 unfold PV
 go_enter Tryz.func38,Tryz.ntmps38
 go_upto_region 2 with fail
 refine regDt2 (g3:=w.heap.size) (g5:=w.heap.size+1) rfl (hT.go bgo) rfl rfl rfl (by simp;omega) (by simp) (by go_simp) (by go_simp) (by go_simp) (by go_simp) c66 c67 ?_
 intro a2 w2 gd h8 h9 h10 hg hD hsz hdf hF2 hb2
 have ha:=act_of slotsADt2 19 rfl hsz hdf hF2
 rw [ha]
 simp only [slotsADt2,List.foldl_cons,List.foldl_nil,Act.put,List.setIfInBounds_toArray,List.set_cons_succ,List.set_cons_zero,h8,h9,h10]
 clear ha h8 h9 h10 hsz hdf hF2 c66 c67
 simp only [World.size_alloc] at hg
 obtain ⟨hgl,_,hcs,hfr⟩:=hD
 have p0:w2.cell? ⟨gd,0,none⟩=some (.int .i64 vc):=hcs 0 (by decide)
 have p1:w2.cell? ⟨gd,1,none⟩=some (.bool vs):=hcs 1 (by decide)
 have p2:w2.cell? ⟨gd,2,none⟩=some (.bool vg):=hcs 2 (by decide)
 have p3:w2.cell? ⟨gd,3,none⟩=some (.int .i64 vx):=hcs 3 (by decide)
 have p4:w2.cell? ⟨gd,4,none⟩=some (.int .u64 (W4 vk 0)):=hcs 4 (by decide)
 have p5:w2.cell? ⟨gd,5,none⟩=some (.int .u64 (W4 vk 1)):=hcs 5 (by decide)
 have p6:w2.cell? ⟨gd,6,none⟩=some (.int .u64 (W4 vk 2)):=hcs 6 (by decide)
 have p7:w2.cell? ⟨gd,7,none⟩=some (.int .u64 (W4 vk 3)):=hcs 7 (by decide)
 clear hcs
 obtain ⟨_,_,_,_,hA2,_⟩:=wz w hb2;obtain ⟨_,_⟩:=zf hb2 (w.heap.size+1);obtain ⟨_,_⟩:=zf hb2 (w.heap.size+1+1);clear hb2
 have hne:¬ gd=w.heap.size+1+1:=by omega
 go_wp2
 exact bodyPost_ret (v:=.tuple #[.agg #[.int .i64 vc,.bool vs,.bool vg,.int .i64 vx,.int .u64 (W4 vk 0),.int .u64 (W4 vk 1),.int .u64 (W4 vk 2),.int .u64 (W4 vk 3)],.int .i64 F]) (by simp only [results,Tryz.results38];go_simp) rfl ⟨rfl,bgo⟩
variable (hc:(c == 1)=false)
include hc
theorem dtm_l (hl:¬ ((B l).size:Int)<=pa) :
  CB 38 #[IDec n nm wd P ex lo m pa dn,.int .i64 d,PV c s g l x] w (.tuple #[.agg #[.int .i64 c,.bool s,.bool g,.int .i64 0,.int .u64 0,.int .u64 0,.int .u64 0,.int .u64 0],.int .i64 0]):=by
 have hsm:=cell_set_map
 unfold PV at *
 go_enter Tryz.func38,Tryz.ntmps38
 go_wp2_with fail
 exact bodyPost_ret (v:=.tuple #[.agg #[.int .i64 c,.bool s,.bool g,.int .i64 0,.int .u64 0,.int .u64 0,.int .u64 0,.int .u64 0],.int .i64 0]) (by simp only [results,Tryz.results38];go_simp) rfl ⟨rfl,bgo⟩
variable (hl:((B l).size:Int)<=pa) (A:Nat) (z:Nat->Int)
include hl
theorem dtm_c0 (c66:∀ W,Calls Tryz.prog 82 #[.string (B l)] W fun r w'=>(∃ a cap,r=.returned (.slice a 0 cap))/\Below W.heap.size W w') :
  CB 38 #[IDec n nm wd P ex lo m pa dn,.int .i64 d,PV c s g l x] w (.tuple #[.agg #[.int .i64 c,.bool s,.bool g,.int .i64 0,.int .u64 0,.int .u64 0,.int .u64 0,.int .u64 0],.int .i64 0]):=by
 have hsm:=cell_set_map
 have hcp:=copy0
 unfold PV at *
 go_enter Tryz.func38,Tryz.ntmps38
 go_upto_region 6 with fail
 go_region_with (first
  | (go_at_call 82;refine (c66 _).mono ?_;rintro r w1 ⟨⟨a,cap,rfl⟩,hb1⟩;obtain ⟨_,_,_,_,hA1,_⟩:=wz w hb1;obtain ⟨_,_⟩:=zf hb1 (w.heap.size+1);obtain ⟨_,_⟩:=zf hb1 (w.heap.size+1+1);obtain ⟨_,_⟩:=zf hb1 (w.heap.size+1+1+1);clear hb1))
 all_goals (
  go_wp2_with fail
  exact bodyPost_ret (v:=.tuple #[.agg #[.int .i64 c,.bool s,.bool g,.int .i64 0,.int .u64 0,.int .u64 0,.int .u64 0,.int .u64 0],.int .i64 0]) (by simp only [results,Tryz.results38];go_simp) rfl ⟨rfl,bgo⟩)
theorem dtm_c1 (c66:∀ W,Calls Tryz.prog 82 #[.string (B l)] W fun r w'=>(∃ b off cap,r=.returned (.slice (some ⟨b,off,none⟩) 1 cap)/\b<w'.heap.size/\w'.cell? ⟨b,off+0,none⟩=some (.int .u64 (z 0)))/\Below W.heap.size W w') :
  CB 38 #[IDec n nm wd P ex lo m pa dn,.int .i64 d,PV c s g l x] w (.tuple #[.agg #[.int .i64 c,.bool s,.bool g,.int .i64 0,.int .u64 (z 0),.int .u64 0,.int .u64 0,.int .u64 0],.int .i64 0]):=by
 have hsm:=cell_set_map
 have hcp:=copy1
 unfold PV at *
 go_enter Tryz.func38,Tryz.ntmps38
 go_upto_region 6 with fail
 go_region_with (first
  | (go_at_call 82;refine (c66 _).mono ?_;rintro r w1 ⟨⟨b,off,cap,rfl,hbb,u0⟩,hb1⟩;try simp only [Nat.add_zero] at u0;obtain ⟨_,_,_,_,hA1,_⟩:=wz w hb1;obtain ⟨_,_⟩:=zf hb1 (w.heap.size+1);obtain ⟨_,_⟩:=zf hb1 (w.heap.size+1+1);obtain ⟨_,_⟩:=zf hb1 (w.heap.size+1+1+1);clear hb1))
 all_goals (
  go_wp2_with fail
  exact bodyPost_ret (v:=.tuple #[.agg #[.int .i64 c,.bool s,.bool g,.int .i64 0,.int .u64 (z 0),.int .u64 0,.int .u64 0,.int .u64 0],.int .i64 0]) (by simp only [results,Tryz.results38];go_simp) rfl ⟨rfl,bgo⟩)
theorem dtm_c2 (c66:∀ W,Calls Tryz.prog 82 #[.string (B l)] W fun r w'=>(∃ b off cap,r=.returned (.slice (some ⟨b,off,none⟩) 2 cap)/\b<w'.heap.size/\w'.cell? ⟨b,off+0,none⟩=some (.int .u64 (z 0))/\w'.cell? ⟨b,off+1,none⟩=some (.int .u64 (z 1)))/\Below W.heap.size W w') :
  CB 38 #[IDec n nm wd P ex lo m pa dn,.int .i64 d,PV c s g l x] w (.tuple #[.agg #[.int .i64 c,.bool s,.bool g,.int .i64 0,.int .u64 (z 0),.int .u64 (z 1),.int .u64 0,.int .u64 0],.int .i64 0]):=by
 have hsm:=cell_set_map
 have hcp:=copy2
 unfold PV at *
 go_enter Tryz.func38,Tryz.ntmps38
 go_upto_region 6 with fail
 go_region_with (first
  | (go_at_call 82;refine (c66 _).mono ?_;rintro r w1 ⟨⟨b,off,cap,rfl,hbb,u0,u1⟩,hb1⟩;try simp only [Nat.add_zero] at u0;obtain ⟨_,_,_,_,hA1,_⟩:=wz w hb1;obtain ⟨_,_⟩:=zf hb1 (w.heap.size+1);obtain ⟨_,_⟩:=zf hb1 (w.heap.size+1+1);obtain ⟨_,_⟩:=zf hb1 (w.heap.size+1+1+1);clear hb1))
 all_goals (
  go_wp2_with fail
  exact bodyPost_ret (v:=.tuple #[.agg #[.int .i64 c,.bool s,.bool g,.int .i64 0,.int .u64 (z 0),.int .u64 (z 1),.int .u64 0,.int .u64 0],.int .i64 0]) (by simp only [results,Tryz.results38];go_simp) rfl ⟨rfl,bgo⟩)
theorem dtm_c3 (c66:∀ W,Calls Tryz.prog 82 #[.string (B l)] W fun r w'=>(∃ b off cap,r=.returned (.slice (some ⟨b,off,none⟩) 3 cap)/\b<w'.heap.size/\w'.cell? ⟨b,off+0,none⟩=some (.int .u64 (z 0))/\w'.cell? ⟨b,off+1,none⟩=some (.int .u64 (z 1))/\w'.cell? ⟨b,off+2,none⟩=some (.int .u64 (z 2)))/\Below W.heap.size W w') :
  CB 38 #[IDec n nm wd P ex lo m pa dn,.int .i64 d,PV c s g l x] w (.tuple #[.agg #[.int .i64 c,.bool s,.bool g,.int .i64 0,.int .u64 (z 0),.int .u64 (z 1),.int .u64 (z 2),.int .u64 0],.int .i64 0]):=by
 have hsm:=cell_set_map
 have hcp:=copy3
 unfold PV at *
 go_enter Tryz.func38,Tryz.ntmps38
 go_upto_region 6 with fail
 go_region_with (first
  | (go_at_call 82;refine (c66 _).mono ?_;rintro r w1 ⟨⟨b,off,cap,rfl,hbb,u0,u1,u2⟩,hb1⟩;try simp only [Nat.add_zero] at u0;obtain ⟨_,_,_,_,hA1,_⟩:=wz w hb1;obtain ⟨_,_⟩:=zf hb1 (w.heap.size+1);obtain ⟨_,_⟩:=zf hb1 (w.heap.size+1+1);obtain ⟨_,_⟩:=zf hb1 (w.heap.size+1+1+1);clear hb1))
 all_goals (
  go_wp2_with fail
  exact bodyPost_ret (v:=.tuple #[.agg #[.int .i64 c,.bool s,.bool g,.int .i64 0,.int .u64 (z 0),.int .u64 (z 1),.int .u64 (z 2),.int .u64 0],.int .i64 0]) (by simp only [results,Tryz.results38];go_simp) rfl ⟨rfl,bgo⟩)
theorem dtm_c4 (c66:∀ W,Calls Tryz.prog 82 #[.string (B l)] W fun r w'=>(∃ b off cap,r=.returned (.slice (some ⟨b,off,none⟩) 4 cap)/\b<w'.heap.size/\w'.cell? ⟨b,off+0,none⟩=some (.int .u64 (z 0))/\w'.cell? ⟨b,off+1,none⟩=some (.int .u64 (z 1))/\w'.cell? ⟨b,off+2,none⟩=some (.int .u64 (z 2))/\w'.cell? ⟨b,off+3,none⟩=some (.int .u64 (z 3)))/\Below W.heap.size W w') :
  CB 38 #[IDec n nm wd P ex lo m pa dn,.int .i64 d,PV c s g l x] w (.tuple #[.agg #[.int .i64 c,.bool s,.bool g,.int .i64 0,.int .u64 (z 0),.int .u64 (z 1),.int .u64 (z 2),.int .u64 (z 3)],.int .i64 0]):=by
 have hsm:=cell_set_map
 have hcp:=copy4
 unfold PV at *
 go_enter Tryz.func38,Tryz.ntmps38
 go_upto_region 6 with fail
 go_region_with (first
  | (go_at_call 82;refine (c66 _).mono ?_;rintro r w1 ⟨⟨b,off,cap,rfl,hbb,u0,u1,u2,u3⟩,hb1⟩;try simp only [Nat.add_zero] at u0;obtain ⟨_,_,_,_,hA1,_⟩:=wz w hb1;obtain ⟨_,_⟩:=zf hb1 (w.heap.size+1);obtain ⟨_,_⟩:=zf hb1 (w.heap.size+1+1);obtain ⟨_,_⟩:=zf hb1 (w.heap.size+1+1+1);clear hb1))
 all_goals (
  go_wp2_with fail
  exact bodyPost_ret (v:=.tuple #[.agg #[.int .i64 c,.bool s,.bool g,.int .i64 0,.int .u64 (z 0),.int .u64 (z 1),.int .u64 (z 2),.int .u64 (z 3)],.int .i64 0]) (by simp only [results,Tryz.results38];go_simp) rfl ⟨rfl,bgo⟩)
end
end
end Go.Proofs.YtpabnhlfbjkmaaaGreatDoor
