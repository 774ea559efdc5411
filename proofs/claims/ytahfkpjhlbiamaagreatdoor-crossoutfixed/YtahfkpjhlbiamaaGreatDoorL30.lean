/-
  Texts that the proof leans on.
-/
import Derived.Test.YtahfkpjhlbiamaaGreatDoorL28
import Derived.Test.YtahfkpjhlbiamaaGreatDoorL29
import Derived.Test.YtahfkpjhlbiamaaGreatDoorL1
set_option maxHeartbeats 8000000
set_option linter.unusedVariables false
set_option linter.unusedSectionVars false
set_option linter.unusedSimpArgs false
set_option maxRecDepth 20000
namespace Go.Proofs.YtahfkpjhlbiamaaGreatDoor
open Go.RowKit
section
attribute [local irreducible] W4
attribute [local go_sem ↓] ld18_eq
attribute [local go_sem] ld18_got
section
variable (n:Int)(nm:ByteArray)(num base wd pr ex le mo py:Int)(dn:Bool)(w:World)(hT:Tab w)
include hT
variable (G T:Int)(co pa:Nat)(hw0:0<=wd)(hw1:wd<=1000)(hG:wd/16+9=G)(hG0:0<=G)(hG1:G<=1000)(hTT:wd-1-G=T)(hT0:0<=T)(hT1:T<=1000)
  (cc:∀ W,CB 122 #[.int .i64 pr] W (A4 co))
  (cp:∀ W,CB 122 #[.int .i64 py] W (A4 pa))
include hw0 hw1 hG hG0 hG1 hTT hT0 hT1 cc cp
theorem dlay_d (bl:Int)(wo:Nat)(hp0:0<=pr)(hp1:pr<=1000)(hbl:G-5=bl)
  (c1:∀ W,Tab W->CB 53 #[.int .i64 n] W (.tuple #[IDec num nm wd pr ex le mo py true,.int .i64 0]))
  (cw:∀ W,CB 122 #[.int .i64 (pr-1)] W (A4 wo)) :
  CB 58 #[.int .i64 n] w (.tuple #[LD true G T bl wo co pa le mo,.int .i64 0]):=by
 have hsm:=cell_set_map
 go_enter Tryz.func58,Tryz.ntmps58
 go_wp2_with (go_at_call 53;refine (c1 _ (hT.alloc _)).mono ?_;rintro r w1 ⟨rfl,hb1⟩;obtain ⟨_,_,_,_,hA1,_⟩:=wz w hb1;clear hb1)
 have q0:w.heap.size<w1.heap.size+1:=by omega
 refine regL5 (gi:=w1.heap.size) (co:=co) (pa:=pa) (G:=G) (T:=T) (wd:=wd) (pr:=pr) (py:=py) (le:=le) (mo:=mo) (dn:=true) rfl rfl rfl hw0 hw1 hTT hT0 hT1 (by simp) (by go_simp) (by go_simp) (by go_simp) (by go_simp) (by go_simp) (by go_simp) cc cp ?_
 intro a5 w5 g h7 hg0 hg1 hcs hfs hsz hdf hF5 hb5
 have ha:=act_of slotsL5 20 rfl hsz hdf hF5
 rw [ha]
 simp only [slotsL5,List.foldl_cons,List.foldl_nil,Act.put,List.setIfInBounds_toArray,List.set_cons_succ,List.set_cons_zero,h7]
 clear ha hF5 hsz hdf h7
 simp only [World.size_alloc] at hg0
 have p0:w5.cell? ⟨g,0,none⟩=some (.bool true):=hcs 0 (show (0:Nat)<18 by decide)
 have p1:w5.cell? ⟨g,1,none⟩=some (.int .i64 G):=hcs 1 (show (1:Nat)<18 by decide)
 have p2:w5.cell? ⟨g,2,none⟩=some (.int .i64 T):=hcs 2 (show (2:Nat)<18 by decide)
 have p3:w5.cell? ⟨g,3,none⟩=some (.int .i64 0):=hcs 3 (show (3:Nat)<18 by decide)
 have p4:w5.cell? ⟨g,4,none⟩=some (.int .u64 0):=hcs 4 (show (4:Nat)<18 by decide)
 have p5:w5.cell? ⟨g,5,none⟩=some (.int .u64 0):=hcs 5 (show (5:Nat)<18 by decide)
 have p6:w5.cell? ⟨g,6,none⟩=some (.int .u64 0):=hcs 6 (show (6:Nat)<18 by decide)
 have p7:w5.cell? ⟨g,7,none⟩=some (.int .u64 0):=hcs 7 (show (7:Nat)<18 by decide)
 have p8:w5.cell? ⟨g,8,none⟩=some (.int .u64 (W4 co 0)):=hcs 8 (show (8:Nat)<18 by decide)
 have p9:w5.cell? ⟨g,9,none⟩=some (.int .u64 (W4 co 1)):=hcs 9 (show (9:Nat)<18 by decide)
 have p10:w5.cell? ⟨g,10,none⟩=some (.int .u64 (W4 co 2)):=hcs 10 (show (10:Nat)<18 by decide)
 have p11:w5.cell? ⟨g,11,none⟩=some (.int .u64 (W4 co 3)):=hcs 11 (show (11:Nat)<18 by decide)
 have p12:w5.cell? ⟨g,12,none⟩=some (.int .u64 (W4 pa 0)):=hcs 12 (show (12:Nat)<18 by decide)
 have p13:w5.cell? ⟨g,13,none⟩=some (.int .u64 (W4 pa 1)):=hcs 13 (show (13:Nat)<18 by decide)
 have p14:w5.cell? ⟨g,14,none⟩=some (.int .u64 (W4 pa 2)):=hcs 14 (show (14:Nat)<18 by decide)
 have p15:w5.cell? ⟨g,15,none⟩=some (.int .u64 (W4 pa 3)):=hcs 15 (show (15:Nat)<18 by decide)
 have p16:w5.cell? ⟨g,16,none⟩=some (.int .i64 le):=hcs 16 (show (16:Nat)<18 by decide)
 have p17:w5.cell? ⟨g,17,none⟩=some (.int .i64 mo):=hcs 17 (show (17:Nat)<18 by decide)
 clear hcs cc cp
 have n0:w.heap.size≠g:=by omega
 have n1:g≠w.heap.size:=by omega
 have n2:w1.heap.size≠g:=by omega
 have n3:g≠w1.heap.size:=by omega
 have q1:w1.heap.size<w1.heap.size+1:=by omega
 obtain ⟨_,_,_,_,hA5,_⟩:=wz w hb5;obtain ⟨_,_⟩:=zf hb5 w1.heap.size;clear hb5
 go_wp2_with (go_at_call 122;refine (cw _).mono ?_;rintro r w6 ⟨rfl,hb6⟩;obtain ⟨_,_,_,_,hA6,_⟩:=wz w hb6;obtain ⟨_,_⟩:=zf hb6 w1.heap.size;obtain ⟨_,_⟩:=zf hb6 g;clear hb6)
 exact bodyPost_ret (v:=.tuple #[LD true G T bl wo co pa le mo,.int .i64 0]) (by simp only [results,Tryz.results58];go_simp) rfl ⟨rfl,bgo⟩
end
end
end Go.Proofs.YtahfkpjhlbiamaaGreatDoor
