/-
  Texts that the proof leans on, joined: Pm.
-/
import Derived.Test.YtpabnhlfbjkmaaaGreatDoorL37
import Derived.Test.YtpabnhlfbjkmaaaGreatDoorL1
set_option maxHeartbeats 8000000
set_option linter.unusedVariables false
set_option linter.unusedSectionVars false
set_option linter.unusedSimpArgs false
set_option maxRecDepth 20000
namespace Go.Proofs.YtpabnhlfbjkmaaaGreatDoor
open Go.RowKit
section
attribute [local irreducible] W4 Nz Nt
section
variable (n d:Int) (c:Int) (s g:Bool) (l:List UInt8) (x:Int) (T:List UInt8) (nm:ByteArray) (wd P ex lo m pa:Int) (dn:Bool) (w:World) (hT:Tab w)
include hT
theorem dmk_e (E:Int) (hE:(E != 0)=true) (c28:∀ W,Tab W->CB 34 #[.int .i64 n,.int .i64 d] W (.tuple #[IZ,.int .i64 E])) :
  CB 13 #[.int .i64 n,.int .i64 d,PV c s g l x] w (.tuple #[Z4,.int .i64 0,.int .i64 E]):=by
 have hsm:=cell_set_map
 unfold PV at *
 go_enter Tryz.func13,Tryz.ntmps13
 go_wp2_with (go_at_call 34;refine (c28 _ (hT.go bgo)).mono ?_;rintro r w1 ⟨rfl,hb1⟩;obtain ⟨_,_,_,_,hA1,_⟩:=wz w hb1;obtain ⟨_,_⟩:=zf hb1 (w.heap.size+1);clear hb1)
 exact bodyPost_ret (v:=.tuple #[Z4,.int .i64 0,.int .i64 E]) (by simp only [results,Tryz.results13];go_simp) rfl ⟨rfl,bgo⟩
variable (c28:∀ W,Tab W->CB 34 #[.int .i64 n,.int .i64 d] W (.tuple #[IDec n nm wd P ex lo m pa dn,.int .i64 0]))
include c28
theorem dmk_j (E:Int) (hE:(E != 0)=true) (c31:∀ W,Below w.heap.size w W->CB 37 #[PV c s g l x] W (.tuple #[.string (B T),.int .i64 E])) :
  CB 13 #[.int .i64 n,.int .i64 d,PV c s g l x] w (.tuple #[Z4,.int .i64 0,.int .i64 2]):=by
 have hsm:=cell_set_map
 unfold PV at *
 go_enter Tryz.func13,Tryz.ntmps13
 go_wp2_with (first
  | (go_at_call 34;refine (c28 _ (hT.go bgo)).mono ?_;rintro r w1 ⟨rfl,hb1⟩;obtain ⟨_,_,_,_,hA1,_⟩:=wz w hb1;obtain ⟨_,_⟩:=zf hb1 (w.heap.size+1);clear hb1)
  | (go_at_call 37;refine (c31 _ bgo).mono ?_;rintro r w2 ⟨rfl,hb2⟩;obtain ⟨_,_,_,_,hA2,_⟩:=wz w hb2;obtain ⟨_,_⟩:=zf hb2 (w.heap.size+1);obtain ⟨_,_⟩:=zf hb2 w1.heap.size;clear hb2))
 exact bodyPost_ret (v:=.tuple #[Z4,.int .i64 0,.int .i64 2]) (by simp only [results,Tryz.results13];go_simp) rfl ⟨rfl,bgo⟩
theorem dmk_k (R:Nat) (F E:Int) (vc vx:Int) (vs vg:Bool) (V0 V1 V2 V3:Int) (c31:∀ W,Below w.heap.size w W->CB 37 #[PV c s g l x] W (.tuple #[.string (B T),.int .i64 0]))
  (c32:∀ W,Tab W->CB 38 #[IDec n nm wd P ex lo m pa dn,.int .i64 d,PV c s g l x] W (.tuple #[.agg #[.int .i64 vc,.bool vs,.bool vg,.int .i64 vx,.int .u64 V0,.int .u64 V1,.int .u64 V2,.int .u64 V3],.int .i64 F]))
  (c34:∀ W,Tab W->CB 39 #[.int .i64 n,.agg #[.int .i64 vc,.bool vs,.bool vg,.int .i64 vx,.int .u64 V0,.int .u64 V1,.int .u64 V2,.int .u64 V3]] W (.tuple #[A4 R,.int .i64 E])) :
  CB 13 #[.int .i64 n,.int .i64 d,PV c s g l x] w (.tuple #[A4 R,.int .i64 F,.int .i64 E]):=by
 have hsm:=cell_set_map
 unfold PV A4 at *
 go_enter Tryz.func13,Tryz.ntmps13
 go_wp2_with (first
  | (go_at_call 34;refine (c28 _ (hT.go bgo)).mono ?_;rintro r w1 ⟨rfl,hb1⟩;obtain ⟨_,_,_,_,hA1,_⟩:=wz w hb1;obtain ⟨_,_⟩:=zf hb1 (w.heap.size+1);clear hb1)
  | (go_at_call 37;refine (c31 _ bgo).mono ?_;rintro r w2 ⟨rfl,hb2⟩;obtain ⟨_,_,_,_,hA2,_⟩:=wz w hb2;obtain ⟨_,_⟩:=zf hb2 (w.heap.size+1);obtain ⟨_,_⟩:=zf hb2 w1.heap.size;clear hb2)
  | (go_at_call 38;refine (c32 _ (hT.go bgo)).mono ?_;rintro r w3 ⟨rfl,hb3⟩;obtain ⟨_,_,_,_,hA3,_⟩:=wz w hb3;obtain ⟨_,_⟩:=zf hb3 (w.heap.size+1);obtain ⟨_,_⟩:=zf hb3 w1.heap.size;clear hb3)
  | (go_at_call 39;refine (c34 _ (hT.go bgo)).mono ?_;rintro r w4 ⟨rfl,hb4⟩;obtain ⟨_,_,_,_,hA4,_⟩:=wz w hb4;obtain ⟨_,_⟩:=zf hb4 (w.heap.size+1);obtain ⟨_,_⟩:=zf hb4 w1.heap.size;obtain ⟨_,_⟩:=zf hb4 w3.heap.size;clear hb4))
 exact bodyPost_ret (v:=.tuple #[A4 R,.int .i64 F,.int .i64 E]) (by unfold A4;simp only [results,Tryz.results13];go_simp) rfl ⟨rfl,bgo⟩
variable (bs:ByteArray) (pc px:Int) (ps pg:Bool) (pd:ByteArray)
end
section
variable (n:Int) (Bp:Nat) (c:Int) (s g ok:Bool) (x:Int) (k:Nat) (w:World) (hT:Tab w)
include hT
theorem dwx_e (E:Int) (hE:(E != 0)=true) (c21:∀ W,Tab W->CB 28 #[.int .i64 n,A4 Bp] W (.tuple #[DV c s g x k,.bool ok,.int .i64 E])) :
  CB 9 #[.int .i64 n,A4 Bp] w (.tuple #[.string (B []),.int .i64 E]):=by
 have hsm:=cell_set_map
 unfold DV A4 at *
 go_enter Tryz.func9,Tryz.ntmps9
 go_wp2_with (go_at_call 28;refine (c21 _ (hT.go bgo)).mono ?_;rintro r w1 ⟨rfl,hb1⟩;obtain ⟨_,_,_,_,hA1,_⟩:=wz w hb1;clear hb1)
 exact bodyPost_ret (v:=.tuple #[.string (B []),.int .i64 E]) (by simp only [results,Tryz.results9];go_simp;rfl) rfl ⟨rfl,bgo⟩
variable (hT10:Tb10 w) (c21:∀ W,Tab W->CB 28 #[.int .i64 n,A4 Bp] W (.tuple #[DV c s g x k,.bool ok,.int .i64 0]))
include hT10 c21
theorem dwx_o (hc:(c != 1)=true) (T:List UInt8) (c28:∀ W,Tb10 W->CB 29 #[DV c s g x k] W (.string (B T))) :
  CB 9 #[.int .i64 n,A4 Bp] w (.tuple #[.string (B T),.int .i64 0]):=by
 have hsm:=cell_set_map
 unfold DV A4 at *
 go_enter Tryz.func9,Tryz.ntmps9
 go_wp2_with (first
  | (go_at_call 28;refine (c21 _ (hT.go bgo)).mono ?_;rintro r w1 ⟨rfl,hb1⟩;obtain ⟨_,_,_,_,hA1,_⟩:=wz w hb1;clear hb1)
  | (go_at_call 29;refine (c28 _ (hT10.next bgo)).mono ?_;rintro r w2 ⟨rfl,hb2⟩;obtain ⟨_,_,_,_,hA2,_⟩:=wz w hb2;obtain ⟨_,_⟩:=zf hb2 w1.heap.size;clear hb2))
 exact bodyPost_ret (v:=.tuple #[.string (B T),.int .i64 0]) (by simp only [results,Tryz.results9];go_simp) rfl ⟨rfl,bgo⟩
variable (hc:c=1) (hk:k<2^256) (hx:-10000<=x/\x<=10000) (D:List UInt8) (hD:D.length<=660) (T:List UInt8) (hTl:T.length<=4000)
 (c20:∀ W v,Nt 4 k v W->CB 30 #[v] W (.tuple #[.string (B D),.int .i64 0]))
 (c29:∀ W,Tb10 W->CB 31 #[.string (B D),.int .i64 (x+((B D).size:Int)-1)] W (.string (B T)))
include hc hk hx hD hTl c20 c29
theorem dwx_f (hs:s=false) :
  CB 9 #[.int .i64 n,A4 Bp] w (.tuple #[.string (B T),.int .i64 0]):=by
 subst hc hs
 have hsz:((B D).size:Int)<=660:=by rw [B_size];omega
 clear hD
 have hsm:=cell_set_map
 unfold DV A4 at *
 go_enter Tryz.func9,Tryz.ntmps9
 go_wp2_with (first
  | (go_at_call 28;refine (c21 _ (hT.go bgo)).mono ?_;rintro r w1 ⟨rfl,hb1⟩;obtain ⟨_,_,_,_,hA1,_⟩:=wz w hb1;clear hb1)
  | (go_at_call 30;refine (c20 _ _ (nt_at hk (by first | (simp;done) | (simp;omega)) (by go_simp) (by go_simp) (by go_simp) (by go_simp))).mono ?_;rintro r w2 ⟨rfl,hb2⟩;obtain ⟨_,_,_,_,hA2,_⟩:=wz w hb2;obtain ⟨_,_⟩:=zf hb2 w1.heap.size;clear hb2)
  | (go_at_call 31;refine (c29 _ (hT10.next bgo)).mono ?_;rintro r w3 ⟨rfl,hb3⟩;obtain ⟨_,_,_,_,hA3,_⟩:=wz w hb3;obtain ⟨_,_⟩:=zf hb3 w1.heap.size;clear hb3))
 exact bodyPost_ret (v:=.tuple #[.string (B T),.int .i64 0]) (by simp only [results,Tryz.results9];go_simp) rfl ⟨rfl,bgo⟩
theorem dwx_t (hs:s=true) :
  CB 9 #[.int .i64 n,A4 Bp] w (.tuple #[.string (B (45 :: T)),.int .i64 0]):=by
 subst hc hs
 have hsz:((B D).size:Int)<=660:=by rw [B_size];omega
 have hst:((B T).size:Int)<=4000:=by rw [B_size];omega
 have eB:(⟨#[45]⟩:ByteArray)++B T=B (45 :: T):=B_app [45] T
 rw [← eB]
 clear hD hTl eB
 have hsm:=cell_set_map
 unfold DV A4 at *
 go_enter Tryz.func9,Tryz.ntmps9
 go_wp2_with (first
  | (go_at_call 28;refine (c21 _ (hT.go bgo)).mono ?_;rintro r w1 ⟨rfl,hb1⟩;obtain ⟨_,_,_,_,hA1,_⟩:=wz w hb1;clear hb1)
  | (go_at_call 30;refine (c20 _ _ (nt_at hk (by first | (simp;done) | (simp;omega)) (by go_simp) (by go_simp) (by go_simp) (by go_simp))).mono ?_;rintro r w2 ⟨rfl,hb2⟩;obtain ⟨_,_,_,_,hA2,_⟩:=wz w hb2;obtain ⟨_,_⟩:=zf hb2 w1.heap.size;clear hb2)
  | (go_at_call 31;refine (c29 _ (hT10.next bgo)).mono ?_;rintro r w3 ⟨rfl,hb3⟩;obtain ⟨_,_,_,_,hA3,_⟩:=wz w hb3;obtain ⟨_,_⟩:=zf hb3 w1.heap.size;clear hb3))
 exact bodyPost_ret (v:=.tuple #[.string ((⟨#[45]⟩:ByteArray)++B T),.int .i64 0]) (by simp only [results,Tryz.results9];go_simp) rfl ⟨rfl,bgo⟩
end
end
end Go.Proofs.YtpabnhlfbjkmaaaGreatDoor
