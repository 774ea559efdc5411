/-
  Texts that the proof leans on, joined: Pq, Pn, Pi, Po.
-/
import Derived.Test.YtpabnhlfbjkmaaaGreatDoorJ49
import Derived.Test.YtpabnhlfbjkmaaaGreatDoorJ1
import Derived.Test.YtpabnhlfbjkmaaaGreatDoorJ27
import Derived.Test.YtpabnhlfbjkmaaaGreatDoorJ6
import Derived.Test.YtpabnhlfbjkmaaaGreatDoorJ24
set_option maxHeartbeats 8000000
set_option linter.unusedVariables false
set_option linter.unusedSectionVars false
set_option linter.unusedSimpArgs false
set_option maxRecDepth 20000
namespace Go.Proofs.YtpabnhlfbjkmaaaGreatDoor
open Go.RowKit
section
attribute [local irreducible] W4 Nz Nt
section
variable (n:Int) (nm:ByteArray) (wd P ex lo m pa:Int) (dn:Bool) (d:Int) (c:Int) (s g:Bool) (l:List UInt8) (x:Int) (w:World)
theorem dtm_1 (hT:Tab w) (hc:c=1) (A vk:Nat) (vc vx F E:Int) (vs vg:Bool)
  (c66:∀ W,CE 82 #[.string (B l)] W (Nt 2001 A))
  (c67:∀ W v,Tab W->Nt 2001 A v W->CB 81 #[.int .i64 n,.int .i64 d,.bool s,v,.int .i64 x] W (.tuple #[DV vc vs vg vx vk,.int .i64 F,.int .i64 E])) :
  CB 38 #[IDec n nm wd P ex lo m pa dn,.int .i64 d,PV c s g l x] w (.tuple #[DV vc vs vg vx vk,.int .i64 F]):=by
 subst hc
 have hsm:=cell_set_map
 unfold PV
 go_enter Tryz.func38,Tryz.ntmps38
 go_upto_region 2 with fail
 refine regDt2 (g3:=w.heap.size) (g5:=w.heap.size+1) rfl (hT.go bgo) rfl rfl rfl (by simp;omega) (by simp) (by go_simp) (by go_simp) (by go_simp) (by go_simp) c66 c67 ?_
 intro a2 w2 gd h8 h9 h10 hg hD hsz hdf hF2 hb2
 have ha:=act_of slotsADt2 19 rfl hsz hdf hF2
 rw [ha]
 simp only [slotsADt2,List.foldl_cons,List.foldl_nil,Act.put,List.setIfInBounds_toArray,List.set_cons_succ,List.set_cons_zero,h8,h9,h10]
 clear ha h8 h9 h10 hsz hdf hF2 c66 c67
 simp only [World.size_alloc] at hg
 obtain ⟨hgl,_,hcs,hfr⟩:=hD
 have p0:w2.cell? ⟨gd,0,none⟩=some (.int .i64 vc):=hcs 0 (by decide)
 have p1:w2.cell? ⟨gd,1,none⟩=some (.bool vs):=hcs 1 (by decide)
 have p2:w2.cell? ⟨gd,2,none⟩=some (.bool vg):=hcs 2 (by decide)
 have p3:w2.cell? ⟨gd,3,none⟩=some (.int .i64 vx):=hcs 3 (by decide)
 have p4:w2.cell? ⟨gd,4,none⟩=some (.int .u64 (W4 vk 0)):=hcs 4 (by decide)
 have p5:w2.cell? ⟨gd,5,none⟩=some (.int .u64 (W4 vk 1)):=hcs 5 (by decide)
 have p6:w2.cell? ⟨gd,6,none⟩=some (.int .u64 (W4 vk 2)):=hcs 6 (by decide)
 have p7:w2.cell? ⟨gd,7,none⟩=some (.int .u64 (W4 vk 3)):=hcs 7 (by decide)
 clear hcs
 obtain ⟨_,_,_,_,hA2,_⟩:=wz w hb2;obtain ⟨_,_⟩:=zf hb2 (w.heap.size+1);obtain ⟨_,_⟩:=zf hb2 (w.heap.size+1+1);clear hb2
 have hne:¬ gd=w.heap.size+1+1:=by omega
 go_wp2
 exact bodyPost_ret (v:=.tuple #[.agg #[.int .i64 vc,.bool vs,.bool vg,.int .i64 vx,.int .u64 (W4 vk 0),.int .u64 (W4 vk 1),.int .u64 (W4 vk 2),.int .u64 (W4 vk 3)],.int .i64 F]) (by simp only [results,Tryz.results38];go_simp) rfl ⟨rfl,bgo⟩
variable (hc:(c == 1)=false)
include hc
theorem dtm_l (hl:¬ ((B l).size:Int)<=pa) :
  CB 38 #[IDec n nm wd P ex lo m pa dn,.int .i64 d,PV c s g l x] w (.tuple #[.agg #[.int .i64 c,.bool s,.bool g,.int .i64 0,.int .u64 0,.int .u64 0,.int .u64 0,.int .u64 0],.int .i64 0]):=by
 have hsm:=cell_set_map
 unfold PV at *
 go_enter Tryz.func38,Tryz.ntmps38
 go_wp2_with fail
 exact bodyPost_ret (v:=.tuple #[.agg #[.int .i64 c,.bool s,.bool g,.int .i64 0,.int .u64 0,.int .u64 0,.int .u64 0,.int .u64 0],.int .i64 0]) (by simp only [results,Tryz.results38];go_simp) rfl ⟨rfl,bgo⟩
variable (hl:((B l).size:Int)<=pa) (A:Nat) (z:Nat->Int)
include hl
theorem dtm_c0 (c66:∀ W,Calls Tryz.prog 82 #[.string (B l)] W fun r w'=>(∃ a cap,r=.returned (.slice a 0 cap))/\Below W.heap.size W w') :
  CB 38 #[IDec n nm wd P ex lo m pa dn,.int .i64 d,PV c s g l x] w (.tuple #[.agg #[.int .i64 c,.bool s,.bool g,.int .i64 0,.int .u64 0,.int .u64 0,.int .u64 0,.int .u64 0],.int .i64 0]):=by
 have hsm:=cell_set_map
 have hcp:=copy0
 unfold PV at *
 go_enter Tryz.func38,Tryz.ntmps38
 go_upto_region 6 with fail
 go_region_with (first
  | (go_at_call 82;refine (c66 _).mono ?_;rintro r w1 ⟨⟨a,cap,rfl⟩,hb1⟩;obtain ⟨_,_,_,_,hA1,_⟩:=wz w hb1;obtain ⟨_,_⟩:=zf hb1 (w.heap.size+1);obtain ⟨_,_⟩:=zf hb1 (w.heap.size+1+1);obtain ⟨_,_⟩:=zf hb1 (w.heap.size+1+1+1);clear hb1))
 all_goals (
  go_wp2_with fail
  exact bodyPost_ret (v:=.tuple #[.agg #[.int .i64 c,.bool s,.bool g,.int .i64 0,.int .u64 0,.int .u64 0,.int .u64 0,.int .u64 0],.int .i64 0]) (by simp only [results,Tryz.results38];go_simp) rfl ⟨rfl,bgo⟩)
theorem dtm_c1 (c66:∀ W,Calls Tryz.prog 82 #[.string (B l)] W fun r w'=>(∃ b off cap,r=.returned (.slice (some ⟨b,off,none⟩) 1 cap)/\b<w'.heap.size/\w'.cell? ⟨b,off+0,none⟩=some (.int .u64 (z 0)))/\Below W.heap.size W w') :
  CB 38 #[IDec n nm wd P ex lo m pa dn,.int .i64 d,PV c s g l x] w (.tuple #[.agg #[.int .i64 c,.bool s,.bool g,.int .i64 0,.int .u64 (z 0),.int .u64 0,.int .u64 0,.int .u64 0],.int .i64 0]):=by
 have hsm:=cell_set_map
 have hcp:=copy1
 unfold PV at *
 go_enter Tryz.func38,Tryz.ntmps38
 go_upto_region 6 with fail
 go_region_with (first
  | (go_at_call 82;refine (c66 _).mono ?_;rintro r w1 ⟨⟨b,off,cap,rfl,hbb,u0⟩,hb1⟩;try simp only [Nat.add_zero] at u0;obtain ⟨_,_,_,_,hA1,_⟩:=wz w hb1;obtain ⟨_,_⟩:=zf hb1 (w.heap.size+1);obtain ⟨_,_⟩:=zf hb1 (w.heap.size+1+1);obtain ⟨_,_⟩:=zf hb1 (w.heap.size+1+1+1);clear hb1))
 all_goals (
  go_wp2_with fail
  exact bodyPost_ret (v:=.tuple #[.agg #[.int .i64 c,.bool s,.bool g,.int .i64 0,.int .u64 (z 0),.int .u64 0,.int .u64 0,.int .u64 0],.int .i64 0]) (by simp only [results,Tryz.results38];go_simp) rfl ⟨rfl,bgo⟩)
theorem dtm_c2 (c66:∀ W,Calls Tryz.prog 82 #[.string (B l)] W fun r w'=>(∃ b off cap,r=.returned (.slice (some ⟨b,off,none⟩) 2 cap)/\b<w'.heap.size/\w'.cell? ⟨b,off+0,none⟩=some (.int .u64 (z 0))/\w'.cell? ⟨b,off+1,none⟩=some (.int .u64 (z 1)))/\Below W.heap.size W w') :
  CB 38 #[IDec n nm wd P ex lo m pa dn,.int .i64 d,PV c s g l x] w (.tuple #[.agg #[.int .i64 c,.bool s,.bool g,.int .i64 0,.int .u64 (z 0),.int .u64 (z 1),.int .u64 0,.int .u64 0],.int .i64 0]):=by
 have hsm:=cell_set_map
 have hcp:=copy2
 unfold PV at *
 go_enter Tryz.func38,Tryz.ntmps38
 go_upto_region 6 with fail
 go_region_with (first
  | (go_at_call 82;refine (c66 _).mono ?_;rintro r w1 ⟨⟨b,off,cap,rfl,hbb,u0,u1⟩,hb1⟩;try simp only [Nat.add_zero] at u0;obtain ⟨_,_,_,_,hA1,_⟩:=wz w hb1;obtain ⟨_,_⟩:=zf hb1 (w.heap.size+1);obtain ⟨_,_⟩:=zf hb1 (w.heap.size+1+1);obtain ⟨_,_⟩:=zf hb1 (w.heap.size+1+1+1);clear hb1))
 all_goals (
  go_wp2_with fail
  exact bodyPost_ret (v:=.tuple #[.agg #[.int .i64 c,.bool s,.bool g,.int .i64 0,.int .u64 (z 0),.int .u64 (z 1),.int .u64 0,.int .u64 0],.int .i64 0]) (by simp only [results,Tryz.results38];go_simp) rfl ⟨rfl,bgo⟩)
theorem dtm_c3 (c66:∀ W,Calls Tryz.prog 82 #[.string (B l)] W fun r w'=>(∃ b off cap,r=.returned (.slice (some ⟨b,off,none⟩) 3 cap)/\b<w'.heap.size/\w'.cell? ⟨b,off+0,none⟩=some (.int .u64 (z 0))/\w'.cell? ⟨b,off+1,none⟩=some (.int .u64 (z 1))/\w'.cell? ⟨b,off+2,none⟩=some (.int .u64 (z 2)))/\Below W.heap.size W w') :
  CB 38 #[IDec n nm wd P ex lo m pa dn,.int .i64 d,PV c s g l x] w (.tuple #[.agg #[.int .i64 c,.bool s,.bool g,.int .i64 0,.int .u64 (z 0),.int .u64 (z 1),.int .u64 (z 2),.int .u64 0],.int .i64 0]):=by
 have hsm:=cell_set_map
 have hcp:=copy3
 unfold PV at *
 go_enter Tryz.func38,Tryz.ntmps38
 go_upto_region 6 with fail
 go_region_with (first
  | (go_at_call 82;refine (c66 _).mono ?_;rintro r w1 ⟨⟨b,off,cap,rfl,hbb,u0,u1,u2⟩,hb1⟩;try simp only [Nat.add_zero] at u0;obtain ⟨_,_,_,_,hA1,_⟩:=wz w hb1;obtain ⟨_,_⟩:=zf hb1 (w.heap.size+1);obtain ⟨_,_⟩:=zf hb1 (w.heap.size+1+1);obtain ⟨_,_⟩:=zf hb1 (w.heap.size+1+1+1);clear hb1))
 all_goals (
  go_wp2_with fail
  exact bodyPost_ret (v:=.tuple #[.agg #[.int .i64 c,.bool s,.bool g,.int .i64 0,.int .u64 (z 0),.int .u64 (z 1),.int .u64 (z 2),.int .u64 0],.int .i64 0]) (by simp only [results,Tryz.results38];go_simp) rfl ⟨rfl,bgo⟩)
theorem dtm_c4 (c66:∀ W,Calls Tryz.prog 82 #[.string (B l)] W fun r w'=>(∃ b off cap,r=.returned (.slice (some ⟨b,off,none⟩) 4 cap)/\b<w'.heap.size/\w'.cell? ⟨b,off+0,none⟩=some (.int .u64 (z 0))/\w'.cell? ⟨b,off+1,none⟩=some (.int .u64 (z 1))/\w'.cell? ⟨b,off+2,none⟩=some (.int .u64 (z 2))/\w'.cell? ⟨b,off+3,none⟩=some (.int .u64 (z 3)))/\Below W.heap.size W w') :
  CB 38 #[IDec n nm wd P ex lo m pa dn,.int .i64 d,PV c s g l x] w (.tuple #[.agg #[.int .i64 c,.bool s,.bool g,.int .i64 0,.int .u64 (z 0),.int .u64 (z 1),.int .u64 (z 2),.int .u64 (z 3)],.int .i64 0]):=by
 have hsm:=cell_set_map
 have hcp:=copy4
 unfold PV at *
 go_enter Tryz.func38,Tryz.ntmps38
 go_upto_region 6 with fail
 go_region_with (first
  | (go_at_call 82;refine (c66 _).mono ?_;rintro r w1 ⟨⟨b,off,cap,rfl,hbb,u0,u1,u2,u3⟩,hb1⟩;try simp only [Nat.add_zero] at u0;obtain ⟨_,_,_,_,hA1,_⟩:=wz w hb1;obtain ⟨_,_⟩:=zf hb1 (w.heap.size+1);obtain ⟨_,_⟩:=zf hb1 (w.heap.size+1+1);obtain ⟨_,_⟩:=zf hb1 (w.heap.size+1+1+1);clear hb1))
 all_goals (
  go_wp2_with fail
  exact bodyPost_ret (v:=.tuple #[.agg #[.int .i64 c,.bool s,.bool g,.int .i64 0,.int .u64 (z 0),.int .u64 (z 1),.int .u64 (z 2),.int .u64 (z 3)],.int .i64 0]) (by simp only [results,Tryz.results38];go_simp) rfl ⟨rfl,bgo⟩)
end
end
theorem ndig_z {K:Nat} {v:Value} {w:World} (hK:K<=1000) (h:Nt K 0 v w):CB 30 #[v] w (.tuple #[.string (B [48]),.int .i64 0]):=by
 obtain ⟨a,n,c,z,rfl,hn,hN,hz⟩:=h
 have hle:=sizeL_le z n
 refine (ndigits_any a n c z w (by omega) hN (by omega)).mono fun r w' ⟨L,hL,he,hB⟩=>⟨?_,hB⟩
 rw [he,hz] at *
 rw [decL_more (L':=0) (by decide) hL (by decide)]
 rfl
theorem ndig_wt {K k:Nat} {v:Value} {w:World} (hK:K<=1000) (hk:k<2^256) (h:Nt K k v w):CB 30 #[v] w (.tuple #[.string (B (wtD k)),.int .i64 0]):=by
 unfold wtD
 by_cases h0:k=0
 ·rw [if_pos h0]
  subst h0
  exact ndig_z hK h
 ·rw [if_neg h0]
  exact ndig_v hK hk h0 h
theorem jn_word {f:DF} (hf:f.ok) {v:Dat} (h:vI f v) (hc:¬ v.c=1):jnP ⟨v.c,v.s,v.g,dcL v.k,0⟩:=by
 obtain ⟨h1,h2⟩:=xt_cut hf h
 obtain ⟨f1,f2,f3⟩:=dcL_facts (vI_k hf h)
 unfold xtT xtP at h1
 rw [if_neg hc,if_neg hc] at h1
 exact ⟨by show (dcL v.k).length<=4000;omega,h1⟩
theorem dword {f:DF} (hf:f.ok) {v:Dat} (h:vI f v) (hc:¬ v.c=1) (w:World) (hT10:Tb10 w) :
  CB 29 #[v.v] w (.string (B (xtT v))):=by
 have hk:=vI_k hf h
 have hj:=jn_word hf h hc
 have c31:=fun W (hb:Below w.heap.size w W)=>join_y ⟨v.c,v.s,v.g,dcL v.k,0⟩ W (hT10.next hb) ⟨by show (-9223372036854775808:Int)<=0;decide,by show (0:Int)<=9223372036854775807;decide⟩ hj
 have e:xtT v=texT v.c v.s v.g (dcL v.k) 0:=if_neg hc
 rw [e]
 obtain ⟨c,s,g,x,k⟩:=v
 dsimp only at *
 by_cases h0:k=0
 ·have ed:dcL k=[]:=by rw [h0];kernel_rfl
  rw [ed] at c31 ⊢
  exact dwd_0 c s g x k w _ h0 c31
 ·exact dwd_k c s g x k w _ (dcL k) hk h0 (fun W v hv=>ndig_v (by decide) hk h0 hv) c31
theorem dwr16 (n:Int) (Bp:Nat) (w:World) (hB:Bp<2^256) (hT:Tab w) (hT10:Tb10 w) :
  CB 9 #[.int .i64 n,A4 Bp] w (.tuple #[.string (B (dwT n Bp)),.int .i64 (vUE n Bp)]):=by
 have c21:=fun W hW=>dunpk14 n Bp hB W hW
 have hk:=vUD_256 n Bp
 unfold dwT
 by_cases hg:goodD n Bp
 ·have e1:vUE n Bp=0:=if_pos hg
  have e2:vUD n Bp=vM (fD n) Bp:=if_pos hg
  rw [if_pos hg,e1]
  rw [e1] at c21
  have hi:=vM_is (fD_ok n) Bp
  rw [← e2] at hi ⊢
  obtain ⟨m0,m1,l0,l1,lm,j0,j1⟩:=ok_m (fD_ok n)
  generalize vUD n Bp=v at *
  by_cases hc:v.c=1
  ·have hx:-10000<=v.x/\v.x<=10000:=by
    rcases hi with ⟨_,_,_,a,b⟩ | ⟨a,_⟩ | ⟨a,_⟩
    ·unfold DF.m at *
     omega
    ·rw [hc] at a;exact absurd a (by decide)
    ·rw [hc] at a;exact absurd a (by decide)
   have eT:xtT v=sgL v.s++unT (wtD v.k) (v.x+(wtD v.k).length-1):=if_pos hc
   rw [eT]
   have hl:1<=(wtD v.k).length/\(wtD v.k).length<=660:=by
    unfold wtD
    by_cases h0:v.k=0
    ·rw [if_pos h0];decide
    ·rw [if_neg h0]
     exact ⟨List.length_pos_iff.2 (dcL_ne h0 hk),(dcL_facts hk).2.2⟩
   have hu:=unT_brief (D:=wtD v.k) (e:=v.x+(wtD v.k).length-1) (by omega)
   have c20:=fun W u (h:Nt 4 v.k u W)=>ndig_wt (by decide) hk h
   have c29:=fun W hW=>ltext_v (wtD v.k) (v.x+(wtD v.k).length-1) W hW (by omega) hl.1 (by omega)
   rw [show ((wtD v.k).length:Int)=((B (wtD v.k)).size:Int) by rw [B_size]] at c29 hu ⊢
   obtain ⟨c,s,g,x,k⟩:=v
   dsimp only at *
   cases s
   ·exact dwx_f n Bp c false g _ x k w hT hT10 c21 hc hk hx (wtD k) hl.2 (unT (wtD k) (x+((B (wtD k)).size:Int)-1)) (by omega) c20 c29 rfl
   ·exact dwx_t n Bp c true g _ x k w hT hT10 c21 hc hk hx (wtD k) hl.2 (unT (wtD k) (x+((B (wtD k)).size:Int)-1)) (by omega) c20 c29 rfl
  ·have c28:=fun W hW=>dword (fD_ok n) hi hc W hW
   obtain ⟨c,s,g,x,k⟩:=v
   exact dwx_o n Bp c s g _ x k w hT hT10 c21 (by simpa using hc) _ c28
 ·have e1:vUE n Bp=1:=if_neg hg
  rw [if_neg hg,e1]
  rw [e1] at c21
  exact dwx_e n Bp _ _ _ _ _ _ w hT 1 (by decide) c21
theorem pay_len {l:List UInt8} (h:gdD l) (j:Nat):10^j<=dV l↔¬ l.length<=j:=by
 have hd:=gdD_all h
 have h1:=(dV_lt hd).1
 constructor
 ·intro hh hl
  have:=Nat.pow_le_pow_right (show 1<=10 by decide) hl
  omega
 ·intro hl
  rcases h with rfl | ⟨_,h0⟩
  ·exact absurd (Nat.zero_le _) hl
  ·have h2:=dV_ge hd h0 (fun e=>hl (by rw [e];exact Nat.zero_le _))
   exact Nat.le_trans (Nat.pow_le_pow_right (by decide) (by omega)) h2
theorem nz_k {K A k0:Nat} {v:Value} {w:World} (h:Nz K A v w) (hA:A<2^256) (h0:k0<=4) (h1:bl A<=64*k0) (h2:k0=0∨64*(k0-1)<bl A) :
  ∃ a cap z,v=.slice a k0 cap/\Num w a k0 cap z/\∀ i,i<4->z i=W4 A i:=by
 obtain ⟨a,k,cap,z,rfl,hk,hN,hv,hs⟩:=h
 have e1:=(size_bl (m:=k0) hN.2.2.1 hv).2 h1
 have e2:k0<=k:=by
  rcases h2 with h2 | h2
  ·omega
  ·by_cases hh:k0<=k
   ·exact hh
   ·have:=(size_bl (m:=k0-1) hN.2.2.1 hv).1 (by omega)
    omega
 obtain rfl:k=k0:=by omega
 have hv4:val z 4=(A:Int):=by rw [val_more hN.2.2.2.1 4 h0,hv]
 exact ⟨a,cap,z,rfl,hN,val_inj hN.2.2.1 (W4_words A) 4 (by rw [hv4,W4_val4 hA])⟩
theorem W4_high {A k i:Nat} (h:bl A<=64*k) (hi:k<=i):W4 A i=0:=by
 have h1:=bl_le.1 h
 have h2:(2:Nat)^(64*k)<=2^(64*i):=Nat.pow_le_pow_right (by decide) (by omega)
 unfold W4
 rw [Nat.div_eq_of_lt (by omega)]
 rfl
theorem nz_some {K A k0:Nat} {v:Value} {w:World} (h:Nz K A v w) (hA:A<2^256) (h0:k0<=4) (h1:bl A<=64*k0) (h2:64*(k0-1)<bl A) :
  ∃ b off cap,v=.slice (some ⟨b,off,none⟩) k0 cap/\b<w.heap.size/\∀ i,i<k0->w.cell? ⟨b,off+i,none⟩=some (.int .u64 (W4 A i)):=by
 obtain ⟨a,cap,z,rfl,⟨n1,n2,n3,n4,n5⟩,hz⟩:=nz_k h hA h0 h1 (Or.inr h2)
 rcases n5 with ⟨rfl,rfl⟩ | ⟨b,off,rfl,hb,hc⟩
 ·obtain rfl:k0=0:=by omega
  omega
 ·exact ⟨b,off,cap,rfl,hb,fun i hi=>by rw [← hz i (by omega)];exact hc i hi⟩
theorem dtm_c {n:Int} {nm:ByteArray} {wd P ex lo m pa:Int} {dn:Bool} {d c:Int} {s g:Bool} {l:List UInt8} {x:Int} {w:World} (hc:¬ c=1) (hl:(l.length:Int)<=pa) (hd:l.all dg=true) (hl2:l.length<=4000) (hk:dV l<2^256) :
  CB 38 #[IDec n nm wd P ex lo m pa dn,.int .i64 d,PV c s g l x] w (.tuple #[DV c s g 0 (dV l),.int .i64 0]):=by
 have c66:=fun W=>natural16 l W hd hl2
 have hl':((B l).size:Int)<=pa:=by rw [B_size];exact hl
 have hc':(c == 1)=false:=by simpa using hc
 have h256:=bl_le.2 hk
 generalize dV l=A at *
 unfold DV
 by_cases b0:bl A<=64*0
 ·rw [W4_high b0 (Nat.zero_le _),W4_high b0 (Nat.zero_le _),W4_high b0 (Nat.zero_le _),W4_high b0 (Nat.zero_le _)]
  refine dtm_c0 n nm wd P ex lo m pa dn d c s g l x w hc' hl' fun W=>(c66 W).mono fun r w' ⟨v,e1,e2,e3⟩=>⟨?_,e3⟩
  obtain ⟨a,cap,z,rfl,_⟩:=nz_k e2 hk (by decide) b0 (Or.inl rfl)
  exact ⟨a,cap,e1⟩
 by_cases b1:bl A<=64*1
 ·rw [W4_high b1 (by decide:1<=1),W4_high b1 (by decide:1<=2),W4_high b1 (by decide:1<=3)]
  refine dtm_c1 n nm wd P ex lo m pa dn d c s g l x w hc' hl' (W4 A) fun W=>(c66 W).mono fun r w' ⟨v,e1,e2,e3⟩=>⟨?_,e3⟩
  obtain ⟨b,off,cap,rfl,hb,h⟩:=nz_some e2 hk (by decide) b1 (by omega)
  exact ⟨b,off,cap,e1,hb,h 0 (by decide)⟩
 by_cases b2:bl A<=64*2
 ·rw [W4_high b2 (by decide:2<=2),W4_high b2 (by decide:2<=3)]
  refine dtm_c2 n nm wd P ex lo m pa dn d c s g l x w hc' hl' (W4 A) fun W=>(c66 W).mono fun r w' ⟨v,e1,e2,e3⟩=>⟨?_,e3⟩
  obtain ⟨b,off,cap,rfl,hb,h⟩:=nz_some e2 hk (by decide) b2 (by omega)
  exact ⟨b,off,cap,e1,hb,h 0 (by decide),h 1 (by decide)⟩
 by_cases b3:bl A<=64*3
 ·rw [W4_high b3 (by decide:3<=3)]
  refine dtm_c3 n nm wd P ex lo m pa dn d c s g l x w hc' hl' (W4 A) fun W=>(c66 W).mono fun r w' ⟨v,e1,e2,e3⟩=>⟨?_,e3⟩
  obtain ⟨b,off,cap,rfl,hb,h⟩:=nz_some e2 hk (by decide) b3 (by omega)
  exact ⟨b,off,cap,e1,hb,h 0 (by decide),h 1 (by decide),h 2 (by decide)⟩
 ·refine dtm_c4 n nm wd P ex lo m pa dn d c s g l x w hc' hl' (W4 A) fun W=>(c66 W).mono fun r w' ⟨v,e1,e2,e3⟩=>⟨?_,e3⟩
  obtain ⟨b,off,cap,rfl,hb,h⟩:=nz_some (k0:=4) e2 hk (by decide) (by omega) (by omega)
  exact ⟨b,off,cap,e1,hb,h 0 (by decide),h 1 (by decide),h 2 (by decide),h 3 (by decide)⟩
theorem datum16 {n d:Int} (h1:decN n) (h2:knB d) {p:Prt} (h3:gdP p) {nm:ByteArray} {wd P ex lo m:Int} {dn:Bool} {w:World} (hT:Tab w) :
  CB 38 #[IDec n nm wd P ex lo m (3*((fD n).j:Int)) dn,.int .i64 d,p.v] w (.tuple #[(dmD n d p).v,.int .i64 (dmF n d p)]):=by
 obtain ⟨g1,g2⟩:=gd_dig h3
 have hbl:=dig_bl g1 g2
 have hi:=dm_is (d:=d) h1 h2 h3 (by omega)
 have hk:=vI_k (fD_ok n) hi
 have c66:=fun W=>natural16 p.dig W g1 g2
 have hpl:=pay_len h3.1 (3*(fD n).j)
 obtain ⟨c,s,g,l,x⟩:=p
 obtain ⟨hg,hp⟩:=h3
 unfold dmF
 unfold dmD at hk ⊢
 dsimp only at *
 by_cases hc:c=1
 ·rw [if_pos hc,if_pos hc]
  exact dtm_1 n nm wd P ex lo m _ dn d c s g l x w hT hc (dV l) _ _ _ _ _ _ _ (fun W=>(c66 W).mono fun r w' ⟨v,e1,e2,e3⟩=>⟨v,e1,e2.nt.more (by decide),e3⟩) (fun W v hW hv=>drk_v hW hv)
 ·rw [if_neg hc] at hk ⊢
  rw [if_neg hc]
  by_cases hl:l.length<=3*(fD n).j
  ·have e:(if c=3 then (if 10^(3*(fD n).j)<=dV l then 0 else dV l) else 0)=dV l:=by
    rw [if_neg (fun hh=>(hpl.1 hh) hl)]
    rcases hp with ⟨q1,_⟩ | ⟨q1,q2,q3,q4⟩ | ⟨q1,q2,q3⟩
    ·exact absurd q1 hc
    ·rw [if_neg (by rw [q1];decide),q3,dV_nil]
    ·rw [if_pos q1]
   rw [e] at hk ⊢
   exact dtm_c (l:=l) hc (by omega) g1 g2 hk
  ·have e:(if c=3 then (if 10^(3*(fD n).j)<=dV l then 0 else dV l) else 0)=0:=by
    rw [if_pos (hpl.2 hl)]
    split <;> rfl
   rw [e]
   unfold Dat.v DV
   simp only [W4_zero]
   exact dtm_l n nm wd P ex lo m _ dn d c s g l x w (by simpa using hc) (by rw [B_size];omega)
theorem dmk16 (n d:Int) (p:Prt) (w:World) (he:-9223372036854775808<=p.ex/\p.ex<=9223372036854775807) (hT:Tab w) (hT10:Tb10 w) :
  CB 13 #[.int .i64 n,.int .i64 d,p.v] w (.tuple #[A4 (kmV n d p),.int .i64 (kmF n d p),.int .i64 (kmE n d p)]):=by
 have hZ:A4 0=Z4:=by unfold A4;simp only [W4_zero]
 unfold kmV kmF
 by_cases h12:decN n/\knB d
 ·obtain ⟨h1,h2⟩:=h12
  have c28:=fun W hW=>dck_good (n:=n) (d:=d) (w:=W) hW h1 h2
  by_cases h3:gdP p
  ·have e:kmE n d p=0:=by unfold kmE;rw [if_pos ⟨h1,h2⟩,if_pos h3]
   rw [if_pos e,if_pos e,e]
   have c31:=fun W (hb:Below w.heap.size w W)=>join_y p W (hT10.next hb) he (jn_of_gd h3)
   obtain ⟨g1,g2⟩:=gd_dig h3
   have hbl:=dig_bl g1 g2
   have hi:=dm_is (d:=d) h1 h2 h3 (by omega)
   have hk:=vI_k (fD_ok n) hi
   have c32:=fun W (hW:Tab W)=>datum16 h1 h2 h3 (nm:=nameN n) (wd:=widthN n) (P:=3*((fD n).j:Int)+1) (ex:=expN n) (lo:=(fD n).l) (m:=(fD n).m) (dn:=denseN n) hW
   have c34:=fun W hW=>dpack14 n (dmD n d p) hk W hW
   have e3:vPE n (dmD n d p)=0:=by unfold vPE;rw [if_pos h1,if_pos hi]
   rw [e3] at c34
   generalize dmD n d p=D at *
   obtain ⟨c,s,g,l,x⟩:=p
   exact dmk_k n d c s g l x _ _ _ _ _ _ _ _ _ w hT c28 _ _ _ _ _ _ _ _ _ _ _ c31 c32 c34
  ·have e:kmE n d p=2:=by unfold kmE;rw [if_pos ⟨h1,h2⟩,if_neg h3]
   rw [if_neg (by omega),if_neg (by omega),e,hZ]
   have c31:=fun W (hb:Below w.heap.size w W)=>join_n p W (hT10.next hb) he (fun h=>h3 (gd_of_jn h))
   obtain ⟨c,s,g,l,x⟩:=p
   exact dmk_j n d c s g l x _ _ _ _ _ _ _ _ _ w hT c28 1 (by decide) c31
 ·have e:kmE n d p=1:=if_neg h12
  rw [if_neg (by omega),if_neg (by omega),e,hZ]
  obtain ⟨c,s,g,l,x⟩:=p
  exact dmk_e n d c s g l x w hT 1 (by decide) (fun W hW=>dck_bad hW h12)
theorem drd16 (n d:Int) (l:List UInt8) (w:World) (hl:l.length<10001) (hT:Tab w) (hT10:Tb10 w) :
  CB 11 #[.int .i64 n,.int .i64 d,.string (B l)] w (.tuple #[A4 (krV n d l),.int .i64 (krF n d l),.int .i64 (krE n d l)]):=by
 have hZ:A4 0=Z4:=by unfold A4;simp only [W4_zero]
 unfold krV krF
 by_cases h12:decN n/\knB d
 ·have c28:=fun W hW=>dck_good (n:=n) (d:=d) (w:=W) hW h12.1 h12.2
  have c30:=fun W=>cut_any l W hl
  by_cases h3:cutE l=0
  ·have e:krE n d l=kmE n d (cutV l):=by unfold krE;rw [if_pos h12,if_pos h3]
   have hp:=cutE_zero h3
   have c14:=fun W (hb:Below w.heap.size w W)=>dmk16 n d (cutV l) W (cut_exD hp) (hT.go hb) (hT10.next hb)
   rw [e]
   rw [h3] at c30
   by_cases h0:kmE n d (cutV l)=0
   ·rw [if_pos h0,if_pos h0]
    generalize cutV l=p at *
    obtain ⟨c,s,g,q,x⟩:=p
    exact drd_k n d _ _ _ _ _ _ _ _ w hT c28 (B l) _ _ _ _ _ _ _ _ c30 c14
   ·rw [if_neg h0,if_neg h0]
    obtain ⟨q1,q2⟩:=km_not h0
    rw [q1,q2] at c14
    generalize cutV l=p at *
    obtain ⟨c,s,g,q,x⟩:=p
    exact drd_k n d _ _ _ _ _ _ _ _ w hT c28 (B l) _ _ _ _ _ _ _ _ c30 c14
  ·have e:krE n d l=cutE l:=by unfold krE;rw [if_pos h12,if_neg h3]
   rw [if_neg (by omega),if_neg (by omega),e,hZ]
   generalize cutV l=p at *
   obtain ⟨c,s,g,q,x⟩:=p
   exact drd_c n d _ _ _ _ _ _ _ _ w hT c28 (B l) _ _ _ _ _ _ (by simpa using h3) c30
 ·have e:krE n d l=1:=if_neg h12
  rw [if_neg (by omega),if_neg (by omega),e,hZ]
  exact drd_e n d w hT (B l) 1 (by decide) (fun W hW=>dck_bad hW h12)
def TTb (w:World):Prop:=Tab w/\Tb10 w
theorem dtxC:DtxC TTb where
 next:=fun w w' hT hb=>⟨hT.1.go hb,hT.2.next hb⟩
 t10:=fun w hT=>hT.2
 wr:=fun n Bp W hB hT=>dwr16 n Bp W hB hT.1 hT.2
theorem dtxR:DtxR TTb where
 rd:=fun n d l W hl hT=>drd16 n d l W hl hT.1 hT.2
section
attribute [local irreducible] W4 Nt NT NV
section
variable (TT:World->Prop) (hTT:∀ w w',TT w->Below w.heap.size w w'->TT w') (w:World) (hT:TT w)
 (c8:∀ W,TT W->CB 8 #[] W (.bool true))
variable (n m e:Int) (C:Nat) (hC:C<=4294967295) (he:-32768<=e/\e<=32767) (hm:0<=m/\m<=255)
include hTT hT c8 hC he hm
theorem ch_a (c17:∀ W,CQ 17 #[.int .i64 n] W (.bool false)):CB 7 #[.int .i64 n,.int .u32 (C:Int),.int .u8 m,.int .i16 e] w (.bool true):=by
 go_enter Tryz.func7,Tryz.ntmps7
 go_wp2_with (first
  | (have:=hA1;go_at_call 8;refine (c8 _ (hTT _ _ hT bgo)).mono ?_;rintro r w2 ⟨rfl,hb2⟩;obtain ⟨_,_,hA2,_⟩:=wf w hb2;clear hb2)
  | (go_at_call 8;refine (c8 _ (hTT _ _ hT bgo)).mono ?_;rintro r w1 ⟨rfl,hb1⟩;obtain ⟨_,_,hA1,_⟩:=wf w hb1;clear hb1)
  | (go_at_call 17;refine (c17 _).mono ?_;rintro r w0 ⟨rfl,rfl⟩))
 go_ret
 exact ⟨by first | rfl | simp,bgo⟩
variable (c17:∀ W,CQ 17 #[.int .i64 n] W (.bool true))
include c17
theorem ch_0 (h0:C=0):CB 7 #[.int .i64 n,.int .u32 (C:Int),.int .u8 m,.int .i16 e] w (.bool true):=by
 subst h0
 go_enter Tryz.func7,Tryz.ntmps7
 go_wp2_with (first
  | (have:=hA1;go_at_call 8;refine (c8 _ (hTT _ _ hT bgo)).mono ?_;rintro r w2 ⟨rfl,hb2⟩;obtain ⟨_,_,hA2,_⟩:=wf w hb2;clear hb2)
  | (go_at_call 8;refine (c8 _ (hTT _ _ hT bgo)).mono ?_;rintro r w1 ⟨rfl,hb1⟩;obtain ⟨_,_,hA1,_⟩:=wf w hb1;clear hb1)
  | (go_at_call 17;refine (c17 _).mono ?_;rintro r w0 ⟨rfl,rfl⟩))
 go_ret
 exact ⟨by first | rfl | simp,bgo⟩
variable (h0:((C:Int) == 0)=false) (k X:Nat) (hk:m.tmod 30=(k:Int)) (hk2:m%30=(k:Int)) (hk3:(k:Int)<=29)
 (nm:ByteArray) (wd pr ex le mo pa:Int) (dn:Bool)
 (c19:∀ W,CB 19 #[.int .i64 n] W (.tuple #[IDec n nm wd pr ex le mo pa dn,.int .i64 0]))
 (c25:∀ W,CE 25 #[.int .u64 10,.int .i64 (k:Int)] W (NT 1001 (10^k)))
 (c24:∀ W v v',NV 1 C v W->NT 1001 (10^k) v' W->CE 24 #[v,v'] W (NT 2001 X))
 (c22:∀ W v,NT 2001 X v W->CB 22 #[v] W (A4 X))
include h0 hk hk2 hk3 c19 c25 c24 c22
theorem ch_i (c26:∀ W,CB 26 #[IDec n nm wd pr ex le mo pa dn,.agg #[.int .i64 1,.bool false,.bool false,.int .i64 e,.int .u64 (C:Int),.int .u64 0,.int .u64 0,.int .u64 0]] W (.bool false)):CB 7 #[.int .i64 n,.int .u32 (C:Int),.int .u8 m,.int .i16 e] w (.bool true):=by
 have hsm:=cell_set_map
 unfold A4 at *
 go_enter Tryz.func7,Tryz.ntmps7
 go_wp2_with (first
  | (go_at_call 8;refine (c8 _ (hTT _ _ hT bgo)).mono ?_;rintro r w1 ⟨rfl,hb1⟩;obtain ⟨_,_,hA1,_⟩:=wf w hb1;clear hb1)
  | (go_at_call 17;refine (c17 _).mono ?_;rintro r w0 ⟨rfl,rfl⟩)
  | (go_at_call 19;refine (c19 _).mono ?_;rintro r w2 ⟨rfl,hb2⟩;obtain ⟨_,_,hA2,_⟩:=wf w hb2;clear hb2)
  | (go_at_call 25;refine (c25 _).mono ?_;rintro r w3 ⟨v3,rfl,hn3,hb3⟩;have hnC:NV 1 C (.slice (some ⟨w2.heap.size+2,0,none⟩) 1 1) w3:=NV.next (nv_dec (by simp) rfl (by omega)) hb3;obtain ⟨_,_,_,_,hA3,_⟩:=wz w hb3 w2.heap.size;obtain ⟨_,_⟩:=zf hb3 (w2.heap.size+1);clear hb3)
  | (go_at_call 24;refine (c24 _ _ _ (by first | exact hnC | simpa using hnC) hn3).mono ?_;rintro r w4 ⟨v4,rfl,hn4,hb4⟩;obtain ⟨_,_,_,_,hA4,_⟩:=wz w hb4 w2.heap.size;obtain ⟨_,_⟩:=zf hb4 (w2.heap.size+1);clear hb4)
  | (go_at_call 22;refine (c22 _ _ hn4).mono ?_;rintro r w5 ⟨rfl,hb5⟩;obtain ⟨_,_,_,_,hA5,_⟩:=wz w hb5 w2.heap.size;obtain ⟨_,_⟩:=zf hb5 (w2.heap.size+1);clear hb5)
  | (go_at_call 26;refine (c26 _).mono ?_;rintro r w6 ⟨rfl,hb6⟩;obtain ⟨_,_,_,_,hA6,_⟩:=wz w hb6 w2.heap.size;obtain ⟨_,_⟩:=zf hb6 (w2.heap.size+1);obtain ⟨_,_⟩:=zf hb6 w5.heap.size;clear hb6))
 go_ret
 exact ⟨by first | rfl | simp,bgo⟩
variable (c26:∀ W,CB 26 #[IDec n nm wd pr ex le mo pa dn,.agg #[.int .i64 1,.bool false,.bool false,.int .i64 e,.int .u64 (C:Int),.int .u64 0,.int .u64 0,.int .u64 0]] W (.bool true))
include c26
theorem ch_j (c26b:∀ W,CB 26 #[IDec n nm wd pr ex le mo pa dn,.agg #[.int .i64 1,.bool false,.bool false,.int .i64 (e-k),.int .u64 (W4 X 0),.int .u64 (W4 X 1),.int .u64 (W4 X 2),.int .u64 (W4 X 3)]] W (.bool false)):CB 7 #[.int .i64 n,.int .u32 (C:Int),.int .u8 m,.int .i16 e] w (.bool true):=by
 have hsm:=cell_set_map
 unfold A4 at *
 go_enter Tryz.func7,Tryz.ntmps7
 go_wp2_with (first
  | (go_at_call 8;refine (c8 _ (hTT _ _ hT bgo)).mono ?_;rintro r w1 ⟨rfl,hb1⟩;obtain ⟨_,_,hA1,_⟩:=wf w hb1;clear hb1)
  | (go_at_call 17;refine (c17 _).mono ?_;rintro r w0 ⟨rfl,rfl⟩)
  | (go_at_call 19;refine (c19 _).mono ?_;rintro r w2 ⟨rfl,hb2⟩;obtain ⟨_,_,hA2,_⟩:=wf w hb2;clear hb2)
  | (go_at_call 25;refine (c25 _).mono ?_;rintro r w3 ⟨v3,rfl,hn3,hb3⟩;have hnC:NV 1 C (.slice (some ⟨w2.heap.size+2,0,none⟩) 1 1) w3:=NV.next (nv_dec (by simp) rfl (by omega)) hb3;obtain ⟨_,_,_,_,hA3,_⟩:=wz w hb3 w2.heap.size;obtain ⟨_,_⟩:=zf hb3 (w2.heap.size+1);clear hb3)
  | (go_at_call 24;refine (c24 _ _ _ (by first | exact hnC | simpa using hnC) hn3).mono ?_;rintro r w4 ⟨v4,rfl,hn4,hb4⟩;obtain ⟨_,_,_,_,hA4,_⟩:=wz w hb4 w2.heap.size;obtain ⟨_,_⟩:=zf hb4 (w2.heap.size+1);clear hb4)
  | (go_at_call 22;refine (c22 _ _ hn4).mono ?_;rintro r w5 ⟨rfl,hb5⟩;obtain ⟨_,_,_,_,hA5,_⟩:=wz w hb5 w2.heap.size;obtain ⟨_,_⟩:=zf hb5 (w2.heap.size+1);clear hb5)
  | (have:=hA6;go_at_call 26;refine (c26b _).mono ?_;rintro r w7 ⟨rfl,hb7⟩;obtain ⟨_,_,_,_,hA7,_⟩:=wz w hb7 w2.heap.size;obtain ⟨_,_⟩:=zf hb7 (w2.heap.size+1);obtain ⟨_,_⟩:=zf hb7 w5.heap.size;clear hb7)
  | (go_at_call 26;refine (c26 _).mono ?_;rintro r w6 ⟨rfl,hb6⟩;obtain ⟨_,_,_,_,hA6,_⟩:=wz w hb6 w2.heap.size;obtain ⟨_,_⟩:=zf hb6 (w2.heap.size+1);obtain ⟨_,_⟩:=zf hb6 w5.heap.size;clear hb6))
 go_ret
 exact ⟨by first | rfl | simp,bgo⟩
variable (c26b:∀ W,CB 26 #[IDec n nm wd pr ex le mo pa dn,.agg #[.int .i64 1,.bool false,.bool false,.int .i64 (e-k),.int .u64 (W4 X 0),.int .u64 (W4 X 1),.int .u64 (W4 X 2),.int .u64 (W4 X 3)]] W (.bool true))
 (P Q:Nat) (E1 E2:Int) (S T:ByteArray)
 (c27:∀ W,CB 27 #[.int .i64 n,.agg #[.int .i64 1,.bool false,.bool false,.int .i64 e,.int .u64 (C:Int),.int .u64 0,.int .u64 0,.int .u64 0]] W (.tuple #[A4 P,.int .i64 E1]))
 (c27b:∀ W,CB 27 #[.int .i64 n,.agg #[.int .i64 1,.bool false,.bool false,.int .i64 (e-k),.int .u64 (W4 X 0),.int .u64 (W4 X 1),.int .u64 (W4 X 2),.int .u64 (W4 X 3)]] W (.tuple #[A4 Q,.int .i64 E2]))
 (c9:∀ W,TT W->CB 9 #[.int .i64 n,A4 P] W (.tuple #[.string S,.int .i64 0]))
 (c9b:∀ W,TT W->CB 9 #[.int .i64 n,A4 Q] W (.tuple #[.string T,.int .i64 0]))
include c26b c27 c27b c9 c9b
theorem ch_k (hST:(S.toList == T.toList)=(((k:Int)) == 0)):CB 7 #[.int .i64 n,.int .u32 (C:Int),.int .u8 m,.int .i16 e] w (.bool true):=by
 have hsm:=cell_set_map
 unfold A4 at *
 go_enter Tryz.func7,Tryz.ntmps7
 go_wp2_with (first
  | (go_at_call 8;refine (c8 _ (hTT _ _ hT bgo)).mono ?_;rintro r w1 ⟨rfl,hb1⟩;obtain ⟨_,_,hA1,_⟩:=wf w hb1;clear hb1)
  | (go_at_call 17;refine (c17 _).mono ?_;rintro r w0 ⟨rfl,rfl⟩)
  | (go_at_call 19;refine (c19 _).mono ?_;rintro r w2 ⟨rfl,hb2⟩;obtain ⟨_,_,hA2,_⟩:=wf w hb2;clear hb2)
  | (go_at_call 25;refine (c25 _).mono ?_;rintro r w3 ⟨v3,rfl,hn3,hb3⟩;have hnC:NV 1 C (.slice (some ⟨w2.heap.size+2,0,none⟩) 1 1) w3:=NV.next (nv_dec (by simp) rfl (by omega)) hb3;obtain ⟨_,_,_,_,hA3,_⟩:=wz w hb3 w2.heap.size;obtain ⟨_,_⟩:=zf hb3 (w2.heap.size+1);clear hb3)
  | (go_at_call 24;refine (c24 _ _ _ (by first | exact hnC | simpa using hnC) hn3).mono ?_;rintro r w4 ⟨v4,rfl,hn4,hb4⟩;obtain ⟨_,_,_,_,hA4,_⟩:=wz w hb4 w2.heap.size;obtain ⟨_,_⟩:=zf hb4 (w2.heap.size+1);clear hb4)
  | (go_at_call 22;refine (c22 _ _ hn4).mono ?_;rintro r w5 ⟨rfl,hb5⟩;obtain ⟨_,_,_,_,hA5,_⟩:=wz w hb5 w2.heap.size;obtain ⟨_,_⟩:=zf hb5 (w2.heap.size+1);clear hb5)
  | (have:=hA6;go_at_call 26;refine (c26b _).mono ?_;rintro r w7 ⟨rfl,hb7⟩;obtain ⟨_,_,_,_,hA7,_⟩:=wz w hb7 w2.heap.size;obtain ⟨_,_⟩:=zf hb7 (w2.heap.size+1);obtain ⟨_,_⟩:=zf hb7 w5.heap.size;clear hb7)
  | (go_at_call 26;refine (c26 _).mono ?_;rintro r w6 ⟨rfl,hb6⟩;obtain ⟨_,_,_,_,hA6,_⟩:=wz w hb6 w2.heap.size;obtain ⟨_,_⟩:=zf hb6 (w2.heap.size+1);obtain ⟨_,_⟩:=zf hb6 w5.heap.size;clear hb6)
  | (have:=hA8;go_at_call 27;refine (c27b _).mono ?_;rintro r w9 ⟨rfl,hb9⟩;obtain ⟨_,_,_,_,hA9,_⟩:=wz w hb9 w2.heap.size;obtain ⟨_,_⟩:=zf hb9 (w2.heap.size+1);obtain ⟨_,_⟩:=zf hb9 w5.heap.size;obtain ⟨_,_⟩:=zf hb9 w8.heap.size;clear hb9)
  | (go_at_call 27;refine (c27 _).mono ?_;rintro r w8 ⟨rfl,hb8⟩;obtain ⟨_,_,_,_,hA8,_⟩:=wz w hb8 w2.heap.size;obtain ⟨_,_⟩:=zf hb8 (w2.heap.size+1);obtain ⟨_,_⟩:=zf hb8 w5.heap.size;clear hb8)
  | (have:=hA10;go_at_call 9;refine (c9b _ (hTT _ _ hT bgo)).mono ?_;rintro r w11 ⟨rfl,hb11⟩;obtain ⟨_,_,_,_,hA11,_⟩:=wz w hb11 w8.heap.size;obtain ⟨_,_⟩:=zf hb11 w9.heap.size;clear hb11)
  | (go_at_call 9;refine (c9 _ (hTT _ _ hT bgo)).mono ?_;rintro r w10 ⟨rfl,hb10⟩;obtain ⟨_,_,_,_,hA10,_⟩:=wz w hb10 w8.heap.size;obtain ⟨_,_⟩:=zf hb10 w9.heap.size;clear hb10))
 go_ret
 exact ⟨by first | (simp;done) | (simp;exact hST),bgo⟩
end
theorem W4_u64 {C:Nat} (h:C<=4294967295):W4 C 0=(C:Int)/\W4 C 1=0/\W4 C 2=0/\W4 C 3=0:=by
 unfold W4
 refine ⟨?_,?_,?_,?_⟩
 ·have:C/2^(64*0)%18446744073709551616=C:=by omega
  simp at this ⊢
  omega
 ·have:C/2^(64*1)=0:=Nat.div_eq_of_lt (by omega)
  simp at this ⊢
  omega
 ·have:C/2^(64*2)=0:=Nat.div_eq_of_lt (by omega)
  simp at this ⊢
  omega
 ·have:C/2^(64*3)=0:=Nat.div_eq_of_lt (by omega)
  simp at this ⊢
  omega
theorem cohorts16_v {TT:World->Prop} (h:DtxC TT) (n m e:Int) (C:Nat) (w:World) (hT:TT w) (hC:C<=4294967295) (he:-32768<=e/\e<=32767) (hm:0<=m/\m<=255):CB 7 #[.int .i64 n,.int .u32 (C:Int),.int .u8 m,.int .i16 e] w (.bool true):=by
 have c8:=fun W hW=>awake16 h W hW
 have c17:=fun W=>rdecimal_any n W
 by_cases hn:decN n
 ·rw [decide_eq_true hn] at c17
  by_cases h0:C=0
  ·exact ch_0 TT h.next w hT c8 n m e C hC he hm c17 h0
  ·obtain ⟨k,hk⟩:∃ k:Nat,m%30=(k:Int):=⟨(m%30).toNat,by omega⟩
   have hk3:(k:Int)<=29:=by omega
   have hk1:m.tmod 30=(k:Int):=by rw [Int.tmod_eq_emod_of_nonneg hm.1];exact hk
   have h0':((C:Int) == 0)=false:=by rw [beq_eq_false_iff_ne];omega
   have c19:=fun W=>rof_dec hn W
   have c25:∀ W,CE 25 #[.int .u64 10,.int .i64 (k:Int)] W (NT 1001 (10^k)):=fun W =>
    (rpow_nt 10 k W (by decide) (by decide) (by omega)).mono fun r w' ⟨v,e1,e2,e3⟩=>⟨v,e1,e2.more (by omega),e3⟩
   have c24:∀ W v v',NV 1 C v W->NT 1001 (10^k) v' W->CE 24 #[v,v'] W (NT 2001 (C*10^k)):=fun W v v' hv hv' =>
    (rtimes_nt (by decide) (by decide) hv hv'.nv).mono fun r w' ⟨u,e1,e2,e3⟩=>⟨u,e1,e2.more (by omega),e3⟩
   have c22:=fun W v (hv:NT 2001 (C*10^k) v W)=>bits_nv hv.nv
   have hX:C*10^k<2^256:=by
    have a1:10^k<=10^29:=Nat.pow_le_pow_right (by decide) (by omega)
    have a2:C*10^k<=4294967295*10^29:=Nat.mul_le_mul hC a1
    have a3:4294967295*10^29<2^256:=by decide
    omega
   have hC2:C<2^256:=by
    have:4294967295<2^256:=by decide
    omega
   obtain ⟨q0,q1,q2,q3⟩:=W4_u64 hC
   have c26:=fun W=>ris14 (fD n) (fD_ok n) n (nameN n) (((fD n).t+((fD n).w+6):Nat):Int) (expN n) (fD n).dn ⟨1,false,false,e,C⟩ W hC2
   have c26b:=fun W=>ris14 (fD n) (fD_ok n) n (nameN n) (((fD n).t+((fD n).w+6):Nat):Int) (expN n) (fD n).dn ⟨1,false,false,e-k,C*10^k⟩ W hX
   have c27:=fun W=>rpk14 n ⟨1,false,false,e,C⟩ W hC2
   have c27b:=fun W=>rpk14 n ⟨1,false,false,e-k,C*10^k⟩ W hX
   unfold Dat.v DV at c26 c27 c26b c27b
   dsimp only at c26 c27 c26b c27b
   rw [q0,q1,q2,q3] at c26 c27
   by_cases ha:vI (fD n) ⟨1,false,false,e,C⟩
   ·rw [decide_eq_true ha] at c26
    by_cases hb:vI (fD n) ⟨1,false,false,e-k,C*10^k⟩
    ·rw [decide_eq_true hb] at c26b
     have pa:vPV n ⟨1,false,false,e,C⟩=vP (fD n) ⟨1,false,false,e,C⟩:=if_pos ⟨hn,ha⟩
     have pb:vPV n ⟨1,false,false,e-k,C*10^k⟩=vP (fD n) ⟨1,false,false,e-k,C*10^k⟩:=if_pos ⟨hn,hb⟩
     have ga:goodD n (vP (fD n) ⟨1,false,false,e,C⟩):=⟨hn,vP_lt (fD_ok n) ha⟩
     have gb:goodD n (vP (fD n) ⟨1,false,false,e-k,C*10^k⟩):=⟨hn,vP_lt (fD_ok n) hb⟩
     have c9:=fun W hW=>h.wr n (vP (fD n) ⟨1,false,false,e,C⟩) W (vP_256 (fD_ok n) ha) hW
     have c9b:=fun W hW=>h.wr n (vP (fD n) ⟨1,false,false,e-k,C*10^k⟩) W (vP_256 (fD_ok n) hb) hW
     rw [show vUE n (vP (fD n) ⟨1,false,false,e,C⟩)=0 from if_pos ga,show dwT n (vP (fD n) ⟨1,false,false,e,C⟩)=xtT ⟨1,false,false,e,C⟩ by unfold dwT;rw [if_pos ga,vM_vP (fD_ok n) ha]] at c9
     rw [show vUE n (vP (fD n) ⟨1,false,false,e-k,C*10^k⟩)=0 from if_pos gb,show dwT n (vP (fD n) ⟨1,false,false,e-k,C*10^k⟩)=xtT ⟨1,false,false,e-k,C*10^k⟩ by unfold dwT;rw [if_pos gb,vM_vP (fD_ok n) hb]] at c9b
     rw [pa] at c27
     rw [pb] at c27b
     refine ch_k TT h.next w hT c8 n m e C hC he hm c17 h0' k _ hk1 hk hk3 _ _ _ _ _ _ _ _ c19 c25 c24 c22 c26 c26b _ _ _ _ _ _ c27 c27b c9 c9b ?_
     rw [B_toList,B_toList]
     by_cases hk0:k=0
     ·subst hk0
      rw [Nat.pow_zero,Nat.mul_one,show e-((0:Nat):Int)=e by omega]
      simp
     ·have hne:xtT ⟨1,false,false,e,C⟩≠xtT ⟨1,false,false,e-k,C*10^k⟩:=fun q=>by
       have r1:=(xt_cut (fD_ok n) ha).1
       have r2:=(xt_cut (fD_ok n) hb).1
       rw [q,r2] at r1
       have r3:=congrArg Prt.ex (Option.some.inj r1)
       have r4:e-(k:Int)=e:=r3
       omega
      rw [beq_eq_false_iff_ne.2 hne,beq_eq_false_iff_ne.2 (by omega)]
    ·rw [decide_eq_false hb] at c26b
     exact ch_j TT h.next w hT c8 n m e C hC he hm c17 h0' k _ hk1 hk hk3 _ _ _ _ _ _ _ _ c19 c25 c24 c22 c26 c26b
   ·rw [decide_eq_false ha] at c26
    exact ch_i TT h.next w hT c8 n m e C hC he hm c17 h0' k _ hk1 hk hk3 _ _ _ _ _ _ _ _ c19 c25 c24 c22 c26
 ·rw [decide_eq_false hn] at c17
  exact ch_a TT h.next w hT c8 n m e C hC he hm c17
end
theorem dectextWrites_any (n:Int) (Bp:Nat) (w:World) (hT:Tab w) (hT10:Tb10 w) (hB:Bp<2^256) :
  CB 3 #[.int .i64 n,A4 Bp] w (.bool true) :=
 writes16_v dtxC n Bp w ⟨hT,hT10⟩ hB
theorem dectextBack_any (n:Int) (Bp:Nat) (w:World) (hT:Tab w) (hT10:Tb10 w) (hB:Bp<2^256) :
  CB 5 #[.int .i64 n,A4 Bp] w (.bool true) :=
 back16_v dtxC dtxR n Bp w ⟨hT,hT10⟩ hB
theorem dectextCohorts_any (n C m e:Int) (w:World) (hT:Tab w) (hT10:Tb10 w) (hC:0<=C/\C<=4294967295) (hm:0<=m/\m<=255) (he:-32768<=e/\e<=32767) :
  CB 7 #[.int .i64 n,.int .u32 C,.int .u8 m,.int .i16 e] w (.bool true):=by
 obtain ⟨c,rfl⟩:∃ c:Nat,C=(c:Int):=⟨C.toNat,by omega⟩
 exact cohorts16_v dtxC n m e c w ⟨hT,hT10⟩ (by omega) he hm
end Go.Proofs.YtpabnhlfbjkmaaaGreatDoor
