/-
  Texts that the proof leans on, joined: Pn, Po.
-/
import Derived.Test.YtpabnhlfbjkmaaaGreatDoorL1
import Derived.Test.YtpabnhlfbjkmaaaGreatDoorL41
import Derived.Test.YtpabnhlfbjkmaaaGreatDoorL39
import Derived.Test.YtpabnhlfbjkmaaaGreatDoorL38
import Derived.Test.YtpabnhlfbjkmaaaGreatDoorL37
import Derived.Test.YtpabnhlfbjkmaaaGreatDoorL16
import Derived.Test.YtpabnhlfbjkmaaaGreatDoorL40
set_option linter.unusedVariables false
set_option linter.unusedSectionVars false
set_option linter.unusedSimpArgs false
set_option maxRecDepth 20000
namespace Go.Proofs.YtpabnhlfbjkmaaaGreatDoor
open Go.RowKit
theorem ndig_z {K:Nat} {v:Value} {w:World} (hK:K<=1000) (h:Nt K 0 v w):CB 30 #[v] w (.tuple #[.string (B [48]),.int .i64 0]):=by
 obtain ⟨a,n,c,z,rfl,hn,hN,hz⟩:=h
 have hle:=sizeL_le z n
 refine (ndigits_any a n c z w (by omega) hN (by omega)).mono fun r w' ⟨L,hL,he,hB⟩=>⟨?_,hB⟩
 rw [he,hz] at *
 rw [decL_more (L':=0) (by decide) hL (by decide)]
 rfl
theorem ndig_wt {K k:Nat} {v:Value} {w:World} (hK:K<=1000) (hk:k<2^256) (h:Nt K k v w):CB 30 #[v] w (.tuple #[.string (B (wtD k)),.int .i64 0]):=by
 unfold wtD
 by_cases h0:k=0
 ·rw [if_pos h0]
  subst h0
  exact ndig_z hK h
 ·rw [if_neg h0]
  exact ndig_v hK hk h0 h
theorem jn_word {f:DF} (hf:f.ok) {v:Dat} (h:vI f v) (hc:¬ v.c=1):jnP ⟨v.c,v.s,v.g,dcL v.k,0⟩:=by
 obtain ⟨h1,h2⟩:=xt_cut hf h
 obtain ⟨f1,f2,f3⟩:=dcL_facts (vI_k hf h)
 unfold xtT xtP at h1
 rw [if_neg hc,if_neg hc] at h1
 exact ⟨by show (dcL v.k).length<=4000;omega,h1⟩
theorem dword {f:DF} (hf:f.ok) {v:Dat} (h:vI f v) (hc:¬ v.c=1) (w:World) (hT10:Tb10 w) :
  CB 29 #[v.v] w (.string (B (xtT v))):=by
 have hk:=vI_k hf h
 have hj:=jn_word hf h hc
 have c31:=fun W (hb:Below w.heap.size w W)=>join_y ⟨v.c,v.s,v.g,dcL v.k,0⟩ W (hT10.next hb) ⟨by show (-9223372036854775808:Int)<=0;decide,by show (0:Int)<=9223372036854775807;decide⟩ hj
 have e:xtT v=texT v.c v.s v.g (dcL v.k) 0:=if_neg hc
 rw [e]
 obtain ⟨c,s,g,x,k⟩:=v
 dsimp only at *
 by_cases h0:k=0
 ·have ed:dcL k=[]:=by rw [h0];kernel_rfl
  rw [ed] at c31 ⊢
  exact dwd_0 c s g x k w _ h0 c31
 ·exact dwd_k c s g x k w _ (dcL k) hk h0 (fun W v hv=>ndig_v (by decide) hk h0 hv) c31
theorem dwr16 (n:Int) (Bp:Nat) (w:World) (hB:Bp<2^256) (hT:Tab w) (hT10:Tb10 w) :
  CB 9 #[.int .i64 n,A4 Bp] w (.tuple #[.string (B (dwT n Bp)),.int .i64 (vUE n Bp)]):=by
 have c21:=fun W hW=>dunpk14 n Bp hB W hW
 have hk:=vUD_256 n Bp
 unfold dwT
 by_cases hg:goodD n Bp
 ·have e1:vUE n Bp=0:=if_pos hg
  have e2:vUD n Bp=vM (fD n) Bp:=if_pos hg
  rw [if_pos hg,e1]
  rw [e1] at c21
  have hi:=vM_is (fD_ok n) Bp
  rw [← e2] at hi ⊢
  obtain ⟨m0,m1,l0,l1,lm,j0,j1⟩:=ok_m (fD_ok n)
  generalize vUD n Bp=v at *
  by_cases hc:v.c=1
  ·have hx:-10000<=v.x/\v.x<=10000:=by
    rcases hi with ⟨_,_,_,a,b⟩ | ⟨a,_⟩ | ⟨a,_⟩
    ·unfold DF.m at *
     omega
    ·rw [hc] at a;exact absurd a (by decide)
    ·rw [hc] at a;exact absurd a (by decide)
   have eT:xtT v=sgL v.s++unT (wtD v.k) (v.x+(wtD v.k).length-1):=if_pos hc
   rw [eT]
   have hl:1<=(wtD v.k).length/\(wtD v.k).length<=660:=by
    unfold wtD
    by_cases h0:v.k=0
    ·rw [if_pos h0];decide
    ·rw [if_neg h0]
     exact ⟨List.length_pos_iff.2 (dcL_ne h0 hk),(dcL_facts hk).2.2⟩
   have hu:=unT_brief (D:=wtD v.k) (e:=v.x+(wtD v.k).length-1) (by omega)
   have c20:=fun W u (h:Nt 4 v.k u W)=>ndig_wt (by decide) hk h
   have c29:=fun W hW=>ltext_v (wtD v.k) (v.x+(wtD v.k).length-1) W hW (by omega) hl.1 (by omega)
   rw [show ((wtD v.k).length:Int)=((B (wtD v.k)).size:Int) by rw [B_size]] at c29 hu ⊢
   obtain ⟨c,s,g,x,k⟩:=v
   dsimp only at *
   cases s
   ·exact dwx_f n Bp c false g _ x k w hT hT10 c21 hc hk hx (wtD k) hl.2 (unT (wtD k) (x+((B (wtD k)).size:Int)-1)) (by omega) c20 c29 rfl
   ·exact dwx_t n Bp c true g _ x k w hT hT10 c21 hc hk hx (wtD k) hl.2 (unT (wtD k) (x+((B (wtD k)).size:Int)-1)) (by omega) c20 c29 rfl
  ·have c28:=fun W hW=>dword (fD_ok n) hi hc W hW
   obtain ⟨c,s,g,x,k⟩:=v
   exact dwx_o n Bp c s g _ x k w hT hT10 c21 (by simpa using hc) _ c28
 ·have e1:vUE n Bp=1:=if_neg hg
  rw [if_neg hg,e1]
  rw [e1] at c21
  exact dwx_e n Bp _ _ _ _ _ _ w hT 1 (by decide) c21
theorem pay_len {l:List UInt8} (h:gdD l) (j:Nat):10^j<=dV l↔¬ l.length<=j:=by
 have hd:=gdD_all h
 have h1:=(dV_lt hd).1
 constructor
 ·intro hh hl
  have:=Nat.pow_le_pow_right (show 1<=10 by decide) hl
  omega
 ·intro hl
  rcases h with rfl | ⟨_,h0⟩
  ·exact absurd (Nat.zero_le _) hl
  ·have h2:=dV_ge hd h0 (fun e=>hl (by rw [e];exact Nat.zero_le _))
   exact Nat.le_trans (Nat.pow_le_pow_right (by decide) (by omega)) h2
theorem nz_k {K A k0:Nat} {v:Value} {w:World} (h:Nz K A v w) (hA:A<2^256) (h0:k0<=4) (h1:bl A<=64*k0) (h2:k0=0∨64*(k0-1)<bl A) :
  ∃ a cap z,v=.slice a k0 cap/\Num w a k0 cap z/\∀ i,i<4->z i=W4 A i:=by
 obtain ⟨a,k,cap,z,rfl,hk,hN,hv,hs⟩:=h
 have e1:=(size_bl (m:=k0) hN.2.2.1 hv).2 h1
 have e2:k0<=k:=by
  rcases h2 with h2 | h2
  ·omega
  ·by_cases hh:k0<=k
   ·exact hh
   ·have:=(size_bl (m:=k0-1) hN.2.2.1 hv).1 (by omega)
    omega
 obtain rfl:k=k0:=by omega
 have hv4:val z 4=(A:Int):=by rw [val_more hN.2.2.2.1 4 h0,hv]
 exact ⟨a,cap,z,rfl,hN,val_inj hN.2.2.1 (W4_words A) 4 (by rw [hv4,W4_val4 hA])⟩
theorem W4_high {A k i:Nat} (h:bl A<=64*k) (hi:k<=i):W4 A i=0:=by
 have h1:=bl_le.1 h
 have h2:(2:Nat)^(64*k)<=2^(64*i):=Nat.pow_le_pow_right (by decide) (by omega)
 unfold W4
 rw [Nat.div_eq_of_lt (by omega)]
 rfl
theorem nz_some {K A k0:Nat} {v:Value} {w:World} (h:Nz K A v w) (hA:A<2^256) (h0:k0<=4) (h1:bl A<=64*k0) (h2:64*(k0-1)<bl A) :
  ∃ b off cap,v=.slice (some ⟨b,off,none⟩) k0 cap/\b<w.heap.size/\∀ i,i<k0->w.cell? ⟨b,off+i,none⟩=some (.int .u64 (W4 A i)):=by
 obtain ⟨a,cap,z,rfl,⟨n1,n2,n3,n4,n5⟩,hz⟩:=nz_k h hA h0 h1 (Or.inr h2)
 rcases n5 with ⟨rfl,rfl⟩ | ⟨b,off,rfl,hb,hc⟩
 ·obtain rfl:k0=0:=by omega
  omega
 ·exact ⟨b,off,cap,rfl,hb,fun i hi=>by rw [← hz i (by omega)];exact hc i hi⟩
theorem dtm_c {n:Int} {nm:ByteArray} {wd P ex lo m pa:Int} {dn:Bool} {d c:Int} {s g:Bool} {l:List UInt8} {x:Int} {w:World} (hc:¬ c=1) (hl:(l.length:Int)<=pa) (hd:l.all dg=true) (hl2:l.length<=4000) (hk:dV l<2^256) :
  CB 38 #[IDec n nm wd P ex lo m pa dn,.int .i64 d,PV c s g l x] w (.tuple #[DV c s g 0 (dV l),.int .i64 0]):=by
 have c66:=fun W=>natural16 l W hd hl2
 have hl':((B l).size:Int)<=pa:=by rw [B_size];exact hl
 have hc':(c == 1)=false:=by simpa using hc
 have h256:=bl_le.2 hk
 generalize dV l=A at *
 unfold DV
 by_cases b0:bl A<=64*0
 ·rw [W4_high b0 (Nat.zero_le _),W4_high b0 (Nat.zero_le _),W4_high b0 (Nat.zero_le _),W4_high b0 (Nat.zero_le _)]
  refine dtm_c0 n nm wd P ex lo m pa dn d c s g l x w hc' hl' fun W=>(c66 W).mono fun r w' ⟨v,e1,e2,e3⟩=>⟨?_,e3⟩
  obtain ⟨a,cap,z,rfl,_⟩:=nz_k e2 hk (by decide) b0 (Or.inl rfl)
  exact ⟨a,cap,e1⟩
 by_cases b1:bl A<=64*1
 ·rw [W4_high b1 (by decide:1<=1),W4_high b1 (by decide:1<=2),W4_high b1 (by decide:1<=3)]
  refine dtm_c1 n nm wd P ex lo m pa dn d c s g l x w hc' hl' (W4 A) fun W=>(c66 W).mono fun r w' ⟨v,e1,e2,e3⟩=>⟨?_,e3⟩
  obtain ⟨b,off,cap,rfl,hb,h⟩:=nz_some e2 hk (by decide) b1 (by omega)
  exact ⟨b,off,cap,e1,hb,h 0 (by decide)⟩
 by_cases b2:bl A<=64*2
 ·rw [W4_high b2 (by decide:2<=2),W4_high b2 (by decide:2<=3)]
  refine dtm_c2 n nm wd P ex lo m pa dn d c s g l x w hc' hl' (W4 A) fun W=>(c66 W).mono fun r w' ⟨v,e1,e2,e3⟩=>⟨?_,e3⟩
  obtain ⟨b,off,cap,rfl,hb,h⟩:=nz_some e2 hk (by decide) b2 (by omega)
  exact ⟨b,off,cap,e1,hb,h 0 (by decide),h 1 (by decide)⟩
 by_cases b3:bl A<=64*3
 ·rw [W4_high b3 (by decide:3<=3)]
  refine dtm_c3 n nm wd P ex lo m pa dn d c s g l x w hc' hl' (W4 A) fun W=>(c66 W).mono fun r w' ⟨v,e1,e2,e3⟩=>⟨?_,e3⟩
  obtain ⟨b,off,cap,rfl,hb,h⟩:=nz_some e2 hk (by decide) b3 (by omega)
  exact ⟨b,off,cap,e1,hb,h 0 (by decide),h 1 (by decide),h 2 (by decide)⟩
 ·refine dtm_c4 n nm wd P ex lo m pa dn d c s g l x w hc' hl' (W4 A) fun W=>(c66 W).mono fun r w' ⟨v,e1,e2,e3⟩=>⟨?_,e3⟩
  obtain ⟨b,off,cap,rfl,hb,h⟩:=nz_some (k0:=4) e2 hk (by decide) (by omega) (by omega)
  exact ⟨b,off,cap,e1,hb,h 0 (by decide),h 1 (by decide),h 2 (by decide),h 3 (by decide)⟩
theorem datum16 {n d:Int} (h1:decN n) (h2:knB d) {p:Prt} (h3:gdP p) {nm:ByteArray} {wd P ex lo m:Int} {dn:Bool} {w:World} (hT:Tab w) :
  CB 38 #[IDec n nm wd P ex lo m (3*((fD n).j:Int)) dn,.int .i64 d,p.v] w (.tuple #[(dmD n d p).v,.int .i64 (dmF n d p)]):=by
 obtain ⟨g1,g2⟩:=gd_dig h3
 have hbl:=dig_bl g1 g2
 have hi:=dm_is (d:=d) h1 h2 h3 (by omega)
 have hk:=vI_k (fD_ok n) hi
 have c66:=fun W=>natural16 p.dig W g1 g2
 have hpl:=pay_len h3.1 (3*(fD n).j)
 obtain ⟨c,s,g,l,x⟩:=p
 obtain ⟨hg,hp⟩:=h3
 unfold dmF
 unfold dmD at hk ⊢
 dsimp only at *
 by_cases hc:c=1
 ·rw [if_pos hc,if_pos hc]
  exact dtm_1 n nm wd P ex lo m _ dn d c s g l x w hT hc (dV l) _ _ _ _ _ _ _ (fun W=>(c66 W).mono fun r w' ⟨v,e1,e2,e3⟩=>⟨v,e1,e2.nt.more (by decide),e3⟩) (fun W v hW hv=>drk_v hW hv)
 ·rw [if_neg hc] at hk ⊢
  rw [if_neg hc]
  by_cases hl:l.length<=3*(fD n).j
  ·have e:(if c=3 then (if 10^(3*(fD n).j)<=dV l then 0 else dV l) else 0)=dV l:=by
    rw [if_neg (fun hh=>(hpl.1 hh) hl)]
    rcases hp with ⟨q1,_⟩ | ⟨q1,q2,q3,q4⟩ | ⟨q1,q2,q3⟩
    ·exact absurd q1 hc
    ·rw [if_neg (by rw [q1];decide),q3,dV_nil]
    ·rw [if_pos q1]
   rw [e] at hk ⊢
   exact dtm_c (l:=l) hc (by omega) g1 g2 hk
  ·have e:(if c=3 then (if 10^(3*(fD n).j)<=dV l then 0 else dV l) else 0)=0:=by
    rw [if_pos (hpl.2 hl)]
    split <;> rfl
   rw [e]
   unfold Dat.v DV
   simp only [W4_zero]
   exact dtm_l n nm wd P ex lo m _ dn d c s g l x w (by simpa using hc) (by rw [B_size];omega)
theorem dmk16 (n d:Int) (p:Prt) (w:World) (he:-9223372036854775808<=p.ex/\p.ex<=9223372036854775807) (hT:Tab w) (hT10:Tb10 w) :
  CB 13 #[.int .i64 n,.int .i64 d,p.v] w (.tuple #[A4 (kmV n d p),.int .i64 (kmF n d p),.int .i64 (kmE n d p)]):=by
 have hZ:A4 0=Z4:=by unfold A4;simp only [W4_zero]
 unfold kmV kmF
 by_cases h12:decN n/\knB d
 ·obtain ⟨h1,h2⟩:=h12
  have c28:=fun W hW=>dck_good (n:=n) (d:=d) (w:=W) hW h1 h2
  by_cases h3:gdP p
  ·have e:kmE n d p=0:=by unfold kmE;rw [if_pos ⟨h1,h2⟩,if_pos h3]
   rw [if_pos e,if_pos e,e]
   have c31:=fun W (hb:Below w.heap.size w W)=>join_y p W (hT10.next hb) he (jn_of_gd h3)
   obtain ⟨g1,g2⟩:=gd_dig h3
   have hbl:=dig_bl g1 g2
   have hi:=dm_is (d:=d) h1 h2 h3 (by omega)
   have hk:=vI_k (fD_ok n) hi
   have c32:=fun W (hW:Tab W)=>datum16 h1 h2 h3 (nm:=nameN n) (wd:=widthN n) (P:=3*((fD n).j:Int)+1) (ex:=expN n) (lo:=(fD n).l) (m:=(fD n).m) (dn:=denseN n) hW
   have c34:=fun W hW=>dpack14 n (dmD n d p) hk W hW
   have e3:vPE n (dmD n d p)=0:=by unfold vPE;rw [if_pos h1,if_pos hi]
   rw [e3] at c34
   generalize dmD n d p=D at *
   obtain ⟨c,s,g,l,x⟩:=p
   exact dmk_k n d c s g l x _ _ _ _ _ _ _ _ _ w hT c28 _ _ _ _ _ _ _ _ _ _ _ c31 c32 c34
  ·have e:kmE n d p=2:=by unfold kmE;rw [if_pos ⟨h1,h2⟩,if_neg h3]
   rw [if_neg (by omega),if_neg (by omega),e,hZ]
   have c31:=fun W (hb:Below w.heap.size w W)=>join_n p W (hT10.next hb) he (fun h=>h3 (gd_of_jn h))
   obtain ⟨c,s,g,l,x⟩:=p
   exact dmk_j n d c s g l x _ _ _ _ _ _ _ _ _ w hT c28 1 (by decide) c31
 ·have e:kmE n d p=1:=if_neg h12
  rw [if_neg (by omega),if_neg (by omega),e,hZ]
  obtain ⟨c,s,g,l,x⟩:=p
  exact dmk_e n d c s g l x w hT 1 (by decide) (fun W hW=>dck_bad hW h12)
def TTb (w:World):Prop:=Tab w/\Tb10 w
theorem dtxC:DtxC TTb where
 next:=fun w w' hT hb=>⟨hT.1.go hb,hT.2.next hb⟩
 t10:=fun w hT=>hT.2
 wr:=fun n Bp W hB hT=>dwr16 n Bp W hB hT.1 hT.2
theorem dtxM:DtxM TTb where
 mak:=fun n d p W _ he hT=>dmk16 n d p W he hT.1 hT.2
theorem dectextKeeps_any (n d C m e:Int) (s:Bool) (w:World) (hT:Tab w) (hT10:Tb10 w) (hC:0<=C/\C<=4294967295) (hm:0<=m/\m<=255) (he:-32768<=e/\e<=32767) :
  CB 6 #[.int .i64 n,.int .i64 d,.int .u32 C,.int .u8 m,.int .i16 e,.bool s] w (.bool true):=by
 obtain ⟨c,rfl⟩:∃ c:Nat,C=(c:Int):=⟨C.toNat,by omega⟩
 exact keeps16_v dtxC dtxM n d m e c s w ⟨hT,hT10⟩ (by omega) he hm
end Go.Proofs.YtpabnhlfbjkmaaaGreatDoor
