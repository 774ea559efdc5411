/-
  Texts that the proof leans on, joined: Pj.
-/
import Derived.Test.YtpabnhlfbjkmaaaGreatDoorL37
import Derived.Test.YtpabnhlfbjkmaaaGreatDoorL18
import Derived.Test.YtpabnhlfbjkmaaaGreatDoorL16
import Derived.Test.YtpabnhlfbjkmaaaGreatDoorL1
set_option maxHeartbeats 8000000
set_option linter.unusedVariables false
set_option linter.unusedSectionVars false
set_option linter.unusedSimpArgs false
set_option maxRecDepth 20000
namespace Go.Proofs.YtpabnhlfbjkmaaaGreatDoor
open Go.RowKit
section
attribute [local irreducible] W4 Nt NT NV
section
variable (TT:World->Prop) (hTT:∀ w w',TT w->Below w.heap.size w w'->TT w') (w:World) (hT:TT w)
 (c8:∀ W,TT W->CB 8 #[] W (.bool true))
variable (n d m e:Int) (C:Nat) (s:Bool) (hC:C<=4294967295) (he:-32768<=e/\e<=32767) (hm:0<=m/\m<=255)
include hTT hT c8 hC he hm
theorem kp_a (c17:∀ W,CQ 17 #[.int .i64 n] W (.bool false)):CB 6 #[.int .i64 n,.int .i64 d,.int .u32 (C:Int),.int .u8 m,.int .i16 e,.bool s] w (.bool true):=by
 go_enter Tryz.func6,Tryz.ntmps6
 go_wp2_with (first
  | (have:=hA1;go_at_call 8;refine (c8 _ (hTT _ _ hT bgo)).mono ?_;rintro r w2 ⟨rfl,hb2⟩;obtain ⟨_,_,hA2,_⟩:=wf w hb2;clear hb2)
  | (go_at_call 8;refine (c8 _ (hTT _ _ hT bgo)).mono ?_;rintro r w1 ⟨rfl,hb1⟩;obtain ⟨_,_,hA1,_⟩:=wf w hb1;clear hb1)
  | (go_at_call 17;refine (c17 _).mono ?_;rintro r w0 ⟨rfl,rfl⟩))
 go_ret
 exact ⟨by first | rfl | simp,bgo⟩
variable (c17:∀ W,CQ 17 #[.int .i64 n] W (.bool true))
include c17
theorem kp_d (c18:∀ W,CQ 18 #[.int .i64 d] W (.bool false)):CB 6 #[.int .i64 n,.int .i64 d,.int .u32 (C:Int),.int .u8 m,.int .i16 e,.bool s] w (.bool true):=by
 go_enter Tryz.func6,Tryz.ntmps6
 go_wp2_with (first
  | (have:=hA1;go_at_call 8;refine (c8 _ (hTT _ _ hT bgo)).mono ?_;rintro r w2 ⟨rfl,hb2⟩;obtain ⟨_,_,hA2,_⟩:=wf w hb2;clear hb2)
  | (go_at_call 8;refine (c8 _ (hTT _ _ hT bgo)).mono ?_;rintro r w1 ⟨rfl,hb1⟩;obtain ⟨_,_,hA1,_⟩:=wf w hb1;clear hb1)
  | (go_at_call 17;refine (c17 _).mono ?_;rintro r w0 ⟨rfl,rfl⟩)
  | (go_at_call 18;refine (c18 _).mono ?_;rintro r w0 ⟨rfl,rfl⟩))
 go_ret
 exact ⟨by first | rfl | simp,bgo⟩
variable (c18:∀ W,CQ 18 #[.int .i64 d] W (.bool true))
 (K:Nat) (hK:m.tmod 40=(K:Int)) (hK2:m%40=(K:Int)) (hK3:(K:Int)<=39) (S:Nat->List UInt8) (hS:∀ j,S (j+1)=(if (S j).isEmpty then S j else S j++[48])/\(S j).length<=10+j)
 (nm:ByteArray) (wd pr ex le mo pa:Int) (dn:Bool)
 (c19:∀ W,CB 19 #[.int .i64 n] W (.tuple #[IDec n nm wd pr ex le mo pa dn,.int .i64 0]))
 (c20:∀ W v,NV 1 C v W->CB 20 #[v] W (.string (B (S 0))))
include c18 hK hK2 hK3 hS c19 c20
theorem kp_l (hl:pr<((S K).length:Int)):CB 6 #[.int .i64 n,.int .i64 d,.int .u32 (C:Int),.int .u8 m,.int .i16 e,.bool s] w (.bool true):=by
 have hsm:=cell_set_map
 have htl:=B_toList
 have HS:Hid (∀ j,S (j+1)=(if (S j).isEmpty then S j else S j++[48])/\(S j).length<=10+j):=hS
 clear hS
 unfold A4 at *
 go_enter Tryz.func6,Tryz.ntmps6
 go_wp2_with (first
  | (go_at_call 8;refine (c8 _ (hTT _ _ hT bgo)).mono ?_;rintro r w1 ⟨rfl,hb1⟩;obtain ⟨_,_,hA1,_⟩:=wf w hb1;clear hb1)
  | (go_at_call 17;refine (c17 _).mono ?_;rintro r w0 ⟨rfl,rfl⟩)
  | (go_at_call 18;refine (c18 _).mono ?_;rintro r w0 ⟨rfl,rfl⟩)
  | (go_at_call 19;refine (c19 _).mono ?_;rintro r w2 ⟨rfl,hb2⟩;obtain ⟨_,_,hA2,_⟩:=wf w hb2;clear hb2)
  | (go_at_call 20;refine (c20 _ _ (nv_dec (by simp) (by rfl) (by omega))).mono ?_;rintro r w3 ⟨rfl,hb3⟩;obtain ⟨_,_,_,_,hA3,_⟩:=wz w hb3 w2.heap.size;clear hb3))
 go_loopw [15,46] (fun t15 t46 wr=>∃ j:Nat,j<=K/\t15=.string (B (S j))/\t46=.int .u8 (j:Int)/\wr=w3) (fun _ t46 _=>K-(intOf t46).toNat)
 case atStart=>exact ⟨0,Nat.zero_le _,rfl,rfl,rfl⟩
 case round =>
  obtain ⟨j,hj,rfl,rfl,rfl⟩:=hrel
  have hjb:(j:Int)<=39:=by omega
  by_cases h5:j<K
  ·have hji:(j:Int)<K:=by omega
   have hl:=(HS.out j).2
   have hs1:(B (S j)).size<=1000:=by rw [B_size];omega
   cases hemp:(S j).isEmpty
   ·have q1:B (S j)++⟨#[48]⟩=B (S (j+1)):=by
     rw [show (⟨#[48]⟩:ByteArray)=B [48] from rfl,B_app,(HS.out j).1,hemp];rfl
    go_wp2
    go_roundw
    case rel=>exact ⟨j+1,h5,by first | rfl | rw [q1],by go_num,by first | trivial | rfl⟩
    case measure=>simp [intOf];omega
   ·have q2:S (j+1)=S j:=by rw [(HS.out j).1,hemp];rfl
    go_wp2
    go_roundw
    case rel=>exact ⟨j+1,h5,by rw [q2],by go_num,by first | trivial | rfl⟩
    case measure=>simp [intOf];omega
  ·have hjK:j=K:=by omega
   subst hjK
   have hji:¬ (j:Int)<j:=by omega
   have hz:(B (S j)).size=(S j).length:=B_size _
   go_wp2
   go_ret
   exact ⟨by first | rfl | simp,bgo⟩
theorem kp_lo (hl:¬ pr<((S K).length:Int)) (h1:e<le):CB 6 #[.int .i64 n,.int .i64 d,.int .u32 (C:Int),.int .u8 m,.int .i16 e,.bool s] w (.bool true):=by
 have hsm:=cell_set_map
 have htl:=B_toList
 have HS:Hid (∀ j,S (j+1)=(if (S j).isEmpty then S j else S j++[48])/\(S j).length<=10+j):=hS
 clear hS
 unfold A4 at *
 go_enter Tryz.func6,Tryz.ntmps6
 go_wp2_with (first
  | (go_at_call 8;refine (c8 _ (hTT _ _ hT bgo)).mono ?_;rintro r w1 ⟨rfl,hb1⟩;obtain ⟨_,_,hA1,_⟩:=wf w hb1;clear hb1)
  | (go_at_call 17;refine (c17 _).mono ?_;rintro r w0 ⟨rfl,rfl⟩)
  | (go_at_call 18;refine (c18 _).mono ?_;rintro r w0 ⟨rfl,rfl⟩)
  | (go_at_call 19;refine (c19 _).mono ?_;rintro r w2 ⟨rfl,hb2⟩;obtain ⟨_,_,hA2,_⟩:=wf w hb2;clear hb2)
  | (go_at_call 20;refine (c20 _ _ (nv_dec (by simp) (by rfl) (by omega))).mono ?_;rintro r w3 ⟨rfl,hb3⟩;obtain ⟨_,_,_,_,hA3,_⟩:=wz w hb3 w2.heap.size;clear hb3))
 go_loopw [15,46] (fun t15 t46 wr=>∃ j:Nat,j<=K/\t15=.string (B (S j))/\t46=.int .u8 (j:Int)/\wr=w3) (fun _ t46 _=>K-(intOf t46).toNat)
 case atStart=>exact ⟨0,Nat.zero_le _,rfl,rfl,rfl⟩
 case round =>
  obtain ⟨j,hj,rfl,rfl,rfl⟩:=hrel
  have hjb:(j:Int)<=39:=by omega
  by_cases h5:j<K
  ·have hji:(j:Int)<K:=by omega
   have hl:=(HS.out j).2
   have hs1:(B (S j)).size<=1000:=by rw [B_size];omega
   cases hemp:(S j).isEmpty
   ·have q1:B (S j)++⟨#[48]⟩=B (S (j+1)):=by
     rw [show (⟨#[48]⟩:ByteArray)=B [48] from rfl,B_app,(HS.out j).1,hemp];rfl
    go_wp2
    go_roundw
    case rel=>exact ⟨j+1,h5,by first | rfl | rw [q1],by go_num,by first | trivial | rfl⟩
    case measure=>simp [intOf];omega
   ·have q2:S (j+1)=S j:=by rw [(HS.out j).1,hemp];rfl
    go_wp2
    go_roundw
    case rel=>exact ⟨j+1,h5,by rw [q2],by go_num,by first | trivial | rfl⟩
    case measure=>simp [intOf];omega
  ·have hjK:j=K:=by omega
   subst hjK
   have hji:¬ (j:Int)<j:=by omega
   have hz:(B (S j)).size=(S j).length:=B_size _
   go_wp2
   go_ret
   exact ⟨by first | rfl | simp,bgo⟩
theorem kp_hi (hl:¬ pr<((S K).length:Int)) (h1:¬ e<le) (h2:mo<e):CB 6 #[.int .i64 n,.int .i64 d,.int .u32 (C:Int),.int .u8 m,.int .i16 e,.bool s] w (.bool true):=by
 have hsm:=cell_set_map
 have htl:=B_toList
 have HS:Hid (∀ j,S (j+1)=(if (S j).isEmpty then S j else S j++[48])/\(S j).length<=10+j):=hS
 clear hS
 unfold A4 at *
 go_enter Tryz.func6,Tryz.ntmps6
 go_wp2_with (first
  | (go_at_call 8;refine (c8 _ (hTT _ _ hT bgo)).mono ?_;rintro r w1 ⟨rfl,hb1⟩;obtain ⟨_,_,hA1,_⟩:=wf w hb1;clear hb1)
  | (go_at_call 17;refine (c17 _).mono ?_;rintro r w0 ⟨rfl,rfl⟩)
  | (go_at_call 18;refine (c18 _).mono ?_;rintro r w0 ⟨rfl,rfl⟩)
  | (go_at_call 19;refine (c19 _).mono ?_;rintro r w2 ⟨rfl,hb2⟩;obtain ⟨_,_,hA2,_⟩:=wf w hb2;clear hb2)
  | (go_at_call 20;refine (c20 _ _ (nv_dec (by simp) (by rfl) (by omega))).mono ?_;rintro r w3 ⟨rfl,hb3⟩;obtain ⟨_,_,_,_,hA3,_⟩:=wz w hb3 w2.heap.size;clear hb3))
 go_loopw [15,46] (fun t15 t46 wr=>∃ j:Nat,j<=K/\t15=.string (B (S j))/\t46=.int .u8 (j:Int)/\wr=w3) (fun _ t46 _=>K-(intOf t46).toNat)
 case atStart=>exact ⟨0,Nat.zero_le _,rfl,rfl,rfl⟩
 case round =>
  obtain ⟨j,hj,rfl,rfl,rfl⟩:=hrel
  have hjb:(j:Int)<=39:=by omega
  by_cases h5:j<K
  ·have hji:(j:Int)<K:=by omega
   have hl:=(HS.out j).2
   have hs1:(B (S j)).size<=1000:=by rw [B_size];omega
   cases hemp:(S j).isEmpty
   ·have q1:B (S j)++⟨#[48]⟩=B (S (j+1)):=by
     rw [show (⟨#[48]⟩:ByteArray)=B [48] from rfl,B_app,(HS.out j).1,hemp];rfl
    go_wp2
    go_roundw
    case rel=>exact ⟨j+1,h5,by first | rfl | rw [q1],by go_num,by first | trivial | rfl⟩
    case measure=>simp [intOf];omega
   ·have q2:S (j+1)=S j:=by rw [(HS.out j).1,hemp];rfl
    go_wp2
    go_roundw
    case rel=>exact ⟨j+1,h5,by rw [q2],by go_num,by first | trivial | rfl⟩
    case measure=>simp [intOf];omega
  ·have hjK:j=K:=by omega
   subst hjK
   have hji:¬ (j:Int)<j:=by omega
   have hz:(B (S j)).size=(S j).length:=B_size _
   go_wp2
   go_ret
   exact ⟨by first | rfl | simp,bgo⟩
theorem kp_k (hl:¬ pr<((S K).length:Int)) (h1:¬ e<le) (h2:¬ mo<e) (R N:Nat)
  (c13:∀ W,TT W->CB 13 #[.int .i64 n,.int .i64 d,.agg #[.int .i64 1,.bool s,.bool false,.string (B (S K)),.int .i64 e]] W (.tuple #[A4 R,.int .i64 0,.int .i64 0]))
  (c21:∀ W,CB 21 #[.int .i64 n,A4 R] W (.tuple #[.agg #[.int .i64 1,.bool s,.bool false,.int .i64 e,.int .u64 (W4 N 0),.int .u64 (W4 N 1),.int .u64 (W4 N 2),.int .u64 (W4 N 3)],.bool true,.int .i64 0]))
  (c23:∀ W,CE 23 #[.string (B (S K))] W (NT 1001 N))
  (c22:∀ W v,NT 1001 N v W->CB 22 #[v] W (A4 N)):CB 6 #[.int .i64 n,.int .i64 d,.int .u32 (C:Int),.int .u8 m,.int .i16 e,.bool s] w (.bool true):=by
 have hsm:=cell_set_map
 have htl:=B_toList
 have HS:Hid (∀ j,S (j+1)=(if (S j).isEmpty then S j else S j++[48])/\(S j).length<=10+j):=hS
 clear hS
 unfold A4 at *
 go_enter Tryz.func6,Tryz.ntmps6
 go_wp2_with (first
  | (go_at_call 8;refine (c8 _ (hTT _ _ hT bgo)).mono ?_;rintro r w1 ⟨rfl,hb1⟩;obtain ⟨_,_,hA1,_⟩:=wf w hb1;clear hb1)
  | (go_at_call 17;refine (c17 _).mono ?_;rintro r w0 ⟨rfl,rfl⟩)
  | (go_at_call 18;refine (c18 _).mono ?_;rintro r w0 ⟨rfl,rfl⟩)
  | (go_at_call 19;refine (c19 _).mono ?_;rintro r w2 ⟨rfl,hb2⟩;obtain ⟨_,_,hA2,_⟩:=wf w hb2;clear hb2)
  | (go_at_call 20;refine (c20 _ _ (nv_dec (by simp) (by rfl) (by omega))).mono ?_;rintro r w3 ⟨rfl,hb3⟩;obtain ⟨_,_,_,_,hA3,_⟩:=wz w hb3 w2.heap.size;clear hb3))
 go_loopw [15,46] (fun t15 t46 wr=>∃ j:Nat,j<=K/\t15=.string (B (S j))/\t46=.int .u8 (j:Int)/\wr=w3) (fun _ t46 _=>K-(intOf t46).toNat)
 case atStart=>exact ⟨0,Nat.zero_le _,rfl,rfl,rfl⟩
 case round =>
  obtain ⟨j,hj,rfl,rfl,rfl⟩:=hrel
  have hjb:(j:Int)<=39:=by omega
  by_cases h5:j<K
  ·have hji:(j:Int)<K:=by omega
   have hl:=(HS.out j).2
   have hs1:(B (S j)).size<=1000:=by rw [B_size];omega
   cases hemp:(S j).isEmpty
   ·have q1:B (S j)++⟨#[48]⟩=B (S (j+1)):=by
     rw [show (⟨#[48]⟩:ByteArray)=B [48] from rfl,B_app,(HS.out j).1,hemp];rfl
    go_wp2
    go_roundw
    case rel=>exact ⟨j+1,h5,by first | rfl | rw [q1],by go_num,by first | trivial | rfl⟩
    case measure=>simp [intOf];omega
   ·have q2:S (j+1)=S j:=by rw [(HS.out j).1,hemp];rfl
    go_wp2
    go_roundw
    case rel=>exact ⟨j+1,h5,by rw [q2],by go_num,by first | trivial | rfl⟩
    case measure=>simp [intOf];omega
  ·have hjK:j=K:=by omega
   subst hjK
   have hji:¬ (j:Int)<j:=by omega
   have hz:(B (S j)).size=(S j).length:=B_size _
   have h27:True:=trivial
   go_wp2_with (first
    | (go_at_call 13;refine (c13 _ (hTT _ _ hT bgo)).mono ?_;rintro r w4 ⟨rfl,hb4⟩;obtain ⟨_,_,_,_,hA4,_⟩:=wz w hb4 w2.heap.size;clear hb4)
    | (go_at_call 21;refine (c21 _).mono ?_;rintro r w5 ⟨rfl,hb5⟩;obtain ⟨_,_,_,_,hA5,_⟩:=wz w hb5 w2.heap.size;obtain ⟨_,_⟩:=zf hb5 w4.heap.size;clear hb5))
   refine regK14 (g:=w5.heap.size) (N:=N) (s:=s) (e:=e) (T:=B (S j)) rfl he rfl rfl rfl rfl rfl rfl rfl rfl (by simp) (fun i hi=>?_) c23 c22 ?_
   ·have hor:i=0∨i=1∨i=2∨i=3∨i=4∨i=5∨i=6∨i=7:=by omega
    rcases hor with rfl | rfl | rfl | rfl | rfl | rfl | rfl | rfl <;> go_simp
   intro af wf e12 hsz' hdf hbf
   have hAf:=bnext (w0:=w) bgo hbf
   go_wp2
   refine bodyPost_ret (v:=.bool true) ?_ hdf ⟨rfl,hAf⟩
   unfold slot at e12
   rw [Array.getElem?_eq_getElem (by omega)] at e12
   simp only [results,Tryz.results6]
   go_simp
end
theorem dc_ten {C:Nat} (hC:C<=4294967295):(dcL C).length<=10:=by
 have hC2:C<2^256:=by
  have:4294967295<2^256:=by decide
  omega
 obtain ⟨f1,f2,f3⟩:=dcL_facts hC2
 by_cases h0:C=0
 ·rw [h0,show dcL 0=[] by kernel_rfl];decide
 ·have hne:=dcL_ne h0 hC2
  have h1:by_ (dcL C) 0≠48:=by
   rcases f1 with q | ⟨_,q⟩
   ·exact absurd q hne
   ·exact q
  have h2:=dV_ge (gdD_all f1) h1 hne
  rw [f2] at h2
  rcases Nat.lt_or_ge 10 (dcL C).length with q | q
  ·have:(10:Nat)^10<=10^((dcL C).length-1):=Nat.pow_le_pow_right (by decide) (by omega)
   omega
  ·exact q
def kpS (C j:Nat):List UInt8:=if C=0 then [] else dcL C++List.replicate j 48
theorem kpS_step {C:Nat} (hC:C<=4294967295) (j:Nat):kpS C (j+1)=(if (kpS C j).isEmpty then kpS C j else kpS C j++[48])/\(kpS C j).length<=10+j:=by
 have hC2:C<2^256:=by
  have:4294967295<2^256:=by decide
  omega
 have h10:=dc_ten hC
 unfold kpS
 by_cases h0:C=0
 ·rw [if_pos h0,if_pos h0]
  exact ⟨rfl,by simp⟩
 ·rw [if_neg h0,if_neg h0]
  have hne:=dcL_ne h0 hC2
  have he:(dcL C++List.replicate j 48).isEmpty=false:=by
   cases hq:dcL C with
   | nil=>exact absurd hq hne
   | cons a l=>rfl
  rw [he]
  refine ⟨?_,by rw [List.length_append,List.length_replicate];omega⟩
  rw [List.replicate_succ',← List.append_assoc];rfl
theorem keeps16_v {TT:World->Prop} (h:DtxC TT) (hM:DtxM TT) (n d m e:Int) (C:Nat) (s:Bool) (w:World) (hT:TT w) (hC:C<=4294967295) (he:-32768<=e/\e<=32767) (hm:0<=m/\m<=255):CB 6 #[.int .i64 n,.int .i64 d,.int .u32 (C:Int),.int .u8 m,.int .i16 e,.bool s] w (.bool true):=by
 have c8:=fun W hW=>awake16 h W hW
 have c17:=fun W=>rdecimal_any n W
 by_cases hn:decN n
 ·rw [decide_eq_true hn] at c17
  have c18:=fun W=>rdir_any d W
  by_cases hd:knB d
  ·rw [decide_eq_true hd] at c18
   obtain ⟨K,hK⟩:∃ K:Nat,m%40=(K:Int):=⟨(m%40).toNat,by omega⟩
   have hK3:(K:Int)<=39:=by omega
   have hK1:m.tmod 40=(K:Int):=by rw [Int.tmod_eq_emod_of_nonneg hm.1];exact hK
   have hC2:C<2^256:=by
    have:4294967295<2^256:=by decide
    omega
   have c19:=fun W=>rof_dec hn W
   have e0:kpS C 0=dcL C:=by
    unfold kpS
    by_cases h0:C=0
    ·rw [if_pos h0,h0];kernel_rfl
    ·rw [if_neg h0,List.replicate_zero,List.append_nil]
   have c20:∀ W v,NV 1 C v W->CB 20 #[v] W (.string (B (kpS C 0))):=fun W v hv=>by
    rw [e0]
    exact dec_v (by decide) hC2 (nv_nt hv)
   have hS:=fun j=>kpS_step hC j
   by_cases hl:3*((fD n).j:Int)+1<((kpS C K).length:Int)
   ·exact kp_l TT h.next w hT c8 n d m e C s hC he hm c17 c18 K hK1 hK hK3 (kpS C) hS _ _ _ _ _ _ _ _ c19 c20 hl
   ·by_cases h1:e<(fD n).l
    ·exact kp_lo TT h.next w hT c8 n d m e C s hC he hm c17 c18 K hK1 hK hK3 (kpS C) hS _ _ _ _ _ _ _ _ c19 c20 hl h1
    ·by_cases h2:(fD n).l+3*2^(fD n).w-1<e
     ·exact kp_hi TT h.next w hT c8 n d m e C s hC he hm c17 c18 K hK1 hK hK3 (kpS C) hS _ _ _ _ _ _ _ _ c19 c20 hl h1 h2
     ·have hgd:gdD (kpS C K):=by
       unfold kpS
       by_cases h0:C=0
       ·rw [if_pos h0];exact Or.inl rfl
       ·rw [if_neg h0]
        obtain ⟨f1,_,_⟩:=dcL_facts hC2
        exact gdD_zeros f1 (dcL_ne h0 hC2) K
      have hall:=gdD_all hgd
      have hlen:=(hS K).2
      have hlt:=(dV_lt hall).1
      have hN:dV (kpS C K)<10^(3*(fD n).j+1):=Nat.lt_of_lt_of_le hlt (Nat.pow_le_pow_right (by decide) (by omega))
      have hv:vI (fD n) ⟨1,s,false,e,dV (kpS C K)⟩:=Or.inl ⟨rfl,rfl,hN,by show (fD n).l<=e;omega,by show e<=(fD n).l+3*2^(fD n).w-1;omega⟩
      have hgp:gdP ⟨1,s,false,kpS C K,e⟩:=⟨hgd,Or.inl ⟨rfl,rfl,by show -1000000000<=e/\e<=1000000000;omega,by
       have:=tex_len2 (c:=1) (s:=s) (g:=false) (d:=kpS C K) (e:=e) (by omega)
       show (texT 1 s false (kpS C K) e).length<=4000
       omega⟩⟩
      obtain ⟨r1,r2,r3⟩:=rq_keep (d:=d) hn hd hv rfl
      have hD:dmD n d ⟨1,s,false,kpS C K,e⟩=⟨1,s,false,e,dV (kpS C K)⟩:=by unfold dmD;rw [if_pos rfl];exact r2
      have hF:dmF n d ⟨1,s,false,kpS C K,e⟩=0:=by unfold dmF;rw [if_pos rfl];exact r3
      have hE:kmE n d ⟨1,s,false,kpS C K,e⟩=0:=by unfold kmE;rw [if_pos ⟨hn,hd⟩,if_pos hgp]
      have hV:kmV n d ⟨1,s,false,kpS C K,e⟩=vP (fD n) ⟨1,s,false,e,dV (kpS C K)⟩:=by
       unfold kmV vPV;rw [if_pos hE,hD,if_pos ⟨hn,hv⟩]
      have hF2:kmF n d ⟨1,s,false,kpS C K,e⟩=0:=by unfold kmF;rw [if_pos hE];exact hF
      have c13:=fun W hW=>hM.mak n d ⟨1,s,false,kpS C K,e⟩ W (by show (kpS C K).length<10001;omega) (by show -9223372036854775808<=e/\e<=9223372036854775807;omega) hW
      rw [hV,hF2,hE] at c13
      have hg2:goodD n (vP (fD n) ⟨1,s,false,e,dV (kpS C K)⟩):=⟨hn,vP_lt (fD_ok n) hv⟩
      have c21:=fun W=>runp14 n (vP (fD n) ⟨1,s,false,e,dV (kpS C K)⟩) W (vP_256 (fD_ok n) hv)
      rw [show vUD n (vP (fD n) ⟨1,s,false,e,dV (kpS C K)⟩)=⟨1,s,false,e,dV (kpS C K)⟩ by unfold vUD;rw [if_pos hg2];exact vM_vP (fD_ok n) hv,show vUE n (vP (fD n) ⟨1,s,false,e,dV (kpS C K)⟩)=0 from if_pos hg2,show vUC n (vP (fD n) ⟨1,s,false,e,dV (kpS C K)⟩)=true by unfold vUC;rw [vM_vP (fD_ok n) hv];exact decide_eq_true ⟨hg2,rfl⟩] at c21
      exact kp_k TT h.next w hT c8 n d m e C s hC he hm c17 c18 K hK1 hK hK3 (kpS C) hS _ _ _ _ _ _ _ _ c19 c20 hl h1 h2 _ (dV (kpS C K)) c13 c21 (fun W=>number8 (kpS C K) W hall (by omega)) (fun W v hv=>bits_nv hv.nv)
  ·rw [decide_eq_false hd] at c18
   exact kp_d TT h.next w hT c8 n d m e C s hC he hm c17 c18
 ·rw [decide_eq_false hn] at c17
  exact kp_a TT h.next w hT c8 n d m e C s hC he hm c17
end
end Go.Proofs.YtpabnhlfbjkmaaaGreatDoor
