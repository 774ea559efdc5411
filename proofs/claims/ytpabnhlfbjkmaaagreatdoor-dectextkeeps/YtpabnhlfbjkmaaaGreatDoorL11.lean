/-
  Texts that the proof leans on, joined: Fr, Ovm, Ove.
-/
import Derived.Test.YtpabnhlfbjkmaaaGreatDoorL1
import Derived.Test.YtpabnhlfbjkmaaaGreatDoorL9
import Derived.Test.YtpabnhlfbjkmaaaGreatDoorL7
set_option maxHeartbeats 8000000
set_option linter.unusedVariables false
set_option linter.unusedSimpArgs false
set_option linter.unusedSectionVars false
set_option maxRecDepth 20000
namespace Go.Proofs.YtpabnhlfbjkmaaaGreatDoor
open Go.RowKit
section
attribute [local go_sem] setCell_drewN alloc_drewN
theorem owns_base {w:World} {base g k cap:Nat} {xs:List Value} (h:w.ownsRow base 22 1 (.slice (some ⟨g,0,none⟩) k cap) k xs):base<=g:=by
 obtain ⟨hl,h⟩:=h
 rcases h with ⟨h,_⟩ | ⟨g',cap',cur,he,hb,_⟩
 ·cases h
 ·cases he;exact hb
theorem ftrim_some (b off n c:Nat) (x:Nat->Int) (w:World) (hn:n<4294967296) (h:Num w (some ⟨b,off,none⟩) n c x) :
  Calls Tryz.prog 44 #[.slice (some ⟨b,off,none⟩) n c] w fun e w'=>∃ g cap,e=.returned (.slice (some ⟨g,0,none⟩) (sizeL x n) cap)/\Num w' (some ⟨g,0,none⟩) (sizeL x n) cap x/\Below w.heap.size w w'/\w.heap.size<=g:=by
 obtain ⟨h1,h2,h3,h4,h5⟩:=h
 have hc:b<w.heap.size/\∀ i,i<n->w.cell? ⟨b,off+i,none⟩=some (.int .u64 (x i)):=by
  rcases h5 with ⟨h,_⟩ | ⟨b',off',h,hbs,hc⟩
  ·cases h
  ·cases h;exact ⟨hbs,hc⟩
 obtain ⟨hbs,hc⟩:=hc
 clear h5
 obtain ⟨i0,hi,hz0,hz1,hz2⟩:=info_parts Tryz.info22
 unfold maxLen at h2
 go_enter Tryz.func44,Tryz.ntmps44
 go_wp2
 go_loop [3] (fun t=>∃ k:Nat,k<=n/\sizeL x k=sizeL x n/\(∀ i,k<=i->x i=0)/\t=.int .i64 k) (fun t=>(intOf t).toNat)
 case atStart=>exact ⟨n,Nat.le_refl _,rfl,h4,rfl⟩
 case round =>
  obtain ⟨k,hk,hs,hz,rfl⟩:=hrel
  clear h4
  by_cases h0:k=0
  ·subst h0
   have HS:Hid (sizeL x n=0):=hs.symm
   have HN:Hid (Num (w.alloc (.cells #[] 22)) (some ⟨w.heap.size,0,none⟩) 0 0 x):=⟨Nat.le_refl _,by unfold maxLen;omega,h3,hz,Or.inr ⟨w.heap.size,0,rfl,by simp,fun i hi=>by omega⟩⟩
   clear hs hz hc h3
   go_wp2
   go_ret
   refine ⟨w.heap.size,0,?_,?_,(Below.refl _ _).alloc (Nat.le_refl _) _,Nat.le_refl _⟩
   ·rw [HS.out];rfl
   ·rw [HS.out];exact HN.out
  ·obtain ⟨j,rfl⟩:∃ j,k=j+1:=⟨k-1,by omega⟩
   have hcj:=hc j (by omega)
   by_cases hzj:x j=0
   ·have HS:Hid (sizeL x j=sizeL x n):=by
     have:sizeL x (j+1)=sizeL x j:=by simp [sizeL,hzj]
     exact this.symm.trans hs
    have HZ:Hid (∀ i,j<=i->x i=0):=fun i hji=>by
     by_cases e:i=j
     ·rw [e];exact hzj
     ·exact hz i (by omega)
    clear hs hz hc
    go_wp2
    go_round
    case rel=>exact ⟨j,by omega,HS.out,HZ.out,by go_num⟩
    case measure=>simp [intOf]
   ·have HS:Hid (sizeL x n=j+1):=by
     have:sizeL x (j+1)=j+1:=by simp [sizeL,hzj]
     exact hs.symm.trans this
    have HZ:Hid (∀ i,j+1<=i->x i=0):=hz
    have HC:Hid (∀ i,i<n->w.cell? ⟨b,off+i,none⟩=some (.int .u64 (x i))):=hc
    clear hs hz hc
    have HOWN:(w.alloc (.cells #[] 22)).ownsRow w.heap.size 22 1 (.slice (some ⟨w.heap.size,0,none⟩) 0 0) 0 [] :=
     ⟨rfl,Or.inr ⟨w.heap.size,0,#[],rfl,Nat.le_refl _,(MapKept.heap_alloc w _).1,Nat.le_refl _,by unfold maxLen;omega,rfl,rfl⟩⟩
    have HNEWS:∀ (q:Nat) (u:Value),((List.range (j+1)).map fun i=>Value.int .u64 (x i))[q]?=some u->(w.alloc (.cells #[] 22)).cell? ((⟨b,off,none⟩:Addr).add q)=some u:=by
     intro q u hq
     have hql:q<j+1:=by
      rcases Nat.lt_or_ge q (j+1) with h | h
      ·exact h
      ·rw [List.getElem?_eq_none (by simpa using h)] at hq;cases hq
     have e2:u=.int .u64 (x q):=by simpa [hql] using hq.symm
     rw [e2]
     have ea:(⟨b,off,none⟩:Addr).add q=⟨b,off+q,none⟩:=by simp [Addr.add]
     rw [ea]
     exact (((Below.refl w.heap.size w).alloc (Nat.le_refl _) _).cell (p:=⟨b,off+q,none⟩) hbs).trans (HC.out q (by omega))
    have HONE:∀ u ∈ ((List.range (j+1)).map fun i=>Value.int .u64 (x i)),u.oneCell'=true:=by
     intro u hu
     obtain ⟨q,_,rfl⟩:=List.mem_map.1 hu
     rfl
    go_wp2_with (at_builtin;refine wpList_append_lies _ rfl (.tmp 18) (.tmp 21) 48 rfl w.heap.size 22 i0 (.int .u64 0) 1 8 Tryz.underlying48 hi hz0 hz1 hz2 rfl (by decide) (.slice (some ⟨w.heap.size,0,none⟩) 0 0) 0 [] rfl HOWN ⟨b,off,none⟩ (j+1) c ((List.range (j+1)).map fun i=>Value.int .u64 (x i)) rfl (by simp) HNEWS HONE (by omega) (by unfold maxLen;omega) (by omega) (by simp) (w.heap.size+1) (by simp) ?_;intro g cap w1 hown hgrow hat hlt;clear HOWN HNEWS HONE)
    have hown':w1.ownsRow w.heap.size 22 1 (.slice (some ⟨g,0,none⟩) (j+1) cap) (j+1) ((List.range (j+1)).map fun i=>Value.int .u64 (x i)):=by
     have e0:0+(j+1)=j+1:=by omega
     rw [e0] at hown
     simpa using hown
    have HN:=num_of_owns (w:=w) h3 HZ.out hown' hlt
    have HFG:w.heap.size<=g:=owns_base hown'
    have HB:Below w.heap.size w w1:=((Below.refl _ _).alloc (Nat.le_refl _) _).grown hgrow (by simp) (by intro k hk;cases hk;exact Nat.le_refl _)
    clear hown hown' hgrow
    go_wp2
    go_ret
    refine ⟨g,cap,?_,?_,HB,HFG⟩
    ·rw [HS.out];simp
    ·rw [HS.out];exact HN
theorem ftrim_nil (x:Nat->Int) (w:World) (hx:∀ i,x i=0) :
  Calls Tryz.prog 44 #[.slice none 0 0] w fun e w'=>∃ g cap,e=.returned (.slice (some ⟨g,0,none⟩) 0 cap)/\Num w' (some ⟨g,0,none⟩) 0 cap x/\Below w.heap.size w w'/\w.heap.size<=g:=by
 go_enter Tryz.func44,Tryz.ntmps44
 go_wp2
 go_loop [3] (fun t=>t=.int .i64 0) (fun t=>(intOf t).toNat)
 case atStart=>rfl
 case round =>
  subst hrel
  go_wp2
  go_ret
  refine ⟨w.heap.size,0,rfl,?_,(Below.refl _ _).alloc (Nat.le_refl _) _,Nat.le_refl _⟩
  exact ⟨Nat.le_refl _,by unfold maxLen;omega,fun i=>by rw [hx i];decide,fun i _=>hx i,Or.inr ⟨w.heap.size,0,rfl,by simp,fun i hi=>by omega⟩⟩
theorem ftrim_any (a:Option Addr) (n c:Nat) (x:Nat->Int) (w:World) (hn:n<4294967296) (h:Num w a n c x) :
  Calls Tryz.prog 44 #[.slice a n c] w fun e w'=>∃ g cap,e=.returned (.slice (some ⟨g,0,none⟩) (sizeL x n) cap)/\Num w' (some ⟨g,0,none⟩) (sizeL x n) cap x/\Below w.heap.size w w'/\w.heap.size<=g:=by
 have h':=h
 obtain ⟨h1,h2,h3,h4,h5⟩:=h'
 rcases h5 with ⟨rfl,rfl⟩ | ⟨b,off,rfl,_,_⟩
 ·obtain rfl:n=0:=by omega
  exact ftrim_nil x w (fun i=>h4 i (Nat.zero_le _))
 ·exact ftrim_some b off n c x w hn h
theorem frless_any (a a':Option Addr) (n c n' c':Nat) (x y:Nat->Int) (w:World) (hn:n<4294967290) (hn':n'<4294967290) (h:Num w a n c x) (h':Num w a' n' c' y) :
  Calls Tryz.prog 89 #[.slice a n c,.slice a' n' c'] w fun e w'=>∃ g k cap,e=.returned (.slice (some ⟨g,0,none⟩) k cap)/\k<=max n n'/\Num w' (some ⟨g,0,none⟩) k cap (difZ x y (max n n'))/\Below w.heap.size w w'/\w.heap.size<=g/\sizeL (difZ x y (max n n')) k=k:=by
 have hx:=h.2.2.1
 have hy:=h'.2.2.1
 have zx:=h.2.2.2.1
 have zy:=h'.2.2.2.1
 obtain ⟨M,hM⟩:∃ M,max n n'=M:=⟨_,rfl⟩
 have hMi:max (n:Int) n'=(M:Int):=by omega
 have hMb:M<4294967292:=by omega
 have hmk:=fun w=>make_any (max (n:Int) n') M hMi (by omega) w
 have hfin:∀ (ss:Array Value),ss.size=M->(∀ j h,ss[j]'h=Value.int .u64 (difW x y j))->Num (w.alloc (.cells ss 22)) (some ⟨w.heap.size,0,none⟩) M M (difZ x y (max n n')):=fun ss h1 h2=>num_of_block (by omega) (difZ_words x y _) (fun i hi=>by unfold difZ;rw [if_neg (by omega)]) h1 (fun j hj=>by rw [h2 j hj];unfold difZ;rw [if_pos (by omega)])
 have hw1:=fun (i:Nat) (ss:Array Value)=>word_any a n c i x (w.alloc (.cells ss 22)) (h.next (below1 w _))
 have hw2:=fun (i:Nat) (ss:Array Value)=>word_any a' n' c' i y (w.alloc (.cells ss 22)) (h'.next (below1 w _))
 have HM:Hid (max n n'=M):=hM
 have HZ:Hid ((arrOf (fun _=>0) M).size=M/\∀ j h,(arrOf (fun _=>0) M)[j]'h=Value.int .u64 0):=⟨arrOf_size _ _,fun j h=>arrOf_get _ _ _ _⟩
 clear h h' zx zy hM hMi
 generalize arrOf (fun _=>0) M=zz at *
 go_enter Tryz.func89,Tryz.ntmps89
 go_wp2
 go_loopw [6,7,16,19] (fun c u7 i u20 wr=>∃ (k:Nat) (ss:Array Value),k<=M/\i=.int .i64 k/\c=.int .u64 (borW x y k)/\ss.size=M/\(∀ j h,ss[j]'h=Value.int .u64 (if j<k then difW x y j else 0))/\wr=w.alloc (.cells ss 22)) (fun _ _ i _ _=>M-(intOf i).toNat)
 case atStart=>exact ⟨0,zz,Nat.zero_le _,rfl,rfl,HZ.out.1,fun j h=>by rw [HZ.out.2 j h];simp,rfl⟩
 case round =>
  obtain ⟨k,ss,hk,rfl,rfl,hsz,hss,rfl⟩:=hrel
  have hcar:=borW_01 x y k
  by_cases h8:k<M
  ·have h8i:(k:Int)<M:=by omega
   have h8s:k<ss.size:=by omega
   have bx:=hx k
   have b_y:=hy k
   have hsk:ss[k]?=some (.int .u64 0):=by rw [Array.getElem?_eq_getElem h8s,hss k h8s,if_neg (by omega)]
   have hadd:=fun w=>sub64 (x k) (y k) (borW x y k) bx.1 b_y.1 (by omega) hcar.1 hcar.2 w
   have hwa:=hw1 k ss
   have hwb:=hw2 k ss
   have HR:Hid (∀ (i:Nat) (h:i<(ss.setIfInBounds k (.int .u64 (difW x y k))).size),(ss.setIfInBounds k (.int .u64 (difW x y k)))[i]'h=Value.int .u64 (if i<k+1 then difW x y i else 0)):=set_next hss
   clear hss hw1 hw2 hfin hmk hx hy
   go_wp2_with (first | (go_at_call_of 46 (Value.slice a n c);refine hwa.mono ?_;rintro e w' ⟨rfl,rfl⟩) | (go_at_call_of 46 (Value.slice a' n' c');refine hwb.mono ?_;rintro e w' ⟨rfl,rfl⟩))
   go_roundw
   case rel=>exact ⟨k+1,ss.setIfInBounds k (.int .u64 (difW x y k)),by omega,by go_num,rfl,by simp [hsz],HR.out,rfl⟩
   case measure=>simp [intOf];omega
  ·obtain rfl:k=M:=by omega
   have hss':∀ j h,ss[j]'h=Value.int .u64 (difW x y j):=by
    intro j h;rw [hss j h,if_pos (by omega)]
   have hT:=ftrim_any _ _ _ _ _ (by omega) (hfin ss hsz hss')
   have hle:=sizeL_le (difZ x y (max n n')) k
   clear hss hss' hw1 hw2 hfin hmk hx hy
   go_wp2_with (go_at_call 44;refine hT.mono ?_;rintro e w1 ⟨g,cap,rfl,hN,hB,hfg⟩)
   go_ret
   exact ⟨g,_,cap,rfl,Nat.le_trans hle (Nat.le_of_eq HM.out.symm),hN,(below1 w _).trans (hB.mono (by simp)),by simp at hfg;omega,sizeL_sizeL _ _⟩
theorem frgt_p (b off n c q r:Nat) (s:Int) (x:Nat->Int) (w:World) (hn:n<4000000000) (hq0:q<100000) (hr0:r<64) (hrp:0<r) (hq:s/64=q) (hr:s%64=r) (hs:0<=s) (hqn:q<n) (h:Num w (some ⟨b,off,none⟩) n c x) :
  Calls Tryz.prog 58 #[.slice (some ⟨b,off,none⟩) n c,.int .i64 s] w fun e w'=>∃ g k cap,e=.returned (.tuple #[.slice (some ⟨g,0,none⟩) k cap,.bool (goneB x q r)])/\k<=n/\Num w' (some ⟨g,0,none⟩) k cap (shrW x q r)/\Below w.heap.size w w'/\w.heap.size<=g:=by
 have hx:=h.2.2.1
 have zx:=h.2.2.2.1
 have hc:b<w.heap.size/\∀ i,i<n->w.cell? ⟨b,off+i,none⟩=some (.int .u64 (x i)):=by
  rcases h.2.2.2.2 with ⟨h,_⟩ | ⟨b',off',h,hbs,hc⟩
  ·cases h
  ·cases h;exact ⟨hbs,hc⟩
 obtain ⟨hbs,hc⟩:=hc
 have hcap:=h.1
 have hs6:s<6400064:=by omega
 obtain ⟨i0,hi,hz0,hz1,hz2⟩:=info_parts Tryz.info22
 have HX:Hid (Num w (some ⟨b,off,none⟩) n c x):=h
 clear h
 go_enter Tryz.func58,Tryz.ntmps58
 go_wp2
 go_loop [6,7,13] (fun g u7 i=>∃ (k:Nat),k<=n/\i=.int .i64 k/\g=.bool (goneK x q r k)) (fun _ _ i=>n-(intOf i).toNat)
 case atStart=>exact ⟨0,Nat.zero_le _,rfl,by rw [goneK_zero]⟩
 case round =>
  obtain ⟨k,hk,rfl,rfl⟩:=hrel
  by_cases h8:k<n
  ·have h8i:(k:Int)<n:=by omega
   by_cases hkq:k<q
   ·have bx:=hx k
    have hcx:=hc k h8
    clear hc hx zx hi hz0 hz1 hz2
    have hkq':(k:Int)<q:=by omega
    by_cases hz:x k=0
    ·have hz':(x k != 0)=false:=by simp [hz]
     have hne:((k:Int) == q)=false:=by simp;omega
     have HG:Hid (goneK x q r (k+1)=goneK x q r k):=goneK_lt0 hkq hz
     generalize goneK x q r k=z at *
     go_wp2
     go_round
     case rel=>exact ⟨k+1,by omega,by go_num,by rw [HG.out]⟩
     case measure=>simp [intOf];omega
    ·have hz':(x k != 0)=true:=by simp [hz]
     have HG:Hid (goneK x q r (k+1)=true):=goneK_lt1 hkq hz
     generalize goneK x q r k=z at *
     go_wp2
     go_round
     case rel=>exact ⟨k+1,by omega,by go_num,by rw [HG.out]⟩
     case measure=>simp [intOf];omega
   ·have hkq':¬ (k:Int)<q:=by omega
    by_cases hke:k=q
    ·subst hke
     have bx:=hx k
     have hcx:=hc k h8
     have hand:=and_mask bx hr0
     have hpp:=p2_pos r
     have hpl:=p2_le hr0
     have HG:Hid (goneK x k r (k+1)=(goneK x k r k || decide (x k%2^r≠0))):=goneK_eq x k r
     clear hc hx zx hi hz0 hz1 hz2
     by_cases hm:x k%2^r=0
     ·rw [hm] at hand
      generalize goneK x k r k=z at *
      skip
      go_wp2
      go_round
      case rel=>exact ⟨k+1,by omega,by go_num,by rw [HG.out];simp [hm]⟩
      case measure=>simp [intOf];omega
     ·have hm':(x k%2^r != 0)=true:=by simp [hm]
      generalize goneK x k r k=z at *
      skip
      go_wp2
      go_round
      case rel=>exact ⟨k+1,by omega,by go_num,by rw [HG.out];simp [hm]⟩
      case measure=>simp [intOf];omega
    ·have hcx:=hc k h8
     have HG:Hid (goneK x q r (k+1)=goneK x q r k):=goneK_gt (by omega)
     generalize goneK x q r k=z at *
     clear hc hx zx hi hz0 hz1 hz2
     have hne:((k:Int) == q)=false:=by simp;omega
     go_wp2
     go_round
     case rel=>exact ⟨k+1,by omega,by go_num,by rw [HG.out]⟩
     case measure=>simp [intOf];omega
  ·obtain rfl:k=n:=by omega
   have HGB:Hid (goneK x q r k=goneB x q r):=goneK_end hqn
   generalize goneK x q r k=gz at *
   go_wp2
   go_loopw [8,9,10] (fun v i u10 wr=>∃ (j:Nat) (ao:Option Addr) (cp:Nat),j<=k-q/\i=.int .i64 ((q:Int)+j)/\v=.slice ao j cp/\wr.ownsRow w.heap.size 22 1 (.slice ao j cp) j (wl (shrW x q r) j)/\Below w.heap.size w wr) (fun _ i _ _=>k+1-(intOf i).toNat)
   case atStart=>exact ⟨0,none,0,Nat.zero_le _,by go_num,rfl,World.ownsRow_nil _ _ _ _,Below.refl _ _⟩
   case round =>
    obtain ⟨j,ao,cp,hj,rfl,rfl,hown,hB⟩:=hrel
    by_cases hlt:q+j<k
    ·have hlt':(q:Int)+j<k:=by omega
     have bx:=hx (q+j)
     have b_y:=hx (q+j+1)
     have e1:((q:Int)+j).toNat=q+j:=by omega
     have hcx:wr.cell? ⟨b,off+(q+j),none⟩=some (.int .u64 (x (q+j))):=(hB.cell (p:=⟨b,off+(q+j),none⟩) hbs).trans (hc (q+j) hlt)
     have HW:Hid (CQ 46 #[.slice (some ⟨b,off,none⟩) k c,.int .i64 ((q:Int)+j+1)] wr (.int .u64 (x (q+j+1)))):=by
      have:=word_any (some ⟨b,off,none⟩) k c (q+j+1) x wr (HX.out.next hB)
      rw [show ((q+j+1:Nat):Int)=(q:Int)+j+1 by omega] at this
      exact this.mono fun _ _ h=>⟨h.1,h.2.symm⟩
     have hbw:=hB.size
     have HO:Hid (wr.ownsRow w.heap.size 22 1 (.slice ao j cp) j (wl (shrW x q r) j)):=hown
     have HVAL:Hid (shrW x q r j=bits BinOp.or IntKind.u64 (x (q+j)/2^r) (IntKind.u64.wrap (x (q+j+1)*2^(64-r)))):=by show _=_;unfold shrW;rw [if_neg (by omega)];rfl
     have HOWN:(wr.alloc (.cells #[.int .u64 (bits BinOp.or IntKind.u64 (x (q+j)/2^r) (IntKind.u64.wrap (x (q+j+1)*2^(64-r))))] 22)).ownsRow w.heap.size 22 1 (.slice ao j cp) j (wl (shrW x q r) j):=hown.alloc _
     have HNEWS:∀ (p:Nat) (u:Value),[Value.int .u64 (bits BinOp.or IntKind.u64 (x (q+j)/2^r) (IntKind.u64.wrap (x (q+j+1)*2^(64-r))))][p]?=some u->(wr.alloc (.cells #[.int .u64 (bits BinOp.or IntKind.u64 (x (q+j)/2^r) (IntKind.u64.wrap (x (q+j+1)*2^(64-r))))] 22)).cell? ((⟨wr.heap.size,0,none⟩:Addr).add p)=some u:=by
      intro p u hp
      match p,hp with
      | 0,hp=>simp at hp;subst hp;simp [Addr.add]
     have HONE:∀ u ∈ [Value.int .u64 (bits BinOp.or IntKind.u64 (x (q+j)/2^r) (IntKind.u64.wrap (x (q+j+1)*2^(64-r))))],u.oneCell'=true:=by
      intro u hu;simp at hu;subst hu;rfl
     clear hc hx zx hown
     go_wp2_with (first | (at_builtin;refine wpList_append_lies _ rfl (.tmp 77) (.tmp 79) 48 rfl w.heap.size 22 i0 (.int .u64 0) 1 8 Tryz.underlying48 hi hz0 hz1 hz2 rfl (by decide) (.slice ao j cp) j (wl (shrW x q r) j) rfl HOWN ⟨wr.heap.size,0,none⟩ 1 1 [Value.int .u64 (bits BinOp.or IntKind.u64 (x (q+j)/2^r) (IntKind.u64.wrap (x (q+j+1)*2^(64-r))))] rfl rfl HNEWS HONE (by omega) (by unfold maxLen;omega) (by omega) (by simp;omega) (wr.heap.size+1) (by simp) ?_;intro g cap w1 hown1 hgrow hat hlt1;clear HOWN HNEWS HONE) | (go_at_call 46;refine HW.out.mono ?_;rintro e w' ⟨rfl,rfl⟩))
     have hown2:w1.ownsRow w.heap.size 22 1 (.slice (some ⟨g,0,none⟩) (j+1) cap) (j+1) (wl (shrW x q r) (j+1)):=by
      rw [← HVAL.out,wl_succ] at hown1;exact hown1
     have HB2:Below w.heap.size w w1:=(hB.alloc hbw _).grown hgrow (by simp;omega) (by
      intro p hp
      rcases ao with _ | ⟨bb,oo,sp⟩
      ·cases hp
      ·cases hp
       obtain ⟨_,h1⟩:=HO.out
       rcases h1 with ⟨h1,_⟩ | ⟨g',_,_,h1,h2,_⟩
       ·cases h1
       ·cases h1;exact h2)
     clear hown1 hgrow
     go_wp2
     go_roundw
     case rel=>exact ⟨j+1,some ⟨g,0,none⟩,cap,by omega,by go_num,rfl,hown2,HB2⟩
     case measure=>simp [intOf];omega
    ·have HZ:∀ i,j<=i->shrW x q r i=0:=fun i hi=>shrW_zero zx q r i (by omega)
     have hT:=ftrim_any ao j cp _ wr (by omega) (num_of_owns' (shrW_words hx q r) HZ hown)
     have hle:=sizeL_le (shrW x q r) j
     have hlt':¬ (q:Int)+j<k:=by omega
     clear hc hx zx hown HZ
     go_wp2_with (go_at_call 44;refine hT.mono ?_;rintro e w1 ⟨g,cap,rfl,hN,hB1,hfg⟩)
     go_ret2
     exact ⟨g,_,cap,by rw [HGB.out];rfl,by omega,hN,hB.trans (hB1.mono hB.size),Nat.le_trans hB.size hfg⟩
theorem fleft_z (b off n c q:Nat) (s:Int) (x:Nat->Int) (w:World) (hn:n<4000000000) (hq0:q<100000) (hq:s/64=q) (hr:s%64=0) (hs:0<=s) (h:Num w (some ⟨b,off,none⟩) n c x) :
  Calls Tryz.prog 95 #[.slice (some ⟨b,off,none⟩) n c,.int .i64 s] w fun e w'=>∃ g k cap,e=.returned (.slice (some ⟨g,0,none⟩) k cap)/\k<=n+q+1/\Num w' (some ⟨g,0,none⟩) k cap (finL x q 0)/\Below w.heap.size w w'/\w.heap.size<=g/\sizeL (finL x q 0) k=k:=by
 have hx:=h.2.2.1
 have zx:=h.2.2.2.1
 have hc:b<w.heap.size/\∀ i,i<n->w.cell? ⟨b,off+i,none⟩=some (.int .u64 (x i)):=by
  rcases h.2.2.2.2 with ⟨h,_⟩ | ⟨b',off',h,hbs,hc⟩
  ·cases h
  ·cases h;exact ⟨hbs,hc⟩
 obtain ⟨hbs,hc⟩:=hc
 have hcap:=h.1
 have hs6:s<6400064:=by omega
 obtain ⟨M,hM⟩:∃ M,n+q+1=M:=⟨_,rfl⟩
 have hMi:(n:Int)+q+1=(M:Int):=by omega
 have hmk:=fun w=>make_any ((n:Int)+q+1) M hMi (by omega) w
 have hfin:∀ (ss:Array Value) (m:Nat),ss.size=M->(∀ j h,ss[j]'h=Value.int .u64 (stL x q 0 n j))->Num ((w.alloc (.cells ss 22)).drewN m) (some ⟨w.heap.size,0,none⟩) M M (finL x q 0):=fun ss m h1 h2=>(num_of_block (by omega) (finL_words hx q 0) (fun i hi=>finL_zero hx zx q 0 (by omega) i (by omega)) h1 (fun j hj=>by rw [h2 j hj,stL_end hx zx q 0 j (by omega)])).drewN m
 have HM:Hid (n+q+1=M):=hM
 have HZ:Hid ((arrOf (fun _=>0) M).size=M/\∀ j h,(arrOf (fun _=>0) M)[j]'h=Value.int .u64 0):=⟨arrOf_size _ _,fun j h=>arrOf_get _ _ _ _⟩
 have hcw:∀ (ss:Array Value) i,i<n->(w.alloc (.cells ss 22)).cell? ⟨b,off+i,none⟩=some (.int .u64 (x i)):=fun ss i hi=>((below1 w _).cell (p:=⟨b,off+i,none⟩) hbs).trans (hc i hi)
 clear h zx hMi hc
 generalize arrOf (fun _=>0) M=zz at *
 go_enter Tryz.func95,Tryz.ntmps95
 go_wp2
 go_loopw [6,16] (fun u6 i wr=>∃ (k m:Nat) (ss:Array Value),k<=n/\i=.int .i64 k/\ss.size=M/\(∀ j h,ss[j]'h=Value.int .u64 (stL x q 0 k j))/\wr=(w.alloc (.cells ss 22)).drewN m) (fun _ i _=>n-(intOf i).toNat)
 case atStart=>exact ⟨0,0,zz,Nat.zero_le _,rfl,HZ.out.1,fun j h=>by rw [HZ.out.2 j h];unfold stL;(by_cases e:j<q+0);(rw [if_pos e];unfold finL;rw [if_neg (by omega)]);(rw [if_neg e];split;(unfold lowp;rw [if_neg (by omega)]);rfl),rfl⟩
 case round =>
  obtain ⟨k,m,ss,hk,rfl,hsz,hss,rfl⟩:=hrel
  by_cases h8:k<n
  ·have h8i:(k:Int)<n:=by omega
   have h8s:k+q<ss.size:=by omega
   have h8t:(k:Int)+q<M:=by omega
   have h8u:(k:Int)+q+1<M:=by omega
   have bx:=hx k
   have hcx:=hcw ss k h8
   have hsk:ss[k+q]?=some (.int .u64 (lowp x q 0 (q+k))):=by rw [Array.getElem?_eq_getElem h8s,hss _ h8s];unfold stL;rw [if_neg (by omega),if_pos (by omega),Nat.add_comm]
   have hgo:∀ h,ss[k+q]'h=.int .u64 (lowp x q 0 (q+k)):=fun h=>by rw [hss _ h];unfold stL;rw [if_neg (by omega),if_pos (by omega),Nat.add_comm]
   have hlow:=lowp_word hx q 0 (q+k)
   have e1:((k:Int)+q).toNat=k+q:=by omega
   have e2:((k:Int)+q+1).toNat=k+q+1:=by omega
   have HF:Hid (finL x q 0 (q+k)=bits BinOp.or IntKind.u64 (lowp x q 0 (q+k)) (x k)):=by
    show _=_;unfold finL;rw [if_pos (by omega),show q+k-q=k by omega];simp [orW,wrap_id _ bx]
   have HR:Hid (∀ (i:Nat) (h:i<(ss.setIfInBounds (k+q) (.int .u64 (finL x q 0 (q+k)))).size),(ss.setIfInBounds (k+q) (.int .u64 (finL x q 0 (q+k))))[i]'h=Value.int .u64 (stL x q 0 (k+1) i)):=stL_step0 hss
   clear hss hfin hmk hx
   generalize hlo:lowp x q 0 (q+k)=lo at *
   clear hcw
   go_wp2
   go_region
   go_wp2
   go_roundw
   case rel=>refine ⟨k+1,m+1,ss.setIfInBounds (k+q) (.int .u64 (finL x q 0 (q+k))),by omega,by go_num,by simp [hsz],HR.out,?_⟩;rw [HF.out]
   case measure=>simp [intOf];omega
  ·obtain rfl:k=n:=by omega
   have hT:=ftrim_any _ _ _ _ _ (by omega) (hfin ss m hsz hss)
   have hle:=sizeL_le (finL x q 0) M
   clear hss hfin hmk hx hcw
   go_wp2_with (go_at_call 44;refine hT.mono ?_;rintro e w1 ⟨g,cap,rfl,hN,hB,hfg⟩)
   go_ret
   exact ⟨g,_,cap,rfl,Nat.le_trans hle (Nat.le_of_eq HM.out.symm),hN,(below_drewN (below1 w _) m).trans (hB.mono (by simp)),by simp at hfg;omega,sizeL_sizeL _ _⟩
theorem fleft_p (b off n c q r:Nat) (s:Int) (x:Nat->Int) (w:World) (hn:n<4000000000) (hq0:q<100000) (hr0:r<64) (hrp:0<r) (hq:s/64=q) (hr:s%64=r) (hs:0<=s) (h:Num w (some ⟨b,off,none⟩) n c x) :
  Calls Tryz.prog 95 #[.slice (some ⟨b,off,none⟩) n c,.int .i64 s] w fun e w'=>∃ g k cap,e=.returned (.slice (some ⟨g,0,none⟩) k cap)/\k<=n+q+1/\Num w' (some ⟨g,0,none⟩) k cap (finL x q r)/\Below w.heap.size w w'/\w.heap.size<=g/\sizeL (finL x q r) k=k:=by
 have hx:=h.2.2.1
 have zx:=h.2.2.2.1
 have hc:b<w.heap.size/\∀ i,i<n->w.cell? ⟨b,off+i,none⟩=some (.int .u64 (x i)):=by
  rcases h.2.2.2.2 with ⟨h,_⟩ | ⟨b',off',h,hbs,hc⟩
  ·cases h
  ·cases h;exact ⟨hbs,hc⟩
 obtain ⟨hbs,hc⟩:=hc
 have hcap:=h.1
 have hs6:s<6400064:=by omega
 obtain ⟨M,hM⟩:∃ M,n+q+1=M:=⟨_,rfl⟩
 have hMi:(n:Int)+q+1=(M:Int):=by omega
 have hmk:=fun w=>make_any ((n:Int)+q+1) M hMi (by omega) w
 have hfin:∀ (ss:Array Value) (m:Nat),ss.size=M->(∀ j h,ss[j]'h=Value.int .u64 (stL x q r n j))->Num ((w.alloc (.cells ss 22)).drewN m) (some ⟨w.heap.size,0,none⟩) M M (finL x q r):=fun ss m h1 h2=>(num_of_block (by omega) (finL_words hx q r) (fun i hi=>finL_zero hx zx q r (by omega) i (by omega)) h1 (fun j hj=>by rw [h2 j hj,stL_end hx zx q r j (by omega)])).drewN m
 have HM:Hid (n+q+1=M):=hM
 have HZ:Hid ((arrOf (fun _=>0) M).size=M/\∀ j h,(arrOf (fun _=>0) M)[j]'h=Value.int .u64 0):=⟨arrOf_size _ _,fun j h=>arrOf_get _ _ _ _⟩
 have hcw:∀ (ss:Array Value) i,i<n->(w.alloc (.cells ss 22)).cell? ⟨b,off+i,none⟩=some (.int .u64 (x i)):=fun ss i hi=>((below1 w _).cell (p:=⟨b,off+i,none⟩) hbs).trans (hc i hi)
 clear h zx hMi hc
 generalize arrOf (fun _=>0) M=zz at *
 go_enter Tryz.func95,Tryz.ntmps95
 go_wp2
 go_loopw [6,16] (fun u6 i wr=>∃ (k m:Nat) (ss:Array Value),k<=n/\i=.int .i64 k/\ss.size=M/\(∀ j h,ss[j]'h=Value.int .u64 (stL x q r k j))/\wr=(w.alloc (.cells ss 22)).drewN m) (fun _ i _=>n-(intOf i).toNat)
 case atStart=>exact ⟨0,0,zz,Nat.zero_le _,rfl,HZ.out.1,fun j h=>by rw [HZ.out.2 j h];unfold stL;(by_cases e:j<q+0);(rw [if_pos e];unfold finL;rw [if_neg (by omega)]);(rw [if_neg e];split;(unfold lowp;rw [if_neg (by omega)]);rfl),rfl⟩
 case round =>
  obtain ⟨k,m,ss,hk,rfl,hsz,hss,rfl⟩:=hrel
  by_cases h8:k<n
  ·have h8i:(k:Int)<n:=by omega
   have h8s:k+q<ss.size:=by omega
   have h8t:(k:Int)+q<M:=by omega
   have h8u:(k:Int)+q+1<M:=by omega
   have bx:=hx k
   have hcx:=hcw ss k h8
   have hsk:ss[k+q]?=some (.int .u64 (lowp x q r (q+k))):=by rw [Array.getElem?_eq_getElem h8s,hss _ h8s];unfold stL;rw [if_neg (by omega),if_pos (by omega),Nat.add_comm]
   have hgo:∀ h,ss[k+q]'h=.int .u64 (lowp x q r (q+k)):=fun h=>by rw [hss _ h];unfold stL;rw [if_neg (by omega),if_pos (by omega),Nat.add_comm]
   have h8v:k+q+1<ss.size:=by omega
   have hsl:ss[k+q+1]?=some (.int .u64 0):=by rw [Array.getElem?_eq_getElem h8v,hss _ h8v];unfold stL;rw [if_neg (by omega),if_neg (by omega)]
   have hlow:=lowp_word hx q r (q+k)
   have e1:((k:Int)+q).toNat=k+q:=by omega
   have e2:((k:Int)+q+1).toNat=k+q+1:=by omega
   have HF:Hid (finL x q r (q+k)=bits BinOp.or IntKind.u64 (lowp x q r (q+k)) (IntKind.u64.wrap (x k*2^r))):=by
    show _=_;unfold finL;rw [if_pos (by omega),show q+k-q=k by omega];rfl
   have HR:Hid (∀ (i:Nat) (h:i<((ss.setIfInBounds (k+q) (.int .u64 (finL x q r (q+k)))).setIfInBounds (k+q+1) (.int .u64 (x k/2^(64-r)))).size),((ss.setIfInBounds (k+q) (.int .u64 (finL x q r (q+k)))).setIfInBounds (k+q+1) (.int .u64 (x k/2^(64-r))))[i]'h=Value.int .u64 (stL x q r (k+1) i)):=stL_step1 hrp hss
   clear hss hfin hmk hx
   generalize hlo:lowp x q r (q+k)=lo at *
   have hcx':=hcw (ss.setIfInBounds (k+q) (.int .u64 (bits BinOp.or IntKind.u64 lo (IntKind.u64.wrap (x k*2^r))))) k h8
   clear hcw
   go_wp2
   go_region
   go_wp2
   go_roundw
   case rel=>refine ⟨k+1,m+1,(ss.setIfInBounds (k+q) (.int .u64 (finL x q r (q+k)))).setIfInBounds (k+q+1) (.int .u64 (x k/2^(64-r))),by omega,by go_num,by simp [hsz],HR.out,?_⟩;rw [HF.out]
   case measure=>simp [intOf];omega
  ·obtain rfl:k=n:=by omega
   have hT:=ftrim_any _ _ _ _ _ (by omega) (hfin ss m hsz hss)
   have hle:=sizeL_le (finL x q r) M
   clear hss hfin hmk hx hcw
   go_wp2_with (go_at_call 44;refine hT.mono ?_;rintro e w1 ⟨g,cap,rfl,hN,hB,hfg⟩)
   go_ret
   exact ⟨g,_,cap,rfl,Nat.le_trans hle (Nat.le_of_eq HM.out.symm),hN,(below_drewN (below1 w _) m).trans (hB.mono (by simp)),by simp at hfg;omega,sizeL_sizeL _ _⟩
end
theorem p64' (q r:Nat):(18446744073709551616:Int)^q*2^r=2^(64*q+r):=by rw [Int.mul_comm];exact p64 q r
theorem len_bd {x:Nat->Int} (hx:Words x) {n:Nat} (h:0<sizeL x n):∃ L:Nat,lenL x n=(L:Int)+1/\2^L<=val x n/\val x n<2^(L+1):=by
 obtain ⟨j,hj⟩:∃ j,sizeL x n=j+1:=⟨sizeL x n-1,by omega⟩
 have ht:=sizeL_top (x:=x) n h
 rw [hj] at ht
 have hxj:=hx j
 have hne:x j≠0:=ht
 obtain ⟨u,hu⟩:=Int.eq_ofNat_of_zero_le hxj.1
 have hb:=bitLen_spec u (by omega) (by omega)
 have hv:val x n=val x j+x j*18446744073709551616^j:=by rw [← val_bare n,hj];rfl
 have hbd:=val_bd hx j
 have hP:=pw_pos j
 refine ⟨64*j+(Lib.bitLen u-1),?_,?_,?_⟩
 ·unfold lenL;rw [if_neg (by omega),hj]
  show 64*((j+1:Nat):Int)-64+(Lib.bitLen (x j).toNat:Nat)=_
  rw [hu,Int.toNat_natCast];omega
 ·rw [hv,← p64',hu]
  have h1:(2:Int)^(Lib.bitLen u-1)<=u:=by rw [← powCast];omega
  have h2:18446744073709551616^j*2^(Lib.bitLen u-1)<=18446744073709551616^j*(u:Int):=Int.mul_le_mul_of_nonneg_left h1 (Int.le_of_lt hP)
  rw [Int.mul_comm _ (u:Int)] at h2
  omega
 ·rw [hv,show 64*j+(Lib.bitLen u-1)+1=64*j+Lib.bitLen u by omega,← p64',hu]
  have h1:(u:Int)+1<=2^Lib.bitLen u:=by rw [← powCast];omega
  have h2:18446744073709551616^j*((u:Int)+1)<=18446744073709551616^j*2^Lib.bitLen u:=Int.mul_le_mul_of_nonneg_left h1 (Int.le_of_lt hP)
  rw [Int.mul_add,Int.mul_one,Int.mul_comm _ (u:Int)] at h2
  omega
theorem word_mod {q:Nat->Int} (hq:Words q) {N m r:Nat} (hm:m<N) (hr:r<=64) (h:val q N%2^(64*m+r)=0):q m%2^r=0:=by
 obtain ⟨k,rfl⟩:∃ k,N=m+(k+1):=⟨N-m-1,by omega⟩
 have hs:=val_split q m (k+1)
 have h1:val (segW q m (k+1)) (k+1)=q m+val (segW q (m+1) k) k*18446744073709551616:=by
  have:=val_split (segW q m (k+1)) 1 k
  rw [Nat.add_comm 1 k] at this
  rw [this]
  have e1:val (segW q m (k+1)) 1=q m:=by simp [val,segW]
  have e2:val (segW (segW q m (k+1)) 1 k) k=val (segW q (m+1) k) k:=val_congr k fun i hi=>by
   rw [segW_lt _ _ _ i hi,segW_lt _ _ _ i hi,segW_lt _ _ _ (1+i) (by omega)];congr 1;omega
  rw [e1,e2];simp
 have hb:=val_bd hq m
 rw [← p64'] at h
 have hd:(18446744073709551616:Int)^m*2^r∣val q (m+(k+1)):=Int.dvd_of_emod_eq_zero h
 obtain ⟨c,hc⟩:=hd
 rw [hs] at hc
 have hm0:val q m=0:=by
  have e:val q m=(2^r*c-val (segW q m (k+1)) (k+1))*18446744073709551616^m:=by grind
  rcases Int.lt_trichotomy (2^r*c-val (segW q m (k+1)) (k+1)) 0 with hl | he | hg
  ·have:(2^r*c-val (segW q m (k+1)) (k+1))*18446744073709551616^m<=(-1)*18446744073709551616^m:=Int.mul_le_mul_of_nonneg_right (by omega) (Int.le_of_lt (pw_pos m))
   have:=pw_pos m
   omega
  ·rw [he,Int.zero_mul] at e;exact e
  ·have:1*18446744073709551616^m<=(2^r*c-val (segW q m (k+1)) (k+1))*18446744073709551616^m:=Int.mul_le_mul_of_nonneg_right (by omega) (Int.le_of_lt (pw_pos m))
   omega
 have h2:val (segW q m (k+1)) (k+1)=2^r*c:=by
  have hp:=pw_pos m
  have e:(val (segW q m (k+1)) (k+1)-2^r*c)*18446744073709551616^m=0:=by grind
  rcases Int.mul_eq_zero.1 e with h3 | h3
  ·omega
  ·omega
 rw [h1] at h2
 have e3:=p2_split hr
 have:q m=2^r*(c-val (segW q (m+1) k) k*2^(64-r)):=by
  rw [← e3] at h2;grind
 rw [this];exact Int.mul_emod_right _ _
theorem or_bit {u:Int} {r:Nat} (hu:0<=u/\u<=18446744073709551615) (hr:r<64) (h:u%2^(r+1)=0):orW u (2^r)=u+2^r/\u+2^r<=18446744073709551615:=by
 have hp:=p2_pos r
 have hl:=p2_le hr
 obtain ⟨n,rfl⟩:=Int.eq_ofNat_of_zero_le hu.1
 rw [← powCast,← Int.natCast_emod] at h
 have hn:n%2^(r+1)=0:=by omega
 obtain ⟨k,rfl⟩:=Nat.dvd_of_mod_eq_zero hn
 have hlt:2^r<2^(r+1):=Nat.pow_lt_pow_right (by omega) (by omega)
 have e:=Nat.two_pow_add_eq_or_of_lt hlt k
 have h64:2^(r+1)*k ||| 2^r<2^64:=Nat.or_lt_two_pow (by omega) (Nat.pow_lt_pow_right (by omega) hr)
 have hw:(2:Int)^r<=18446744073709551615:=by omega
 rw [orW_eq _ _ hu ⟨by omega,hw⟩,Int.toNat_natCast,← powCast,Int.toNat_natCast,← e]
 rw [← e] at h64
 constructor
 ·rw [Int.natCast_add]
 ·have:((2^(r+1)*k:Nat):Int)+((2^r:Nat):Int)=((2^(r+1)*k+2^r:Nat):Int):=by rw [Int.natCast_add]
  rw [this];omega
theorem mod_half {Q T:Int} (h:Q%(T*2)=0):Q%T=0:=by
 obtain ⟨c,hc⟩:=Int.dvd_of_emod_eq_zero h
 rw [hc,Int.mul_assoc];exact Int.mul_emod_right _ _
theorem half_any (g k c:Nat) (z:Nat->Int) (w:World) (hk:0<k) (hk2:k<1000000) (h:Num w (some ⟨g,0,none⟩) k c z) :
  Calls Tryz.prog 58 #[.slice (some ⟨g,0,none⟩) k c,.int .i64 1] w fun e w'=>∃ g' k' cap b z',e=.returned (.tuple #[.slice (some ⟨g',0,none⟩) k' cap,.bool b])/\k'<=k/\Num w' (some ⟨g',0,none⟩) k' cap z'/\(∀ V,val z k=V*2->val z' k'=V)/\Below w.heap.size w w'/\w.heap.size<=g':=by
 refine (frgt_p g 0 k c 0 1 1 z w (by omega) (by omega) (by omega) (by omega) (by decide) (by decide) (by decide) hk h).mono fun e w' ⟨g',k',cap,e1,hk',hN,hB,hf⟩=>⟨g',k',cap,_,_,e1,hk',hN,fun V hV=>?_,hB,hf⟩
 have hd:=dn_val h.2.2.1 (r:=1) (by omega) k
 rw [h.2.2.2.1 k (Nat.le_refl _),hV,← val_more hN.2.2.2.1 k hk'] at *
 have e2:(2:Int)^1=2:=rfl
 rw [e2] at hd
 have:=Int.emod_nonneg (z 0) (show (2:Int)≠0 by decide)
 have:=Int.emod_lt_of_pos (z 0) (show (0:Int)<2 by decide)
 simp at hd
 omega
theorem fleft_val (b off n c:Nat) (d:Int) (x:Nat->Int) (w:World) (hn:n<1000000) (hd:0<=d) (hd2:d<=6300000) (h:Num w (some ⟨b,off,none⟩) n c x) :
  Calls Tryz.prog 95 #[.slice (some ⟨b,off,none⟩) n c,.int .i64 d] w fun e w'=>∃ g k cap z,e=.returned (.slice (some ⟨g,0,none⟩) k cap)/\k<=n+d.toNat/64+1/\Num w' (some ⟨g,0,none⟩) k cap z/\val z k=val x n*2^d.toNat/\Below w.heap.size w w'/\w.heap.size<=g/\sizeL z k=k:=by
 obtain ⟨q,hq⟩:∃ q:Nat,d/64=q:=⟨(d/64).toNat,by omega⟩
 obtain ⟨r,hr⟩:∃ r:Nat,d%64=r:=⟨(d%64).toNat,by omega⟩
 have hdn:d.toNat=64*q+r:=by omega
 have hr64:r<64:=by omega
 have hq2:q<99000:=by omega
 have hx:=h.2.2.1
 have hv:=finL_val hx h.2.2.2.1 q hr64
 rw [hdn]
 by_cases hr0:0<r
 ·exact (fleft_p b off n c q r d x w (by omega) (by omega) hr64 hr0 hq hr hd h).mono fun e w' ⟨g,k,cap,e1,hk,hN,hB,hf,htr⟩=>⟨g,k,cap,_,e1,by omega,hN,by rw [← hv,val_more hN.2.2.2.1 _ hk],hB,hf,htr⟩
 ·obtain rfl:r=0:=by omega
  exact (fleft_z b off n c q d x w (by omega) (by omega) hq hr hd h).mono fun e w' ⟨g,k,cap,e1,hk,hN,hB,hf,htr⟩=>⟨g,k,cap,_,e1,by omega,hN,by rw [← hv,val_more hN.2.2.2.1 _ hk],hB,hf,htr⟩
theorem frless_val (a a':Option Addr) (n c n' c':Nat) (x y:Nat->Int) (w:World) (hn:n<4000000000) (hn':n'<4000000000) (h:Num w a n c x) (h':Num w a' n' c' y) (hv:val y n'<=val x n) :
  Calls Tryz.prog 89 #[.slice a n c,.slice a' n' c'] w fun e w'=>∃ g k cap z,e=.returned (.slice (some ⟨g,0,none⟩) k cap)/\k<=max n n'/\Num w' (some ⟨g,0,none⟩) k cap z/\val z k=val x n-val y n'/\Below w.heap.size w w'/\w.heap.size<=g/\sizeL z k=k:=by
 refine (frless_any a a' n c n' c' x y w (by omega) (by omega) h h').mono fun e w' ⟨g,k,cap,e1,hk,hN,hB,hf,htr⟩=>⟨g,k,cap,_,e1,hk,hN,?_,hB,hf,htr⟩
 have ex:=val_more h.2.2.2.1 (max n n') (by omega)
 have ey:=val_more h'.2.2.2.1 (max n n') (by omega)
 have e:=dif_val h.2.2.1 h'.2.2.1 (max n n')
 rw [borW_end h.2.2.1 h'.2.2.1 (by omega),ex,ey] at e
 rw [← val_more hN.2.2.2.1 _ hk,val_congr (y:=difW x y) (max n n') fun i hi=>by unfold difZ;rw [if_pos hi]]
 omega
theorem pos_len {z:Nat->Int} {k:Nat} (h:0<val z k):0<k:=by
 rcases Nat.eq_zero_or_pos k with e | e
 ·subst e;simp [val] at h
 ·exact e
end Go.Proofs.YtpabnhlfbjkmaaaGreatDoor
