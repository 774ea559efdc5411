/-
  Texts that the proof leans on.
-/
import Derived.Test.YtgknbdehlmlipaaGreatDoorJ2
import Derived.Test.YtgknbdehlmlipaaGreatDoorJ15
import Derived.Test.YtgknbdehlmlipaaGreatDoorJ13
import Derived.Test.YtgknbdehlmlipaaGreatDoorJ3
import Derived.Deep.Cut
import Derived.Deep.CutRange
import Derived.Test.YtgknbdehlmlipaaGreatDoorJ11
import Derived.ChangeKeysEq
import Derived.Test.YtgknbdehlmlipaaGreatDoorJ6
set_option maxHeartbeats 8000000
set_option linter.unusedVariables false
set_option linter.unusedSimpArgs false
set_option linter.unusedSectionVars false
set_option maxRecDepth 20000
namespace Go.Proofs.YtgknbdehlmlipaaGreatDoor
open Go.RowKit
def shrW (x:Nat->Int)(q r j:Nat):Int:=if r=0 then x (q+j) else orW (x (q+j)/2^r) (IntKind.u64.wrap (x (q+j+1)*2^(64-r)))
theorem shrW_words {x:Nat->Int}(hx:Words x)(q r:Nat):Words (shrW x q r):=fun j=>by
 unfold shrW;split
 ·exact hx _
 ·exact orW_word _ _ (div_word _ _ (hx _)) (wrap_word _)
theorem shrW_zero {x:Nat->Int}{n:Nat}(zx:∀ i,n<=i->x i=0)(q r j:Nat)(hj:n<=q+j):shrW x q r j=0:=by
 unfold shrW;split
 ·exact zx _ hj
 ·rw [zx _ hj,zx (q+j+1) (by omega),Int.zero_mul,Int.zero_ediv,wrap_id 0 (by decide),orW_zero 0 (by decide)]
def wl (f:Nat->Int)(k:Nat):List Value:=(List.range k).map fun i=>Value.int .u64 (f i)
theorem wl_succ (f:Nat->Int)(k:Nat):wl f k++[Value.int .u64 (f k)]=wl f (k+1):=by simp [wl,List.range_succ]
theorem num_of_owns' {w':World}{ao:Option Addr}{k cap base:Nat}{x:Nat->Int}(hx:Words x)(hz:∀ i,k<=i->x i=0)(h:w'.ownsRow base 22 1 (.slice ao k cap) k (wl x k)):Num w' ao k cap x:=by
 have h0:=h
 obtain ⟨hl,h1⟩:=h0
 rcases h1 with ⟨h1,h2⟩|⟨g,cap',cur,he,hb,hh,_⟩
 ·cases h1
  exact ⟨Nat.le_refl _,by unfold maxLen;omega,hx,hz,Or.inl ⟨rfl,rfl⟩⟩
 ·cases he
  exact num_of_owns (w:=w') hx hz h (by
   rcases Nat.lt_or_ge g w'.heap.size with h3|h3
   ·exact h3
   ·rw [Array.getElem?_eq_none h3] at hh;cases hh)
theorem right_z (b off n c q:Nat)(s:Int)(x:Nat->Int)(w:World)(hn:n<4000000000)(hq0:q<100000)(hq:s/64=q)(hr:s%64=0)(hs:0<=s)(h:Num w (some ⟨b,off,none⟩) n c x) :
  Calls Tryz.prog 49 #[.slice (some ⟨b,off,none⟩) n c,.int .i64 s] w fun e w'=>∃ g k cap z,e=.returned (.tuple #[.slice (some ⟨g,0,none⟩) k cap,.bool z])/\k<=n/\Num w' (some ⟨g,0,none⟩) k cap (shrW x q 0)/\Below w.heap.size w w':=by
 have hx:=h.2.2.1
 have zx:=h.2.2.2.1
 have hc:b<w.heap.size/\∀ i,i<n->w.cell? ⟨b,off+i,none⟩=some (.int .u64 (x i)):=by
  rcases h.2.2.2.2 with ⟨h,_⟩|⟨b',off',h,hbs,hc⟩
  ·cases h
  ·cases h;exact ⟨hbs,hc⟩
 obtain ⟨hbs,hc⟩:=hc
 have hcap:=h.1
 have hs6:s<6400064:=by omega
 obtain ⟨i0,hi,hz0,hz1,hz2⟩:=info_parts Tryz.info22
 have HX:Hid (Num w (some ⟨b,off,none⟩) n c x):=h
 clear h
 go_enter Tryz.func49,Tryz.ntmps49
 go_wp2
 go_loop [6,7,13] (fun g u7 i=>∃ (k:Nat) (z:Bool),k<=n/\i=.int .i64 k/\g=.bool z) (fun _ _ i=>n-(intOf i).toNat)
 case atStart=>exact ⟨0,false,Nat.zero_le _,rfl,rfl⟩
 case round =>
  obtain ⟨k,z,hk,rfl,rfl⟩:=hrel
  by_cases h8:k<n
  ·have h8i:(k:Int)<n:=by omega
   by_cases hkq:k<q
   ·have bx:=hx k
    have hcx:=hc k h8
    clear hc hx zx hi hz0 hz1 hz2
    have hkq':(k:Int)<q:=by omega
    by_cases hz:x k=0
    ·have hz':(x k != 0)=false:=by simp [hz]
     have hne:((k:Int)==q)=false:=by simp;omega
     go_wp2
     go_round
     case rel=>exact ⟨k+1,z,by omega,by go_num,rfl⟩
     case measure=>simp [intOf];omega
    ·have hz':(x k != 0)=true:=by simp [hz]
     go_wp2
     go_round
     case rel=>exact ⟨k+1,true,by omega,by go_num,rfl⟩
     case measure=>simp [intOf];omega
   ·have hkq':¬ (k:Int)<q:=by omega
    by_cases hke:k=q
    ·subst hke
     have bx:=hx k
     have hcx:=hc k h8
     clear hc hx zx hi hz0 hz1 hz2
     go_wp2
     all_goals
      go_round
      case rel=>first|exact ⟨k+1,true,by omega,by go_num,rfl⟩|exact ⟨k+1,z,by omega,by go_num,rfl⟩
      case measure=>simp [intOf];omega
    ·have hcx:=hc k h8
     clear hc hx zx hi hz0 hz1 hz2
     have hne:((k:Int)==q)=false:=by simp;omega
     go_wp2
     go_round
     case rel=>exact ⟨k+1,z,by omega,by go_num,rfl⟩
     case measure=>simp [intOf];omega
  ·obtain rfl:k=n:=by omega
   go_wp2
   go_loopw [8,9,10] (fun v i u10 wr=>∃ (j:Nat) (ao:Option Addr) (cp:Nat),j<=k-q/\i=.int .i64 ((q:Int)+j)/\v=.slice ao j cp/\wr.ownsRow w.heap.size 22 1 (.slice ao j cp) j (wl (shrW x q 0) j)/\Below w.heap.size w wr) (fun _ i _ _=>k+1-(intOf i).toNat)
   case atStart=>exact ⟨0,none,0,Nat.zero_le _,by go_num,rfl,World.ownsRow_nil _ _ _ _,Below.refl _ _⟩
   case round =>
    obtain ⟨j,ao,cp,hj,rfl,rfl,hown,hB⟩:=hrel
    by_cases hlt:q+j<k
    ·have hlt':(q:Int)+j<k:=by omega
     have bx:=hx (q+j)
     have b_y:=hx (q+j+1)
     have e1:((q:Int)+j).toNat=q+j:=by omega
     have hcx:wr.cell? ⟨b,off+(q+j),none⟩=some (.int .u64 (x (q+j))):=(hB.cell (p:=⟨b,off+(q+j),none⟩) hbs).trans (hc (q+j) hlt)
     have HW:Hid (CQ 55 #[.slice (some ⟨b,off,none⟩) k c,.int .i64 ((q:Int)+j+1)] wr (.int .u64 (x (q+j+1)))):=by
      have:=word_any (some ⟨b,off,none⟩) k c (q+j+1) x wr (HX.out.next hB)
      rw [show ((q+j+1:Nat):Int)=(q:Int)+j+1 by omega] at this
      exact this.mono fun _ _ h=>⟨h.1,h.2.symm⟩
     have hbw:=hB.size
     have HO:Hid (wr.ownsRow w.heap.size 22 1 (.slice ao j cp) j (wl (shrW x q 0) j)):=hown
     have HVAL:Hid (shrW x q 0 j=x (q+j)):=by show _=_;simp [shrW]
     have HOWN:(wr.alloc (.cells #[.int .u64 (x (q+j))] 22)).ownsRow w.heap.size 22 1 (.slice ao j cp) j (wl (shrW x q 0) j):=hown.alloc _
     have HNEWS:∀ (p:Nat) (u:Value),[Value.int .u64 (x (q+j))][p]?=some u->(wr.alloc (.cells #[.int .u64 (x (q+j))] 22)).cell? ((⟨wr.heap.size,0,none⟩:Addr).add p)=some u:=by
      intro p u hp
      match p,hp with
      | 0,hp=>simp at hp;subst hp;simp [Addr.add]
     have HONE:∀ u ∈ [Value.int .u64 (x (q+j))],u.oneCell'=true:=by
      intro u hu;simp at hu;subst hu;rfl
     clear hc hx zx hown
     go_wp2_with (first|(at_builtin;refine wpList_append_lies _ rfl (.tmp 77) (.tmp 79) 48 rfl w.heap.size 22 i0 (.int .u64 0) 1 8 Tryz.underlying48 hi hz0 hz1 hz2 rfl (by decide) (.slice ao j cp) j (wl (shrW x q 0) j) rfl HOWN ⟨wr.heap.size,0,none⟩ 1 1 [Value.int .u64 (x (q+j))] rfl rfl HNEWS HONE (by omega) (by unfold maxLen;omega) (by omega) (by simp;omega) (wr.heap.size+1) (by simp) ?_;intro g cap w1 hown1 hgrow hat hlt1;clear HOWN HNEWS HONE)|(go_at_call 55;refine HW.out.mono ?_;rintro e w' ⟨rfl,rfl⟩))
     have hown2:w1.ownsRow w.heap.size 22 1 (.slice (some ⟨g,0,none⟩) (j+1) cap) (j+1) (wl (shrW x q 0) (j+1)):=by
      rw [← HVAL.out,wl_succ] at hown1;exact hown1
     have HB2:Below w.heap.size w w1:=(hB.alloc hbw _).grown hgrow (by simp;omega) (by
      intro p hp
      rcases ao with _|⟨bb,oo,sp⟩
      ·cases hp
      ·cases hp
       obtain ⟨_,h1⟩:=HO.out
       rcases h1 with ⟨h1,_⟩|⟨g',_,_,h1,h2,_⟩
       ·cases h1
       ·cases h1;exact h2)
     clear hown1 hgrow
     go_wp2
     go_roundw
     case rel=>exact ⟨j+1,some ⟨g,0,none⟩,cap,by omega,by go_num,rfl,hown2,HB2⟩
     case measure=>simp [intOf];omega
    ·have HZ:∀ i,j<=i->shrW x q 0 i=0:=fun i hi=>shrW_zero zx q 0 i (by omega)
     have hT:=trim_any ao j cp _ wr (by omega) (num_of_owns' (shrW_words hx q 0) HZ hown)
     have hle:=sizeL_le (shrW x q 0) j
     have hlt':¬ (q:Int)+j<k:=by omega
     clear hc hx zx hown HZ
     go_wp2_with (go_at_call 56;refine hT.mono ?_;rintro e w1 ⟨g,cap,rfl,hN,hB1⟩)
     go_ret2
     exact ⟨g,_,cap,_,rfl,by omega,hN,hB.trans (hB1.mono hB.size)⟩
theorem right_p (b off n c q r:Nat)(s:Int)(x:Nat->Int)(w:World)(hn:n<4000000000)(hq0:q<100000)(hr0:r<64)(hrp:0<r)(hq:s/64=q)(hr:s%64=r)(hs:0<=s)(h:Num w (some ⟨b,off,none⟩) n c x) :
  Calls Tryz.prog 49 #[.slice (some ⟨b,off,none⟩) n c,.int .i64 s] w fun e w'=>∃ g k cap z,e=.returned (.tuple #[.slice (some ⟨g,0,none⟩) k cap,.bool z])/\k<=n/\Num w' (some ⟨g,0,none⟩) k cap (shrW x q r)/\Below w.heap.size w w':=by
 have hx:=h.2.2.1
 have zx:=h.2.2.2.1
 have hc:b<w.heap.size/\∀ i,i<n->w.cell? ⟨b,off+i,none⟩=some (.int .u64 (x i)):=by
  rcases h.2.2.2.2 with ⟨h,_⟩|⟨b',off',h,hbs,hc⟩
  ·cases h
  ·cases h;exact ⟨hbs,hc⟩
 obtain ⟨hbs,hc⟩:=hc
 have hcap:=h.1
 have hs6:s<6400064:=by omega
 obtain ⟨i0,hi,hz0,hz1,hz2⟩:=info_parts Tryz.info22
 have HX:Hid (Num w (some ⟨b,off,none⟩) n c x):=h
 clear h
 go_enter Tryz.func49,Tryz.ntmps49
 go_wp2
 go_loop [6,7,13] (fun g u7 i=>∃ (k:Nat) (z:Bool),k<=n/\i=.int .i64 k/\g=.bool z) (fun _ _ i=>n-(intOf i).toNat)
 case atStart=>exact ⟨0,false,Nat.zero_le _,rfl,rfl⟩
 case round =>
  obtain ⟨k,z,hk,rfl,rfl⟩:=hrel
  by_cases h8:k<n
  ·have h8i:(k:Int)<n:=by omega
   by_cases hkq:k<q
   ·have bx:=hx k
    have hcx:=hc k h8
    clear hc hx zx hi hz0 hz1 hz2
    have hkq':(k:Int)<q:=by omega
    by_cases hz:x k=0
    ·have hz':(x k != 0)=false:=by simp [hz]
     have hne:((k:Int)==q)=false:=by simp;omega
     go_wp2
     go_round
     case rel=>exact ⟨k+1,z,by omega,by go_num,rfl⟩
     case measure=>simp [intOf];omega
    ·have hz':(x k != 0)=true:=by simp [hz]
     go_wp2
     go_round
     case rel=>exact ⟨k+1,true,by omega,by go_num,rfl⟩
     case measure=>simp [intOf];omega
   ·have hkq':¬ (k:Int)<q:=by omega
    by_cases hke:k=q
    ·subst hke
     have bx:=hx k
     have hcx:=hc k h8
     clear hc hx zx hi hz0 hz1 hz2
     go_wp2
     all_goals
      go_round
      case rel=>first|exact ⟨k+1,true,by omega,by go_num,rfl⟩|exact ⟨k+1,z,by omega,by go_num,rfl⟩
      case measure=>simp [intOf];omega
    ·have hcx:=hc k h8
     clear hc hx zx hi hz0 hz1 hz2
     have hne:((k:Int)==q)=false:=by simp;omega
     go_wp2
     go_round
     case rel=>exact ⟨k+1,z,by omega,by go_num,rfl⟩
     case measure=>simp [intOf];omega
  ·obtain rfl:k=n:=by omega
   go_wp2
   go_loopw [8,9,10] (fun v i u10 wr=>∃ (j:Nat) (ao:Option Addr) (cp:Nat),j<=k-q/\i=.int .i64 ((q:Int)+j)/\v=.slice ao j cp/\wr.ownsRow w.heap.size 22 1 (.slice ao j cp) j (wl (shrW x q r) j)/\Below w.heap.size w wr) (fun _ i _ _=>k+1-(intOf i).toNat)
   case atStart=>exact ⟨0,none,0,Nat.zero_le _,by go_num,rfl,World.ownsRow_nil _ _ _ _,Below.refl _ _⟩
   case round =>
    obtain ⟨j,ao,cp,hj,rfl,rfl,hown,hB⟩:=hrel
    by_cases hlt:q+j<k
    ·have hlt':(q:Int)+j<k:=by omega
     have bx:=hx (q+j)
     have b_y:=hx (q+j+1)
     have e1:((q:Int)+j).toNat=q+j:=by omega
     have hcx:wr.cell? ⟨b,off+(q+j),none⟩=some (.int .u64 (x (q+j))):=(hB.cell (p:=⟨b,off+(q+j),none⟩) hbs).trans (hc (q+j) hlt)
     have HW:Hid (CQ 55 #[.slice (some ⟨b,off,none⟩) k c,.int .i64 ((q:Int)+j+1)] wr (.int .u64 (x (q+j+1)))):=by
      have:=word_any (some ⟨b,off,none⟩) k c (q+j+1) x wr (HX.out.next hB)
      rw [show ((q+j+1:Nat):Int)=(q:Int)+j+1 by omega] at this
      exact this.mono fun _ _ h=>⟨h.1,h.2.symm⟩
     have hbw:=hB.size
     have HO:Hid (wr.ownsRow w.heap.size 22 1 (.slice ao j cp) j (wl (shrW x q r) j)):=hown
     have HVAL:Hid (shrW x q r j=bits BinOp.or IntKind.u64 (x (q+j)/2^r) (IntKind.u64.wrap (x (q+j+1)*2^(64-r)))):=by show _=_;unfold shrW;rw [if_neg (by omega)];rfl
     have HOWN:(wr.alloc (.cells #[.int .u64 (bits BinOp.or IntKind.u64 (x (q+j)/2^r) (IntKind.u64.wrap (x (q+j+1)*2^(64-r))))] 22)).ownsRow w.heap.size 22 1 (.slice ao j cp) j (wl (shrW x q r) j):=hown.alloc _
     have HNEWS:∀ (p:Nat) (u:Value),[Value.int .u64 (bits BinOp.or IntKind.u64 (x (q+j)/2^r) (IntKind.u64.wrap (x (q+j+1)*2^(64-r))))][p]?=some u->(wr.alloc (.cells #[.int .u64 (bits BinOp.or IntKind.u64 (x (q+j)/2^r) (IntKind.u64.wrap (x (q+j+1)*2^(64-r))))] 22)).cell? ((⟨wr.heap.size,0,none⟩:Addr).add p)=some u:=by
      intro p u hp
      match p,hp with
      | 0,hp=>simp at hp;subst hp;simp [Addr.add]
     have HONE:∀ u ∈ [Value.int .u64 (bits BinOp.or IntKind.u64 (x (q+j)/2^r) (IntKind.u64.wrap (x (q+j+1)*2^(64-r))))],u.oneCell'=true:=by
      intro u hu;simp at hu;subst hu;rfl
     clear hc hx zx hown
     go_wp2_with (first|(at_builtin;refine wpList_append_lies _ rfl (.tmp 77) (.tmp 79) 48 rfl w.heap.size 22 i0 (.int .u64 0) 1 8 Tryz.underlying48 hi hz0 hz1 hz2 rfl (by decide) (.slice ao j cp) j (wl (shrW x q r) j) rfl HOWN ⟨wr.heap.size,0,none⟩ 1 1 [Value.int .u64 (bits BinOp.or IntKind.u64 (x (q+j)/2^r) (IntKind.u64.wrap (x (q+j+1)*2^(64-r))))] rfl rfl HNEWS HONE (by omega) (by unfold maxLen;omega) (by omega) (by simp;omega) (wr.heap.size+1) (by simp) ?_;intro g cap w1 hown1 hgrow hat hlt1;clear HOWN HNEWS HONE)|(go_at_call 55;refine HW.out.mono ?_;rintro e w' ⟨rfl,rfl⟩))
     have hown2:w1.ownsRow w.heap.size 22 1 (.slice (some ⟨g,0,none⟩) (j+1) cap) (j+1) (wl (shrW x q r) (j+1)):=by
      rw [← HVAL.out,wl_succ] at hown1;exact hown1
     have HB2:Below w.heap.size w w1:=(hB.alloc hbw _).grown hgrow (by simp;omega) (by
      intro p hp
      rcases ao with _|⟨bb,oo,sp⟩
      ·cases hp
      ·cases hp
       obtain ⟨_,h1⟩:=HO.out
       rcases h1 with ⟨h1,_⟩|⟨g',_,_,h1,h2,_⟩
       ·cases h1
       ·cases h1;exact h2)
     clear hown1 hgrow
     go_wp2
     go_roundw
     case rel=>exact ⟨j+1,some ⟨g,0,none⟩,cap,by omega,by go_num,rfl,hown2,HB2⟩
     case measure=>simp [intOf];omega
    ·have HZ:∀ i,j<=i->shrW x q r i=0:=fun i hi=>shrW_zero zx q r i (by omega)
     have hT:=trim_any ao j cp _ wr (by omega) (num_of_owns' (shrW_words hx q r) HZ hown)
     have hle:=sizeL_le (shrW x q r) j
     have hlt':¬ (q:Int)+j<k:=by omega
     clear hc hx zx hown HZ
     go_wp2_with (go_at_call 56;refine hT.mono ?_;rintro e w1 ⟨g,cap,rfl,hN,hB1⟩)
     go_ret2
     exact ⟨g,_,cap,_,rfl,by omega,hN,hB.trans (hB1.mono hB.size)⟩
def lowW (x:Nat->Int)(q i:Nat):Int:=if i<q then x i else 0
theorem lowW_words {x:Nat->Int}(hx:Words x)(q:Nat):Words (lowW x q):=fun i=>by unfold lowW;split;exact hx i;decide
def oneW (c:Int)(j:Nat):Int:=if j=0 then c else 0
theorem num_one (w:World)(c:Int)(hc:0<=c/\c<=18446744073709551615):Num (w.alloc (.cells #[.int .u64 c] 22)) (some ⟨w.heap.size,0,none⟩) 1 1 (oneW c) :=
 num_of_block (by omega) (fun i=>by unfold oneW;split;exact hc;decide) (fun i hi=>by unfold oneW;rw [if_neg (by omega)]) rfl (fun j hj=>match j,hj with|0,_=>rfl)
section
attribute [local go_sem] setCell_drewN alloc_drewN
theorem upd_get {ss:Array Value}{z:Nat->Int}{p:Nat}{v:Int}(h:∀ j h,ss[j]'h=Value.int .u64 (z j))(j:Nat)(hj:j<(ss.setIfInBounds p (.int .u64 v)).size):(ss.setIfInBounds p (.int .u64 v))[j]'hj=Value.int .u64 (if j=p then v else z j):=by
 have h':j<ss.size:=by simpa using hj
 rw [Array.getElem_setIfInBounds h']
 by_cases e:p=j
 ·subst e;simp
 ·rw [if_neg e,h j h',if_neg (Ne.symm e)]
theorem upd_words {z:Nat->Int}{p:Nat}{v:Int}(hz:Words z)(hv:0<=v/\v<=18446744073709551615):Words (fun j=>if j=p then v else z j):=fun i=>by
 show 0<=(if i=p then v else z i)/\(if i=p then v else z i)<=_
 split
 ·exact hv
 ·exact hz i
theorem mul_outer (V Vi a vb c:Int)(i k:Nat)(h:V+c*18446744073709551616^(i+k)=Vi*vb+a*vb*18446744073709551616^i):V+(c-0)*18446744073709551616^(i+k)=(Vi+a*18446744073709551616^i)*vb:=by
 rw [Int.sub_zero,h];generalize (18446744073709551616:Int)^i=p;grind
theorem times_raw (b off n c b' off' n' c':Nat)(x y:Nat->Int)(w:World)(hn:n<1000000)(hn':n'<1000000)(h:Num w (some ⟨b,off,none⟩) n c x)(h':Num w (some ⟨b',off',none⟩) n' c' y) :
  Calls Tryz.prog 24 #[.slice (some ⟨b,off,none⟩) n c,.slice (some ⟨b',off',none⟩) n' c'] w fun e w'=>∃ g k cap z,e=.returned (.slice (some ⟨g,0,none⟩) k cap)/\k<=n+n'+1/\Num w' (some ⟨g,0,none⟩) k cap z/\val z (n+n'+1)=val x n*val y n'/\Below w.heap.size w w':=by
 have hx:=h.2.2.1
 have hy:=h'.2.2.1
 have hc:b<w.heap.size/\∀ i,i<n->w.cell? ⟨b,off+i,none⟩=some (.int .u64 (x i)):=by
  rcases h.2.2.2.2 with ⟨h,_⟩|⟨b',off',h,hbs,hc⟩
  ·cases h
  ·cases h;exact ⟨hbs,hc⟩
 have hc':b'<w.heap.size/\∀ i,i<n'->w.cell? ⟨b',off'+i,none⟩=some (.int .u64 (y i)):=by
  rcases h'.2.2.2.2 with ⟨h,_⟩|⟨b',off',h,hbs,hc⟩
  ·cases h
  ·cases h;exact ⟨hbs,hc⟩
 have hcap:=h.1
 have hcap':=h'.1
 obtain ⟨M,hM⟩:∃ M,n+n'+1=M:=⟨_,rfl⟩
 have hMi:(n:Int)+n'+1=(M:Int):=by omega
 have hmk:=fun w=>make_any ((n:Int)+n'+1) M hMi (by omega) w
 have hcw:∀ (ss:Array Value) i,i<n->(w.alloc (.cells ss 22)).cell? ⟨b,off+i,none⟩=some (.int .u64 (x i)):=fun ss i hi=>((below1 w _).cell (p:=⟨b,off+i,none⟩) hc.1).trans (hc.2 i hi)
 have hcw':∀ (ss:Array Value) i,i<n'->(w.alloc (.cells ss 22)).cell? ⟨b',off'+i,none⟩=some (.int .u64 (y i)):=fun ss i hi=>((below1 w _).cell (p:=⟨b',off'+i,none⟩) hc'.1).trans (hc'.2 i hi)
 have HM:Hid (n+n'+1=M):=hM
 have HZ:Hid ((arrOf (fun _=>0) M).size=M/\∀ j h,(arrOf (fun _=>0) M)[j]'h=Value.int .u64 0):=⟨arrOf_size _ _,fun j h=>arrOf_get _ _ _ _⟩
 clear h h' hMi hc hc' hM
 generalize arrOf (fun _=>0) M=zz at *
 go_enter Tryz.func24,Tryz.ntmps24
 go_wp2
 go_loopw [22] (fun i wr=>∃ (k m:Nat) (ss:Array Value) (z:Nat->Int),k<=n/\i=.int .i64 k/\ss.size=M/\(∀ j h,ss[j]'h=Value.int .u64 (z j))/\Words z/\(∀ j,k+n'<=j->z j=0)/\val z M=val x k*val y n'/\wr=(w.alloc (.cells ss 22)).drewN m) (fun i _=>n-(intOf i).toNat)
 case atStart =>
  refine ⟨0,0,zz,fun _=>0,Nat.zero_le _,rfl,HZ.out.1,HZ.out.2,fun _=>(by decide:(0:Int)<=0/\(0:Int)<=18446744073709551615),fun _ _=>rfl,?_,rfl⟩
  have:∀ m,val (fun _=>0) m=0:=by intro m;induction m with|zero=>rfl|succ m ih=>simp only [val];rw [ih];simp
  rw [this];simp [val]
 case round =>
  obtain ⟨k,m,ss,z,hk,rfl,hsz,hss,hzw,hz0,hv,rfl⟩:=hrel
  by_cases h8:k<n
  ·have h8i:(k:Int)<n:=by omega
   have bx:=hx k
   have hcx:=fun ss=>hcw ss k h8
   have h0p:(∀ j,k+n'<=j->z j=0):=hz0
   go_wp2
   go_loopw [7,27] (fun cc kk wr=>∃ (q m:Nat) (ss:Array Value) (z:Nat->Int) (C:Int),q<=n'/\kk=.int .i64 q/\cc=.int .u64 C/\(0<=C/\C<=18446744073709551615)/\ss.size=M/\(∀ j h,ss[j]'h=Value.int .u64 (z j))/\Words z/\(∀ j,k+n'<=j->z j=0)/\Hid (val z M+C*18446744073709551616^(k+q)=val x k*val y n'+x k*val y q*18446744073709551616^k)/\wr=(w.alloc (.cells ss 22)).drewN m) (fun _ kk _=>n'-(intOf kk).toNat)
   case atStart=>exact ⟨0,m,ss,z,0,Nat.zero_le _,rfl,rfl,by decide,hsz,hss,hzw,hz0,by show _=_;rw [hv];simp [val],rfl⟩
   case round =>
    clear hss hsz hzw hz0 hv h0p
    obtain ⟨q,m2,s2,z2,C,hq,rfl,rfl,hCb,hsz,hss,hzw,hz0,hv,rfl⟩:=hrel
    by_cases hqn:q<n'
    ·have hqi:(q:Int)<n':=by omega
     have b_y:=hy q
     have hcy:=hcw' s2 q hqn
     have hcx2:=hcx s2
     have hp:k+q<s2.size:=by have:=HM.out;omega
     have hpi:(k:Int)+q<M:=by have:=HM.out;omega
     have e1:((k:Int)+q).toNat=k+q:=by omega
     have hsp:s2[k+q]?=some (.int .u64 (z2 (k+q))):=by rw [Array.getElem?_eq_getElem hp,hss _ hp]
     have hsp':∀ h,s2[k+q]'h=.int .u64 (z2 (k+q)):=fun h=>hss _ h
     have hzp:=hzw (k+q)
     have hms:=mul_step (x k) (y q) (z2 (k+q)) C bx b_y hzp hCb
     have hmul:=mul64 (x k) (y q) bx b_y
     have hL0:0<=x k*y q%18446744073709551616:=Int.emod_nonneg _ (by decide)
     have hH0:0<=x k*y q/18446744073709551616:=Int.ediv_nonneg (Int.mul_nonneg bx.1 b_y.1) (by decide)
     have hA1:=fun w=>add64z (x k*y q%18446744073709551616) (z2 (k+q)) hL0 hzp.1 w
     have hs0:0<=(x k*y q%18446744073709551616+z2 (k+q))%18446744073709551616:=Int.emod_nonneg _ (by decide)
     have hd0:0<=(x k*y q%18446744073709551616+z2 (k+q))/18446744073709551616:=Int.ediv_nonneg (by omega) (by decide)
     have hA2:=fun w=>add64z ((x k*y q%18446744073709551616+z2 (k+q))%18446744073709551616) C hs0 hCb.1 w
     have ht0:0<=((x k*y q%18446744073709551616+z2 (k+q))%18446744073709551616+C)%18446744073709551616/\((x k*y q%18446744073709551616+z2 (k+q))%18446744073709551616+C)%18446744073709551616<=18446744073709551615:=by omega
     have hf0:0<=((x k*y q%18446744073709551616+z2 (k+q))%18446744073709551616+C)/18446744073709551616:=Int.ediv_nonneg (by omega) (by decide)
     generalize ((x k*y q%18446744073709551616+z2 (k+q))%18446744073709551616+C)%18446744073709551616=t2 at *
     generalize ((x k*y q%18446744073709551616+z2 (k+q))%18446744073709551616+C)/18446744073709551616=f2 at *
     generalize (x k*y q%18446744073709551616+z2 (k+q))%18446744073709551616=t1 at *
     generalize (x k*y q%18446744073709551616+z2 (k+q))/18446744073709551616=f1 at *
     generalize x k*y q%18446744073709551616=lo at *
     generalize x k*y q/18446744073709551616=hi at *
     have HMS:Hid (t2+(hi+f1+f2)*18446744073709551616=x k*y q+z2 (k+q)+C):=hms.1
     have hb1:0<=hi+f1:=hms.2.1
     have hb2:hi+f1<=18446744073709551615:=hms.2.2.1
     have hb3:0<=hi+f1+f2:=hms.2.2.2.1
     have hb4:hi+f1+f2<=18446744073709551615:=hms.2.2.2.2
     have HSS:Hid (∀ j h,s2[j]'h=Value.int .u64 (z2 j)):=hss
     have HZW:Hid (Words z2):=hzw
     have HZ0:Hid (∀ j,k+n'<=j->z2 j=0):=hz0
     have HR:Hid (val (fun j=>if j=k+q then t2 else z2 j) M+(hi+f1+f2)*18446744073709551616^(k+(q+1))=val x k*val y n'+x k*val y (q+1)*18446744073709551616^k):=by
      show _=_
      rw [val_set z2 (k+q) t2 M (by have:=HM.out;omega)]
      exact mul_inner _ _ _ _ _ _ _ _ _ k q hv.out hms.1
     clear hms hss hzw hz0 hx hy hcw hcw' hmk hv
     go_wp2
     go_quiet ((go_at_call 59;exact (hmul _).mono fun _ _ h=>⟨h.1,_,h.2⟩))
     go_wp2
     go_roundw
     case rel=>exact ⟨q+1,m2+nq,s2.setIfInBounds (k+q) (.int .u64 t2),fun j=>if j=k+q then t2 else z2 j,hi+f1+f2,by omega,by go_num,rfl,⟨hb3,hb4⟩,by simp [hsz],upd_get HSS.out,upd_words HZW.out ht0,fun j hj=>(if_neg (show ¬ j=k+q by omega)).trans (HZ0.out j hj),HR,by simp [go_sem]⟩
     case measure=>simp [intOf];omega
    ·obtain rfl:q=n':=by omega
     have hp:k+q<s2.size:=by have:=HM.out;omega
     have hpi:(k:Int)+q<M:=by have:=HM.out;omega
     have e1:((k:Int)+q).toNat=k+q:=by omega
     have hsp:s2[k+q]?=some (.int .u64 0):=by rw [Array.getElem?_eq_getElem hp,hss _ hp,hz0 _ (Nat.le_refl _)]
     have HR:Hid (val (fun j=>if j=k+q then C else z2 j) M=val x (k+1)*val y q):=by
      show _=_
      rw [val_set z2 (k+q) C M (by have:=HM.out;omega),hz0 _ (Nat.le_refl _)]
      exact mul_outer _ _ _ _ _ k q hv.out
     have HSS:Hid (∀ j h,s2[j]'h=Value.int .u64 (z2 j)):=hss
     have HZW:Hid (Words z2):=hzw
     have HZ0:Hid (∀ j,k+q<=j->z2 j=0):=hz0
     clear hss hzw hz0 hx hy hcw hcw' hmk hv hcx
     go_wp2
     go_roundw
     case rel=>exact ⟨k+1,m2,s2.setIfInBounds (k+q) (.int .u64 C),fun j=>if j=k+q then C else z2 j,by omega,by go_num,by simp [hsz],upd_get HSS.out,upd_words HZW.out hCb,fun j hj=>(if_neg (show ¬ j=k+q by omega)).trans (HZ0.out j (by omega)),HR.out,by simp [go_sem]⟩
     case measure=>simp [intOf];omega
  ·obtain rfl:k=n:=by omega
   have hT:=trim_any _ _ _ _ _ (by have:=HM.out;omega) ((num_of_block (w:=w) (by have:=HM.out;omega) hzw (fun i hi=>hz0 i (by have:=HM.out;omega)) hsz hss).drewN m)
   have hle:=sizeL_le z M
   clear hss hmk hx hy hcw hcw' hzw hz0
   go_wp2_with (go_at_call 56;refine hT.mono ?_;rintro e w1 ⟨g,cap,rfl,hN,hB⟩)
   go_ret
   exact ⟨g,_,cap,z,rfl,Nat.le_trans hle (Nat.le_of_eq HM.out.symm),hN,by rw [HM.out];exact hv,(below_drewN (below1 w _) m).trans (hB.mono (by simp))⟩
end
def HasN (g n:Nat)(x:Nat->Int)(w:World):Prop:=g<w.heap.size/\∀ i,i<n->w.cell? ⟨g,i,none⟩=some (.int .u64 (x i))
theorem HasN.next {g n:Nat}{x:Nat->Int}{w w':World}(h:HasN g n x w)(hb:Below w.heap.size w w'):HasN g n x w' :=
 ⟨Nat.lt_of_lt_of_le h.1 hb.size,fun i hi=>(hb.cell (p:=⟨g,i,none⟩) h.1).trans (h.2 i hi)⟩
theorem HasN.of_alloc (w:World)(cs:Array Value)(t:TypeId)(n:Nat)(x:Nat->Int)(h:∀ i,i<n->cs[i]?=some (.int .u64 (x i))):HasN w.heap.size n x (w.alloc (.cells cs t)) :=
 ⟨by simp,fun i hi=>by rw [World.cell?_alloc_new];exact h i hi⟩
theorem HasN.num {g n c m:Nat}{x:Nat->Int}{w:World}(h:HasN g m x w)(hx:Words x)(hn:n<=m)(hc:n<=c)(hcm:c<=maxLen):Num w (some ⟨g,0,none⟩) n c (lowW x n) :=
 ⟨hc,hcm,lowW_words hx n,fun i hi=>by unfold lowW;rw [if_neg (by omega)],Or.inr ⟨g,0,rfl,h.1,fun i hi=>by rw [Nat.zero_add,h.2 i (by omega)];unfold lowW;rw [if_pos hi]⟩⟩
def KP (w0:World)(l:List (Nat×Nat×(Nat->Int)))(w:World):Prop:=Below w0.heap.size w0 w/\∀ e ∈ l,HasN e.1 e.2.1 e.2.2 w
theorem KP.next {w0:World}{l:List (Nat×Nat×(Nat->Int))}{w w':World}(h:KP w0 l w)(hb:Below w.heap.size w w'):KP w0 l w':=⟨h.1.trans (hb.mono h.1.size),fun e he=>(h.2 e he).next hb⟩
theorem KP.drew {w0:World}{l:List (Nat×Nat×(Nat->Int))}{w:World}(h:KP w0 l w):KP w0 l w.drew:=⟨h.1.drew,h.2⟩
theorem KP.alloc {w0:World}{l:List (Nat×Nat×(Nat->Int))}{w:World}(h:KP w0 l w)(o:Obj):KP w0 l (w.alloc o):=h.next (below1 w o)
theorem KP.setg {w0:World}{l:List (Nat×Nat×(Nat->Int))}{w wg:World}(h:KP w0 l w)(hg:KP w0 l wg)(i:Nat)(v:Value):KP w0 l (w.setCell ⟨wg.heap.size,i,none⟩ v):=by
 refine ⟨h.1.setCell hg.1.size v,fun e he=>?_⟩
 have h1:=h.2 e he
 have h2:=(hg.2 e he).1
 have hb:Below (e.1+1) w (w.setCell ⟨wg.heap.size,i,none⟩ v):=(Below.refl _ _).setCell (by show e.1+1<=wg.heap.size;omega) v
 exact ⟨Nat.lt_of_lt_of_le h1.1 hb.size,fun j hj=>(hb.cell (p:=⟨e.1,j,none⟩) (by show e.1<e.1+1;omega)).trans (h1.2 j hj)⟩
theorem KP.cons {w0:World}{l:List (Nat×Nat×(Nat->Int))}{w:World}(h:KP w0 l w){g n:Nat}{x:Nat->Int}(hg:HasN g n x w):KP w0 ((g,n,x)::l) w:=⟨h.1,fun e he=>by
 rcases List.mem_cons.1 he with rfl|he
 ·exact hg
 ·exact h.2 e he⟩
theorem KP.at {w0:World}{l:List (Nat×Nat×(Nat->Int))}{w:World}(h:KP w0 l w){g n:Nat}{x:Nat->Int}(hm:(g,n,x) ∈ l):HasN g n x w:=h.2 _ hm
theorem lt_alloc' {W w3:World}{o:Obj}{n:Nat}(hb:Below n (W.alloc o) w3):W.heap.size<w3.heap.size:=by
 have h:=hb.size
 have h2:(W.alloc o).heap.size=W.heap.size+1:=World.size_alloc W o
 omega
theorem KP.new {w0:World}{l:List (Nat×Nat×(Nat->Int))}{w:World}(h:KP w0 l w)(cs:Array Value)(t:TypeId)(n:Nat)(x:Nat->Int)(hc:∀ i,i<n->cs[i]?=some (.int .u64 (x i))):KP w0 ((w.heap.size,n,x)::l) (w.alloc (.cells cs t)) :=
 (h.alloc _).cons (HasN.of_alloc w cs t n x hc)
def putN (w:World)(g:Nat)(x:Nat->Int):Nat->World
 | 0=>w
 | n+1=>(putN w g x n).setCell ⟨g,n,none⟩ (.int .u64 (x n))
theorem putN_kp {w0:World}{l:List (Nat×Nat×(Nat->Int))}{w wg:World}(h:KP w0 l w)(hg:KP w0 l wg)(x:Nat->Int):∀ n,KP w0 l (putN w wg.heap.size x n)
 | 0=>h
 | n+1=>(putN_kp h hg x n).setg hg n _
theorem putN_size (w:World)(g:Nat)(x:Nat->Int):∀ n,w.heap.size<=(putN w g x n).heap.size
 | 0=>Nat.le_refl _
 | n+1=>Nat.le_trans (putN_size w g x n) ((Below.refl 0 _).setCell (Nat.zero_le _) _:Below 0 _ _).size
theorem putN_cell (w:World)(g N:Nat)(x:Nat->Int)(hc:∀ i,i<N->(w.cell? ⟨g,i,none⟩).isSome=true):∀ n,n<=N->∀ i,i<N->(putN w g x n).cell? ⟨g,i,none⟩=if i<n then some (.int .u64 (x i)) else w.cell? ⟨g,i,none⟩
 | 0,_,i,_=>by rw [if_neg (by omega)];rfl
 | n+1,hn,i,hi=>by
  have ih:=putN_cell w g N x hc n (by omega)
  show ((putN w g x n).setCell ⟨g,n,none⟩ (.int .u64 (x n))).cell? ⟨g,i,none⟩=_
  by_cases e:i=n
  ·subst e
   rw [if_pos (by omega)]
   have:=ih i hi
   rw [if_neg (by omega)] at this
   exact World.cell?_setCell_same' _ _ _ (by rw [this];exact hc i hi)
  ·have hne:(⟨g,n,none⟩:Addr)≠⟨g,i,none⟩:=by intro h;injection h with h1 h2;exact e h2.symm
   refine Eq.trans (World.cell?_setCell_other (h:=hne) ..) ?_
   rw [ih i hi]
   by_cases e2:i<n
   ·rw [if_pos e2,if_pos (by omega)]
   ·rw [if_neg e2,if_neg (by omega)]
theorem KP.put {w0:World}{l:List (Nat×Nat×(Nat->Int))}{w wg:World}(h:KP w0 l w)(hg:KP w0 l wg)(hlt:wg.heap.size<w.heap.size)(x:Nat->Int)(n:Nat)(hc:∀ i,i<n->(w.cell? ⟨wg.heap.size,i,none⟩).isSome=true):KP w0 ((wg.heap.size,n,x)::l) (putN w wg.heap.size x n) :=
 (putN_kp h hg x n).cons ⟨Nat.lt_of_lt_of_le hlt (putN_size w _ x n),fun i hi=>by rw [putN_cell w wg.heap.size n x hc n (Nat.le_refl _) i hi,if_pos hi]⟩
theorem wrapNat (a:Nat):IntKind.u64.wrap (a:Int)=((a%18446744073709551616:Nat):Int):=by
 simp only [IntKind.wrap,IntKind.bits,IntKind.signed]
 simp
theorem andLow (a:Nat)(h:a<18446744073709551616):bits BinOp.and IntKind.u64 (a:Int) 4294967295=((a%4294967296:Nat):Int):=by
 have h1:=u64_and_nat a 4294967295 h (by decide)
 rw [show ((4294967295:Nat):Int)=4294967295 from rfl] at h1
 rw [h1]
 have:=Nat.and_two_pow_sub_one_eq_mod a 32
 rw [show (2:Nat)^32-1=4294967295 by decide,show (2:Nat)^32=4294967296 by decide] at this
 rw [this]
theorem powCast (s:Nat):((2^s:Nat):Int)=(2:Int)^s:=by simp
theorem div64_pos (h l y:Nat)(w:World)(hh:0<h)(hl:l<18446744073709551616)(hy:h<y)(hy64:y<18446744073709551616) :
  Calls Tryz.prog 117 #[.int .u64 h,.int .u64 l,.int .u64 y] w fun e w'=>e=.returned (.tuple #[.int .u64 (((h*18446744073709551616+l)/y:Nat):Int),.int .u64 (((h*18446744073709551616+l)%y:Nat):Int)])/\∃ m,w'=w.drewN m:=by
 obtain ⟨n1,n2,n3⟩:=norm_bd y (by omega) hy64
 have hbl:=bitLen_spec y (by omega) hy64
 obtain ⟨S,hS⟩:∃ S,64-Lib.bitLen y=S:=⟨_,rfl⟩
 rw [hS] at n1 n2 n3
 obtain ⟨j1,j2,j3⟩:=norm_join h l y S n3 hy hl n2
 have hlz:CQ 151 #[.int .u64 y] w (.int .i64 (S:Int)):=by
  refine (Tryz.bits_LeadingZeros64 (y:Int) w (by omega) (by omega)).mono fun e w' hw=>⟨?_,hw.2.symm⟩
  rw [hw.1,Int.toNat_natCast]
  have e0:(64:Int)-(Lib.bitLen y:Int)=(S:Int):=by omega
  rw [e0]
 obtain ⟨Y,hYn⟩:∃ Y,y*2^S=Y:=⟨_,rfl⟩
 obtain ⟨u,hun⟩:∃ u,h*2^S+l/2^(64-S)=u:=⟨_,rfl⟩
 obtain ⟨v,hvn⟩:∃ v,l*2^S%18446744073709551616=v:=⟨_,rfl⟩
 have hv64:v<18446744073709551616:=by rw [← hvn];exact Nat.mod_lt _ (by decide)
 have hhS:h*2^S<18446744073709551616:=by
  have:h*2^S<=y*2^S:=Nat.mul_le_mul_right _ (by omega)
  omega
 have hls:l/2^(64-S)<18446744073709551616:=Nat.lt_of_le_of_lt (Nat.div_le_self _ _) hl
 rw [hYn] at n1 n2 j3
 rw [hun] at j1 j2 j3
 rw [hvn] at j2
 -- the digits
 obtain ⟨d1,hd1⟩:∃ d1,Y/4294967296=d1:=⟨_,rfl⟩
 obtain ⟨d0,hd0⟩:∃ d0,Y%4294967296=d0:=⟨_,rfl⟩
 obtain ⟨e1,he1⟩:∃ e1,v/4294967296=e1:=⟨_,rfl⟩
 obtain ⟨e0,he0⟩:∃ e0,v%4294967296=e0:=⟨_,rfl⟩
 have hYd:Y=d1*4294967296+d0:=by omega
 have hve:v=e1*4294967296+e0:=by omega
 have hYpos:0<Y:=by omega
 obtain ⟨Q1,hQ1⟩:∃ Q1,(u*4294967296+e1)/Y=Q1:=⟨_,rfl⟩
 obtain ⟨R1,hR1⟩:∃ R1,(u*4294967296+e1)%Y=R1:=⟨_,rfl⟩
 have hR1l:R1<Y:=by rw [← hR1];exact Nat.mod_lt _ hYpos
 obtain ⟨Q0,hQ0⟩:∃ Q0,(R1*4294967296+e0)/Y=Q0:=⟨_,rfl⟩
 obtain ⟨R0,hR0⟩:∃ R0,(R1*4294967296+e0)%Y=R0:=⟨_,rfl⟩
 have hR0l:R0<Y:=by rw [← hR0];exact Nat.mod_lt _ hYpos
 have m1:Q1*Y+R1=u*4294967296+e1:=by
  have:=Nat.div_add_mod (u*4294967296+e1) Y
  rw [hQ1,hR1,Nat.mul_comm] at this;exact this
 have m0:Q0*Y+R0=R1*4294967296+e0:=by
  have:=Nat.div_add_mod (R1*4294967296+e0) Y
  rw [hQ0,hR0,Nat.mul_comm] at this;exact this
 have cY:(d1:Int)*4294967296+d0=(Y:Int):=by omega
 have iQ1:((u:Int)*4294967296+e1)/(d1*4294967296+d0)=Q1:=by
  rw [cY,show (u:Int)*4294967296+e1=((u*4294967296+e1:Nat):Int) by omega,← Int.natCast_ediv,hQ1]
 have iQ0:((R1:Int)*4294967296+e0)/(d1*4294967296+d0)=Q0:=by
  rw [cY,show (R1:Int)*4294967296+e0=((R1*4294967296+e0:Nat):Int) by omega,← Int.natCast_ediv,hQ0]
 have p1:((Q1*Y:Nat):Int)=(Q1:Int)*Y:=Int.natCast_mul ..
 have p0:((Q0*Y:Nat):Int)=(Q0:Int)*Y:=Int.natCast_mul ..
 have iR1:(u:Int)*4294967296+e1-Q1*Y=R1:=by rw [← p1];omega
 have iR0:(R1:Int)*4294967296+e0-Q0*Y=R0:=by rw [← p0];omega
 have D1:Dg (u:Int) d1 d0 e1:=⟨by omega,by omega,by omega,by omega,by omega,by omega,by omega,by omega⟩
 have D0:Dg (R1:Int) d1 d0 e0:=⟨by omega,by omega,by omega,by omega,by omega,by omega,by omega,by omega⟩
 have wY:IntKind.u64.wrap ((y:Int)*2^S)=(Y:Int):=by
  rw [← powCast,← Int.natCast_mul,wrapNat,hYn,Nat.mod_eq_of_lt n2]
 have wv:IntKind.u64.wrap ((l:Int)*2^S)=(v:Int):=by
  rw [← powCast,← Int.natCast_mul,wrapNat,hvn]
 have wu:bits BinOp.or IntKind.u64 (IntKind.u64.wrap ((h:Int)*2^S)) ((l:Int)/2^(64-S))=(u:Int):=by
  rw [← powCast,← powCast,← Int.natCast_mul,wrapNat,← Int.natCast_ediv,Nat.mod_eq_of_lt hhS,u64_or_nat _ _ hhS hls,j1]
 have fin:=norm_back (h*18446744073709551616+l) y S (Q1*4294967296+Q0) R0 (by
  rw [← j2,hYn,Nat.add_mul,Nat.mul_right_comm]
  omega) (by rw [hYn];exact hR0l)
 have core:=div64_core (h:Int) l y Y d1 d0 u v e1 e0 Q1 R1 Q0 R0 S w (by omega) ⟨by omega,by omega⟩ ⟨by omega,by omega⟩ n3 hlz wY (by omega) (by rw [andLow Y n2,hd0]) wu wv (by omega) (by rw [andLow v hv64,he0]) D1 D0 cY.symm (by omega) iQ1 iR1 iQ0 iR0 ⟨by omega,by omega⟩
 refine core.mono fun e w' hw=>⟨?_,hw.2⟩
 rw [hw.1]
 have c1:(Q1:Int)*4294967296+Q0=(((h*18446744073709551616+l)/y:Nat):Int):=by rw [← fin.1];omega
 have c2:(R0:Int)/2^S=(((h*18446744073709551616+l)%y:Nat):Int):=by rw [← fin.2,← powCast,← Int.natCast_ediv]
 rw [c1,c2]
theorem div64_all (hi lo y:Int)(w:World)(h0:0<=hi)(hy:hi<y)(hy64:y<=18446744073709551615)(hl:0<=lo/\lo<=18446744073709551615) :
  Calls Tryz.prog 117 #[.int .u64 hi,.int .u64 lo,.int .u64 y] w fun e w'=>e=.returned (.tuple #[.int .u64 ((hi*18446744073709551616+lo)/y),.int .u64 ((hi*18446744073709551616+lo)%y)])/\∃ m,w'=w.drewN m:=by
 by_cases e:hi=0
 ·subst e
  have:=div64_0 lo y w hl ⟨by omega,hy64⟩
  simpa using this
 ·obtain ⟨h,rfl⟩:=Int.eq_ofNat_of_zero_le h0
  obtain ⟨l,rfl⟩:=Int.eq_ofNat_of_zero_le hl.1
  obtain ⟨z,rfl⟩:=Int.eq_ofNat_of_zero_le (show 0<=y by omega)
  refine (div64_pos h l z w (by omega) (by omega) (by omega) (by omega)).mono fun e w' hw=>⟨?_,hw.2⟩
  rw [hw.1,Int.natCast_ediv,Int.natCast_emod,Int.natCast_add,Int.natCast_mul]
  rfl
section
attribute [local go_sem] setCell_drewN alloc_drewN
theorem quoW_words {x:Nat->Int}{d:Int}(hx:Words x)(hd:0<d)(n:Nat):Words (quoW x d n):=fun j=>by
 have hr:=remJ_bd x d n (n-1-j) hd
 have hb:=hx j
 unfold quoW
 refine ⟨Int.ediv_nonneg (by omega) (by omega),?_⟩
 have:(remJ x d n (n-1-j)*18446744073709551616+x j)/d<18446744073709551616:=by
  apply Int.ediv_lt_of_lt_mul hd
  rw [Int.mul_comm 18446744073709551616 d]
  have:(remJ x d n (n-1-j)+1)*18446744073709551616<=d*18446744073709551616:=Int.mul_le_mul_of_nonneg_right (by omega) (by decide)
  omega
 omega
theorem div_val (x:Nat->Int)(d:Int)(n:Nat):∀ j,j<=n->val x (n-j)+remJ x d n j*18446744073709551616^(n-j)+d*(val (quoW x d n) n-val (quoW x d n) (n-j))=val x n
 | 0,_=>by simp [remJ]
 | j+1,h=>by
  have ih:=div_val x d n j (by omega)
  obtain ⟨k,hk⟩:∃ k,n-j=k+1:=⟨n-j-1,by omega⟩
  have hk2:n-(j+1)=k:=by omega
  have hk3:n-1-j=k:=by omega
  have hk4:n-1-k=j:=by omega
  rw [hk] at ih
  rw [hk2]
  have hq:quoW x d n k=(remJ x d n j*18446744073709551616+x k)/d:=by unfold quoW;rw [hk4]
  have hr:remJ x d n (j+1)=(remJ x d n j*18446744073709551616+x k)%d:=by simp only [remJ];rw [hk3]
  have hdm:=Int.mul_ediv_add_emod (remJ x d n j*18446744073709551616+x k) d
  rw [← hq,← hr] at hdm
  simp only [val] at ih
  rw [Int.pow_succ] at ih
  generalize (18446744073709551616:Int)^k=p at *
  generalize remJ x d n (j+1)=r' at *
  generalize remJ x d n j=r at *
  generalize quoW x d n k=q at *
  have e1:x k=d*q+r'-r*18446744073709551616:=by omega
  rw [e1] at ih
  grind
theorem sum_val {x y:Nat->Int}:∀ n,val (sumW x y) n+carryW x y n*18446744073709551616^n=val x n+val y n
 | 0=>by simp [val,carryW]
 | n+1=>by
  have ih:=sum_val (x:=x) (y:=y) n
  have e1:sumW x y n+carryW x y (n+1)*18446744073709551616=x n+y n+carryW x y n:=by simp only [sumW,carryW];omega
  simp only [val]
  rw [Int.pow_succ]
  generalize (18446744073709551616:Int)^n=p at *
  generalize carryW x y (n+1)=c' at *
  have e2:sumW x y n=x n+y n+carryW x y n-c'*18446744073709551616:=by omega
  rw [e2]
  grind
theorem val_one (r:Int):∀ n,0<n->val (oneW r) n=r
 | 0,h=>by omega
 | 1,_=>by simp [val,oneW]
 | n+2,_=>by
  have ih:=val_one r (n+1) (by omega)
  show val (oneW r) (n+1)+oneW r (n+1)*_=r
  rw [ih];simp [oneW]
theorem limDiv_ok (x:Nat->Int)(d:Int)(n:Nat)(hx:Words x)(hd:0<d/\d<=18446744073709551615)(j:Nat)(hj:j<n)(w:World):Calls Tryz.prog 117 #[.int .u64 (remJ x d n (n-1-j)),.int .u64 (x j),.int .u64 d] w fun e w'=>e=.returned (.tuple #[.int .u64 (quoW x d n j),.int .u64 (remJ x d n (n-j))])/\∃ m,w'=w.drewN m:=by
 have hr:=remJ_bd x d n (n-1-j) hd.1
 have h:=div64_all (remJ x d n (n-1-j)) (x j) d w hr.1 hr.2 hd.2 (hx j)
 have e1:remJ x d n (n-j)=(remJ x d n (n-1-j)*18446744073709551616+x j)%d:=by
  obtain ⟨k,hk⟩:∃ k,n-j=k+1:=⟨n-j-1,by omega⟩
  rw [hk,show n-1-j=k by omega]
  simp only [remJ];rw [show n-1-k=j by omega]
 rw [e1];exact h
end
end Go.Proofs.YtgknbdehlmlipaaGreatDoor

set_option maxRecDepth 100000
set_option maxRecDepth 20000
namespace Go.Proofs.YtgknbdehlmlipaaGreatDoor
open Go.ChangeShapes Go.WideShapes Go.ChangeAt Go.RowKit
theorem Tryz.cells22:Tryz.prog.cellsOf 22=1:=by kernel_rfl
section
variable {H:Type}{enc:TypeId×Value->H}{W:World}{r:Reach}{base b:Nat}{sp:Nat->Bool}{held:Bool}{t:TypeId}{n:Nat}{v:Value}{d:DataW H}{p:List MemPlace}
theorem open_words (ht:Tryz.prog.underlying t=some (.array n 22))(hc:Tryz.prog.cellsOf t=n)(hok:Value.okWide Tryz.prog W r base t v)(h:DataW.Trod enc Tryz.prog W b sp held t v d p) :
  ∃ x,Words x/\v=.agg (arrOf x n)/\p=[]:=by
 have ho:∃ cs,v=.agg cs/\cs.size=n:=by
  simp only [Value.okWide,ht] at hok
  obtain ⟨cs,h1,h2,_⟩:=hok
  exact ⟨cs,h1,by rw [h2,hc]⟩
 obtain ⟨cs,rfl,hcs⟩:=ho
 obtain ⟨fuel,hf⟩:=h
 obtain ⟨xs,m,rfl,hx,hl,hlen,hi⟩:=DataW.trod_array ht hf
 have hcell:∀ i,i<n->∃ z,cs[i]?=some (.int .u64 z)/\xs[i]?=some (.lit (.int .u64 z),[])/\(0<=z/\z<=18446744073709551615):=by
  intro i hin
  have h1:=hi i hin
  rw [Tryz.cells22] at h1
  have hix:i<xs.length:=by omega
  rw [List.getElem?_eq_getElem hix] at h1
  obtain ⟨z,hz,hxz,hw⟩:=DataW.trod_int Tryz.underlying22 h1
  refine ⟨z,?_,?_,bounds_u64 hw⟩
  ·have hic:i<cs.size:=by omega
   have:((Value.agg cs).cells.toList.drop (i*1)).take 1=[cs[i]]:=by
    simp [Value.cells,List.take_one,List.head?_drop,hic]
   rw [this] at hz
   rw [Array.getElem?_eq_getElem hic]
   simpa using hz
  ·rw [List.getElem?_eq_getElem hix,hxz]
 refine ⟨fun i=>match cs[i]? with|some (.int .u64 z)=>(if i<n then z else 0)|_=>0,?_,?_,?_⟩
 ·intro i
  by_cases hin:i<n
  ·obtain ⟨z,h1,_,h3⟩:=hcell i hin
   simp only [h1,if_pos hin];exact h3
  ·have:cs[i]?=none:=by simp;omega
   simp only [this];omega
 ·congr 1
  refine arrOf_of cs n _ hcs fun i hin=>?_
  obtain ⟨z,h1,_,_⟩:=hcell i hin
  simp only [h1,if_pos hin]
 ·have:p=xs.flatMap (·.2):=by
   have:=congrArg Prod.snd hx;simpa using this
  rw [this]
  simp only [List.flatMap_eq_nil_iff]
  intro y hy
  obtain ⟨i,hin,rfl⟩:=List.getElem_of_mem hy
  obtain ⟨z,_,h2,_⟩:=hcell i (by omega)
  rw [List.getElem?_eq_getElem hin] at h2
  rw [Option.some.inj h2]
end
end Go.Proofs.YtgknbdehlmlipaaGreatDoor
