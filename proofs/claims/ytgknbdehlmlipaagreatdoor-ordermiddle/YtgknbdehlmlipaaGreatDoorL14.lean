/-
  Texts that the proof leans on.
-/
import Derived.Test.YtgknbdehlmlipaaGreatDoorL2
import Derived.Test.YtgknbdehlmlipaaGreatDoorL12
import Derived.Test.YtgknbdehlmlipaaGreatDoorL6
set_option maxHeartbeats 8000000
set_option linter.unusedVariables false
set_option linter.unusedSimpArgs false
set_option linter.unusedSectionVars false
set_option maxRecDepth 20000
namespace Go.Proofs.YtgknbdehlmlipaaGreatDoor
open Go.RowKit
def shrW (x:Nat->Int)(q r j:Nat):Int:=if r=0 then x (q+j) else orW (x (q+j)/2^r) (IntKind.u64.wrap (x (q+j+1)*2^(64-r)))
theorem shrW_words {x:Nat->Int}(hx:Words x)(q r:Nat):Words (shrW x q r):=fun j=>by
 unfold shrW;split
 ·exact hx _
 ·exact orW_word _ _ (div_word _ _ (hx _)) (wrap_word _)
theorem shrW_zero {x:Nat->Int}{n:Nat}(zx:∀ i,n<=i->x i=0)(q r j:Nat)(hj:n<=q+j):shrW x q r j=0:=by
 unfold shrW;split
 ·exact zx _ hj
 ·rw [zx _ hj,zx (q+j+1) (by omega),Int.zero_mul,Int.zero_ediv,wrap_id 0 (by decide),orW_zero 0 (by decide)]
def wl (f:Nat->Int)(k:Nat):List Value:=(List.range k).map fun i=>Value.int .u64 (f i)
theorem wl_succ (f:Nat->Int)(k:Nat):wl f k++[Value.int .u64 (f k)]=wl f (k+1):=by simp [wl,List.range_succ]
theorem num_of_owns' {w':World}{ao:Option Addr}{k cap base:Nat}{x:Nat->Int}(hx:Words x)(hz:∀ i,k<=i->x i=0)(h:w'.ownsRow base 22 1 (.slice ao k cap) k (wl x k)):Num w' ao k cap x:=by
 have h0:=h
 obtain ⟨hl,h1⟩:=h0
 rcases h1 with ⟨h1,h2⟩|⟨g,cap',cur,he,hb,hh,_⟩
 ·cases h1
  exact ⟨Nat.le_refl _,by unfold maxLen;omega,hx,hz,Or.inl ⟨rfl,rfl⟩⟩
 ·cases he
  exact num_of_owns (w:=w') hx hz h (by
   rcases Nat.lt_or_ge g w'.heap.size with h3|h3
   ·exact h3
   ·rw [Array.getElem?_eq_none h3] at hh;cases hh)
theorem right_z (b off n c q:Nat)(s:Int)(x:Nat->Int)(w:World)(hn:n<4000000000)(hq0:q<100000)(hq:s/64=q)(hr:s%64=0)(hs:0<=s)(h:Num w (some ⟨b,off,none⟩) n c x) :
  Calls Tryz.prog 49 #[.slice (some ⟨b,off,none⟩) n c,.int .i64 s] w fun e w'=>∃ g k cap z,e=.returned (.tuple #[.slice (some ⟨g,0,none⟩) k cap,.bool z])/\k<=n/\Num w' (some ⟨g,0,none⟩) k cap (shrW x q 0)/\Below w.heap.size w w':=by
 have hx:=h.2.2.1
 have zx:=h.2.2.2.1
 have hc:b<w.heap.size/\∀ i,i<n->w.cell? ⟨b,off+i,none⟩=some (.int .u64 (x i)):=by
  rcases h.2.2.2.2 with ⟨h,_⟩|⟨b',off',h,hbs,hc⟩
  ·cases h
  ·cases h;exact ⟨hbs,hc⟩
 obtain ⟨hbs,hc⟩:=hc
 have hcap:=h.1
 have hs6:s<6400064:=by omega
 obtain ⟨i0,hi,hz0,hz1,hz2⟩:=info_parts Tryz.info22
 have HX:Hid (Num w (some ⟨b,off,none⟩) n c x):=h
 clear h
 go_enter Tryz.func49,Tryz.ntmps49
 go_wp2
 go_loop [6,7,13] (fun g u7 i=>∃ (k:Nat) (z:Bool),k<=n/\i=.int .i64 k/\g=.bool z) (fun _ _ i=>n-(intOf i).toNat)
 case atStart=>exact ⟨0,false,Nat.zero_le _,rfl,rfl⟩
 case round =>
  obtain ⟨k,z,hk,rfl,rfl⟩:=hrel
  by_cases h8:k<n
  ·have h8i:(k:Int)<n:=by omega
   by_cases hkq:k<q
   ·have bx:=hx k
    have hcx:=hc k h8
    clear hc hx zx hi hz0 hz1 hz2
    have hkq':(k:Int)<q:=by omega
    by_cases hz:x k=0
    ·have hz':(x k != 0)=false:=by simp [hz]
     have hne:((k:Int)==q)=false:=by simp;omega
     go_wp2
     go_round
     case rel=>exact ⟨k+1,z,by omega,by go_num,rfl⟩
     case measure=>simp [intOf];omega
    ·have hz':(x k != 0)=true:=by simp [hz]
     go_wp2
     go_round
     case rel=>exact ⟨k+1,true,by omega,by go_num,rfl⟩
     case measure=>simp [intOf];omega
   ·have hkq':¬ (k:Int)<q:=by omega
    by_cases hke:k=q
    ·subst hke
     have bx:=hx k
     have hcx:=hc k h8
     clear hc hx zx hi hz0 hz1 hz2
     go_wp2
     all_goals
      go_round
      case rel=>first|exact ⟨k+1,true,by omega,by go_num,rfl⟩|exact ⟨k+1,z,by omega,by go_num,rfl⟩
      case measure=>simp [intOf];omega
    ·have hcx:=hc k h8
     clear hc hx zx hi hz0 hz1 hz2
     have hne:((k:Int)==q)=false:=by simp;omega
     go_wp2
     go_round
     case rel=>exact ⟨k+1,z,by omega,by go_num,rfl⟩
     case measure=>simp [intOf];omega
  ·obtain rfl:k=n:=by omega
   go_wp2
   go_loopw [8,9,10] (fun v i u10 wr=>∃ (j:Nat) (ao:Option Addr) (cp:Nat),j<=k-q/\i=.int .i64 ((q:Int)+j)/\v=.slice ao j cp/\wr.ownsRow w.heap.size 22 1 (.slice ao j cp) j (wl (shrW x q 0) j)/\Below w.heap.size w wr) (fun _ i _ _=>k+1-(intOf i).toNat)
   case atStart=>exact ⟨0,none,0,Nat.zero_le _,by go_num,rfl,World.ownsRow_nil _ _ _ _,Below.refl _ _⟩
   case round =>
    obtain ⟨j,ao,cp,hj,rfl,rfl,hown,hB⟩:=hrel
    by_cases hlt:q+j<k
    ·have hlt':(q:Int)+j<k:=by omega
     have bx:=hx (q+j)
     have b_y:=hx (q+j+1)
     have e1:((q:Int)+j).toNat=q+j:=by omega
     have hcx:wr.cell? ⟨b,off+(q+j),none⟩=some (.int .u64 (x (q+j))):=(hB.cell (p:=⟨b,off+(q+j),none⟩) hbs).trans (hc (q+j) hlt)
     have HW:Hid (CQ 55 #[.slice (some ⟨b,off,none⟩) k c,.int .i64 ((q:Int)+j+1)] wr (.int .u64 (x (q+j+1)))):=by
      have:=word_any (some ⟨b,off,none⟩) k c (q+j+1) x wr (HX.out.next hB)
      rw [show ((q+j+1:Nat):Int)=(q:Int)+j+1 by omega] at this
      exact this.mono fun _ _ h=>⟨h.1,h.2.symm⟩
     have hbw:=hB.size
     have HO:Hid (wr.ownsRow w.heap.size 22 1 (.slice ao j cp) j (wl (shrW x q 0) j)):=hown
     have HVAL:Hid (shrW x q 0 j=x (q+j)):=by show _=_;simp [shrW]
     have HOWN:(wr.alloc (.cells #[.int .u64 (x (q+j))] 22)).ownsRow w.heap.size 22 1 (.slice ao j cp) j (wl (shrW x q 0) j):=hown.alloc _
     have HNEWS:∀ (p:Nat) (u:Value),[Value.int .u64 (x (q+j))][p]?=some u->(wr.alloc (.cells #[.int .u64 (x (q+j))] 22)).cell? ((⟨wr.heap.size,0,none⟩:Addr).add p)=some u:=by
      intro p u hp
      match p,hp with
      | 0,hp=>simp at hp;subst hp;simp [Addr.add]
     have HONE:∀ u ∈ [Value.int .u64 (x (q+j))],u.oneCell'=true:=by
      intro u hu;simp at hu;subst hu;rfl
     clear hc hx zx hown
     go_wp2_with (first|(at_builtin;refine wpList_append_lies _ rfl (.tmp 77) (.tmp 79) 48 rfl w.heap.size 22 i0 (.int .u64 0) 1 8 Tryz.underlying48 hi hz0 hz1 hz2 rfl (by decide) (.slice ao j cp) j (wl (shrW x q 0) j) rfl HOWN ⟨wr.heap.size,0,none⟩ 1 1 [Value.int .u64 (x (q+j))] rfl rfl HNEWS HONE (by omega) (by unfold maxLen;omega) (by omega) (by simp;omega) (wr.heap.size+1) (by simp) ?_;intro g cap w1 hown1 hgrow hat hlt1;clear HOWN HNEWS HONE)|(go_at_call 55;refine HW.out.mono ?_;rintro e w' ⟨rfl,rfl⟩))
     have hown2:w1.ownsRow w.heap.size 22 1 (.slice (some ⟨g,0,none⟩) (j+1) cap) (j+1) (wl (shrW x q 0) (j+1)):=by
      rw [← HVAL.out,wl_succ] at hown1;exact hown1
     have HB2:Below w.heap.size w w1:=(hB.alloc hbw _).grown hgrow (by simp;omega) (by
      intro p hp
      rcases ao with _|⟨bb,oo,sp⟩
      ·cases hp
      ·cases hp
       obtain ⟨_,h1⟩:=HO.out
       rcases h1 with ⟨h1,_⟩|⟨g',_,_,h1,h2,_⟩
       ·cases h1
       ·cases h1;exact h2)
     clear hown1 hgrow
     go_wp2
     go_roundw
     case rel=>exact ⟨j+1,some ⟨g,0,none⟩,cap,by omega,by go_num,rfl,hown2,HB2⟩
     case measure=>simp [intOf];omega
    ·have HZ:∀ i,j<=i->shrW x q 0 i=0:=fun i hi=>shrW_zero zx q 0 i (by omega)
     have hT:=trim_any ao j cp _ wr (by omega) (num_of_owns' (shrW_words hx q 0) HZ hown)
     have hle:=sizeL_le (shrW x q 0) j
     have hlt':¬ (q:Int)+j<k:=by omega
     clear hc hx zx hown HZ
     go_wp2_with (go_at_call 56;refine hT.mono ?_;rintro e w1 ⟨g,cap,rfl,hN,hB1⟩)
     go_ret2
     exact ⟨g,_,cap,_,rfl,by omega,hN,hB.trans (hB1.mono hB.size)⟩
theorem right_p (b off n c q r:Nat)(s:Int)(x:Nat->Int)(w:World)(hn:n<4000000000)(hq0:q<100000)(hr0:r<64)(hrp:0<r)(hq:s/64=q)(hr:s%64=r)(hs:0<=s)(h:Num w (some ⟨b,off,none⟩) n c x) :
  Calls Tryz.prog 49 #[.slice (some ⟨b,off,none⟩) n c,.int .i64 s] w fun e w'=>∃ g k cap z,e=.returned (.tuple #[.slice (some ⟨g,0,none⟩) k cap,.bool z])/\k<=n/\Num w' (some ⟨g,0,none⟩) k cap (shrW x q r)/\Below w.heap.size w w':=by
 have hx:=h.2.2.1
 have zx:=h.2.2.2.1
 have hc:b<w.heap.size/\∀ i,i<n->w.cell? ⟨b,off+i,none⟩=some (.int .u64 (x i)):=by
  rcases h.2.2.2.2 with ⟨h,_⟩|⟨b',off',h,hbs,hc⟩
  ·cases h
  ·cases h;exact ⟨hbs,hc⟩
 obtain ⟨hbs,hc⟩:=hc
 have hcap:=h.1
 have hs6:s<6400064:=by omega
 obtain ⟨i0,hi,hz0,hz1,hz2⟩:=info_parts Tryz.info22
 have HX:Hid (Num w (some ⟨b,off,none⟩) n c x):=h
 clear h
 go_enter Tryz.func49,Tryz.ntmps49
 go_wp2
 go_loop [6,7,13] (fun g u7 i=>∃ (k:Nat) (z:Bool),k<=n/\i=.int .i64 k/\g=.bool z) (fun _ _ i=>n-(intOf i).toNat)
 case atStart=>exact ⟨0,false,Nat.zero_le _,rfl,rfl⟩
 case round =>
  obtain ⟨k,z,hk,rfl,rfl⟩:=hrel
  by_cases h8:k<n
  ·have h8i:(k:Int)<n:=by omega
   by_cases hkq:k<q
   ·have bx:=hx k
    have hcx:=hc k h8
    clear hc hx zx hi hz0 hz1 hz2
    have hkq':(k:Int)<q:=by omega
    by_cases hz:x k=0
    ·have hz':(x k != 0)=false:=by simp [hz]
     have hne:((k:Int)==q)=false:=by simp;omega
     go_wp2
     go_round
     case rel=>exact ⟨k+1,z,by omega,by go_num,rfl⟩
     case measure=>simp [intOf];omega
    ·have hz':(x k != 0)=true:=by simp [hz]
     go_wp2
     go_round
     case rel=>exact ⟨k+1,true,by omega,by go_num,rfl⟩
     case measure=>simp [intOf];omega
   ·have hkq':¬ (k:Int)<q:=by omega
    by_cases hke:k=q
    ·subst hke
     have bx:=hx k
     have hcx:=hc k h8
     clear hc hx zx hi hz0 hz1 hz2
     go_wp2
     all_goals
      go_round
      case rel=>first|exact ⟨k+1,true,by omega,by go_num,rfl⟩|exact ⟨k+1,z,by omega,by go_num,rfl⟩
      case measure=>simp [intOf];omega
    ·have hcx:=hc k h8
     clear hc hx zx hi hz0 hz1 hz2
     have hne:((k:Int)==q)=false:=by simp;omega
     go_wp2
     go_round
     case rel=>exact ⟨k+1,z,by omega,by go_num,rfl⟩
     case measure=>simp [intOf];omega
  ·obtain rfl:k=n:=by omega
   go_wp2
   go_loopw [8,9,10] (fun v i u10 wr=>∃ (j:Nat) (ao:Option Addr) (cp:Nat),j<=k-q/\i=.int .i64 ((q:Int)+j)/\v=.slice ao j cp/\wr.ownsRow w.heap.size 22 1 (.slice ao j cp) j (wl (shrW x q r) j)/\Below w.heap.size w wr) (fun _ i _ _=>k+1-(intOf i).toNat)
   case atStart=>exact ⟨0,none,0,Nat.zero_le _,by go_num,rfl,World.ownsRow_nil _ _ _ _,Below.refl _ _⟩
   case round =>
    obtain ⟨j,ao,cp,hj,rfl,rfl,hown,hB⟩:=hrel
    by_cases hlt:q+j<k
    ·have hlt':(q:Int)+j<k:=by omega
     have bx:=hx (q+j)
     have b_y:=hx (q+j+1)
     have e1:((q:Int)+j).toNat=q+j:=by omega
     have hcx:wr.cell? ⟨b,off+(q+j),none⟩=some (.int .u64 (x (q+j))):=(hB.cell (p:=⟨b,off+(q+j),none⟩) hbs).trans (hc (q+j) hlt)
     have HW:Hid (CQ 55 #[.slice (some ⟨b,off,none⟩) k c,.int .i64 ((q:Int)+j+1)] wr (.int .u64 (x (q+j+1)))):=by
      have:=word_any (some ⟨b,off,none⟩) k c (q+j+1) x wr (HX.out.next hB)
      rw [show ((q+j+1:Nat):Int)=(q:Int)+j+1 by omega] at this
      exact this.mono fun _ _ h=>⟨h.1,h.2.symm⟩
     have hbw:=hB.size
     have HO:Hid (wr.ownsRow w.heap.size 22 1 (.slice ao j cp) j (wl (shrW x q r) j)):=hown
     have HVAL:Hid (shrW x q r j=bits BinOp.or IntKind.u64 (x (q+j)/2^r) (IntKind.u64.wrap (x (q+j+1)*2^(64-r)))):=by show _=_;unfold shrW;rw [if_neg (by omega)];rfl
     have HOWN:(wr.alloc (.cells #[.int .u64 (bits BinOp.or IntKind.u64 (x (q+j)/2^r) (IntKind.u64.wrap (x (q+j+1)*2^(64-r))))] 22)).ownsRow w.heap.size 22 1 (.slice ao j cp) j (wl (shrW x q r) j):=hown.alloc _
     have HNEWS:∀ (p:Nat) (u:Value),[Value.int .u64 (bits BinOp.or IntKind.u64 (x (q+j)/2^r) (IntKind.u64.wrap (x (q+j+1)*2^(64-r))))][p]?=some u->(wr.alloc (.cells #[.int .u64 (bits BinOp.or IntKind.u64 (x (q+j)/2^r) (IntKind.u64.wrap (x (q+j+1)*2^(64-r))))] 22)).cell? ((⟨wr.heap.size,0,none⟩:Addr).add p)=some u:=by
      intro p u hp
      match p,hp with
      | 0,hp=>simp at hp;subst hp;simp [Addr.add]
     have HONE:∀ u ∈ [Value.int .u64 (bits BinOp.or IntKind.u64 (x (q+j)/2^r) (IntKind.u64.wrap (x (q+j+1)*2^(64-r))))],u.oneCell'=true:=by
      intro u hu;simp at hu;subst hu;rfl
     clear hc hx zx hown
     go_wp2_with (first|(at_builtin;refine wpList_append_lies _ rfl (.tmp 77) (.tmp 79) 48 rfl w.heap.size 22 i0 (.int .u64 0) 1 8 Tryz.underlying48 hi hz0 hz1 hz2 rfl (by decide) (.slice ao j cp) j (wl (shrW x q r) j) rfl HOWN ⟨wr.heap.size,0,none⟩ 1 1 [Value.int .u64 (bits BinOp.or IntKind.u64 (x (q+j)/2^r) (IntKind.u64.wrap (x (q+j+1)*2^(64-r))))] rfl rfl HNEWS HONE (by omega) (by unfold maxLen;omega) (by omega) (by simp;omega) (wr.heap.size+1) (by simp) ?_;intro g cap w1 hown1 hgrow hat hlt1;clear HOWN HNEWS HONE)|(go_at_call 55;refine HW.out.mono ?_;rintro e w' ⟨rfl,rfl⟩))
     have hown2:w1.ownsRow w.heap.size 22 1 (.slice (some ⟨g,0,none⟩) (j+1) cap) (j+1) (wl (shrW x q r) (j+1)):=by
      rw [← HVAL.out,wl_succ] at hown1;exact hown1
     have HB2:Below w.heap.size w w1:=(hB.alloc hbw _).grown hgrow (by simp;omega) (by
      intro p hp
      rcases ao with _|⟨bb,oo,sp⟩
      ·cases hp
      ·cases hp
       obtain ⟨_,h1⟩:=HO.out
       rcases h1 with ⟨h1,_⟩|⟨g',_,_,h1,h2,_⟩
       ·cases h1
       ·cases h1;exact h2)
     clear hown1 hgrow
     go_wp2
     go_roundw
     case rel=>exact ⟨j+1,some ⟨g,0,none⟩,cap,by omega,by go_num,rfl,hown2,HB2⟩
     case measure=>simp [intOf];omega
    ·have HZ:∀ i,j<=i->shrW x q r i=0:=fun i hi=>shrW_zero zx q r i (by omega)
     have hT:=trim_any ao j cp _ wr (by omega) (num_of_owns' (shrW_words hx q r) HZ hown)
     have hle:=sizeL_le (shrW x q r) j
     have hlt':¬ (q:Int)+j<k:=by omega
     clear hc hx zx hown HZ
     go_wp2_with (go_at_call 56;refine hT.mono ?_;rintro e w1 ⟨g,cap,rfl,hN,hB1⟩)
     go_ret2
     exact ⟨g,_,cap,_,rfl,by omega,hN,hB.trans (hB1.mono hB.size)⟩
def lowW (x:Nat->Int)(q i:Nat):Int:=if i<q then x i else 0
theorem lowW_words {x:Nat->Int}(hx:Words x)(q:Nat):Words (lowW x q):=fun i=>by unfold lowW;split;exact hx i;decide
def oneW (c:Int)(j:Nat):Int:=if j=0 then c else 0
theorem num_one (w:World)(c:Int)(hc:0<=c/\c<=18446744073709551615):Num (w.alloc (.cells #[.int .u64 c] 22)) (some ⟨w.heap.size,0,none⟩) 1 1 (oneW c) :=
 num_of_block (by omega) (fun i=>by unfold oneW;split;exact hc;decide) (fun i hi=>by unfold oneW;rw [if_neg (by omega)]) rfl (fun j hj=>match j,hj with|0,_=>rfl)
section
attribute [local go_sem] setCell_drewN alloc_drewN
theorem upd_get {ss:Array Value}{z:Nat->Int}{p:Nat}{v:Int}(h:∀ j h,ss[j]'h=Value.int .u64 (z j))(j:Nat)(hj:j<(ss.setIfInBounds p (.int .u64 v)).size):(ss.setIfInBounds p (.int .u64 v))[j]'hj=Value.int .u64 (if j=p then v else z j):=by
 have h':j<ss.size:=by simpa using hj
 rw [Array.getElem_setIfInBounds h']
 by_cases e:p=j
 ·subst e;simp
 ·rw [if_neg e,h j h',if_neg (Ne.symm e)]
theorem upd_words {z:Nat->Int}{p:Nat}{v:Int}(hz:Words z)(hv:0<=v/\v<=18446744073709551615):Words (fun j=>if j=p then v else z j):=fun i=>by
 show 0<=(if i=p then v else z i)/\(if i=p then v else z i)<=_
 split
 ·exact hv
 ·exact hz i
theorem mul_outer (V Vi a vb c:Int)(i k:Nat)(h:V+c*18446744073709551616^(i+k)=Vi*vb+a*vb*18446744073709551616^i):V+(c-0)*18446744073709551616^(i+k)=(Vi+a*18446744073709551616^i)*vb:=by
 rw [Int.sub_zero,h];generalize (18446744073709551616:Int)^i=p;grind
theorem times_raw (b off n c b' off' n' c':Nat)(x y:Nat->Int)(w:World)(hn:n<1000000)(hn':n'<1000000)(h:Num w (some ⟨b,off,none⟩) n c x)(h':Num w (some ⟨b',off',none⟩) n' c' y) :
  Calls Tryz.prog 24 #[.slice (some ⟨b,off,none⟩) n c,.slice (some ⟨b',off',none⟩) n' c'] w fun e w'=>∃ g k cap z,e=.returned (.slice (some ⟨g,0,none⟩) k cap)/\k<=n+n'+1/\Num w' (some ⟨g,0,none⟩) k cap z/\val z (n+n'+1)=val x n*val y n'/\Below w.heap.size w w':=by
 have hx:=h.2.2.1
 have hy:=h'.2.2.1
 have hc:b<w.heap.size/\∀ i,i<n->w.cell? ⟨b,off+i,none⟩=some (.int .u64 (x i)):=by
  rcases h.2.2.2.2 with ⟨h,_⟩|⟨b',off',h,hbs,hc⟩
  ·cases h
  ·cases h;exact ⟨hbs,hc⟩
 have hc':b'<w.heap.size/\∀ i,i<n'->w.cell? ⟨b',off'+i,none⟩=some (.int .u64 (y i)):=by
  rcases h'.2.2.2.2 with ⟨h,_⟩|⟨b',off',h,hbs,hc⟩
  ·cases h
  ·cases h;exact ⟨hbs,hc⟩
 have hcap:=h.1
 have hcap':=h'.1
 obtain ⟨M,hM⟩:∃ M,n+n'+1=M:=⟨_,rfl⟩
 have hMi:(n:Int)+n'+1=(M:Int):=by omega
 have hmk:=fun w=>make_any ((n:Int)+n'+1) M hMi (by omega) w
 have hcw:∀ (ss:Array Value) i,i<n->(w.alloc (.cells ss 22)).cell? ⟨b,off+i,none⟩=some (.int .u64 (x i)):=fun ss i hi=>((below1 w _).cell (p:=⟨b,off+i,none⟩) hc.1).trans (hc.2 i hi)
 have hcw':∀ (ss:Array Value) i,i<n'->(w.alloc (.cells ss 22)).cell? ⟨b',off'+i,none⟩=some (.int .u64 (y i)):=fun ss i hi=>((below1 w _).cell (p:=⟨b',off'+i,none⟩) hc'.1).trans (hc'.2 i hi)
 have HM:Hid (n+n'+1=M):=hM
 have HZ:Hid ((arrOf (fun _=>0) M).size=M/\∀ j h,(arrOf (fun _=>0) M)[j]'h=Value.int .u64 0):=⟨arrOf_size _ _,fun j h=>arrOf_get _ _ _ _⟩
 clear h h' hMi hc hc' hM
 generalize arrOf (fun _=>0) M=zz at *
 go_enter Tryz.func24,Tryz.ntmps24
 go_wp2
 go_loopw [22] (fun i wr=>∃ (k m:Nat) (ss:Array Value) (z:Nat->Int),k<=n/\i=.int .i64 k/\ss.size=M/\(∀ j h,ss[j]'h=Value.int .u64 (z j))/\Words z/\(∀ j,k+n'<=j->z j=0)/\val z M=val x k*val y n'/\wr=(w.alloc (.cells ss 22)).drewN m) (fun i _=>n-(intOf i).toNat)
 case atStart =>
  refine ⟨0,0,zz,fun _=>0,Nat.zero_le _,rfl,HZ.out.1,HZ.out.2,fun _=>(by decide:(0:Int)<=0/\(0:Int)<=18446744073709551615),fun _ _=>rfl,?_,rfl⟩
  have:∀ m,val (fun _=>0) m=0:=by intro m;induction m with|zero=>rfl|succ m ih=>simp only [val];rw [ih];simp
  rw [this];simp [val]
 case round =>
  obtain ⟨k,m,ss,z,hk,rfl,hsz,hss,hzw,hz0,hv,rfl⟩:=hrel
  by_cases h8:k<n
  ·have h8i:(k:Int)<n:=by omega
   have bx:=hx k
   have hcx:=fun ss=>hcw ss k h8
   have h0p:(∀ j,k+n'<=j->z j=0):=hz0
   go_wp2
   go_loopw [7,27] (fun cc kk wr=>∃ (q m:Nat) (ss:Array Value) (z:Nat->Int) (C:Int),q<=n'/\kk=.int .i64 q/\cc=.int .u64 C/\(0<=C/\C<=18446744073709551615)/\ss.size=M/\(∀ j h,ss[j]'h=Value.int .u64 (z j))/\Words z/\(∀ j,k+n'<=j->z j=0)/\Hid (val z M+C*18446744073709551616^(k+q)=val x k*val y n'+x k*val y q*18446744073709551616^k)/\wr=(w.alloc (.cells ss 22)).drewN m) (fun _ kk _=>n'-(intOf kk).toNat)
   case atStart=>exact ⟨0,m,ss,z,0,Nat.zero_le _,rfl,rfl,by decide,hsz,hss,hzw,hz0,by show _=_;rw [hv];simp [val],rfl⟩
   case round =>
    clear hss hsz hzw hz0 hv h0p
    obtain ⟨q,m2,s2,z2,C,hq,rfl,rfl,hCb,hsz,hss,hzw,hz0,hv,rfl⟩:=hrel
    by_cases hqn:q<n'
    ·have hqi:(q:Int)<n':=by omega
     have b_y:=hy q
     have hcy:=hcw' s2 q hqn
     have hcx2:=hcx s2
     have hp:k+q<s2.size:=by have:=HM.out;omega
     have hpi:(k:Int)+q<M:=by have:=HM.out;omega
     have e1:((k:Int)+q).toNat=k+q:=by omega
     have hsp:s2[k+q]?=some (.int .u64 (z2 (k+q))):=by rw [Array.getElem?_eq_getElem hp,hss _ hp]
     have hsp':∀ h,s2[k+q]'h=.int .u64 (z2 (k+q)):=fun h=>hss _ h
     have hzp:=hzw (k+q)
     have hms:=mul_step (x k) (y q) (z2 (k+q)) C bx b_y hzp hCb
     have hmul:=mul64 (x k) (y q) bx b_y
     have hL0:0<=x k*y q%18446744073709551616:=Int.emod_nonneg _ (by decide)
     have hH0:0<=x k*y q/18446744073709551616:=Int.ediv_nonneg (Int.mul_nonneg bx.1 b_y.1) (by decide)
     have hA1:=fun w=>add64z (x k*y q%18446744073709551616) (z2 (k+q)) hL0 hzp.1 w
     have hs0:0<=(x k*y q%18446744073709551616+z2 (k+q))%18446744073709551616:=Int.emod_nonneg _ (by decide)
     have hd0:0<=(x k*y q%18446744073709551616+z2 (k+q))/18446744073709551616:=Int.ediv_nonneg (by omega) (by decide)
     have hA2:=fun w=>add64z ((x k*y q%18446744073709551616+z2 (k+q))%18446744073709551616) C hs0 hCb.1 w
     have ht0:0<=((x k*y q%18446744073709551616+z2 (k+q))%18446744073709551616+C)%18446744073709551616/\((x k*y q%18446744073709551616+z2 (k+q))%18446744073709551616+C)%18446744073709551616<=18446744073709551615:=by omega
     have hf0:0<=((x k*y q%18446744073709551616+z2 (k+q))%18446744073709551616+C)/18446744073709551616:=Int.ediv_nonneg (by omega) (by decide)
     generalize ((x k*y q%18446744073709551616+z2 (k+q))%18446744073709551616+C)%18446744073709551616=t2 at *
     generalize ((x k*y q%18446744073709551616+z2 (k+q))%18446744073709551616+C)/18446744073709551616=f2 at *
     generalize (x k*y q%18446744073709551616+z2 (k+q))%18446744073709551616=t1 at *
     generalize (x k*y q%18446744073709551616+z2 (k+q))/18446744073709551616=f1 at *
     generalize x k*y q%18446744073709551616=lo at *
     generalize x k*y q/18446744073709551616=hi at *
     have HMS:Hid (t2+(hi+f1+f2)*18446744073709551616=x k*y q+z2 (k+q)+C):=hms.1
     have hb1:0<=hi+f1:=hms.2.1
     have hb2:hi+f1<=18446744073709551615:=hms.2.2.1
     have hb3:0<=hi+f1+f2:=hms.2.2.2.1
     have hb4:hi+f1+f2<=18446744073709551615:=hms.2.2.2.2
     have HSS:Hid (∀ j h,s2[j]'h=Value.int .u64 (z2 j)):=hss
     have HZW:Hid (Words z2):=hzw
     have HZ0:Hid (∀ j,k+n'<=j->z2 j=0):=hz0
     have HR:Hid (val (fun j=>if j=k+q then t2 else z2 j) M+(hi+f1+f2)*18446744073709551616^(k+(q+1))=val x k*val y n'+x k*val y (q+1)*18446744073709551616^k):=by
      show _=_
      rw [val_set z2 (k+q) t2 M (by have:=HM.out;omega)]
      exact mul_inner _ _ _ _ _ _ _ _ _ k q hv.out hms.1
     clear hms hss hzw hz0 hx hy hcw hcw' hmk hv
     go_wp2
     go_quiet ((go_at_call 59;exact (hmul _).mono fun _ _ h=>⟨h.1,_,h.2⟩))
     go_wp2
     go_roundw
     case rel=>exact ⟨q+1,m2+nq,s2.setIfInBounds (k+q) (.int .u64 t2),fun j=>if j=k+q then t2 else z2 j,hi+f1+f2,by omega,by go_num,rfl,⟨hb3,hb4⟩,by simp [hsz],upd_get HSS.out,upd_words HZW.out ht0,fun j hj=>(if_neg (show ¬ j=k+q by omega)).trans (HZ0.out j hj),HR,by simp [go_sem]⟩
     case measure=>simp [intOf];omega
    ·obtain rfl:q=n':=by omega
     have hp:k+q<s2.size:=by have:=HM.out;omega
     have hpi:(k:Int)+q<M:=by have:=HM.out;omega
     have e1:((k:Int)+q).toNat=k+q:=by omega
     have hsp:s2[k+q]?=some (.int .u64 0):=by rw [Array.getElem?_eq_getElem hp,hss _ hp,hz0 _ (Nat.le_refl _)]
     have HR:Hid (val (fun j=>if j=k+q then C else z2 j) M=val x (k+1)*val y q):=by
      show _=_
      rw [val_set z2 (k+q) C M (by have:=HM.out;omega),hz0 _ (Nat.le_refl _)]
      exact mul_outer _ _ _ _ _ k q hv.out
     have HSS:Hid (∀ j h,s2[j]'h=Value.int .u64 (z2 j)):=hss
     have HZW:Hid (Words z2):=hzw
     have HZ0:Hid (∀ j,k+q<=j->z2 j=0):=hz0
     clear hss hzw hz0 hx hy hcw hcw' hmk hv hcx
     go_wp2
     go_roundw
     case rel=>exact ⟨k+1,m2,s2.setIfInBounds (k+q) (.int .u64 C),fun j=>if j=k+q then C else z2 j,by omega,by go_num,by simp [hsz],upd_get HSS.out,upd_words HZW.out hCb,fun j hj=>(if_neg (show ¬ j=k+q by omega)).trans (HZ0.out j (by omega)),HR.out,by simp [go_sem]⟩
     case measure=>simp [intOf];omega
  ·obtain rfl:k=n:=by omega
   have hT:=trim_any _ _ _ _ _ (by have:=HM.out;omega) ((num_of_block (w:=w) (by have:=HM.out;omega) hzw (fun i hi=>hz0 i (by have:=HM.out;omega)) hsz hss).drewN m)
   have hle:=sizeL_le z M
   clear hss hmk hx hy hcw hcw' hzw hz0
   go_wp2_with (go_at_call 56;refine hT.mono ?_;rintro e w1 ⟨g,cap,rfl,hN,hB⟩)
   go_ret
   exact ⟨g,_,cap,z,rfl,Nat.le_trans hle (Nat.le_of_eq HM.out.symm),hN,by rw [HM.out];exact hv,(below_drewN (below1 w _) m).trans (hB.mono (by simp))⟩
end
end Go.Proofs.YtgknbdehlmlipaaGreatDoor
