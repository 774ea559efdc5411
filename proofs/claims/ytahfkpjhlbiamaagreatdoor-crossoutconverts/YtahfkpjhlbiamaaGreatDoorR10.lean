/-
  Texts that the proof leans on.
-/
import Derived.Test.YtahfkpjhlbiamaaGreatDoorR7
import Derived.Test.YtahfkpjhlbiamaaGreatDoorR1
set_option maxHeartbeats 8000000
set_option linter.unusedVariables false
set_option linter.unusedSimpArgs false
set_option linter.unusedSectionVars false
set_option maxRecDepth 20000
namespace Go.Proofs.YtahfkpjhlbiamaaGreatDoor
open Go.RowKit
def zRj (x y:Nat->Int)(off k j:Nat):Int:=if off<=j/\j<off+k then zVb (fun i=>x (off+i)) y (j-off) else x j
theorem zJo (x y:Nat->Int)(off k j:Nat):(if j=off+k then zVb (fun i=>x (off+i)) y k else zRj x y off k j)=zRj x y off (k+1) j:=by
 unfold zRj
 by_cases e:j=off+k
 ·subst e
  rw [if_pos rfl,if_pos (by omega)];congr 1;omega
 ·rw [if_neg e]
  by_cases e2:off<=j/\j<off+k
  ·rw [if_pos e2,if_pos (by omega)]
  ·rw [if_neg e2,if_neg (by omega)]
theorem zBz (x y:Nat->Int)(off k:Nat):zRj x y off k (off+k)=x (off+k):=by unfold zRj;rw [if_neg (by omega)]
theorem Num.cells {w:World}{a:Option Addr}{n c:Nat}{x:Nat->Int}(h:Num w a n c x)(hn:0<n):∃ b off,a=some ⟨b,off,none⟩/\b<w.heap.size/\∀ i,i<n->w.cell? ⟨b,off+i,none⟩=some (.int .u64 (x i)):=by
 rcases h.2.2.2.2 with ⟨_,h'⟩|⟨b,off,h',hb,hc⟩
 ·have:=h.1;omega
 ·exact ⟨b,off,h',hb,hc⟩
theorem zPg (g N off m c k c':Nat)(a':Option Addr)(x y:Nat->Int)(w:World)(hm:off+m<=N)(hN:N<4294967296)(hk:k<=m)(hx:zDa x)(h:Own g N x w)(h':Num w a' k c' y)(hA:zCi a' g) :
  Calls Tryz.prog 200 #[.slice (some ⟨g,off,none⟩) m c,.slice a' k c'] w fun e w'=>e=.returned (.int .u64 (carryW (fun i=>x (off+i)) y k))/\Own g N (zRj x y off k) w'/\Upd g w w':=by
 have hy:=h'.2.2.1
 have hX:zDa (fun i=>x (off+i)):=fun i=>hx (off+i)
 have HX:Hid (zDa (fun i=>x (off+i))):=hX
 go_enter Tryz.func200,Tryz.ntmps200
 go_wp2
 go_loopw [5,6,7,10,15] (fun cv u6 u7 i u15 wr=>∃ (j:Nat),j<=k/\i=.int .i64 j/\cv=.int .u64 (carryW (fun i=>x (off+i)) y j)/\Own g N (zRj x y off j) wr/\Upd g w wr) (fun _ _ _ i _ _=>k-(intOf i).toNat)
 case atStart=>exact ⟨0,Nat.zero_le _,rfl,rfl,h.congr fun i _=>by unfold zRj;rw [if_neg (by omega)],Upd.refl _ _⟩
 case round =>
  obtain ⟨j,hj,rfl,rfl,hO,hU⟩:=hrel
  have hcar:=zOd HX.out hy j
  by_cases hlt:j<k
  ·have hji:(j:Int)<k:=by omega
   have hjm:(j:Int)<m:=by omega
   obtain ⟨b,off',rfl,hb,hc⟩:=(hU.num' hA h').cells (by omega)
   have hcj:=hc j hlt
   have hco:=hO.cell (off+j) (by omega)
   rw [zBz] at hco
   have hfo:=hO.frozen (off+j)
   have bx:=hx (off+j)
   have b_y:=hy j
   have hadd:=fun w=>zCz (x (off+j)) (y j) (carryW (fun i=>x (off+i)) y j) bx.1 b_y.1 hcar.1 hcar.2 w
   have HO:Hid (Own g N (zRj x y off (j+1)) (wr.setCell ⟨g,off+j,none⟩ (.int .u64 (zVb (fun i=>x (off+i)) y j)))):=(hO.set (off+j) _).congr fun i _=>zJo x y off j i
   have HU:Hid (Upd g w (wr.setCell ⟨g,off+j,none⟩ (.int .u64 (zVb (fun i=>x (off+i)) y j)))):=hU.set (off+j) _
   clear hO hU hc h h' hA hx hy hX
   go_wp2
   go_roundw
   case rel=>exact ⟨j+1,by omega,by go_num,rfl,HO.out,HU.out⟩
   case measure=>simp [intOf];omega
  ·obtain rfl:j=k:=by omega
   have HO:Hid (Own g N (zRj x y off j) wr):=hO
   have HU:Hid (Upd g w wr):=hU
   clear hO hU h h' hA hx hy hX
   go_wp2
   go_ret
   exact ⟨rfl,HO.out,HU.out⟩
theorem zAq {x y:Nat->Int}(hx:zDa x){k:Nat}(zy:∀ i,k<=i->y i=0){i:Nat}(hi:k<=i)(h0:carryW x y i=0):∀ j,i<=j->carryW x y j=0/\zVb x y j=x j:=by
  have h1:∀ j,i<=j->carryW x y j=0:=by
    intro j hj
    induction j with
    | zero => obtain rfl : i = 0 := by omega
              exact h0
    | succ j ih =>
      by_cases e:i=j+1
      · rw [← e];exact h0
      · have hb:=hx j
        simp only [carryW];rw [ih (by omega),zy j (by omega)];omega
  intro j hj
  refine ⟨h1 j hj,?_⟩
  have hb:=hx j
  unfold zVb
  rw [h1 j hj,zy j (by omega)];omega
theorem zIh (g N k c:Nat)(x y:Nat->Int)(w:World)(hk:k<=N)(hN:N<4294967296)(hx:zDa x)(hy:zDa y)(zy:∀ i,k<=i->y i=0)(hend:carryW x y N=0)(h:Own g N (zRj x y 0 k) w) :
  Calls Tryz.prog 199 #[.slice (some ⟨g,k,none⟩) (N-k) c,.int .u64 (carryW x y k)] w fun e w'=>e=.returned (.tuple #[])/\Own g N (zVb x y) w'/\Upd g w w':=by
 have e0:(fun i=>x (0+i))=x:=by funext i;rw [Nat.zero_add]
 go_enter Tryz.func199,Tryz.ntmps199
 go_wp2
 go_loopw [1,4,9] (fun cv i u9 wr=>∃ (j:Nat),k+j<=N/\i=.int .i64 j/\cv=.int .u64 (carryW x y (k+j))/\Own g N (zRj x y 0 (k+j)) wr/\Upd g w wr) (fun _ i _ _=>N-(intOf i).toNat)
 case atStart=>exact ⟨0,by omega,rfl,rfl,h,Upd.refl _ _⟩
 case round =>
  obtain ⟨j,hj,rfl,rfl,hO,hU⟩:=hrel
  have hcar:=zOd hx hy (k+j)
  by_cases hc0:carryW x y (k+j)=0
  ·have HO:Hid (Own g N (zVb x y) wr):=hO.congr fun i hi=>by
    unfold zRj
    by_cases e:0<=i/\i<0+(k+j)
    ·rw [if_pos e,e0];rfl
    ·rw [if_neg e];exact ((zAq hx zy (by omega) hc0 i (by omega)).2).symm
   have HU:Hid (Upd g w wr):=hU
   rw [hc0]
   clear hO hU h hend hcar e0
   go_wp2
   go_end0
   exact ⟨rfl,HO.out,HU.out⟩
  ·have hlt:k+j<N:=by
    rcases Nat.lt_or_ge (k+j) N with h'|h'
    ·exact h'
    ·obtain e:k+j=N:=by omega
     rw [e] at hc0;exact absurd hend hc0
   have hpos:0<carryW x y (k+j):=by omega
   have hji:(j:Int)<((N-k:Nat):Int):=by omega
   have hco:=hO.cell (k+j) hlt
   have e1:zRj x y 0 (k+j) (k+j)=x (k+j):=by have:=zBz x y 0 (k+j);simpa using this
   rw [e1] at hco
   have hfo:=hO.frozen (k+j)
   have bx:=hx (k+j)
   have hs:zVb x y (k+j)=(x (k+j)+carryW x y (k+j))%18446744073709551616:=by unfold zVb;rw [zy _ (by omega),Int.add_zero]
   have hcn:carryW x y (k+(j+1))=(x (k+j)+carryW x y (k+j))/18446744073709551616:=by
    show (x (k+j)+y (k+j)+carryW x y (k+j))/18446744073709551616=_
    rw [zy _ (by omega),Int.add_zero]
   have hadd:=fun w=>zCz (x (k+j)) 0 (carryW x y (k+j)) bx.1 (by decide) hcar.1 hcar.2 w
   have HO:Hid (Own g N (zRj x y 0 (k+(j+1))) (wr.setCell ⟨g,k+j,none⟩ (.int .u64 (zVb x y (k+j))))):=(hO.set (k+j) _).congr fun i _=>by
    have:=zJo x y 0 (k+j) i
    rw [e0,Nat.zero_add] at this
    exact this
   have HU:Hid (Upd g w (wr.setCell ⟨g,k+j,none⟩ (.int .u64 (zVb x y (k+j))))):=hU.set (k+j) _
   have HC:Hid (carryW x y (k+(j+1))=(x (k+j)+carryW x y (k+j))/18446744073709551616):=hcn
   rw [hs] at HO HU
   clear hO hU h hend hx hy zy hc0 e1 hs hcn e0
   go_wp2
   go_roundw
   case rel=>exact ⟨j+1,by omega,by go_num,by rw [HC.out],HO.out,HU.out⟩
   case measure=>simp [intOf];omega
theorem zKl {x y:Nat->Int}{s s' N:Nat}(hx:zDa x)(hy:zDa y)(zx:∀ i,s<=i->x i=0)(zy:∀ i,s'<=i->y i=0)(h:s<N)(h':s'<N):carryW x y N=0:=by
 obtain ⟨q,rfl⟩:∃ q,N=q+1:=⟨N-1,by omega⟩
 have:=zOd hx hy q
 simp only [carryW];rw [zx q (by omega),zy q (by omega)];omega
theorem zPu {x y:Nat->Int}{g N s s':Nat}{w:World}(hx:zDa x)(hy:zDa y)(zx:∀ i,s<=i->x i=0)(zy:∀ i,s'<=i->y i=0)(h:s<N)(h':s'<N)(hN:N<4294967296)(hO:Own g N (zVb x y) w) :
  Num w (some ⟨g,0,none⟩) N N (segW (zVb x y) 0 N)/\val (segW (zVb x y) 0 N) N=val x s+val y s':=by
 refine ⟨hO.num (zEe x y) 0 N N (by omega) (Nat.le_refl _) (by unfold maxLen;omega),?_⟩
 rw [zIa (x:=segW (zVb x y) 0 N) (y:=zVb x y) N fun i hi=>by rw [zSa _ 0 N i hi,Nat.zero_add]]
 have e:=zVi (x:=x) (y:=y) N
 rw [zKl hx hy zx zy h h',zLa zx N (by omega),zLa zy N (by omega)] at e
 omega
theorem zT1 (a a':Option Addr)(n c n' c':Nat)(x y:Nat->Int)(w:World)(hn:n<4000000000)(hn':n'<4000000000)(h:Num w a n c x)(h':Num w a' n' c' y) :
  Calls Tryz.prog 166 #[.slice a n c,.slice a' n' c'] w fun e w'=>∃ g k cap z,e=.returned (.slice (some ⟨g,0,none⟩) k cap)/\k<=max (sizeL x n) (sizeL y n')+1/\Num w' (some ⟨g,0,none⟩) k cap z/\val z k=val x n+val y n'/\sizeL z k=k/\Below w.heap.size w w':=by
 have hb:=zQa a n c x w (by omega) h
 have hb':=zQa a' n' c' y w (by omega) h'
 rw [← zKa n,← zKa n']
 have hx:=h.2.2.1
 have hy:=h'.2.2.1
 have hle:=zCa x n
 have hle':=zCa y n'
 have hN:=h.bare
 have hN':=h'.bare
 generalize sizeL x n=s at *
 generalize sizeL y n'=s' at *
 clear h h'
 by_cases hlt:s<s'
 ·have hlt':(s:Int)<s':=by omega
  obtain ⟨N,hNs⟩:∃ N,s'+1=N:=⟨_,rfl⟩
  have hNi:(s':Int)+1=N:=by omega
  have hmk:=fun w=>zUa ((s':Int)+1) N hNi (by omega) w
  have hcp:=fun ty=>zHm (N:=N) (C:=N) ty hN' (by omega)
  have hO:=Own.new w y N
  have hA:zCi a w.heap.size:=by
   intro p hp
   rcases hN.2.2.2.2 with ⟨h,_⟩|⟨b,off,h,hb,_⟩
   ·rw [h] at hp;cases hp
   ·rw [h] at hp;cases hp;exact Nat.ne_of_lt hb
  have hnS:=hN.next (zBa w (.cells (arrOf y N) 22))
  have hai:=fun wr hO hn=>zPg w.heap.size N 0 N N s c a y x wr (by omega) (by omega) (by omega) hy hO hn hA
  rw [show (fun i=>y (0+i))=y by funext i;rw [Nat.zero_add]] at hai
  have hci:=fun wr hO=>zIh w.heap.size N s (N-s) y x wr (by omega) (by omega) hy hx hN.2.2.2.1 (zKl hy hx hN'.2.2.2.1 hN.2.2.2.1 (by omega) (by omega)) hO
  have HSN:Hid (∀ w2,Own w.heap.size N (zVb y x) w2->Num w2 (some ⟨w.heap.size,0,none⟩) N N (segW (zVb y x) 0 N)/\val (segW (zVb y x) 0 N) N=val y s'+val x s):=fun w2 h2=>zPu hy hx hN'.2.2.2.1 hN.2.2.2.1 (by omega) (by omega) (by omega) h2
  have HBW:Hid (Below w.heap.size w (w.alloc (.cells (arrOf y N) 22))):=zBa w _
  have hsN:(s:Int)<=N:=by omega
  clear hN hN' hNi hA hx hy
  go_enter Tryz.func166,Tryz.ntmps166
  go_wp2_with (first|(go_at_call_of 102 (Value.slice a n c);refine hb.mono ?_;rintro e w' ⟨rfl,rfl⟩)|(go_at_call_of 102 (Value.slice a' n' c');refine hb'.mono ?_;rintro e w' ⟨rfl,rfl⟩))
  generalize w.alloc (.cells (arrOf y N) 22)=wA at *
  go_region_with (first|(go_at_call 200;refine (hai wA.drew hO hnS).mono ?_;rintro e w1 ⟨rfl,hO1,hU1⟩)|(go_at_call 199;refine (hci _ hO1).mono ?_;rintro e w2 ⟨rfl,hO2,hU2⟩))
  have hsn:=HSN.out w2 hO2
  have hbr:=zQa (some ⟨w.heap.size,0,none⟩) N N (segW (zVb y x) 0 N) w2 (by omega) hsn.1
  have HN2:Hid (Num w2 (some ⟨w.heap.size,0,none⟩) (sizeL (segW (zVb y x) 0 N) N) N (segW (zVb y x) 0 N)):=hsn.1.bare
  have HV2:Hid (val (segW (zVb y x) 0 N) (sizeL (segW (zVb y x) 0 N) N)=val y s'+val x s):=by show _=_;rw [zKa,hsn.2]
  have HS2:Hid (sizeL (segW (zVb y x) 0 N) (sizeL (segW (zVb y x) 0 N) N)=sizeL (segW (zVb y x) 0 N) N):=zFa _ _
  have HLE:Hid (sizeL (segW (zVb y x) 0 N) N<=N):=zCa _ _
  generalize segW (zVb y x) 0 N=z at *
  generalize sizeL z N=k at *
  have HB2:Hid (Below w.heap.size w w2):=(HBW.out.drew.trans (hU1.below (Nat.le_refl _))).trans (hU2.below (Nat.le_refl _))
  clear hsn hO1 hO2 hU1 hU2 hO hnS hai hci hb hb'
  go_wp2_with (go_at_call 102;refine hbr.mono ?_;rintro e w3 ⟨rfl,rfl⟩)
  go_ret
  exact ⟨_,k,N,z,rfl,by have:=HLE.out;omega,HN2.out,by rw [HV2.out];omega,HS2.out,HB2.out⟩
 ·have hlt':¬ (s:Int)<s':=by omega
  obtain ⟨N,hNs⟩:∃ N,s+1=N:=⟨_,rfl⟩
  have hNi:(s:Int)+1=N:=by omega
  have hmk:=fun w=>zUa ((s:Int)+1) N hNi (by omega) w
  have hcp:=fun ty=>zHm (N:=N) (C:=N) ty hN (by omega)
  have hO:=Own.new w x N
  have hA:zCi a' w.heap.size:=by
   intro p hp
   rcases hN'.2.2.2.2 with ⟨h,_⟩|⟨b,off,h,hb,_⟩
   ·rw [h] at hp;cases hp
   ·rw [h] at hp;cases hp;exact Nat.ne_of_lt hb
  have hnS:=hN'.next (zBa w (.cells (arrOf x N) 22))
  have hai:=fun wr hO hn=>zPg w.heap.size N 0 N N s' c' a' x y wr (by omega) (by omega) (by omega) hx hO hn hA
  rw [show (fun i=>x (0+i))=x by funext i;rw [Nat.zero_add]] at hai
  have hci:=fun wr hO=>zIh w.heap.size N s' (N-s') x y wr (by omega) (by omega) hx hy hN'.2.2.2.1 (zKl hx hy hN.2.2.2.1 hN'.2.2.2.1 (by omega) (by omega)) hO
  have HSN:Hid (∀ w2,Own w.heap.size N (zVb x y) w2->Num w2 (some ⟨w.heap.size,0,none⟩) N N (segW (zVb x y) 0 N)/\val (segW (zVb x y) 0 N) N=val x s+val y s'):=fun w2 h2=>zPu hx hy hN.2.2.2.1 hN'.2.2.2.1 (by omega) (by omega) (by omega) h2
  have HBW:Hid (Below w.heap.size w (w.alloc (.cells (arrOf x N) 22))):=zBa w _
  have hsN:(s':Int)<=N:=by omega
  clear hN hN' hNi hA hx hy
  go_enter Tryz.func166,Tryz.ntmps166
  go_wp2_with (first|(go_at_call_of 102 (Value.slice a n c);refine hb.mono ?_;rintro e w' ⟨rfl,rfl⟩)|(go_at_call_of 102 (Value.slice a' n' c');refine hb'.mono ?_;rintro e w' ⟨rfl,rfl⟩))
  generalize w.alloc (.cells (arrOf x N) 22)=wA at *
  go_region_with (first|(go_at_call 200;refine (hai wA.drew hO hnS).mono ?_;rintro e w1 ⟨rfl,hO1,hU1⟩)|(go_at_call 199;refine (hci _ hO1).mono ?_;rintro e w2 ⟨rfl,hO2,hU2⟩))
  have hsn:=HSN.out w2 hO2
  have hbr:=zQa (some ⟨w.heap.size,0,none⟩) N N (segW (zVb x y) 0 N) w2 (by omega) hsn.1
  have HN2:Hid (Num w2 (some ⟨w.heap.size,0,none⟩) (sizeL (segW (zVb x y) 0 N) N) N (segW (zVb x y) 0 N)):=hsn.1.bare
  have HV2:Hid (val (segW (zVb x y) 0 N) (sizeL (segW (zVb x y) 0 N) N)=val x s+val y s'):=by show _=_;rw [zKa,hsn.2]
  have HS2:Hid (sizeL (segW (zVb x y) 0 N) (sizeL (segW (zVb x y) 0 N) N)=sizeL (segW (zVb x y) 0 N) N):=zFa _ _
  have HLE:Hid (sizeL (segW (zVb x y) 0 N) N<=N):=zCa _ _
  generalize segW (zVb x y) 0 N=z at *
  generalize sizeL z N=k at *
  have HB2:Hid (Below w.heap.size w w2):=(HBW.out.drew.trans (hU1.below (Nat.le_refl _))).trans (hU2.below (Nat.le_refl _))
  clear hsn hO1 hO2 hU1 hU2 hO hnS hai hci hb hb'
  go_wp2_with (go_at_call 102;refine hbr.mono ?_;rintro e w3 ⟨rfl,rfl⟩)
  go_ret
  exact ⟨_,k,N,z,rfl,by have:=HLE.out;omega,HN2.out,by rw [HV2.out],HS2.out,HB2.out⟩
def zVt (x y:Nat->Int)(k j:Nat):Int:=if j<k then zVc x y j else x j
theorem zXm (x y:Nat->Int)(k j:Nat):(if j=k then zVc x y k else zVt x y k j)=zVt x y (k+1) j:=by
 unfold zVt
 by_cases e:j=k
 ·subst e
  rw [if_pos rfl,if_pos (by omega)]
 ·rw [if_neg e]
  by_cases e2:j<k
  ·rw [if_pos e2,if_pos (by omega)]
  ·rw [if_neg e2,if_neg (by omega)]
theorem zSu (x y:Nat->Int)(k:Nat):zVt x y k k=x k:=by unfold zVt;rw [if_neg (by omega)]
theorem zLy {x y b:Int}(hx:0<=x/\x<=18446744073709551615)(hy:0<=y/\y<=18446744073709551615)(hb:0<=b/\b<=1):(x-y-b)%18446744073709551616-bor x y b*18446744073709551616=x-y-b:=by
 unfold bor;split<;>omega
theorem zAi {x y:Nat->Int}(hx:zDa x)(hy:zDa y):∀ n,val (zVc x y) n-zFf x y n*18446744073709551616^n=val x n-val y n
 | 0=>by simp [val,zFf]
 | n+1=>by
  have ih:=zAi hx hy n
  have h:=zLy (hx n) (hy n) (zLf x y n)
  show val (zVc x y) n+zVc x y n*18446744073709551616^n-bor (x n) (y n) (zFf x y n)*18446744073709551616^(n+1)=val x n+x n*18446744073709551616^n-(val y n+y n*18446744073709551616^n)
  have hd:zVc x y n=(x n-y n-zFf x y n)%18446744073709551616:=rfl
  rw [← hd] at h
  rw [Int.pow_succ]
  generalize (18446744073709551616:Int)^n=P at *
  grind
theorem zNy {x y:Nat->Int}(hx:zDa x){k:Nat}(zy:∀ i,k<=i->y i=0){i:Nat}(hi:k<=i)(h0:zFf x y i=0):∀ j,i<=j->zFf x y j=0/\zVc x y j=x j:=by
  have h1:∀ j,i<=j->zFf x y j=0:=by
    intro j hj
    induction j with
    | zero => obtain rfl : i = 0 := by omega
              exact h0
    | succ j ih =>
      by_cases e:i=j+1
      · rw [← e];exact h0
      · have hb:=hx j
        show bor (x j) (y j) (zFf x y j)=0
        rw [ih (by omega),zy j (by omega)];unfold bor;rw [if_neg (by omega)]
  intro j hj
  refine ⟨h1 j hj,?_⟩
  have hb:=hx j
  unfold zVc
  rw [h1 j hj,zy j (by omega)];omega
theorem zJm {x y:Nat->Int}(hx:zDa x)(hy:zDa y){n:Nat}(h:val y n<=val x n):zFf x y n=0:=by
 have e:=zAi hx hy n
 have h1:=zOa (zLe x y) n
 have h2:=zLf x y n
 have h3:=zPb n
 by_cases h0:zFf x y n=0
 ·exact h0
 ·have:zFf x y n=1:=by omega
  rw [this] at e;omega
theorem zZq (a:Option Addr)(n c:Nat)(x:Nat->Int)(w:World)(hn:n<100000000)(h:Num w a n c x) :
  CQ 110 #[.slice a n c] w (.int .i64 (lenL x n)):=by
 have hb:=zQa a n c x w (by omega) h
 have hle:=zCa x n
 by_cases h0:sizeL x n=0
 ·have HL:Hid (lenL x n=0):=by show _=_;simp [lenL,h0]
  rw [h0] at hb
  clear h0 h
  go_enter Tryz.func110,Tryz.ntmps110
  go_wp2_with (go_at_call 102;refine hb.mono ?_;rintro e w' ⟨rfl,rfl⟩)
  go_ret
  exact ⟨zTa HL.out.symm,rfl⟩
 ·obtain ⟨j,hj⟩:∃ j,sizeL x n=j+1:=⟨sizeL x n-1,by omega⟩
  have HL:Hid (lenL x n=64*(j:Int)+Lib.bitLen (x j).toNat):=by show _=_;simp [lenL,hj];omega
  obtain ⟨b,off,rfl,hbs,hc⟩:=h.cells (by omega)
  rw [hj] at hb
  have hcj:=hc j (by omega)
  have hbx:=h.2.2.1 j
  have hbl:=zSc (x j).toNat
  have hj':j+1<=n:=by omega
  clear h0 hc hj hle h
  have hcl:=Tryz.bits_Len64 (x j) w hbx.1 hbx.2
  generalize Lib.bitLen (x j).toNat=L at *
  go_enter Tryz.func110,Tryz.ntmps110
  go_wp2_with (first|(go_at_call 102;refine hb.mono ?_;rintro e w' ⟨rfl,rfl⟩)|(go_at_call 135;refine hcl.mono ?_;rintro e w' ⟨rfl,rfl⟩))
  go_ret
  exact ⟨zTa (by rw [HL.out];omega),rfl⟩
theorem zX0 (w:World):CQ 69 #[.slice none 0 0] w (.int .i64 0):=by
 have hs:=zMq w
 go_enter Tryz.func69,Tryz.ntmps69
 go_wp2_with (go_at_call 134;refine hs.mono ?_;rintro e w' ⟨rfl,rfl⟩)
 go_ret
 exact ⟨rfl,rfl⟩
theorem zTd (a:Option Addr)(n c:Nat)(x:Nat->Int)(w:World)(hn:n<100000000)(h:Num w a n c x) :
  CQ 69 #[.slice a n c] w (.int .i64 (lenL x n)):=by
 have h':=h
 obtain ⟨h1,h2,h3,h4,h5⟩:=h'
 rcases h5 with ⟨rfl,rfl⟩|⟨b,off,rfl,hb,hc⟩
 ·obtain rfl:n=0:=by omega
  exact zX0 w
 ·exact (zF8 b off n c x w hn h3 hc).mono fun e w' hw=>⟨hw.1,hw.2.symm⟩
theorem zB1 (a a':Option Addr)(n c n' c':Nat)(x y:Nat->Int)(w:World)(hn:n<4000000000)(hn':n'<4000000000)(h:Num w a n c x)(h':Num w a' n' c' y) :
  Calls Tryz.prog 63 #[.slice a n c,.slice a' n' c'] w fun e w'=>∃ g k cap z,e=.returned (.slice (some ⟨g,0,none⟩) k cap)/\k<=max n n'+1/\Num w' (some ⟨g,0,none⟩) k cap z/\val z k=val x n+val y n'/\Below w.heap.size w w':=by
 refine (zC1 a a' n c n' c' x y w (by omega) (by omega) h h').mono fun e w' ⟨g,k,cap,e1,hk,hN,hB⟩=>⟨g,k,cap,_,e1,hk,hN,?_,hB⟩
 have e:=zVi (x:=x) (y:=y) (max n n'+1)
 rw [zKl h.2.2.1 h'.2.2.1 h.2.2.2.1 h'.2.2.2.1 (by omega) (by omega),zLa h.2.2.2.1 _ (by omega),zLa h'.2.2.2.1 _ (by omega),zLa hN.2.2.2.1 _ hk] at e
 omega
theorem ncmp_b (a a':Option Addr)(n c n' c':Nat)(x y:Nat->Int)(w:World)(hn:n<4294967296)(hn':n'<4294967296)(h:Num w a n c x)(h':Num w a' n' c' y) :
  CB 57 #[.slice a n c,.slice a' n' c'] w (.int .i64 (sgn (val x n) (val y n'))) :=
 (zBr a a' n c n' c' x y w hn hn' h h').mono fun e w' ⟨h1,m,hm⟩=>⟨h1,hm▸below_drewN (Below.refl _ _) m⟩
theorem zL1 (w:World):Num w none 0 0 (fun _=>0):=⟨Nat.le_refl _,by unfold maxLen;omega,fun _=>(by decide:(0:Int)<=0/\(0:Int)<=18446744073709551615),fun _ _=>rfl,Or.inl ⟨rfl,rfl⟩⟩
theorem zPk (a n z C:Int)(w:World)(ha:0<=a/\a<=18446744073709551615)(hn:0<=n/\n<=18446744073709551615)(hz:0<=z/\z<=18446744073709551615)(hC:0<=C/\C<=18446744073709551615) :
  Calls Tryz.prog 189 #[.int .u64 a,.int .u64 n,.int .u64 z,.int .u64 C] w fun e w'=>∃ l h,e=.returned (.tuple #[.int .u64 l,.int .u64 h])/\l+h*18446744073709551616=a*n+z+C/\(0<=l/\l<=18446744073709551615)/\(0<=h/\h<=18446744073709551615)/\w=w':=by
 have hms:=zVl a n z C ha hn hz hC
 have hmul:=zMw a n ha hn w
 have hL0:0<=a*n%18446744073709551616:=Int.emod_nonneg _ (by decide)
 have hA1:=fun w=>zQj (a*n%18446744073709551616) z hL0 hz.1 w
 have hs0:0<=(a*n%18446744073709551616+z)%18446744073709551616:=Int.emod_nonneg _ (by decide)
 have hA2:=fun w=>zQj ((a*n%18446744073709551616+z)%18446744073709551616) C hs0 hC.1 w
 have ht0:0<=((a*n%18446744073709551616+z)%18446744073709551616+C)%18446744073709551616/\((a*n%18446744073709551616+z)%18446744073709551616+C)%18446744073709551616<=18446744073709551615:=by omega
 generalize ((a*n%18446744073709551616+z)%18446744073709551616+C)%18446744073709551616=t2 at *
 generalize ((a*n%18446744073709551616+z)%18446744073709551616+C)/18446744073709551616=f2 at *
 generalize (a*n%18446744073709551616+z)%18446744073709551616=t1 at *
 generalize (a*n%18446744073709551616+z)/18446744073709551616=f1 at *
 generalize a*n%18446744073709551616=lo at *
 generalize a*n/18446744073709551616=hi at *
 have HMS:Hid (t2+(hi+f1+f2)*18446744073709551616=a*n+z+C):=hms.1
 have hb1:0<=hi+f1:=hms.2.1
 have hb2:hi+f1<=18446744073709551615:=hms.2.2.1
 have hb3:0<=hi+f1+f2:=hms.2.2.2.1
 have hb4:hi+f1+f2<=18446744073709551615:=hms.2.2.2.2
 clear hms
 go_enter Tryz.func189,Tryz.ntmps189
 go_wp2_with (go_at_call 154;refine hmul.mono ?_;rintro e w' ⟨rfl,rfl⟩)
 go_ret2
 exact ⟨t2,hi+f1+f2,rfl,HMS.out,ht0,⟨hb3,hb4⟩,rfl⟩
theorem zBk (g N off m c k c':Nat)(a':Option Addr)(x y:Nat->Int)(n:Int)(w:World)(hm:off+m<=N)(hN:N<4294967296)(hk:k<=m)(hx:zDa x)(hn:0<=n/\n<=18446744073709551615)(h:Own g N x w)(h':Num w a' k c' y)(hA:zCi a' g) :
  Calls Tryz.prog 144 #[.slice (some ⟨g,off,none⟩) m c,.slice a' k c',.int .u64 n] w fun e w'=>∃ C z,e=.returned (.int .u64 C)/\(0<=C/\C<=18446744073709551615)/\Own g N z w'/\zDa z/\val z N+C*18446744073709551616^(off+k)=val x N+n*val y k*18446744073709551616^off/\(∀ i,off+k<=i->z i=x i)/\Upd g w w':=by
 have hy:=h'.2.2.1
 go_enter Tryz.func144,Tryz.ntmps144
 go_wp2
 go_loopw [7,8,9,12,17] (fun cv u8 u9 i u17 wr=>∃ (j:Nat) (C:Int) (z:Nat->Int),j<=k/\i=.int .i64 j/\cv=.int .u64 C/\(0<=C/\C<=18446744073709551615)/\Own g N z wr/\zDa z/\Hid (val z N+C*18446744073709551616^(off+j)=val x N+n*val y j*18446744073709551616^off)/\(∀ i,off+j<=i->z i=x i)/\Upd g w wr) (fun _ _ _ i _ _=>k-(intOf i).toNat)
 case atStart=>exact ⟨0,0,x,Nat.zero_le _,rfl,rfl,by decide,h,hx,by show _=_;simp [val],fun _ _=>rfl,Upd.refl _ _⟩
 case round =>
  obtain ⟨j,C,z,hj,rfl,rfl,hCb,hO,hzw,hv,hzx,hU⟩:=hrel
  by_cases hlt:j<k
  ·have hji:(j:Int)<k:=by omega
   have hjm:(j:Int)<m:=by omega
   obtain ⟨b,off',rfl,hb,hc⟩:=(hU.num' hA h').cells (by omega)
   have hcj:=hc j hlt
   have hco:=hO.cell (off+j) (by omega)
   have hfo:=hO.frozen (off+j)
   have hma:=fun w=>zPk (y j) n (z (off+j)) C w (hy j) hn (hzw (off+j)) hCb
   have HO:Hid (Own g N z wr):=hO
   have HU:Hid (Upd g w wr):=hU
   have HZW:Hid (zDa z):=hzw
   have HZX:Hid (∀ i,off+j<=i->z i=x i):=hzx
   clear hO hU hc h h' hA hx hy hzw hzx
   go_wp2_with (go_at_call 189;refine (hma _).mono ?_;rintro e w1 ⟨l,hi,rfl,hlh,hlb,hhb,rfl⟩)
   go_roundw
   case rel =>
    refine ⟨j+1,hi,fun i=>if i=off+j then l else z i,by omega,by go_num,rfl,hhb,HO.out.set (off+j) l,zTb HZW.out hlb,?_,?_,HU.out.set (off+j) _⟩
    ·show _=_
     rw [zJd z (off+j) l N (by omega)]
     exact zFj _ _ _ _ _ _ _ _ _ off j hv.out (by rw [hlh,Int.mul_comm (y j) n])
    ·intro i hi2
     exact (if_neg (show ¬ i=off+j by omega)).trans (HZX.out i (by omega))
   case measure=>simp [intOf];omega
  ·obtain rfl:j=k:=by omega
   have HO:Hid (Own g N z wr):=hO
   have HU:Hid (Upd g w wr):=hU
   have HZW:Hid (zDa z):=hzw
   have HZX:Hid (∀ i,off+j<=i->z i=x i):=hzx
   clear hO hU h h' hA hx hy hzw hzx
   go_wp2
   go_ret
   exact ⟨C,z,rfl,hCb,HO.out,HZW.out,hv.out,HZX.out,HU.out⟩
theorem zYd {w:World}{a:Option Addr}{n c:Nat}{x:Nat->Int}(h:Num w a n c x):zCi a w.heap.size:=by
 intro p hp
 rcases h.2.2.2.2 with ⟨h,_⟩|⟨b,off,h,hb,_⟩
 ·rw [h] at hp;cases hp
 ·rw [h] at hp;cases hp;exact Nat.ne_of_lt hb
theorem zRd:∀ m,val (fun _=>0) m=0:=by intro m;induction m with|zero=>rfl|succ m ih=>simp only [val];rw [ih];simp
theorem zUl (a a':Option Addr)(n c n' c':Nat)(x y:Nat->Int)(w:World)(hn:n<4000000000)(hn':n'<4000000000)(h:Num w a n c x)(h':Num w a' n' c' y)(hs:sizeL x n+sizeL y n'<=2000) :
  Calls Tryz.prog 81 #[.slice a n c,.slice a' n' c'] w fun e w'=>∃ g k cap z,e=.returned (.tuple #[.slice (some ⟨g,0,none⟩) k cap,.int .i64 0])/\k<=sizeL x n+sizeL y n'/\Num w' (some ⟨g,0,none⟩) k cap z/\val z k=val x n*val y n'/\sizeL z k=k/\Below w.heap.size w w':=by
 have hb:=zQa a n c x w (by omega) h
 have hb':=zQa a' n' c' y w (by omega) h'
 rw [← zKa n,← zKa n']
 have hx:=h.2.2.1
 have hy:=h'.2.2.1
 have hle:=zCa x n
 have hle':=zCa y n'
 have hN:=h.bare
 have hN':=h'.bare
 generalize sizeL x n=s at *
 generalize sizeL y n'=s' at *
 clear h h'
 obtain ⟨N,hNs⟩:∃ N,s+s'=N:=⟨_,rfl⟩
 have hNi:(s:Int)+s'=N:=by omega
 have hmk:=fun w=>zUa ((s:Int)+s') N hNi (by omega) w
 have hN2:(s:Int)+s'<=2000:=by omega
 have HNS:Hid (s+s'=N):=hNs
 have hA:=zYd hN
 have hA':=zYd hN'
 have hO:=Own.new w (fun _=>0) N
 have hBW:=zBa w (.cells (arrOf (fun _=>0) N) 22)
 have hnx:=hN.next hBW
 have hny:=hN'.next hBW
 have hap:=fun wr z off hO hzw hU (hoff:off+s<=N) n hn=>zBk w.heap.size N off (N-off) (N-off) s c a z x n wr (by omega) (by omega) (by omega) hzw hn hO (Upd.num' (w:=w.alloc (.cells (arrOf (fun _=>0) N) 22)) hU hA hnx) hA
 have HBW:Hid (Below w.heap.size w (w.alloc (.cells (arrOf (fun _=>0) N) 22))):=hBW
 clear hBW hN hN' hNi hNs
 go_enter Tryz.func81,Tryz.ntmps81
 go_wp2_with (first|(go_at_call_of 102 (Value.slice a n c);refine hb.mono ?_;rintro e w' ⟨rfl,rfl⟩)|(go_at_call_of 102 (Value.slice a' n' c');refine hb'.mono ?_;rintro e w' ⟨rfl,rfl⟩))
 generalize w.alloc (.cells (arrOf (fun _=>0) N) 22)=wA at *
 go_loopw [9,10,29] (fun u9 u10 i wr=>∃ (j:Nat) (z:Nat->Int),j<=s'/\i=.int .i64 j/\Own w.heap.size N z wr/\zDa z/\(∀ q,s+j<=q->z q=0)/\Hid (val z N=val x s*val y j)/\Upd w.heap.size wA wr) (fun _ _ i _=>s'-(intOf i).toNat)
 case atStart=>exact ⟨0,fun _=>0,Nat.zero_le _,rfl,hO,fun _=>(by decide:(0:Int)<=0/\(0:Int)<=18446744073709551615),fun _ _=>rfl,by show _=_;rw [zRd];simp [val],Upd.refl _ _⟩
 case round =>
  clear hO
  obtain ⟨j,z,hj,rfl,hO,hzw,hz0,hv,hU⟩:=hrel
  by_cases hlt:j<s'
  ·have hji:(j:Int)<s':=by omega
   obtain ⟨b,off',rfl,hbb,hc⟩:=(hU.num' hA' hny).cells (by omega)
   have hcj:=hc j hlt
   have hap1:=hap wr z j hO hzw hU (by have:=HNS.out;omega) (y j) (hy j)
   have hjN:(j:Int)<=N:=by have:=HNS.out;omega
   have hjs:(j:Int)+s<N:=by have:=HNS.out;omega
   have e1:((j:Int)+s).toNat=j+s:=by omega
   have HU:Hid (Upd w.heap.size wA wr):=hU
   have HZ0:Hid (∀ q,s+j<=q->z q=0):=hz0
   clear hO hU hc hzw hz0 hap hx hy hA hA' hnx hny
   go_wp2_with (go_at_call 144;refine hap1.mono ?_;rintro e w1 ⟨C,z1,rfl,hCb,hO1,hw1,hv1,hzx1,hU1⟩;have hc1:=hO1.cell (j+s) (by have:=HNS.out;omega);have hf1:=hO1.frozen (j+s))
   go_roundw
   case rel =>
    have e2:z1 (j+s)=0:=by rw [hzx1 (j+s) (Nat.le_refl _)];exact HZ0.out _ (by omega)
    refine ⟨j+1,fun i=>if i=j+s then C else z1 i,by omega,by go_num,hO1.set (j+s) C,zTb hw1 hCb,?_,?_,(HU.out.trans hU1).set (j+s) _⟩
    ·intro q hq
     exact (if_neg (show ¬ q=j+s by omega)).trans ((hzx1 q (by omega)).trans (HZ0.out q (by omega)))
    ·show _=_
     rw [zJd z1 (j+s) C N (by have:=HNS.out;omega),e2,Int.sub_zero,hv1,hv.out]
     show _=val x s*(val y j+y j*18446744073709551616^j)
     generalize (18446744073709551616:Int)^j=P
     grind
   case measure=>simp [intOf];omega
  ·obtain rfl:j=s':=by omega
   have hN2':=hO.num hzw 0 N N (by omega) (Nat.le_refl _) (by unfold maxLen;have:=HNS.out;omega)
   have hbr:=zQa (some ⟨w.heap.size,0,none⟩) N N (segW z 0 N) wr (by have:=HNS.out;omega) hN2'
   have HN2:Hid (Num wr (some ⟨w.heap.size,0,none⟩) (sizeL (segW z 0 N) N) N (segW z 0 N)):=hN2'.bare
   have HV2:Hid (val (segW z 0 N) (sizeL (segW z 0 N) N)=val x s*val y j):=by
    show _=_
    rw [zKa,zIa (x:=segW z 0 N) (y:=z) N fun i hi=>by rw [zSa _ 0 N i hi,Nat.zero_add],hv.out]
   have HS2:Hid (sizeL (segW z 0 N) (sizeL (segW z 0 N) N)=sizeL (segW z 0 N) N):=zFa _ _
   have HLE:Hid (sizeL (segW z 0 N) N<=N):=zCa _ _
   generalize segW z 0 N=z2 at *
   generalize sizeL z2 N=k at *
   have HB2:Hid (Below w.heap.size w wr):=HBW.out.trans (hU.below (Nat.le_refl _))
   clear hO hU hN2' hx hy hzw hz0 hap hA hA' hnx hny
   go_wp2_with (go_at_call 102;refine hbr.mono ?_;rintro e w3 ⟨rfl,rfl⟩)
   go_ret2
   exact ⟨_,k,N,z2,rfl,by rw [HNS.out];exact HLE.out,HN2.out,HV2.out,HS2.out,HB2.out⟩
theorem zLi (a:Int):IntKind.u64.wrap a=a%18446744073709551616:=by
 simp only [IntKind.wrap,IntKind.bits,IntKind.signed]
 simp
theorem zDb (n:Nat):(0:Int)<2^n:=Int.pow_pos (by decide)
theorem zVe {r:Nat}(hr:r<=64):(2:Int)^(64-r)*2^r=18446744073709551616:=by
 rw [← Int.pow_add,show 64-r+r=64 by omega];rfl
def hiW (x:Int)(r:Nat):Int:=x*2^r/18446744073709551616
theorem zI4 (x:Int){r:Nat}(hr:r<=64):x/2^(64-r)=hiW x r:=by
 unfold hiW
 rw [← zVe hr,Int.mul_ediv_mul_of_pos_left _ _ (zDb r)]
theorem hiW_bd {x:Int}(hx:0<=x/\x<=18446744073709551615)(r:Nat):0<=hiW x r/\hiW x r<2^r:=by
 have hp:=zDb r
 unfold hiW
 refine ⟨Int.ediv_nonneg (Int.mul_nonneg hx.1 (by omega)) (by decide),Int.ediv_lt_of_lt_mul (by decide) ?_⟩
 rw [Int.mul_comm (2^r)]
 exact Int.mul_lt_mul_of_pos_right (by omega) hp
theorem zTl {r:Nat}(hr:r<64):(2:Int)^r<=9223372036854775808:=by
 have h:=zVe (show r<=64 by omega)
 have h1:(2:Int)^(64-r)=2^(63-r)*2:=by rw [← Int.pow_succ];congr 1;omega
 have h2:=zDb (63-r)
 rw [h1] at h
 have:(1:Int)*(2*2^r)<=2^(63-r)*(2*2^r):=Int.mul_le_mul_of_nonneg_right (by omega) (by have:=zDb r;omega)
 rw [← Int.mul_assoc] at this
 have e:(2:Int)^(63-r)*(2*2^r)=18446744073709551616:=by rw [← Int.mul_assoc];exact h
 omega
theorem zY3 {y b:Int}{r:Nat}(hr:r<64)(hy:0<=y)(hb:0<=b/\b<2^r):orW b (IntKind.u64.wrap (y*2^r))=y*2^r%18446744073709551616+b:=by
 have hle:=zTl hr
 have hp:=zDb r
 have hme:y*2^r%(2^(64-r)*2^r)=y%2^(64-r)*2^r:=by
  have:=Int.mul_emod_mul_of_pos y (2^(64-r)) hp
  rw [Int.mul_comm y,Int.mul_comm (2^(64-r)),this,Int.mul_comm]
 rw [zEg b _ (by omega) (zRb _),zLi,← zVe (show r<=64 by omega),hme]
 have hm0:=Int.emod_nonneg y (show (2:Int)^(64-r)≠0 by have:=zDb (64-r);omega)
 obtain ⟨u,hu⟩:=Int.eq_ofNat_of_zero_le hm0
 obtain ⟨b',rfl⟩:=Int.eq_ofNat_of_zero_le hb.1
 rw [hu]
 have e1:((u:Int)*2^r).toNat=2^r*u:=by
  have:((u:Int)*2^r)=((2^r*u:Nat):Int):=by rw [Int.natCast_mul,zKb,Int.mul_comm]
  rw [this];exact Int.toNat_natCast _
 have hb2:b'<2^r:=by
  have h:=hb.2
  rw [← zKb] at h;omega
 rw [e1,Int.toNat_natCast,Nat.or_comm,← Nat.two_pow_add_eq_or_of_lt hb2]
 rw [Int.natCast_add,Int.natCast_mul,zKb,Int.mul_comm]
def prevW (x:Nat->Int)(r i:Nat):Int:=if i=0 then 0 else hiW (x (i-1)) r
def shW (x:Nat->Int)(r i:Nat):Int:=x i*2^r%18446744073709551616+prevW x r i
theorem zSl {x:Nat->Int}(hx:zDa x)(r i:Nat):0<=prevW x r i/\prevW x r i<2^r:=by
 unfold prevW;split
 ·have:=zDb r;omega
 ·exact hiW_bd (hx _) r
theorem zBv {x:Nat->Int}(hx:zDa x){r:Nat}(hr:r<64)(i:Nat):orW (prevW x r i) (IntKind.u64.wrap (x i*2^r))=shW x r i:=zY3 hr (hx i).1 (zSl hx r i)
theorem zMk {x:Nat->Int}(hx:zDa x){r:Nat}(hr:r<64)(i:Nat):0<=prevW x r i/\prevW x r i<=18446744073709551615:=by
 have:=zSl hx r i
 have:=zTl hr
 omega
theorem zZi {x:Nat->Int}(hx:zDa x){r:Nat}(hr:r<64):zDa (shW x r):=fun i=>by
 rw [← zBv hx hr i];exact zVg _ _ (zMk hx hr i) (zRb _)
theorem zZu (x:Nat->Int)(r:Nat):∀ m,val (shW x r) m+prevW x r m*18446744073709551616^m=val x m*2^r
 | 0=>by simp [val,prevW]
 | m+1=>by
  have ih:=zZu x r m
  show val (shW x r) m+shW x r m*18446744073709551616^m+prevW x r (m+1)*18446744073709551616^(m+1)=(val x m+x m*18446744073709551616^m)*2^r
  have e1:prevW x r (m+1)=x m*2^r/18446744073709551616:=rfl
  have e2:shW x r m=x m*2^r%18446744073709551616+prevW x r m:=rfl
  have e3:=Int.emod_add_mul_ediv (x m*2^r) 18446744073709551616
  rw [e1,e2,Int.pow_succ]
  generalize x m*2^r/18446744073709551616=K at *
  generalize x m*2^r%18446744073709551616=R at *
  generalize (18446744073709551616:Int)^m=P at *
  grind
theorem zAv {x:Nat->Int}{n:Nat}(zx:∀ i,n<=i->x i=0)(r m:Nat)(h:n<m):val (shW x r) m=val x n*2^r:=by
 have e:=zZu x r m
 have e1:prevW x r m=0:=by
  unfold prevW hiW;rw [if_neg (by omega),zx (m-1) (by omega)];simp
 rw [e1,zLa zx m (by omega)] at e
 omega
def upW (f:Nat->Int)(q j:Nat):Int:=if q<=j then f (j-q) else 0
theorem zBu (f:Nat->Int)(q:Nat):∀ m,val (upW f q) (q+m)=val f m*18446744073709551616^q
 | 0=>by
  have:∀ k,k<=q->val (upW f q) k=0:=by
   intro k
   induction k with
   | zero=>intro _;rfl
   | succ k ih =>
    intro hk
    show val (upW f q) k+upW f q k*18446744073709551616^k=0
    rw [ih (by omega)]
    unfold upW;rw [if_neg (by omega)];simp
  rw [Nat.add_zero,this q (Nat.le_refl _)];simp [val]
 | m+1=>by
  have ih:=zBu f q m
  show val (upW f q) (q+m)+upW f q (q+m)*18446744073709551616^(q+m)=(val f m+f m*18446744073709551616^m)*18446744073709551616^q
  rw [ih]
  have e:upW f q (q+m)=f m:=by unfold upW;rw [if_pos (by omega)];congr 1;omega
  rw [e,Int.pow_add]
  generalize (18446744073709551616:Int)^m=P
  generalize (18446744073709551616:Int)^q=Q
  grind
theorem zN8 {x:Nat->Int}(hx:zDa x)(q:Nat){r:Nat}(hr:r<64):zIc x q r=upW (shW x r) q:=by
 funext j
 unfold zIc upW
 by_cases h:q<=j
 ·rw [if_pos h,if_pos h,← zBv hx hr (j-q)]
  congr 1
  unfold zJf prevW
  by_cases h0:j-q=0
  ·rw [if_pos h0,if_neg (by omega)]
  ·rw [if_neg h0]
   by_cases hr0:0<r
   ·rw [if_pos (by omega),zI4 _ (by omega)]
   ·obtain rfl:r=0:=by omega
    rw [if_neg (by omega)]
    unfold hiW
    have:=hx (j-q-1)
    omega
 ·rw [if_neg h,if_neg h]
theorem p64 (q r:Nat):(2:Int)^r*18446744073709551616^q=2^(64*q+r):=by
 rw [Int.pow_add,Int.pow_mul,Int.mul_comm];rfl
theorem zBm {x:Nat->Int}{n:Nat}(hx:zDa x)(zx:∀ i,n<=i->x i=0)(q:Nat){r:Nat}(hr:r<64):val (zIc x q r) (n+q+1)=val x n*2^(64*q+r):=by
 rw [zN8 hx q hr,show n+q+1=q+(n+1) by omega,zBu,zAv zx r (n+1) (by omega),Int.mul_assoc,p64]
section
def upZ (z y:Nat->Int)(r off k j:Nat):Int:=if off<=j/\j<off+k then shW y r (j-off) else z j
theorem zKq (z y:Nat->Int)(r off k j:Nat):(if j=off+k then shW y r k else upZ z y r off k j)=upZ z y r off (k+1) j:=by
 unfold upZ
 by_cases e:j=off+k
 ·subst e
  rw [if_pos rfl,if_pos (by omega)];congr 1;omega
 ·rw [if_neg e]
  by_cases e2:off<=j/\j<off+k
  ·rw [if_pos e2,if_pos (by omega)]
  ·rw [if_neg e2,if_neg (by omega)]
theorem zIg (g N off m c k c' r:Nat)(a':Option Addr)(z y:Nat->Int)(w:World)(hm:off+m<=N)(hN:N<4294967296)(hk:k<m)(hr:r<64)(h:Own g N z w)(h':Num w a' k c' y)(hA:zCi a' g) :
  Calls Tryz.prog 108 #[.slice (some ⟨g,off,none⟩) m c,.slice a' k c',.int .i64 r] w fun e w'=>e=.returned (.tuple #[])/\Own g N (upZ z y r off (k+1)) w'/\Upd g w w':=by
 have hy:=h'.2.2.1
 have hri:(r:Int)<64:=by omega
 have e64:((64:Int)-r).toNat=64-r:=by omega
 have hk0:=h'.2.2.2.1 k (Nat.le_refl _)
 go_enter Tryz.func108,Tryz.ntmps108
 go_wp2
 go_loopw [6,7,8,11] (fun cv u7 u8 i wr=>∃ (j:Nat),j<=k/\i=.int .i64 j/\cv=.int .u64 (prevW y r j)/\Own g N (upZ z y r off j) wr/\Upd g w wr) (fun _ _ _ i _=>k-(intOf i).toNat)
 case atStart=>exact ⟨0,Nat.zero_le _,rfl,rfl,h.congr fun i _=>by unfold upZ;rw [if_neg (by omega)],Upd.refl _ _⟩
 case round =>
  obtain ⟨j,hj,rfl,rfl,hO,hU⟩:=hrel
  have hpb:=zMk hy hr j
  by_cases hlt:j<k
  ·have hji:(j:Int)<k:=by omega
   have hjm:(j:Int)<m:=by omega
   obtain ⟨b,off',rfl,hb,hc⟩:=(hU.num' hA h').cells (by omega)
   have hcj:=hc j hlt
   have hco:∃ u,wr.cell? ⟨g,off+j,none⟩=some (.int .u64 u):=⟨_,hO.cell (off+j) (by omega)⟩
   obtain ⟨u,hco⟩:=hco
   have hfo:=hO.frozen (off+j)
   have b_y:=hy j
   have HP:Hid (prevW y r (j+1)=y j/2^(64-r)):=by show _=_;rw [zI4 _ (by omega)];rfl
   have HS:Hid (bits BinOp.or IntKind.u64 (IntKind.u64.wrap (y j*2^r)) (prevW y r j)=shW y r j):=by
    show _=_
    rw [← zBv hy hr j]
    exact zVq _ _ (zRb _) hpb
   have HO:Hid (Own g N (upZ z y r off (j+1)) (wr.setCell ⟨g,off+j,none⟩ (.int .u64 (shW y r j)))):=(hO.set (off+j) _).congr fun i _=>zKq z y r off j i
   have HU:Hid (Upd g w (wr.setCell ⟨g,off+j,none⟩ (.int .u64 (shW y r j)))):=hU.set (off+j) _
   rw [← HS.out] at HO HU
   clear hO hU hc h h' hA hy hk0 HS
   generalize prevW y r j=pv at *
   go_wp2
   go_roundw
   case rel=>exact ⟨j+1,by omega,by go_num,by rw [HP.out],HO.out,HU.out⟩
   case measure=>simp [intOf];omega
  ·obtain rfl:j=k:=by omega
   have hjm:(j:Int)<m:=by omega
   have hco:∃ u,wr.cell? ⟨g,off+j,none⟩=some (.int .u64 u):=⟨_,hO.cell (off+j) (by omega)⟩
   obtain ⟨u,hco⟩:=hco
   have hfo:=hO.frozen (off+j)
   have e1:shW y r j=prevW y r j:=by unfold shW;rw [hk0];simp
   have HO:Hid (Own g N (upZ z y r off (j+1)) (wr.setCell ⟨g,off+j,none⟩ (.int .u64 (prevW y r j)))):=(hO.set (off+j) _).congr fun i _=>by rw [← e1];exact zKq z y r off j i
   have HU:Hid (Upd g w (wr.setCell ⟨g,off+j,none⟩ (.int .u64 (prevW y r j)))):=hU.set (off+j) _
   clear hO hU h h' hA hy hk0 e1
   generalize prevW y r j=pv at *
   go_wp2
   go_end0
   exact ⟨rfl,HO.out,HU.out⟩
theorem zLh {g N c:Nat}{z:Nat->Int}{w:World}{V:Int}(hO:Own g N z w)(hW:zDa z)(hN:N<4000000000)(hc:N<=c)(hc2:c<=maxLen)(hv:val z N=V) :
  ∃ k z',k<=N/\Num w (some ⟨g,0,none⟩) k c z'/\val z' k=V/\sizeL z' k=k/\CQ 102 #[.slice (some ⟨g,0,none⟩) N c] w (.slice (some ⟨g,0,none⟩) k c):=by
 have h:=hO.num hW 0 N c (by omega) hc hc2
 refine ⟨sizeL (segW z 0 N) N,segW z 0 N,zCa _ _,h.bare,?_,zFa _ _,zQa _ N c _ w (by omega) h⟩
 rw [zKa,zIa (x:=segW z 0 N) (y:=z) N fun i hi=>by rw [zSa _ 0 N i hi,Nat.zero_add],hv]
set_option maxRecDepth 20000 in
theorem zN1 (a:Option Addr)(n c:Nat)(x:Nat->Int)(d:Int)(w:World)(hn:n<4000000000)(h:Num w a n c x)(hd:0<=d)(hs:(sizeL x n:Int)+(d+63)/64<=2000) :
  Calls Tryz.prog 54 #[.slice a n c,.int .i64 d] w fun e w'=>∃ g k cap z,e=.returned (.tuple #[.slice (some ⟨g,0,none⟩) k cap,.int .i64 0])/\k<=2001/\Num w' (some ⟨g,0,none⟩) k cap z/\val z k=val x n*2^d.toNat/\sizeL z k=k/\Below w.heap.size w w':=by
 have hb:=zQa a n c x w (by omega) h
 rw [← zKa n]
 have hx:=h.2.2.1
 have hle:=zCa x n
 have hN:=h.bare
 generalize sizeL x n=s at *
 clear h
 obtain ⟨q,hq⟩:∃ q:Nat,d/64=q:=⟨(d/64).toNat,by omega⟩
 obtain ⟨r,hr⟩:∃ r:Nat,d%64=r:=⟨(d%64).toNat,by omega⟩
 have hr64:r<64:=by omega
 have hdn:d.toNat=64*q+r:=by omega
 rw [hdn]
 obtain ⟨N,hNs⟩:∃ N,s+q+1=N:=⟨_,rfl⟩
 have hNi:(s:Int)+q+1=N:=by omega
 have hq2:(q:Int)<=2000:=by omega
 have hmk:=fun w=>zUa ((s:Int)+q+1) N hNi (by omega) w
 have hA:=zYd hN
 have hO:=Own.new w (fun _=>0) N
 have hBW:=zBa w (.cells (arrOf (fun _=>0) N) 22)
 have hsu:=zIg w.heap.size N q (N-q) (N-q) s c r a (fun _=>0) x _ (by omega) (by omega) (by omega) hr64 hO (hN.next hBW) hA
 have hqN:(q:Int)<=N:=by omega
 have HVL:Hid (val (upZ (fun _=>0) x r q (s+1)) N=val x s*2^(64*q+r)):=by
  show _=_
  rw [← hNs,show s+q+1=q+(s+1) by omega]
  rw [zIa (y:=upW (shW x r) q) (q+(s+1)) fun i hi=>by
   unfold upZ upW
   by_cases e:q<=i
   ·rw [if_pos (by omega),if_pos e]
   ·rw [if_neg (by omega),if_neg e]]
  rw [zBu,zAv hN.2.2.2.1 r (s+1) (by omega),Int.mul_assoc,p64]
 have HW:Hid (zDa (upZ (fun _=>0) x r q (s+1))):=fun i=>by
  unfold upZ;split
  ·exact zZi hx hr64 _
  ·exact (by decide:(0:Int)<=0/\(0:Int)<=18446744073709551615)
 generalize hz:upZ (fun _=>0) x r q (s+1)=zz at *
 have HB:Hid (Below w.heap.size w (w.alloc (.cells (arrOf (fun _=>0) N) 22))):=hBW
 have HNS:Hid (N<=2001):=by show _<=_;omega
 have hup:(s:Int)+q<=2000:=by omega
 have hup2:0<r->(s:Int)+(q+1)<=2000:=by omega
 clear hBW hN hA hO hNi hz hs hdn hx
 by_cases hr0:0<r
 ·have hr0':(0:Int)<r:=by omega
  have hu:=hup2 hr0
  clear hup2
  go_enter Tryz.func54,Tryz.ntmps54
  go_wp2_with (first|(go_at_call_of 102 (Value.slice a n c);refine hb.mono ?_;rintro e w' ⟨rfl,rfl⟩)|(go_at_call 108;refine hsu.mono ?_;rintro e w1 ⟨rfl,hO1,hU1⟩))
  obtain ⟨k,z',hkN,hNk,hvk,hsk,hbr⟩:=zLh hO1 HW.out (by have:=HNS.out;omega) (Nat.le_refl N) (by unfold maxLen;have:=HNS.out;omega) HVL.out
  have HB2:Hid (Below w.heap.size w w1):=HB.out.trans (hU1.below (Nat.le_refl _))
  have HNk:Hid (Num w1 (some ⟨w.heap.size,0,none⟩) k N z'):=hNk
  clear hO1 hU1 hNk
  go_wp2_with (go_at_call 102;refine hbr.mono ?_;rintro e w3 ⟨rfl,rfl⟩)
  go_ret2
  exact ⟨_,k,N,z',rfl,by have:=HNS.out;omega,HNk.out,hvk,hsk,HB2.out⟩
 ·obtain rfl:r=0:=by omega
  clear hup2
  go_enter Tryz.func54,Tryz.ntmps54
  go_wp2_with (first|(go_at_call_of 102 (Value.slice a n c);refine hb.mono ?_;rintro e w' ⟨rfl,rfl⟩)|(go_at_call 108;refine hsu.mono ?_;rintro e w1 ⟨rfl,hO1,hU1⟩))
  obtain ⟨k,z',hkN,hNk,hvk,hsk,hbr⟩:=zLh hO1 HW.out (by have:=HNS.out;omega) (Nat.le_refl N) (by unfold maxLen;have:=HNS.out;omega) HVL.out
  have HB2:Hid (Below w.heap.size w w1):=HB.out.trans (hU1.below (Nat.le_refl _))
  have HNk:Hid (Num w1 (some ⟨w.heap.size,0,none⟩) k N z'):=hNk
  clear hO1 hU1 hNk
  go_wp2_with (go_at_call 102;refine hbr.mono ?_;rintro e w3 ⟨rfl,rfl⟩)
  go_ret2
  exact ⟨_,k,N,z',rfl,by have:=HNS.out;omega,HNk.out,hvk,hsk,HB2.out⟩
end
section
attribute [local go_sem] zPa zAb
def zF2 (x:Nat->Int)(q r:Nat):Bool:=decide (0<sizeL x q)||decide (x q%2^r≠0)
def goneK (x:Nat->Int)(q r k:Nat):Bool:=if k<=q then decide (0<sizeL x k) else zF2 x q r
theorem zLt (x:Nat->Int)(q r:Nat):goneK x q r 0=false:=by unfold goneK;rw [if_pos (Nat.zero_le _)];rfl
theorem zAx {x:Nat->Int}{q r k:Nat}(h:k<q)(hz:x k=0):goneK x q r (k+1)=goneK x q r k:=by
 unfold goneK;rw [if_pos (by omega),if_pos (by omega)];simp [sizeL,hz]
theorem zZw {x:Nat->Int}{q r k:Nat}(h:k<q)(hz:¬ x k=0):goneK x q r (k+1)=true:=by
 unfold goneK;rw [if_pos (by omega)];simp [sizeL,hz]
theorem zE2 (x:Nat->Int)(k r:Nat):goneK x k r (k+1)=(goneK x k r k||decide (x k%2^r≠0)):=by
 unfold goneK;rw [if_neg (by omega),if_pos (Nat.le_refl _)];rfl
theorem zD2 {x:Nat->Int}{q r k:Nat}(h:q<k):goneK x q r (k+1)=goneK x q r k:=by
 unfold goneK;rw [if_neg (by omega),if_neg (by omega)]
theorem zBx {x:Nat->Int}{q r n:Nat}(h:q<n):goneK x q r n=zF2 x q r:=by
 unfold goneK;rw [if_neg (by omega)]
theorem zXf {y:Int}{r:Nat}(hy:0<=y/\y<=18446744073709551615)(hr:r<64):bits BinOp.and IntKind.u64 y (2^r-1)=y%2^r:=by
 have h1:=zDb r
 have h2:=zTl hr
 rw [u64_and _ _ hy.1 (by omega) (by omega) (by omega)]
 obtain ⟨n,rfl⟩:=Int.eq_ofNat_of_zero_le hy.1
 have e:((2:Int)^r-1).toNat=2^r-1:=by rw [← zKb];omega
 rw [e,Int.toNat_natCast,Nat.and_two_pow_sub_one_eq_mod,Int.natCast_emod,zKb]
end
theorem zWm (b off n c b' off' n' c':Nat)(x y:Nat->Int)(w:World)(hn:n<1000000)(hn':n'<1000000)(h:Num w (some ⟨b,off,none⟩) n c x)(h':Num w (some ⟨b',off',none⟩) n' c' y) :
  Calls Tryz.prog 86 #[.slice (some ⟨b,off,none⟩) n c,.slice (some ⟨b',off',none⟩) n' c'] w fun e w'=>∃ g k cap z,e=.returned (.slice (some ⟨g,0,none⟩) k cap)/\k<=n+n'+1/\Num w' (some ⟨g,0,none⟩) k cap z/\val z k=val x n*val y n'/\Below w.heap.size w w' :=
 (zNu b off n c b' off' n' c' x y w hn hn' h h').mono fun e w' ⟨g,k,cap,z,e1,hk,hN,hv,hB⟩=>⟨g,k,cap,z,e1,hk,hN,by rw [← hv,zLa hN.2.2.2.1 _ hk],hB⟩
def sb (s:ByteArray)(i:Nat):Int:=if h:i<s.size then ((s[i]'h).toNat:Int) else 0
def zT4 (s:ByteArray):Nat->Bool
 | 0=>true
 | k+1=>zT4 s k&&decide (48<=sb s k/\sb s k<=57)
def numV (s:ByteArray):Nat->Int
 | 0=>0
 | k+1=>numV s k*10+(sb s k-48)
theorem zYx {s:ByteArray}:∀ (n:Nat),zT4 s n=true->∀ k,k<n->48<=sb s k/\sb s k<=57
 | 0,_,k,h=>by omega
 | n+1,hd,k,h=>by
  unfold zT4 at hd
  simp at hd
  by_cases e:k=n
  ·subst e;exact hd.2
  ·exact zYx n hd.1 k (by omega)
theorem zOp {s:ByteArray}:∀ (n:Nat),zT4 s n=true->0<=numV s n/\numV s n<10^n
 | 0,_=>by simp [numV]
 | n+1,hd=>by
  have h1:=zYx (n+1) hd n (by omega)
  have h2:=zOp n (by unfold zT4 at hd;simp at hd;exact hd.1)
  simp only [numV]
  rw [Int.pow_succ]
  omega
theorem zXx {s:ByteArray}:∀ (n:Nat),(∀ k,k<n->48<=sb s k/\sb s k<=57)->zT4 s n=true
 | 0,_=>rfl
 | n+1,h=>by
  unfold zT4
  rw [zXx n fun k hk=>h k (by omega)]
  simp;exact h n (by omega)
theorem zXq {s u:ByteArray}(p:Nat):∀ L,(∀ i,i<L->sb u i=sb s (p+i))->numV s (p+L)=numV s p*10^L+numV u L
 | 0,_=>by simp [numV]
 | L+1,h=>by
  have e:=zXq p L fun i hi=>h i (by omega)
  rw [← Nat.add_assoc]
  simp only [numV]
  rw [e,h L (by omega),Int.pow_succ]
  grind
theorem nsubF (a a':Option Addr)(n c n' c':Nat)(x y:Nat->Int)(w:World)(hn:n<4000000000)(hn':n'<4000000000)(h:Num w a n c x)(h':Num w a' n' c' y)(hv:val y n'<=val x n) :
  Calls Tryz.prog 177 #[.slice a n c,.slice a' n' c'] w fun e w'=>∃ g k cap z,e=.returned (.tuple #[.slice (some ⟨g,0,none⟩) k cap,.int .i64 0])/\k<=sizeL x n/\Num w' (some ⟨g,0,none⟩) k cap z/\val z k=val x n-val y n'/\sizeL z k=k/\Below w.heap.size w w'/\w.heap.size<=g/\∀ i,w'.frozen? ⟨g,i,none⟩=false:=by
 have hc:=zBr a a' n c n' c' x y w (by omega) (by omega) h h'
 have hsg:0<=sgn (val x n) (val y n'):=by unfold sgn;rw [if_neg (by omega)];split<;>omega
 have hsb:=sgn_bd (val x n) (val y n')
 generalize sgn (val x n) (val y n')=sg at *
 have ht:=fun wr hN=>zXg a n c x wr (by omega) hN
 have hb':=fun wr hN=>zQa a' n' c' y wr (by omega) hN
 have hx:=h.2.2.1
 have hy:=h'.2.2.1
 have hle:=zCa x n
 have hle':=zCa y n'
 have hvx:=zKa (x:=x) n
 have hvy:=zKa (x:=y) n'
 have hss:sizeL y n'<=sizeL x n:=by
  rcases Nat.lt_or_ge (sizeL x n) (sizeL y n') with h1|h1
  ·have:=zFd hx hy h1 (zFa y n');omega
  ·exact h1
 have zx:=h.bare.2.2.2.1
 have zy:=h'.bare.2.2.2.1
 have HNb:Hid (Num w a' (sizeL y n') c' y):=h'.bare
 rw [← hvx,← hvy] at hv ⊢
 generalize sizeL x n=s at *
 generalize sizeL y n'=s' at *
 have hend:zFf x y s=0:=zJm hx hy (by rw [zLa zy s hss];exact hv)
 have HV:Hid (val (zVc x y) s=val x s-val y s'):=by
  show _=_
  have e:=zAi hx hy s
  rw [hend,zLa zy s hss] at e
  omega
 have HN:Hid (Num w a n c x):=h
 have HN':Hid (Num w a' n' c' y):=h'
 clear h h' hv hvx hvy zx
 go_enter Tryz.func177,Tryz.ntmps177
 go_wp2_with (go_at_call 57;refine hc.mono ?_;rintro e wC ⟨rfl,m,hwC⟩)
 have hBC:Below w.heap.size w wC:=by rw [← hwC];exact below_drewN (Below.refl _ _) m
 have hg:wC.heap.size=w.heap.size:=by rw [← hwC];rfl
 have h1:=ht wC (HN.out.next hBC)
 rw [hg] at h1
 go_wp2_with (go_at_call 103;refine h1.mono ?_;rintro e w1 ⟨rfl,hw1⟩)
 have hB1:Below w.heap.size wC w1:=by rw [← hw1];have:=zBa wC (.cells (arrOf x s) 22);rw [hg] at this;exact this
 have hO1:Own w.heap.size s x w1:=by rw [← hw1];have:=Own.new wC x s;rw [hg] at this;exact this
 have hBw1:=hBC.trans hB1
 have h2:=hb' w1 (HN'.out.next hBw1)
 clear hw1 h1 ht hb' hc hB1 hBC hwC hg
 go_wp2_with (go_at_call 102;refine h2.mono ?_;rintro e w2 ⟨rfl,rfl⟩)
 have hNb:=HNb.out.next hBw1
 have hA:zCi a' w.heap.size:=by
  intro p hp
  rcases HNb.out.2.2.2.2 with ⟨h,_⟩|⟨b,off,h,hb,_⟩
  ·rw [h] at hp;cases hp
  ·rw [h] at hp;cases hp;exact Nat.ne_of_lt hb
 clear h2 HNb HN HN'
 go_loopw [8,9,10,22,27] (fun bv u9 u10 i u27 wr=>∃ (j:Nat),j<=s'/\i=.int .i64 j/\bv=.int .u64 (zFf x y j)/\Own w.heap.size s (zVt x y j) wr/\Upd w.heap.size w1 wr) (fun _ _ _ i _ _=>s'-(intOf i).toNat)
 case atStart=>exact ⟨0,Nat.zero_le _,rfl,rfl,hO1.congr fun i _=>by unfold zVt;rw [if_neg (by omega)],Upd.refl _ _⟩
 case round =>
  clear hO1
  obtain ⟨j,hj,rfl,rfl,hO,hU⟩:=hrel
  have hbo:=zLf x y j
  by_cases hlt:j<s'
  ·have hji:(j:Int)<s':=by omega
   have hjm:(j:Int)<s:=by omega
   obtain ⟨b,off',rfl,hb,hc⟩:=(hU.num' hA hNb).cells (by omega)
   have hcj:=hc j hlt
   have hco:=hO.cell j (by omega)
   rw [zSu] at hco
   have hfo:=hO.frozen j
   have bx:=hx j
   have b_y:=hy j
   have hadd:=fun w=>zNs (x j) (y j) (zFf x y j) bx.1 b_y.1 (by omega) hbo.1 hbo.2 w
   have HO:Hid (Own w.heap.size s (zVt x y (j+1)) (wr.setCell ⟨w.heap.size,j,none⟩ (.int .u64 (zVc x y j)))):=(hO.set j _).congr fun i _=>zXm x y j i
   have HU:Hid (Upd w.heap.size w1 (wr.setCell ⟨w.heap.size,j,none⟩ (.int .u64 (zVc x y j)))):=hU.set j _
   clear hO hU hc hNb hA hx hy zy hend
   go_wp2
   go_roundw
   case rel=>exact ⟨j+1,by omega,by go_num,rfl,HO.out,HU.out⟩
   case measure=>simp [intOf];omega
  ·obtain rfl:j=s':=by omega
   have HO:Hid (Own w.heap.size s (zVt x y j) wr):=hO
   have HU:Hid (Upd w.heap.size w1 wr):=hU
   clear hO hU hNb hA
   go_wp2
   go_loopw [8,11,47] (fun bv i u47 wr=>∃ (q:Nat),j+q<=s/\i=.int .i64 ((j:Int)+q)/\bv=.int .u64 (zFf x y (j+q))/\Own w.heap.size s (zVt x y (j+q)) wr/\Upd w.heap.size w1 wr) (fun _ i _ _=>s-(intOf i).toNat)
   case atStart=>exact ⟨0,by omega,by go_num,rfl,HO.out,HU.out⟩
   case round =>
    clear HO HU
    obtain ⟨q,hq,rfl,rfl,hO,hU⟩:=hrel
    have hbo:=zLf x y (j+q)
    by_cases hb0:zFf x y (j+q)=0
    ·have hO2:Own w.heap.size s (zVc x y) wr:=hO.congr fun i hi=>by
      unfold zVt
      by_cases e:i<j+q
      ·rw [if_pos e]
      ·rw [if_neg e];exact ((zNy hx zy (by omega) hb0 i (by omega)).2).symm
     have hN2:=hO2.num (zLe x y) 0 s s (by omega) (Nat.le_refl _) (by unfold maxLen;omega)
     have hbr:=zQa (some ⟨w.heap.size,0,none⟩) s s (segW (zVc x y) 0 s) wr (by omega) hN2
     have HN2:Hid (Num wr (some ⟨w.heap.size,0,none⟩) (sizeL (segW (zVc x y) 0 s) s) s (segW (zVc x y) 0 s)):=hN2.bare
     have HV2:Hid (val (segW (zVc x y) 0 s) (sizeL (segW (zVc x y) 0 s) s)=val x s-val y j):=by
      show _=_
      rw [zKa,zIa (x:=segW (zVc x y) 0 s) (y:=zVc x y) s fun i hi=>by rw [zSa _ 0 s i hi,Nat.zero_add],HV.out]
     have HS2:Hid (sizeL (segW (zVc x y) 0 s) (sizeL (segW (zVc x y) 0 s) s)=sizeL (segW (zVc x y) 0 s) s):=zFa _ _
     have HLE:Hid (sizeL (segW (zVc x y) 0 s) s<=s):=zCa _ _
     generalize segW (zVc x y) 0 s=z at *
     generalize sizeL z s=k at *
     have HF2:Hid (∀ i,wr.frozen? ⟨w.heap.size,i,none⟩=false):=fun i=>hO.frozen i
     have HB2:Hid (Below w.heap.size w wr):=hBw1.trans (hU.below (Nat.le_refl _))
     rw [hb0]
     clear hO hO2 hU hN2 hx hy zy hend HV
     go_wp2_with (go_at_call 102;refine hbr.mono ?_;rintro e w3 ⟨rfl,rfl⟩)
     go_ret2
     exact ⟨_,k,s,z,rfl,HLE.out,HN2.out,HV2.out,HS2.out,HB2.out,Nat.le_refl _,HF2.out⟩
    ·have hlt2:j+q<s:=by
      rcases Nat.lt_or_ge (j+q) s with h'|h'
      ·exact h'
      ·obtain e:j+q=s:=by omega
       rw [e] at hb0;exact absurd hend hb0
     have hpos:0<zFf x y (j+q):=by omega
     have hji:(j:Int)+q<s:=by omega
     have e1:((j:Int)+q).toNat=j+q:=by omega
     have hco:=hO.cell (j+q) hlt2
     rw [zSu] at hco
     have hfo:=hO.frozen (j+q)
     have bx:=hx (j+q)
     have hs:zVc x y (j+q)=(x (j+q)-zFf x y (j+q))%18446744073709551616:=by unfold zVc;rw [zy _ (by omega),Int.sub_zero]
     have HC:Hid (zFf x y (j+(q+1))=bor (x (j+q)) 0 (zFf x y (j+q))):=by
      show bor (x (j+q)) (y (j+q)) (zFf x y (j+q))=_
      rw [zy _ (by omega)]
     have hadd:=fun w=>zNs (x (j+q)) 0 (zFf x y (j+q)) bx.1 (by decide) (by decide) hbo.1 hbo.2 w
     have HO:Hid (Own w.heap.size s (zVt x y (j+(q+1))) (wr.setCell ⟨w.heap.size,j+q,none⟩ (.int .u64 (zVc x y (j+q))))):=(hO.set (j+q) _).congr fun i _=>zXm x y (j+q) i
     have HU:Hid (Upd w.heap.size w1 (wr.setCell ⟨w.heap.size,j+q,none⟩ (.int .u64 (zVc x y (j+q))))):=hU.set (j+q) _
     rw [hs] at HO HU
     clear hO hU hx hy zy hb0 hs hend
     go_wp2
     go_roundw
     case rel=>exact ⟨q+1,by omega,by go_num,by rw [HC.out],HO.out,HU.out⟩
     case measure=>simp [intOf];omega
end Go.Proofs.YtahfkpjhlbiamaaGreatDoor
