/-
  Texts that the proof leans on, joined: Dec, Dig, Rsm, Rdc, Byt, Rev, Dgn.
-/
import Derived.Test.YtpabnhlfbjkmaaaGreatDoorL9
import Derived.Laws.BytesArg
import Derived.Test.YtpabnhlfbjkmaaaGreatDoorL7
import Derived.Test.YtpabnhlfbjkmaaaGreatDoorL1
import Derived.Shelf.SlicesE.Reverse
import Derived.Test.YtpabnhlfbjkmaaaGreatDoorL10
set_option linter.unusedVariables false
set_option linter.unusedSimpArgs false
set_option linter.unusedSectionVars false
set_option maxHeartbeats 8000000
set_option maxRecDepth 20000
namespace Go.Proofs.YtpabnhlfbjkmaaaGreatDoor
open Go.RowKit
theorem p10_pos (n:Nat):(0:Int)<10^n:=Int.pow_pos (by decide)
def dgt (V:Int) (i:Nat):Int:=V/10^i%10
theorem dgt_bd (V:Int) (i:Nat):0<=dgt V i/\dgt V i<=9:=by
 unfold dgt
 have:=Int.emod_nonneg (V/10^i) (show (10:Int)≠0 by decide)
 have:=Int.emod_lt_of_pos (V/10^i) (show (0:Int)<10 by decide)
 omega
theorem dgt_small {V:Int} {L:Nat} (h0:0<=V) (h:V<10^L) (i:Nat) (hi:L<=i):dgt V i=0:=by
 unfold dgt
 have:V/10^i=0:=Int.ediv_eq_zero_of_lt h0 (Int.lt_of_lt_of_le h (by
  obtain ⟨k,rfl⟩:∃ k,i=L+k:=⟨i-L,by omega⟩
  rw [Int.pow_add]
  have h1:=p10_pos L
  have h2:=p10_pos k
  have:(10:Int)^L*1<=10^L*10^k:=Int.mul_le_mul_of_nonneg_left (by omega) (by omega)
  omega))
 rw [this];rfl
theorem div_div10 (V:Int) (a b:Nat):V/10^a/10^b=V/10^(a+b):=by
 rw [Int.pow_add,Int.ediv_ediv_of_nonneg (Int.le_of_lt (p10_pos a))]
theorem emod_mul_ediv' {W a b:Int} (ha:0<a):W%(a*b)/a=W/a%b:=by
 rw [Int.emod_def,Int.emod_def,← Int.ediv_ediv_of_nonneg (Int.le_of_lt ha)]
 have:W-a*b*(W/a/b)=W+(-(b*(W/a/b)))*a:=by grind
 rw [this,Int.add_mul_ediv_right _ _ (by omega)];omega
theorem dgt_step {V r:Int} {L j:Nat} (hr:V/10^L%10^19=r) (hj:j<19):r/10^j%10=dgt V (L+j):=by
 unfold dgt
 rw [← div_div10]
 generalize V/10^L=W at *
 subst hr
 have h1:(10:Int)^19=10^j*(10*10^(18-j)):=by
  rw [← Int.mul_assoc,← Int.pow_succ,← Int.pow_add];congr 1;omega
 have hp:=p10_pos j
 have hp2:=p10_pos (18-j)
 rw [h1,emod_mul_ediv' hp]
 exact Int.emod_emod_of_dvd _ ⟨10^(18-j),rfl⟩
def decL (V:Int) (L:Nat):List Int:=if sizeL (dgt V) L=0 then [48] else (List.range (sizeL (dgt V) L)).map fun i=>48+dgt V (sizeL (dgt V) L-1-i)
theorem decL_more {V:Int} {L L':Nat} (h0:0<=V) (h:V<10^L) (h':V<10^L'):decL V L=decL V L':=by
 have key:∀ a b,a<=b->V<10^a->decL V b=decL V a:=fun a b hab ha=>by
  unfold decL
  rw [sizeL_more (fun i hi=>dgt_small h0 ha i hi) b hab]
 rcases Nat.le_total L L' with e | e
 ·exact (key L L' e h).symm
 ·exact key L' L e h'
def blB (V:Int) (L:Nat):List Value:=(List.range L).map fun i=>Value.int .u8 (48+dgt V i)
theorem blB_succ (V:Int) (L:Nat):blB V L++[Value.int .u8 (48+dgt V L)]=blB V (L+1):=by simp [blB,List.range_succ]
theorem owns_upd {w w':World} {g base n:Nat} {v:Value} {xs:List Value} (h:w.ownsRow base 5 1 v n xs) (hU:Upd g w w') (hg:g<base):w'.ownsRow base 5 1 v n xs:=by
 obtain ⟨h1,h2⟩:=h
 refine ⟨h1,?_⟩
 rcases h2 with h2 | ⟨g',cap,cur,e,hb,hh,r⟩
 ·exact Or.inl h2
 ·exact Or.inr ⟨g',cap,cur,e,hb,(hU.block g' (by omega)).trans hh,r⟩
def DigSt (w0:World) (V:Int) (s:Nat) (z:Nat->Int) (ao:Option Addr) (L cp:Nat) (wr:World):Prop :=
 Own w0.heap.size s z wr/\wr.ownsRow (w0.heap.size+1) 5 1 (.slice ao L cp) L (blB V L)/\Below w0.heap.size w0 wr/\w0.heap.size+1<=wr.heap.size
def slLen:Value->Nat | .slice _ n _=>n | _=>0
theorem p22:∀ s:Nat,(18446744073709551616:Int)^s<=10^(22*s)
 | 0=>by simp
 | s+1=>by
  have ih:=p22 s
  have e:(10:Int)^(22*(s+1))=10^(22*s)*10000000000000000000000:=by rw [Nat.mul_add,Int.pow_add];rfl
  rw [e,Int.pow_succ]
  have h0:=pw_pos s
  have h1:=p10_pos (22*s)
  generalize (18446744073709551616:Int)^s=A at *
  generalize (10:Int)^(22*s)=B at *
  omega
theorem p10_lt {L s:Nat} (h:(10:Int)^L<18446744073709551616^s):L<22*s:=by
 rcases Nat.lt_or_ge L (22*s) with h' | h'
 ·exact h'
 ·have h2:=p22 s
  obtain ⟨k,rfl⟩:∃ k,L=22*s+k:=⟨L-22*s,by omega⟩
  rw [Int.pow_add] at h
  have h3:=p10_pos k
  have h4:=p10_pos (22*s)
  have:(10:Int)^(22*s)*1<=10^(22*s)*10^k:=Int.mul_le_mul_of_nonneg_left (by omega) (by omega)
  omega
def HasB (g n:Nat) (f:Nat->Int) (w:World):Prop:=g<w.heap.size/\∀ i,i<n->w.cell? ⟨g,i,none⟩=some (.int .u8 (f i))/\w.frozen? ⟨g,i,none⟩=false
theorem owns_cells {w:World} {base g L cap:Nat} {V:Int} (h:w.ownsRow base 5 1 (.slice (some ⟨g,0,none⟩) L cap) L (blB V L)):base<=g/\L<=cap/\cap<=maxLen/\HasB g L (fun i=>48+dgt V i) w:=by
 obtain ⟨hl,h⟩:=h
 rcases h with ⟨h,_⟩ | ⟨g',cap',cur,he,hb,hh,h1,h2,h3,h4⟩
 ·cases h
 ·cases he
  have hg:g<w.heap.size:=by
   rcases Nat.lt_or_ge g w.heap.size with h' | h'
   ·exact h'
   ·rw [Array.getElem?_eq_none h'] at hh;cases hh
  refine ⟨hb,h1,h2,hg,fun i hi=>⟨?_,?_⟩⟩
  ·have hcur:cur[i]?=some (.int .u8 (48+dgt V i)):=by
    have:(cur.toList.take (L*1))[i]?=some (.int .u8 (48+dgt V i)):=by rw [h4];simp [blB,hi]
    rw [List.getElem?_take] at this
    simpa [hi] using this
   unfold World.cell?
   simp [hh,hcur]
  ·unfold World.frozen?
   simp [hh]
theorem ofb_any (c:Int) (w:World) (hc:0<=c/\c<=18446744073709551615) :
  Calls Tryz.prog 93 #[.int .u64 c] w fun e w'=>∃ g k cap z,e=.returned (.slice (some ⟨g,0,none⟩) k cap)/\k<=1/\Num w' (some ⟨g,0,none⟩) k cap z/\val z k=c/\Below w.heap.size w w':=by
 have hN:=num_one w c hc
 have hT:=trim_any _ 1 1 (oneW c) _ (by omega) hN
 have hle:=sizeL_le (oneW c) 1
 have HV:Hid (val (oneW c) (sizeL (oneW c) 1)=c):=by show _=_;rw [val_bare,val_one _ 1 (by omega)]
 have HB:=below1 w (.cells #[.int .u64 c] 22)
 generalize sizeL (oneW c) 1=s at *
 clear hN
 go_enter Tryz.func93,Tryz.ntmps93
 go_wp2_with (go_at_call 44;refine hT.mono ?_;rintro e w1 ⟨g,cap,rfl,hN,hB⟩)
 go_ret
 exact ⟨g,s,cap,_,rfl,hle,hN,HV.out,HB.trans (hB.mono HB.size)⟩
def quoKb (x:Nat->Int) (d:Int) (s k i:Nat):Int:=if k<=i/\i<s then quoW x d s i else 0
theorem smb_any (a:Option Addr) (s c:Nat) (x:Nat->Int) (d:Int) (w:World) (hs:s<100000) (h:Num w a s c x) (hd:0<d/\d<=18446744073709551615) :
  Calls Tryz.prog 45 #[.slice a s c,.int .u64 d] w fun e w'=>∃ g k cap z g' k' cap' z',e=.returned (.tuple #[.slice (some ⟨g,0,none⟩) k cap,.slice (some ⟨g',0,none⟩) k' cap'])/\k<=s/\k'<=1/\Num w' (some ⟨g,0,none⟩) k cap z/\Num w' (some ⟨g',0,none⟩) k' cap' z'/\val z k=val x s/d/\sizeL z k=k/\val z' k'=val x s%d/\Below w.heap.size w w':=by
 have hx:=h.2.2.1
 have H:=fun j hj w=>limDiv_ok x d s hx hd j hj w
 have hd0:(d == 0)=false:=by simp;omega
 have hmk:=fun w=>make_any (s:Int) s rfl (by omega) w
 have hA:=apart_of h
 have hBW:=below1 w (.cells (arrOf (fun _=>0) s) 22)
 have hnx:=h.next hBW
 have hO:=Own.new w (fun _=>0) s
 have hqv:=quo_val hx hd.1 s
 have HQW:Hid (Words (quoW x d s)):=quoW_words hx hd.1 s
 have hrb:=remJ_bd x d s s hd.1
 have HB:Hid (Below w.heap.size w (w.alloc (.cells (arrOf (fun _=>0) s) 22))):=hBW
 clear hBW h hx
 go_enter Tryz.func45,Tryz.ntmps45
 go_wp2
 generalize w.alloc (.cells (arrOf (fun _=>0) s) 22)=wA at *
 go_loopw [7,8,19] (fun c i u19 wr=>∃ (k:Nat),k<=s/\i=.int .i64 ((k:Int)-1)/\c=.int .u64 (remJ x d s (s-k))/\Own w.heap.size s (quoKb x d s k) wr/\Upd w.heap.size wA wr) (fun _ i _ _=>(intOf i+1).toNat)
 case atStart=>exact ⟨s,Nat.le_refl _,by go_num,by rw [Nat.sub_self];rfl,hO.congr fun i _=>by unfold quoKb;rw [if_neg (by omega)],Upd.refl _ _⟩
 case round =>
  clear hO
  obtain ⟨k,hk,rfl,rfl,hO,hU⟩:=hrel
  by_cases h0:k=0
  ·subst h0
   have hN:=hO.num (x:=quoKb x d s 0) (fun i=>by unfold quoKb;split;exact HQW.out i;decide) 0 s s (by omega) (Nat.le_refl _) (by unfold maxLen;omega)
   have hT:=trim_any _ s s _ _ (by omega) hN
   have hle:=sizeL_le (segW (quoKb x d s 0) 0 s) s
   have HV:Hid (val (segW (quoKb x d s 0) 0 s) (sizeL (segW (quoKb x d s 0) 0 s) s)=val x s/d):=by
    show _=_
    rw [val_bare,val_congr (y:=quoW x d s) s fun i hi=>by rw [segW_lt _ _ _ i hi,Nat.zero_add];unfold quoKb;rw [if_pos (by omega)],hqv.1]
   have HR:Hid (remJ x d s s=val x s%d):=hqv.2
   have HBr:Hid (Below w.heap.size w wr):=HB.out.trans (hU.below (Nat.le_refl _))
   have HST:Hid (sizeL (segW (quoKb x d s 0) 0 s) (sizeL (segW (quoKb x d s 0) 0 s) s)=sizeL (segW (quoKb x d s 0) 0 s) s):=sizeL_sizeL _ _
   generalize segW (quoKb x d s 0) 0 s=qz at *
   generalize sizeL qz s=k1 at *
   have hof:=fun wr=>ofb_any (remJ x d s s) wr (by omega)
   rw [Nat.sub_zero]
   generalize remJ x d s s=rm at *
   clear hN hO hU H hqv
   go_wp2_with (go_at_call 44;refine hT.mono ?_;rintro e w1 ⟨g,cap,rfl,hN1,hB1⟩;clear hT)
   go_wp2_with (go_at_call 93;refine (hof _).mono ?_;rintro e w2 ⟨g2,k2,p2,z2,rfl,hk2,hN2,hv2,hB2⟩;clear hof)
   go_ret2
   exact ⟨g,k1,cap,qz,g2,k2,p2,z2,rfl,hle,hk2,hN1.next hB2,hN2,HV.out,HST.out,by rw [hv2,HR.out],(HBr.out.trans (hB1.mono HBr.out.size)).trans (hB2.mono (Nat.le_trans HBr.out.size hB1.size))⟩
  ·obtain ⟨j,rfl⟩:∃ j,k=j+1:=⟨k-1,by omega⟩
   have hjm:(j:Int)<s:=by omega
   have ej:((j+1:Nat):Int)-1=j:=by omega
   have ej2:s-(j+1)=s-1-j:=by omega
   rw [ej,ej2]
   obtain ⟨b,off,rfl,hbs,hc⟩:=(hU.num' hA hnx).cells (by omega)
   have hcx:=hc j (by omega)
   have hcj:∃ u,wr.cell? ⟨w.heap.size,j,none⟩=some (.int .u64 u):=⟨_,hO.cell j (by omega)⟩
   obtain ⟨u,hcj⟩:=hcj
   have hfj:=hO.frozen j
   have HJ:=H j (by omega)
   have HO:Hid (Own w.heap.size s (quoKb x d s j) (wr.setCell ⟨w.heap.size,j,none⟩ (.int .u64 (quoW x d s j)))):=(hO.set j (quoW x d s j)).congr fun i hi=>by
    unfold quoKb
    by_cases e:i=j
    ·subst e;rw [if_pos rfl,if_pos (by omega)]
    ·rw [if_neg e]
     by_cases e2:j+1<=i/\i<s
     ·rw [if_pos e2,if_pos (by omega)]
     ·rw [if_neg e2,if_neg (by omega)]
   have HU:Hid (Upd w.heap.size wA (wr.setCell ⟨w.heap.size,j,none⟩ (.int .u64 (quoW x d s j)))):=hU.set j _
   clear hO hU H ej ej2 hc hqv hA hnx
   go_wp2_with (go_at_call 92;refine (HJ _).mono ?_;rintro e w' ⟨rfl,m',rfl⟩)
   go_roundw
   case rel=>exact ⟨j,by omega,by go_num,rfl,HO.out,HU.out.drewN m'⟩
   case measure=>simp [intOf]
section
theorem Tryz.info5d:(Tryz.prog.info? 5).map (fun i=>(i.zero,i.size,i.bytes))=some (some (.int .u8 0),1,1):=by kernel_rfl
theorem dgt_step18 {V r:Int} {L j:Nat} (hr:V/10^L%10^18=r) (hj:j<18):r/10^j%10=dgt V (L+j):=by
 unfold dgt
 rw [← div_div10]
 generalize V/10^L=W at *
 subst hr
 have h1:(10:Int)^18=10^j*(10*10^(17-j)):=by
  rw [← Int.mul_assoc,← Int.pow_succ,← Int.pow_add];congr 1;omega
 have hp:=p10_pos j
 have hp2:=p10_pos (17-j)
 rw [h1,emod_mul_ediv' hp]
 exact Int.emod_emod_of_dvd _ ⟨10^(17-j),rfl⟩
theorem lt_sizeL {V:Int} (h0:0<=V):∀ L,V<10^L->V<10^(sizeL (dgt V) L)
 | 0,h=>h
 | L+1,h=>by
  by_cases e:dgt V L=0
  ·have e1:sizeL (dgt V) (L+1)=sizeL (dgt V) L:=by simp [sizeL,e]
   rw [e1]
   refine lt_sizeL h0 L ?_
   unfold dgt at e
   have hp:=p10_pos L
   rw [Int.pow_succ] at h
   have h1:V/10^L<10:=Int.ediv_lt_of_lt_mul hp (by omega)
   have h2:0<=V/10^L:=Int.ediv_nonneg h0 (by omega)
   have h3:V/10^L=0:=by omega
   have:=Int.lt_mul_ediv_self_add (x:=V) (k:=10^L) hp
   rw [h3] at this;omega
  ·have e1:sizeL (dgt V) (L+1)=L+1:=by simp [sizeL,e]
   rw [e1];exact h
theorem owns_below {w w':World} {base n:Nat} {v:Value} {xs:List Value} (h:w.ownsRow base 5 1 v n xs) (hB:Below w.heap.size w w'):w'.ownsRow base 5 1 v n xs:=by
 obtain ⟨h1,h2⟩:=h
 refine ⟨h1,?_⟩
 rcases h2 with h2 | ⟨g',cap,cur,e,hb,hh,r⟩
 ·exact Or.inl h2
 ·have hg:g'<w.heap.size:=by
   rcases Nat.lt_or_ge g' w.heap.size with h' | h'
   ·exact h'
   ·rw [Array.getElem?_eq_none h'] at hh;cases hh
  exact Or.inr ⟨g',cap,cur,e,hb,(hB.block g' hg).trans hh,r⟩
theorem num_grown {w w':World} {V:Int} {g k cap base L cp:Nat} {ao:Option Addr} {z:Nat->Int} (hN:Num w (some ⟨g,0,none⟩) k cap z) (hown:w.ownsRow base 5 1 (.slice ao L cp) L (blB V L)) (hao:ao=none∨0<L) (hg:w.grownBy w' (Value.slice ao L cp).ownBlock):Num w' (some ⟨g,0,none⟩) k cap z:=by
 obtain ⟨h1,h2,h3,h4,h5⟩:=hN
 rcases h5 with ⟨h,_⟩ | ⟨b,off,e,hb,hc⟩
 ·cases h
 ·cases e
  refine ⟨h1,h2,h3,h4,Or.inr ⟨g,0,rfl,Nat.lt_of_lt_of_le hb hg.size,fun i hi=>?_⟩⟩
  have hne:some g≠(Value.slice ao L cp).ownBlock:=by
   intro e
   rcases ao with _ | ⟨b',o',s'⟩
   ·cases e
   ·have hL:0<L:=by rcases hao with h | h;cases h;exact h
    obtain ⟨g',cap',e2,_⟩:=hown.form hL
    cases e2
    cases e
    have h6:=hc 0 (by omega)
    rw [Nat.add_zero,hown.cellAt 0 (by omega)] at h6
    simp [blB,hL] at h6
  exact (hg.cell_far ⟨g,0+i,none⟩ hb hne).trans (hc i hi)
def DS (w0:World) (V:Int) (ao:Option Addr) (L cp g k cap:Nat) (z:Nat->Int) (wr:World):Prop :=
 wr.ownsRow w0.heap.size 5 1 (.slice ao L cp) L (blB V L)/\(ao=none∨0<L)/\Num wr (some ⟨g,0,none⟩) k cap z/\Below w0.heap.size w0 wr
def revL (V:Int) (K:Nat):List Int:=(List.range K).map fun i=>48+dgt V (K-1-i)
def rl (V:Int) (K i:Nat):List Value:=(List.range i).map fun q=>Value.int .u8 (48+dgt V (K-1-q))
theorem rl_succ (V:Int) (K i:Nat):rl V K i++[Value.int .u8 (48+dgt V (K-1-i))]=rl V K (i+1):=by simp [rl,List.range_succ]
set_option maxRecDepth 20000 in
theorem rdec_any (a:Option Addr) (n c:Nat) (x:Nat->Int) (w:World) (hn:n<100000) (h:Num w a n c x) (hsz:sizeL x n<=2000) (hpos:0<sizeL x n) :
  Calls Tryz.prog 20 #[.slice a n c] w fun e w'=>∃ L,val x n<10^L/\e=.returned (.string (strOfNums (revL (val x n) (sizeL (dgt (val x n)) L))))/\Below w.heap.size w w':=by
 have ht:=trim_any a n c x w (by omega) h
 obtain ⟨s,hs⟩:∃ s,sizeL x n=s:=⟨_,rfl⟩
 have hss:=sizeL_sizeL x n
 have hx:=h.2.2.1
 rw [← val_bare n]
 rw [hs] at ht hsz hss hpos ⊢
 obtain ⟨V,hV⟩:∃ V,val x s=V:=⟨_,rfl⟩
 have hV0:0<V:=by rw [← hV];exact val_pos hx s hpos hss
 rw [hV]
 have HVB:Hid (V<18446744073709551616^s):=by show _<_;rw [← hV];exact (val_bd hx s).2
 have HV:Hid (val x s=V):=hV
 have HSS:Hid (sizeL x s=s):=hss
 clear h hs hV hss hx
 go_enter Tryz.func20,Tryz.ntmps20
 go_wp2_with (go_at_call 44;refine ht.mono ?_;rintro e wA ⟨g0,cap0,rfl,hN0,hB0⟩;clear ht)
 go_loopw [0,3,4,5,6,15,22] (fun t0 t3 u4 u5 u6 u15 u22 wr=>∃ (L k cp g cap:Nat) (ao:Option Addr) (z:Nat->Int),t3=.slice ao L cp/\t0=.slice (some ⟨g,0,none⟩) k cap/\k<=s/\L<=22*s+18/\Hid (sizeL z k=k/\val z k=V/10^L)/\Hid (DS w V ao L cp g k cap z wr)) (fun _ t3 _ _ _ _ _ _=>22*s+19-slLen t3)
 case atStart=>exact ⟨0,s,0,g0,cap0,none,x,rfl,rfl,Nat.le_refl _,by omega,⟨HSS.out,by rw [HV.out];simp⟩,⟨World.ownsRow_nil _ _ _ _,Or.inl rfl,hN0,hB0⟩⟩
 case round =>
  clear hN0 hB0
  obtain ⟨L,k,cp,g,cap,ao,z,rfl,rfl,hk,hLs,hzv,hst⟩:=hrel
  by_cases h0:k=0
  ·subst h0
   have hVL:V<10^L:=by
    have e:V/10^L=0:=hzv.out.2.symm
    have:=Int.lt_mul_ediv_self_add (x:=V) (k:=10^L) (p10_pos L)
    rw [e] at this;simpa using this
   have HVL:Hid (V<10^L):=hVL
   have hKp:0<sizeL (dgt V) L:=by
    rcases Nat.eq_zero_or_pos (sizeL (dgt V) L) with e | e
    ·have:=lt_sizeL (Int.le_of_lt hV0) L hVL
     rw [e] at this;simp at this;omega
    ·exact e
   have hL0:0<L:=Nat.lt_of_lt_of_le hKp (sizeL_le _ _)
   obtain ⟨hown,hao,hN,hB⟩:=hst.out
   obtain ⟨gb,capb,e2,hbg,hgb⟩:=hown.form hL0
   cases e2
   obtain ⟨_,hLc,hcm,hHB⟩:=owns_cells hown
   have HHB:Hid (HasB gb L (fun i=>48+dgt V i) wr):=hHB
   have HB:Hid (Below w.heap.size w wr):=hB
   clear hst hown hao hN hB hHB hzv hVL
   go_wp2
   go_loop [7] (fun t7=>∃ m:Nat,m<=L/\t7=.int .i64 m/\Hid (sizeL (dgt V) m=sizeL (dgt V) L)) (fun t7=>(intOf t7).toNat)
   case atStart=>exact ⟨L,Nat.le_refl _,rfl,rfl⟩
   case round =>
    obtain ⟨m,hm,rfl,hmK⟩:=hrel
    by_cases hm0:m=0
    ·subst hm0
     have:=hmK.out
     simp [sizeL] at this
     omega
    ·obtain ⟨j,rfl⟩:∃ j,m=j+1:=⟨m-1,by omega⟩
     have hcj:wr.cell? ⟨gb,j,none⟩=some (.int .u8 (48+dgt V j)):=(HHB.out.2 j (by omega)).1
     have hdb:=dgt_bd V j
     by_cases hzj:dgt V j=0
     ·have HS:Hid (sizeL (dgt V) j=sizeL (dgt V) L):=by
       have:sizeL (dgt V) (j+1)=sizeL (dgt V) j:=by simp [sizeL,hzj]
       exact this.symm.trans hmK.out
      clear hmK
      rw [hzj] at hcj
      go_wp2
      go_round
      case rel=>exact ⟨j,by omega,by go_num,HS.out⟩
      case measure=>simp [intOf]
     ·have HS:Hid (sizeL (dgt V) L=j+1):=by
       have:sizeL (dgt V) (j+1)=j+1:=by simp [sizeL,hzj]
       exact hmK.out.symm.trans this
      have hne:(48+dgt V j == 48)=false:=by simp;omega
      clear hmK
      generalize dgt V j=dj at hcj hdb hzj hne
      go_wp2
      clear hcj hdb hzj hne
      have HK:Hid (0<j+1/\j+1<=L):=by show _/\_;omega
      rename World=>wB
      go_loopw [8,9,50] (fun t8 u9 t50 wr=>∃ (i cp2:Nat) (ao2:Option Addr),i<=(j+1)/\t8=.slice ao2 i cp2/\t50=.int .i64 i/\Hid (wr.ownsRow wB.heap.size 5 1 (.slice ao2 i cp2) i (rl V (j+1) i)/\Below wB.heap.size wB wr)) (fun _ _ t50 _=>(j+1)-(intOf t50).toNat)
      case atStart=>exact ⟨0,0,none,Nat.zero_le _,rfl,rfl,⟨World.ownsRow_nil _ _ _ _,Below.refl _ _⟩⟩
      case round =>
       obtain ⟨i,cp2,ao2,hi,rfl,rfl,hst2⟩:=hrel
       obtain ⟨hown2,hB2⟩:=hst2.out
       by_cases hik:i<(j+1)
       ·obtain ⟨q,hq⟩:∃ q,(j+1)-1-i=q:=⟨_,rfl⟩
        have e1:((j:Int)-i).toNat=q:=by omega
        have e2:0<=(j:Int)-i:=by omega
        have e3:(j:Int)-i<L:=by have:=HK.out.2;omega
        have hii:(i:Int)<(j:Int)+1:=by omega
        have hcq:wr.cell? ⟨gb,q,none⟩=some (.int .u8 (48+dgt V q)):=(World.cell?_of_block (hB2.block gb hgb)).trans (HHB.out.2 q (by have:=HK.out.2;omega)).1
        have hdb:=dgt_bd V q
        have HDV:Hid (dgt V q=dgt V ((j+1)-1-i)):=by show _=_;rw [hq]
        generalize dgt V q=dq at *
        obtain ⟨i0,hi0,hz0,hz1,hz2⟩:=info_parts Tryz.info5d
        have HOWN:(wr.alloc (.cells #[.int .u8 (48+dq)] 5)).ownsRow wB.heap.size 5 1 (.slice ao2 i cp2) i (rl V (j+1) i):=hown2.alloc _
        have HNEWS:∀ (q:Nat) (u:Value),[Value.int .u8 (48+dq)][q]?=some u->(wr.alloc (.cells #[.int .u8 (48+dq)] 5)).cell? ((⟨wr.heap.size,0,none⟩:Addr).add q)=some u:=by
         intro q u hq
         match q,hq with
         | 0,hq=>simp at hq;subst hq;simp [Addr.add]
        have HONE:∀ u ∈ [Value.int .u8 (48+dq)],u.oneCell'=true:=by
         intro u hu;simp at hu;subst hu;rfl
        have HOF:Hid (∀ q,(Value.slice ao2 i cp2).ownBlock=some q->wB.heap.size<=q):=fun q hq=>(hown2.lt q hq).1
        have hb2s:=hB2.size
        have HB2:Hid (Below wB.heap.size wB wr):=hB2
        have HKL:=HK.out.2
        clear hst2 hown2 hB2 hq
        go_wp2_with (first | (at_builtin;refine wpList_append_lies _ rfl (.tmp 53) (.tmp 61) 79 rfl wB.heap.size 5 i0 (.int .u8 0) 1 1 Tryz.underlying79 hi0 hz0 hz1 hz2 rfl (by decide) (.slice ao2 i cp2) i (rl V (j+1) i) rfl HOWN ⟨wr.heap.size,0,none⟩ 1 1 [Value.int .u8 (48+dq)] rfl rfl HNEWS HONE (by omega) (by unfold maxLen;omega) (by omega) (by simp;omega) (wr.heap.size+1) (by simp) ?_;intro g1 cap1 w1 hown1 hgrow hat hlt1;clear HOWN HNEWS HONE))
        have HB3:Below wB.heap.size wr w1:=((Below.refl _ wr).alloc hb2s _).grown hgrow (by simp;omega) HOF.out
        have HST:Hid (w1.ownsRow wB.heap.size 5 1 (.slice (some ⟨g1,0,none⟩) (i+1) cap1) (i+1) (rl V (j+1) (i+1))/\Below wB.heap.size wB w1):=by
         refine ⟨?_,HB2.out.trans HB3⟩
         rw [HDV.out,rl_succ] at hown1;exact hown1
        clear hown1 hgrow HB3
        go_wp2
        go_roundw
        case rel=>exact ⟨i+1,cap1,some ⟨g1,0,none⟩,by omega,rfl,by go_num,HST.out⟩
        case measure=>simp [intOf];omega
       ·obtain rfl:i=j+1:=by omega
        obtain ⟨g2,cap2,e2,_⟩:=hown2.form HK.out.1
        cases e2
        have hcc:∀ q,q<j+1->wr.cell? ⟨g2,q,none⟩=some (.int .u8 (48+dgt V (j+1-1-q))):=fun q hq=>by
         rw [hown2.cellAt q (by omega)];simp [rl,hq]
        have hcv:=run_convert_bytes_arg (P:=Tryz.prog) wr 79 5 Tryz.underlying79 Tryz.underlying5 g2 0 (j+1) cp2 (revL V (j+1)) (by simp [revL]) (fun q hq=>by rw [Nat.zero_add,hcc q hq];simp [revL,hq]) 9 Tryz.underlying9
        have HB3:Hid (Below w.heap.size w wr):=HB.out.trans (hB2.mono HB.out.size)
        clear hst2 hown2 hB2 hcc
        go_wp2
        go_ret
        exact ⟨L,HVL.out,by rw [HS.out];rfl,HB3.out⟩
  ·have hk0:(0:Int)<k:=by omega
   obtain ⟨hown,hao,hN,hB⟩:=hst.out
   have hz:=hN.2.2.1
   have hL:L<22*s:=by
    have h1:=val_pos hz k (by omega) hzv.out.1
    rw [hzv.out.2] at h1
    refine p10_lt (Int.lt_of_le_of_lt ?_ HVB.out)
    have h2:=p10_pos L
    rcases Int.lt_or_le V (10^L) with h3 | h3
    ·rw [Int.ediv_eq_zero_of_lt (Int.le_of_lt hV0) h3] at h1;omega
    ·exact h3
   have hsm:=smb_any (some ⟨g,0,none⟩) k cap z 1000000000000000000 wr (by omega) hN (by decide)
   have HQ:Hid (val z k/1000000000000000000=V/10^(L+18)):=by show _=_;rw [hzv.out.2,← div_div10];rfl
   have HR0:Hid (val z k%1000000000000000000=V/10^L%10^18):=by show _=_;rw [hzv.out.2];rfl
   have HOW:Hid (wr.ownsRow w.heap.size 5 1 (.slice ao L cp) L (blB V L)):=hown
   have HB:Hid (Below w.heap.size w wr):=hB
   clear hst hown hN hB hz hzv
   go_wp2_with (first | (go_at_call 45;refine hsm.mono ?_;rintro e w1 ⟨g1,k1,cap1,z1,g2,k2,cap2,z2,rfl,hk1,hk2,hN1,hN2,hv1,hs1,hv2,hB1⟩;clear hsm;have hwd:=word_any (some ⟨g2,0,none⟩) k2 cap2 0 z2 w1 hN2) | (go_at_call 46;refine hwd.mono ?_;rintro e w1' ⟨rfl,hww⟩;subst hww;clear hwd))
   have hr:V/10^L%10^18=z2 0:=by
    rw [← HR0.out,← hv2]
    rcases Nat.eq_zero_or_pos k2 with e | e
    ·subst e;rw [hN2.2.2.2.1 0 (Nat.le_refl _)];rfl
    ·have:k2=1:=by omega
     subst this;simp [val]
   have HR:Hid (∀ j,j<18->z2 0/10^j%10=dgt V (L+j)):=fun j hj=>dgt_step18 hr hj
   have hrb:=hN2.2.2.1 0
   have hst1:Hid (DS w V ao L cp g1 k1 cap1 z1 w1'):=⟨owns_below HOW.out hB1,hao,hN1,HB.out.trans (hB1.mono HB.out.size)⟩
   have HZ1:Hid (sizeL z1 k1=k1/\val z1 k1=V/10^(L+18)):=⟨hs1,by rw [hv1,HQ.out]⟩
   generalize z2 0=r at *
   clear hN1 hN2 hB1 hr hv1 hv2 hs1 HQ HR0 HOW HB
   go_loopw [3,6,22] (fun t3 t6 t22 wr=>∃ (j cp:Nat) (ao:Option Addr),j<=18/\t3=.slice ao (L+j) cp/\t6=.int .u64 (r/10^j)/\t22=.int .i64 j/\Hid (DS w V ao (L+j) cp g1 k1 cap1 z1 wr)) (fun _ _ t22 _=>18-(intOf t22).toNat)
   case atStart=>exact ⟨0,cp,ao,by omega,rfl,by simp,rfl,hst1⟩
   case round =>
    clear hst1
    obtain ⟨j,cp2,ao2,hj,rfl,rfl,rfl,hst2⟩:=hrel
    by_cases hj18:j<18
    ·have hji:(j:Int)<18:=by omega
     have hp:0<=r/10^j/\r/10^j<=18446744073709551615:=by
      have h1:=p10_pos j
      have h2:=Int.ediv_nonneg hrb.1 (Int.le_of_lt h1)
      have h3:r/10^j<=r:=Int.ediv_le_self _ hrb.1
      omega
     have HP:Hid (r/10^(j+1)=r/10^j/10):=by
      show _=_
      rw [Int.pow_succ,← Int.ediv_ediv_of_nonneg (Int.le_of_lt (p10_pos j))]
     have HVAL:Hid (r/10^j%10=dgt V (L+j)):=HR.out j hj18
     generalize r/10^j=p at *
     obtain ⟨i0,hi0,hz0,hz1,hz2⟩:=info_parts Tryz.info5d
     obtain ⟨hown,hao2,hN,hB⟩:=hst2.out
     have HOWN:(wr.alloc (.cells #[.int .u8 (48+p%10)] 5)).ownsRow w.heap.size 5 1 (.slice ao2 (L+j) cp2) (L+j) (blB V (L+j)):=hown.alloc _
     have HO2:Hid ((wr.alloc (.cells #[.int .u8 (48+p%10)] 5)).ownsRow w.heap.size 5 1 (.slice ao2 (L+j) cp2) (L+j) (blB V (L+j))):=HOWN
     have HN2:Hid (Num (wr.alloc (.cells #[.int .u8 (48+p%10)] 5)) (some ⟨g1,0,none⟩) k1 cap1 z1):=hN.next (below1 wr _)
     have HNEWS:∀ (q:Nat) (u:Value),[Value.int .u8 (48+p%10)][q]?=some u->(wr.alloc (.cells #[.int .u8 (48+p%10)] 5)).cell? ((⟨wr.heap.size,0,none⟩:Addr).add q)=some u:=by
      intro q u hq
      match q,hq with
      | 0,hq=>simp at hq;subst hq;simp [Addr.add]
     have HONE:∀ u ∈ [Value.int .u8 (48+p%10)],u.oneCell'=true:=by
      intro u hu;simp at hu;subst hu;rfl
     have HOF:Hid (∀ q,(Value.slice ao2 (L+j) cp2).ownBlock=some q->w.heap.size<=q):=fun q hq=>(hown.lt q hq).1
     have hbs:=hB.size
     have HB:Hid (Below w.heap.size w wr):=hB
     clear hown hN hB hst2
     go_wp2_with (first | (at_builtin;refine wpList_append_lies _ rfl (.tmp 24) (.tmp 29) 79 rfl w.heap.size 5 i0 (.int .u8 0) 1 1 Tryz.underlying79 hi0 hz0 hz1 hz2 rfl (by decide) (.slice ao2 (L+j) cp2) (L+j) (blB V (L+j)) rfl HOWN ⟨wr.heap.size,0,none⟩ 1 1 [Value.int .u8 (48+p%10)] rfl rfl HNEWS HONE (by omega) (by unfold maxLen;omega) (by omega) (by simp;omega) (wr.heap.size+1) (by simp) ?_;intro g3 cap3 w3 hown1 hgrow hat hlt1;clear HOWN HNEWS HONE))
     have HB3:Below w.heap.size wr w3:=((Below.refl _ wr).alloc hbs _).grown hgrow (by simp;omega) HOF.out
     have HST:Hid (DS w V (some ⟨g3,0,none⟩) (L+(j+1)) cap3 g1 k1 cap1 z1 w3):=by
      refine ⟨?_,Or.inr (by omega),num_grown HN2.out HO2.out hao2 hgrow,HB.out.trans HB3⟩
      rw [HVAL.out,blB_succ] at hown1;exact hown1
     clear hown1 hgrow HB3
     go_wp2
     go_roundw
     case rel=>exact ⟨j+1,cap3,some ⟨g3,0,none⟩,by omega,rfl,by rw [HP.out],by go_num,HST.out⟩
     case measure=>simp [intOf];omega
    ·obtain rfl:j=18:=by omega
     go_wp2
     go_roundw
     case rel=>exact ⟨L+18,k1,cp2,g1,cap1,ao2,z1,rfl,rfl,by omega,by omega,HZ1.out,hst2⟩
     case measure=>simp [slLen];omega
end
section
theorem trimRB_any (b n c:Nat) (f:Nat->Int) (w:World) (hn:n<4294967296) (hnc:n<=c) (hc2:c<=maxLen) (hf:∀ i,0<=f i/\f i<=9) (hc:∀ i,i<n->w.cell? ⟨b,i,none⟩=some (.int .u8 (48+f i))) :
  CQ 111 #[.slice (some ⟨b,0,none⟩) n c,.int .u8 48] w (.slice (some ⟨b,0,none⟩) (sizeL f n) c):=by
 unfold maxLen at hc2
 go_enter Tryz.func111,Tryz.ntmps111
 go_wp2
 go_loop [0] (fun t=>∃ k:Nat,k<=n/\sizeL f k=sizeL f n/\t=.slice (some ⟨b,0,none⟩) k c) (fun t=>match t with | .slice _ k _=>k | _=>0)
 case atStart=>exact ⟨n,Nat.le_refl _,rfl,rfl⟩
 case round =>
  obtain ⟨k,hk,hs,rfl⟩:=hrel
  by_cases h0:k=0
  ·subst h0
   have HS:Hid (sizeL f n=0):=hs.symm
   clear hs hc
   go_wp2
   go_ret
   exact ⟨by rw [HS.out];rfl,rfl⟩
  ·obtain ⟨j,rfl⟩:∃ j,k=j+1:=⟨k-1,by omega⟩
   have hcj:=hc j (by omega)
   have hfj:=hf j
   by_cases hzj:f j=0
   ·have HS:Hid (sizeL f j=sizeL f n):=by
     have:sizeL f (j+1)=sizeL f j:=by simp [sizeL,hzj]
     exact this.symm.trans hs
    clear hs hc hf
    rw [hzj] at hcj
    go_wp2
    go_round
    case rel=>exact ⟨j,by omega,HS.out,rfl⟩
    case measure=>simp
   ·have HS:Hid (sizeL f n=j+1):=by
     have:sizeL f (j+1)=j+1:=by simp [sizeL,hzj]
     exact hs.symm.trans this
    have hne:(48+f j == 48)=false:=by simp;omega
    clear hs hc hf
    go_wp2
    go_ret
    exact ⟨by rw [HS.out];rfl,rfl⟩
set_option maxRecDepth 20000 in
theorem trimRight_any (b n c:Nat) (f:Nat->Int) (w:World) (hn:n<4294967296) (hnc:n<=c) (hc2:c<=maxLen) (hf:∀ i,0<=f i/\f i<=9) (hc:∀ i,i<n->w.cell? ⟨b,i,none⟩=some (.int .u8 (48+f i))) :
  CQ 66 #[.slice (some ⟨b,0,none⟩) n c,.string ⟨#[48]⟩] w (.slice (some ⟨b,0,none⟩) (sizeL f n) c):=by
 have hT:=trimRB_any b n c f w hn hnc hc2 hf hc
 clear hf
 by_cases h0:n=0
 ·subst h0
  clear hT hc
  go_enter Tryz.func66,Tryz.ntmps66
  go_wp2
  go_ret
  exact ⟨rfl,rfl⟩
 ·have hn0:((n:Int) == 0)=false:=by simp;omega
  clear hc
  generalize sizeL f n=s at *
  go_enter Tryz.func66,Tryz.ntmps66
  have h48:∀ h,((⟨#[48]⟩:ByteArray)[0]'h).toNat=48:=fun _=>rfl
  go_wp2_with (go_at_call 111;refine hT.mono ?_;rintro e w' ⟨rfl,rfl⟩)
  go_ret
  exact ⟨rfl,rfl⟩
theorem trimRight_nil (w:World) :
  CQ 66 #[.slice none 0 0,.string ⟨#[48]⟩] w (.slice none 0 0):=by
 go_enter Tryz.func66,Tryz.ntmps66
 go_wp2
 go_ret
 exact ⟨rfl,rfl⟩
end
end Go.Proofs.YtpabnhlfbjkmaaaGreatDoor

namespace Go.Proofs
open Go.Shelf
def Tryz.laysRev_ren:Go.Shelf.Ren:=⟨fun | 35=>67 | n=>n,fun | 22=>79 | 23=>5 | 3=>3 | 4=>4 | 0=>0 | n=>n,fun | n=>n⟩
theorem Tryz.laysRev:Go.Proofs.SlLaysE.n35 Tryz.prog Tryz.laysRev_ren:={
 mixed:=by kernel_rfl
 f35:=⟨Tryz.f67.name,by decide,Tryz.func67.trans (congrArg some (by kernel_rfl))⟩
 t0:=Tryz.underlying0
 a0:=Tryz.isAgg0
 z0:=Tryz.sizeOf0
 v0:=Tryz.zeroValue0
 t3:=Tryz.underlying3
 a3:=Tryz.isAgg3
 z3:=Tryz.sizeOf3
 v3:=Tryz.zeroValue3
 t4:=Tryz.underlying4
 a4:=Tryz.isAgg4
 z4:=Tryz.sizeOf4
 v4:=Tryz.zeroValue4
 t22:=Tryz.underlying79
 a22:=Tryz.isAgg79
 z22:=Tryz.sizeOf79
 v22:=Tryz.zeroValue79
 a23:=Tryz.isAgg5
 z23:=Tryz.sizeOf5 }
end Go.Proofs
set_option maxRecDepth 20000
set_option linter.unusedSectionVars false
set_option linter.unusedSimpArgs false
namespace Go.Proofs.YtpabnhlfbjkmaaaGreatDoor
open Go.RowKit Go.Sort
theorem reverse_any (g n c:Nat) (f:Nat->Int) (w:World) (hn:n<4294967296) (h:HasB g n f w) :
  Calls Tryz.prog 67 #[.slice (some ⟨g,0,none⟩) n c] w fun e w'=>e=.returned (.tuple #[])/\HasB g n (fun i=>f (n-1-i)) w'/\Upd g w w':=by
 obtain ⟨hg,hc⟩:=h
 have hl:((List.range n).map f).length=n:=by simp
 have hH:Holds (Value.int .u8) w g 0 ((List.range n).map f).toArray:=by
  intro j hj
  have hj':j<n:=by simpa using hj
  have:=hc j hj'
  rw [Nat.zero_add]
  refine ⟨?_,this.2⟩
  rw [this.1,getElem!_pos _ j hj]
  simp
 have hR:=AnyE.slices_Reverse Tryz.laysRev (Value.int .u8) (fun _=>rfl) g 0 c ((List.range n).map f) w hH (by rw [hl];omega)
 rw [hl] at hR
 refine Calls.mono hR ?_
 rintro e w' ⟨rfl,m,rfl⟩
 have hs:((List.range n).map f).reverse.toArray.size=((List.range n).map f).toArray.size:=by simp
 refine ⟨rfl,⟨by simpa using hg,fun i hi=>?_⟩,?_⟩
 ·have hh:=holds_putRow (Value.int .u8) (Sort.ahead w m) g 0 _ ((List.range n).map f).reverse.toArray (holds_ahead _ _ _ _ _ _ hH) hs i (by simpa using hi)
  rw [Nat.zero_add] at hh
  refine ⟨?_,hh.2⟩
  rw [hh.1,getElem!_pos _ i (by simpa using hi)]
  simp
 ·refine ⟨rfl,rfl,rfl,by simp,fun k hk=>?_⟩
  simp only [putRow,mapBlock,Array.getElem?_modify]
  rw [if_neg (fun e=>hk e.symm)]
  rfl
end Go.Proofs.YtpabnhlfbjkmaaaGreatDoor

namespace Go.Proofs.YtpabnhlfbjkmaaaGreatDoor
open Go.RowKit
theorem ndigits_any (a:Option Addr) (n c:Nat) (x:Nat->Int) (w:World) (hn:n<4294967296) (h:Num w a n c x) (hsz:sizeL x n<=2000) :
  Calls Tryz.prog 30 #[.slice a n c] w fun e w'=>∃ L,val x n<10^L/\e=.returned (.tuple #[.string (strOfNums (decL (val x n) L)),.int .i64 0])/\Below w.heap.size w w':=by
 have hb:=bare_any a n c x w hn h
 have ht:=ntrim_any a n c x w hn h
 obtain ⟨s,hs⟩:∃ s,sizeL x n=s:=⟨_,rfl⟩
 have hss:=sizeL_sizeL x n
 have hx:=h.2.2.1
 have hval:val x n=val x s:=by rw [← hs];exact val_more (sizeL_zero n h.2.2.2.1) n (sizeL_le x n)
 rw [hval]
 obtain ⟨V,hV⟩:∃ V,val x s=V:=⟨_,rfl⟩
 rw [hs] at hb ht hsz hss
 have hV0:0<=V:=by rw [← hV];exact (val_bd hx s).1
 have hst0:DigSt w V s x none 0 0 (w.alloc (.cells (arrOf x s) 22)):=⟨Own.new w x s,World.ownsRow_nil _ _ _ _,below1 w _,by simp⟩
 rw [hV]
 have HVB:Hid (V<18446744073709551616^s):=by show _<_;rw [← hV];exact (val_bd hx s).2
 have HV:Hid (val x s=V):=hV
 have HSS:Hid (sizeL x s=s):=hss
 have HX:Hid (Words x):=hx
 clear h hval hs hV hss hx
 go_enter Tryz.func30,Tryz.ntmps30
 go_wp2_with (first | (go_at_call 63;refine hb.mono ?_;rintro e w' ⟨rfl,rfl⟩) | (go_at_call 64;refine ht.mono ?_;rintro e w' ⟨rfl,rfl⟩))
 generalize w.alloc (.cells (arrOf x s) 22)=wA at *
 go_loopw [4,5,6,20] (fun dv lv u6 u20 wr=>∃ (L m cp:Nat) (ao:Option Addr) (z:Nat->Int),dv=.slice ao L cp/\lv=.slice (some ⟨w.heap.size,0,none⟩) m s/\m<=s/\L<=22*s+18/\Words z/\sizeL z m=m/\val z m=V/10^L/\DigSt w V s z ao L cp wr) (fun dv _ _ _ _=>22*s+19-slLen dv)
 case atStart=>exact ⟨0,s,0,none,x,rfl,rfl,Nat.le_refl _,by omega,HX.out,HSS.out,by rw [HV.out];simp,hst0⟩
 case round =>
  obtain ⟨L,m,cp,ao,z,rfl,rfl,hm,hLs,hz,hzm,hv,hst⟩:=hrel
  by_cases h0:m=0
  ·subst h0
   have hVL:V<10^L:=by
    have e:V/10^L=0:=hv.symm
    have:=Int.lt_mul_ediv_self_add (x:=V) (k:=10^L) (p10_pos L)
    rw [e] at this;simpa using this
   obtain ⟨hO,hown,hB,hsz2⟩:=hst
   have hown':=hown
   obtain ⟨hl,hcase⟩:=hown'
   rcases hcase with ⟨he,hL0⟩ | ⟨g,cap,cur,he,_⟩
   ·cases he
    have hTn:=trimRight_nil wr
    have HV2:Hid (V<10^0):=hVL
    have HB:Hid (Below w.heap.size w wr):=hB
    clear hVL hB hown hl hO hv hst0
    go_wp2_with (go_at_call 66;refine hTn.mono ?_;rintro e w' ⟨rfl,rfl⟩)
    go_ret2
    exact ⟨0,HV2.out,rfl,HB.out⟩
   ·cases he
    obtain ⟨hbg,hLc,hcm,hHB⟩:=owns_cells hown
    have hTr:=trimRight_any g L cp (dgt V) wr (by omega) hLc hcm (dgt_bd V) (fun i hi=>(hHB.2 i hi).1)
    have hKL:=sizeL_le (dgt V) L
    have hRv:=reverse_any g (sizeL (dgt V) L) cp (fun i=>48+dgt V i) wr (by omega) ⟨hHB.1,fun i hi=>hHB.2 i (by omega)⟩
    have HD:Hid (decL V L=if sizeL (dgt V) L=0 then [48] else (List.range (sizeL (dgt V) L)).map fun i=>48+dgt V (sizeL (dgt V) L-1-i)):=rfl
    have HV2:Hid (V<10^L):=hVL
    have HB:Hid (Below w.heap.size w wr):=hB
    have HG:Hid (w.heap.size<=g):=by show _<=_;omega
    generalize sizeL (dgt V) L=K at *
    clear hVL hB hown hl hO hv hst0 hHB
    by_cases hK:K=0
    ·subst hK
     have HD0:Hid (strOfNums (decL V L)=⟨#[48]⟩):=by show _=_;rw [HD.out];rfl
     clear HD hRv
     go_wp2_with (go_at_call 66;refine hTr.mono ?_;rintro e w' ⟨rfl,rfl⟩)
     go_ret2
     exact ⟨L,HV2.out,by rw [HD0.out];rfl,HB.out⟩
    ·have hK0:((K:Int) == 0)=false:=by simp;omega
     rw [if_neg hK] at HD
     go_wp2_with (first | (go_at_call 66;refine hTr.mono ?_;rintro e w' ⟨rfl,rfl⟩) | (go_at_call 67;refine hRv.mono ?_;rintro e w2 ⟨rfl,hB2,hU2⟩;have hcv:=run_convert_bytes_arg (P:=Tryz.prog) w2 79 5 Tryz.underlying79 Tryz.underlying5 g 0 K cp (decL V L) (by rw [HD.out];simp) (fun i hi=>by rw [HD.out,Nat.zero_add,(hB2.2 i hi).1];simp [hi]) 9 Tryz.underlying9))
     go_ret2
     exact ⟨L,HV2.out,rfl,HB.out.trans (hU2.below HG.out)⟩
  ·have hm0:(0:Int)<m:=by omega
   have hd:=divideBy_any w.heap.size s m s z 10000000000000000000 wr hm (by omega) hz (by omega) hst.1
   have hL:L<22*s:=by
    have h1:=val_pos hz m (by omega) hzm
    rw [hv] at h1
    refine p10_lt (Int.lt_of_le_of_lt ?_ HVB.out)
    have h2:=p10_pos L
    rcases Int.lt_or_le V (10^L) with h3 | h3
    ·rw [Int.ediv_eq_zero_of_lt hV0 h3] at h1;omega
    ·exact h3
   have HZM:Hid (sizeL z m=m):=hzm
   have hq:=quo_val hz (show (0:Int)<10000000000000000000 by decide) m
   have hr:V/10^L%10^19=remJ z 10000000000000000000 m m:=by rw [hq.2,hv];rfl
   have hrb:=remJ_bd z 10000000000000000000 m m (by decide)
   have HW:Hid (Words (divZ z 10000000000000000000 m 0)):=divZ_words hz (by decide) m 0
   have HQ:Hid (val (divZ z 10000000000000000000 m 0) m=V/10^(L+19)):=by
    show _=_
    rw [val_congr (y:=quoW z 10000000000000000000 m) m fun i hi=>by unfold divZ;rw [if_pos (by omega)],hq.1,hv,← div_div10];rfl
   have HR:Hid (∀ j,j<19->remJ z 10000000000000000000 m m/10^j%10=dgt V (L+j)):=fun j hj=>dgt_step hr hj
   generalize remJ z 10000000000000000000 m m=r at *
   generalize hz':divZ z 10000000000000000000 m 0=z' at *
   have HST:Hid (DigSt w V s z ao L cp wr):=hst
   clear hst hzm hq hr hv hz' hst0 hz
   go_wp2_with (go_at_call 65;refine hd.mono ?_;rintro e w1 ⟨rfl,hO1,hU1⟩)
   have hst1:DigSt w V s z' ao L cp w1:=⟨hO1,owns_upd HST.out.2.1 hU1 (by omega),HST.out.2.2.1.trans (hU1.below (Nat.le_refl _)),by rw [hU1.size];exact HST.out.2.2.2⟩
   clear hO1 hU1 hd
   go_loopw [4,6,20] (fun dv pv cv wr=>∃ (j cp:Nat) (ao:Option Addr),j<=19/\dv=.slice ao (L+j) cp/\pv=.int .u64 (r/10^j)/\cv=.int .i64 j/\DigSt w V s z' ao (L+j) cp wr) (fun _ _ cv _=>19-(intOf cv).toNat)
   case atStart=>exact ⟨0,cp,ao,by omega,rfl,by simp,rfl,hst1⟩
   case round =>
    clear hst1 HST
    obtain ⟨j,cp2,ao2,hj,rfl,rfl,rfl,hst2⟩:=hrel
    by_cases hj19:j<19
    ·have hji:(j:Int)<19:=by omega
     have hp:0<=r/10^j/\r/10^j<=18446744073709551615:=by
      have h1:=p10_pos j
      have h2:=Int.ediv_nonneg hrb.1 (Int.le_of_lt h1)
      have h3:r/10^j<=r:=Int.ediv_le_self _ hrb.1
      omega
     have HP:Hid (r/10^(j+1)=r/10^j/10):=by
      show _=_
      rw [Int.pow_succ,← Int.ediv_ediv_of_nonneg (Int.le_of_lt (p10_pos j))]
     have HVAL:Hid (r/10^j%10=dgt V (L+j)):=HR.out j hj19
     generalize r/10^j=p at *
     obtain ⟨i0,hi,hz0,hz1,hz2⟩:=info_parts Tryz.info5
     obtain ⟨hO,hown,hB,hsz2⟩:=hst2
     have HOwn:Hid (Own w.heap.size s z' wr):=hO
     have HO:Hid (wr.ownsRow (w.heap.size+1) 5 1 (.slice ao2 (L+j) cp2) (L+j) (blB V (L+j))):=hown
     have HOWN:(wr.alloc (.cells #[.int .u8 (48+p%10)] 5)).ownsRow (w.heap.size+1) 5 1 (.slice ao2 (L+j) cp2) (L+j) (blB V (L+j)):=hown.alloc _
     have HNEWS:∀ (q:Nat) (u:Value),[Value.int .u8 (48+p%10)][q]?=some u->(wr.alloc (.cells #[.int .u8 (48+p%10)] 5)).cell? ((⟨wr.heap.size,0,none⟩:Addr).add q)=some u:=by
      intro q u hq
      match q,hq with
      | 0,hq=>simp at hq;subst hq;simp [Addr.add]
     have HONE:∀ u ∈ [Value.int .u8 (48+p%10)],u.oneCell'=true:=by
      intro u hu;simp at hu;subst hu;rfl
     clear hO hown
     go_wp2_with (first | (at_builtin;refine wpList_append_lies _ rfl (.tmp 22) (.tmp 27) 79 rfl (w.heap.size+1) 5 i0 (.int .u8 0) 1 1 Tryz.underlying79 hi hz0 hz1 hz2 rfl (by decide) (.slice ao2 (L+j) cp2) (L+j) (blB V (L+j)) rfl HOWN ⟨wr.heap.size,0,none⟩ 1 1 [Value.int .u8 (48+p%10)] rfl rfl HNEWS HONE (by omega) (by unfold maxLen;omega) (by omega) (by simp;omega) (wr.heap.size+1) (by simp) ?_;intro g cap w1 hown1 hgrow hat hlt1;clear HOWN HNEWS HONE))
     have hrow:∀ q,(Value.slice ao2 (L+j) cp2).ownBlock=some q->w.heap.size+1<=q:=by
      intro q hq
      rcases ao2 with _ | ⟨bb,oo,sp⟩
      ·cases hq
      ·cases hq
       obtain ⟨_,h1⟩:=HO.out
       rcases h1 with ⟨h1,_⟩ | ⟨g',_,_,h1,h2,_⟩
       ·cases h1
       ·cases h1;exact h2
     have hown2:w1.ownsRow (w.heap.size+1) 5 1 (.slice (some ⟨g,0,none⟩) (L+(j+1)) cap) (L+(j+1)) (blB V (L+(j+1))):=by
      rw [HVAL.out,blB_succ] at hown1;exact hown1
     have HB1:Below (w.heap.size+1) wr w1:=((Below.refl _ wr).alloc hsz2 _).grown hgrow (by simp;omega) hrow
     have HST2:DigSt w V s z' (some ⟨g,0,none⟩) (L+(j+1)) cap w1:=⟨Below.own HB1 (by omega) HOwn.out,hown2,hB.trans (HB1.mono (by omega)),Nat.le_trans hsz2 HB1.size⟩
     clear hown1 hgrow hown2 HB1 hB hrow
     go_wp2
     go_roundw
     case rel=>exact ⟨j+1,cap,some ⟨g,0,none⟩,by omega,rfl,by rw [HP.out],by go_num,HST2⟩
     case measure=>simp [intOf];omega
    ·obtain rfl:j=19:=by omega
     obtain ⟨m',hm'⟩:∃ m',sizeL z' m=m':=⟨_,rfl⟩
     have hmle:=sizeL_le z' m
     have hbr:=bare_any (some ⟨w.heap.size,0,none⟩) m s (segW z' 0 m) wr (by omega) (hst2.1.num HW.out 0 m s (by omega) hm (by unfold maxLen;omega))
     have e1:sizeL (segW z' 0 m) m=m':=by rw [← hm'];exact sizeL_congr m fun i hi=>by rw [segW_lt z' 0 m i hi,Nat.zero_add]
     rw [e1] at hbr
     rw [hm'] at hmle
     have HM1:Hid (sizeL z' m'=m'):=by show _=_;rw [← hm'];exact sizeL_sizeL z' m
     have HM2:Hid (val z' m'=V/10^(L+19)):=by show _=_;rw [← hm',val_bare,HQ.out]
     have HST:Hid (DigSt w V s z' ao2 (L+19) cp2 wr):=hst2
     clear hst2 e1 hm'
     go_wp2_with (go_at_call 63;refine hbr.mono ?_;rintro e w2 ⟨rfl,rfl⟩)
     go_roundw
     case rel=>exact ⟨L+19,m',cp2,ao2,z',rfl,rfl,by omega,by omega,HW.out,HM1.out,HM2.out,HST.out⟩
     case measure=>simp [slLen];omega
end Go.Proofs.YtpabnhlfbjkmaaaGreatDoor
