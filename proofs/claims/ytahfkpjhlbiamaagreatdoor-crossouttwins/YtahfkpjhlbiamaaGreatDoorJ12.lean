/-
  Texts that the proof leans on.
-/
import Derived.Test.YtahfkpjhlbiamaaGreatDoorJ9
import Derived.Laws.BytesArg
import Derived.Test.YtahfkpjhlbiamaaGreatDoorJ1
import Derived.Shelf.SlicesE.Reverse
import Derived.Test.YtahfkpjhlbiamaaGreatDoorJ8
set_option linter.unusedVariables false
set_option linter.unusedSimpArgs false
set_option linter.unusedSectionVars false
set_option maxHeartbeats 8000000
set_option maxRecDepth 20000
namespace Go.Proofs.YtahfkpjhlbiamaaGreatDoor
open Go.RowKit
theorem zOc (n:Nat):(0:Int)<10^n:=Int.pow_pos (by decide)
def dgt (V:Int)(i:Nat):Int:=V/10^i%10
theorem zTz (V:Int)(i:Nat):0<=dgt V i/\dgt V i<=9:=by
 unfold dgt
 have:=Int.emod_nonneg (V/10^i) (show (10:Int)≠0 by decide)
 have:=Int.emod_lt_of_pos (V/10^i) (show (0:Int)<10 by decide)
 omega
theorem zSz {V:Int}{L:Nat}(h0:0<=V)(h:V<10^L)(i:Nat)(hi:L<=i):dgt V i=0:=by
 unfold dgt
 have:V/10^i=0:=Int.ediv_eq_zero_of_lt h0 (Int.lt_of_lt_of_le h (by
  obtain ⟨k,rfl⟩:∃ k,i=L+k:=⟨i-L,by omega⟩
  rw [Int.pow_add]
  have h1:=zOc L
  have h2:=zOc k
  have:(10:Int)^L*1<=10^L*10^k:=Int.mul_le_mul_of_nonneg_left (by omega) (by omega)
  omega))
 rw [this];rfl
theorem zEk (V:Int)(a b:Nat):V/10^a/10^b=V/10^(a+b):=by
 rw [Int.pow_add,Int.ediv_ediv_of_nonneg (Int.le_of_lt (zOc a))]
theorem zRk {W a b:Int}(ha:0<a):W%(a*b)/a=W/a%b:=by
 rw [Int.emod_def,Int.emod_def,← Int.ediv_ediv_of_nonneg (Int.le_of_lt ha)]
 have:W-a*b*(W/a/b)=W+(-(b*(W/a/b)))*a:=by grind
 rw [this,Int.add_mul_ediv_right _ _ (by omega)];omega
theorem zX4 {V r:Int}{L j:Nat}(hr:V/10^L%10^19=r)(hj:j<19):r/10^j%10=dgt V (L+j):=by
 unfold dgt
 rw [← zEk]
 generalize V/10^L=W at *
 subst hr
 have h1:(10:Int)^19=10^j*(10*10^(18-j)):=by
  rw [← Int.mul_assoc,← Int.pow_succ,← Int.pow_add];congr 1;omega
 have hp:=zOc j
 have hp2:=zOc (18-j)
 rw [h1,zRk hp]
 exact Int.emod_emod_of_dvd _ ⟨10^(18-j),rfl⟩
def zWz (V:Int)(L:Nat):List Int:=if sizeL (dgt V) L=0 then [48] else (List.range (sizeL (dgt V) L)).map fun i=>48+dgt V (sizeL (dgt V) L-1-i)
theorem zGk {V:Int}{L L':Nat}(h0:0<=V)(h:V<10^L)(h':V<10^L'):zWz V L=zWz V L':=by
 have key:∀ a b,a<=b->V<10^a->zWz V b=zWz V a:=fun a b hab ha=>by
  unfold zWz
  rw [zBl (fun i hi=>zSz h0 ha i hi) b hab]
 rcases Nat.le_total L L' with e|e
 ·exact (key L L' e h).symm
 ·exact key L' L e h'
def blB (V:Int)(L:Nat):List Value:=(List.range L).map fun i=>Value.int .u8 (48+dgt V i)
theorem zI5 (V:Int)(L:Nat):blB V L++[Value.int .u8 (48+dgt V L)]=blB V (L+1):=by simp [blB,List.range_succ]
theorem zY2 {w w':World}{g base n:Nat}{v:Value}{xs:List Value}(h:w.ownsRow base 5 1 v n xs)(hU:Upd g w w')(hg:g<base):w'.ownsRow base 5 1 v n xs:=by
 obtain ⟨h1,h2⟩:=h
 refine ⟨h1,?_⟩
 rcases h2 with h2|⟨g',cap,cur,e,hb,hh,r⟩
 ·exact Or.inl h2
 ·exact Or.inr ⟨g',cap,cur,e,hb,(hU.block g' (by omega)).trans hh,r⟩
def zWq (w0:World)(V:Int)(s:Nat)(z:Nat->Int)(ao:Option Addr)(L cp:Nat)(wr:World):Prop :=
 Own w0.heap.size s z wr/\wr.ownsRow (w0.heap.size+1) 5 1 (.slice ao L cp) L (blB V L)/\Below w0.heap.size w0 wr/\w0.heap.size+1<=wr.heap.size
def slLen:Value->Nat|.slice _ n _=>n|_=>0
theorem p22:∀ s:Nat,(18446744073709551616:Int)^s<=10^(22*s)
 | 0=>by simp
 | s+1=>by
  have ih:=p22 s
  have e:(10:Int)^(22*(s+1))=10^(22*s)*10000000000000000000000:=by rw [Nat.mul_add,Int.pow_add];rfl
  rw [e,Int.pow_succ]
  have h0:=zOb s
  have h1:=zOc (22*s)
  generalize (18446744073709551616:Int)^s=A at *
  generalize (10:Int)^(22*s)=B at *
  omega
theorem p10_lt {L s:Nat}(h:(10:Int)^L<18446744073709551616^s):L<22*s:=by
 rcases Nat.lt_or_ge L (22*s) with h'|h'
 ·exact h'
 ·have h2:=p22 s
  obtain ⟨k,rfl⟩:∃ k,L=22*s+k:=⟨L-22*s,by omega⟩
  rw [Int.pow_add] at h
  have h3:=zOc k
  have h4:=zOc (22*s)
  have:(10:Int)^(22*s)*1<=10^(22*s)*10^k:=Int.mul_le_mul_of_nonneg_left (by omega) (by omega)
  omega
def HasB (g n:Nat)(f:Nat->Int)(w:World):Prop:=g<w.heap.size/\∀ i,i<n->w.cell? ⟨g,i,none⟩=some (.int .u8 (f i))/\w.frozen? ⟨g,i,none⟩=false
theorem zFu {w:World}{base g L cap:Nat}{V:Int}(h:w.ownsRow base 5 1 (.slice (some ⟨g,0,none⟩) L cap) L (blB V L)):base<=g/\L<=cap/\cap<=maxLen/\HasB g L (fun i=>48+dgt V i) w:=by
 obtain ⟨hl,h⟩:=h
 rcases h with ⟨h,_⟩|⟨g',cap',cur,he,hb,hh,h1,h2,h3,h4⟩
 ·cases h
 ·cases he
  have hg:g<w.heap.size:=by
   rcases Nat.lt_or_ge g w.heap.size with h'|h'
   ·exact h'
   ·rw [Array.getElem?_eq_none h'] at hh;cases hh
  refine ⟨hb,h1,h2,hg,fun i hi=>⟨?_,?_⟩⟩
  ·have hcur:cur[i]?=some (.int .u8 (48+dgt V i)):=by
    have:(cur.toList.take (L*1))[i]?=some (.int .u8 (48+dgt V i)):=by rw [h4];simp [blB,hi]
    rw [List.getElem?_take] at this
    simpa [hi] using this
   unfold World.cell?
   simp [hh,hcur]
  ·unfold World.frozen?
   simp [hh]
theorem zNm {V:Int}(h0:0<=V):∀ L,V<10^L->V<10^(sizeL (dgt V) L)
 | 0,h=>h
 | L+1,h=>by
  by_cases e:dgt V L=0
  ·have e1:sizeL (dgt V) (L+1)=sizeL (dgt V) L:=by simp [sizeL,e]
   rw [e1]
   refine zNm h0 L ?_
   unfold dgt at e
   have hp:=zOc L
   rw [Int.pow_succ] at h
   have h1:V/10^L<10:=Int.ediv_lt_of_lt_mul hp (by omega)
   have h2:0<=V/10^L:=Int.ediv_nonneg h0 (by omega)
   have h3:V/10^L=0:=by omega
   have:=Int.lt_mul_ediv_self_add (x:=V) (k:=10^L) hp
   rw [h3] at this;omega
  ·have e1:sizeL (dgt V) (L+1)=L+1:=by simp [sizeL,e]
   rw [e1];exact h
def zT2 (V:Int)(K:Nat):List Int:=(List.range K).map fun i=>48+dgt V (K-1-i)
section
theorem zMt (b n c:Nat)(f:Nat->Int)(w:World)(hn:n<4294967296)(hnc:n<=c)(hc2:c<=maxLen)(hf:∀ i,0<=f i/\f i<=9)(hc:∀ i,i<n->w.cell? ⟨b,i,none⟩=some (.int .u8 (48+f i))) :
  CQ 171 #[.slice (some ⟨b,0,none⟩) n c,.int .u8 48] w (.slice (some ⟨b,0,none⟩) (sizeL f n) c):=by
 unfold maxLen at hc2
 go_enter Tryz.func171,Tryz.ntmps171
 go_wp2
 go_loop [0] (fun t=>∃ k:Nat,k<=n/\sizeL f k=sizeL f n/\t=.slice (some ⟨b,0,none⟩) k c) (fun t=>match t with|.slice _ k _=>k|_=>0)
 case atStart=>exact ⟨n,Nat.le_refl _,rfl,rfl⟩
 case round =>
  obtain ⟨k,hk,hs,rfl⟩:=hrel
  by_cases h0:k=0
  ·subst h0
   have HS:Hid (sizeL f n=0):=hs.symm
   clear hs hc
   go_wp2
   go_ret
   exact ⟨by rw [HS.out];rfl,rfl⟩
  ·obtain ⟨j,rfl⟩:∃ j,k=j+1:=⟨k-1,by omega⟩
   have hcj:=hc j (by omega)
   have hfj:=hf j
   by_cases hzj:f j=0
   ·have HS:Hid (sizeL f j=sizeL f n):=by
     have:sizeL f (j+1)=sizeL f j:=by simp [sizeL,hzj]
     exact this.symm.trans hs
    clear hs hc hf
    rw [hzj] at hcj
    go_wp2
    go_round
    case rel=>exact ⟨j,by omega,HS.out,rfl⟩
    case measure=>simp
   ·have HS:Hid (sizeL f n=j+1):=by
     have:sizeL f (j+1)=j+1:=by simp [sizeL,hzj]
     exact hs.symm.trans this
    have hne:(48+f j==48)=false:=by simp;omega
    clear hs hc hf
    go_wp2
    go_ret
    exact ⟨by rw [HS.out];rfl,rfl⟩
set_option maxRecDepth 20000 in
theorem zBm (b n c:Nat)(f:Nat->Int)(w:World)(hn:n<4294967296)(hnc:n<=c)(hc2:c<=maxLen)(hf:∀ i,0<=f i/\f i<=9)(hc:∀ i,i<n->w.cell? ⟨b,i,none⟩=some (.int .u8 (48+f i))) :
  CQ 105 #[.slice (some ⟨b,0,none⟩) n c,.string ⟨#[48]⟩] w (.slice (some ⟨b,0,none⟩) (sizeL f n) c):=by
 have hT:=zMt b n c f w hn hnc hc2 hf hc
 clear hf
 by_cases h0:n=0
 ·subst h0
  clear hT hc
  go_enter Tryz.func105,Tryz.ntmps105
  go_wp2
  go_ret
  exact ⟨rfl,rfl⟩
 ·have hn0:((n:Int)==0)=false:=by simp;omega
  clear hc
  generalize sizeL f n=s at *
  go_enter Tryz.func105,Tryz.ntmps105
  have h48:∀ h,((⟨#[48]⟩:ByteArray)[0]'h).toNat=48:=fun _=>rfl
  go_wp2_with (go_at_call 171;refine hT.mono ?_;rintro e w' ⟨rfl,rfl⟩)
  go_ret
  exact ⟨rfl,rfl⟩
theorem zAm (w:World) :
  CQ 105 #[.slice none 0 0,.string ⟨#[48]⟩] w (.slice none 0 0):=by
 go_enter Tryz.func105,Tryz.ntmps105
 go_wp2
 go_ret
 exact ⟨rfl,rfl⟩
end
end Go.Proofs.YtahfkpjhlbiamaaGreatDoor

namespace Go.Proofs
open Go.Shelf
def Tryz.laysRev_ren:Go.Shelf.Ren:=⟨fun|35=>106|n=>n,fun|22=>136|23=>5|3=>3|4=>4|0=>0|n=>n,fun|n=>n⟩
theorem Tryz.laysRev:Go.Proofs.SlLaysE.n35 Tryz.prog Tryz.laysRev_ren:={
 mixed:=by kernel_rfl
 f35:=⟨Tryz.f106.name,by decide,Tryz.func106.trans (congrArg some (by kernel_rfl))⟩
 t0:=Tryz.underlying0
 a0:=Tryz.isAgg0
 z0:=Tryz.sizeOf0
 v0:=Tryz.zeroValue0
 t3:=Tryz.underlying3
 a3:=Tryz.isAgg3
 z3:=Tryz.sizeOf3
 v3:=Tryz.zeroValue3
 t4:=Tryz.underlying4
 a4:=Tryz.isAgg4
 z4:=Tryz.sizeOf4
 v4:=Tryz.zeroValue4
 t22:=Tryz.underlying136
 a22:=Tryz.isAgg136
 z22:=Tryz.sizeOf136
 v22:=Tryz.zeroValue136
 a23:=Tryz.isAgg5
 z23:=Tryz.sizeOf5 }
end Go.Proofs
set_option maxRecDepth 20000
set_option linter.unusedSectionVars false
set_option linter.unusedSimpArgs false
namespace Go.Proofs.YtahfkpjhlbiamaaGreatDoor
open Go.RowKit Go.Sort
theorem zUp (g n c:Nat)(f:Nat->Int)(w:World)(hn:n<4294967296)(h:HasB g n f w) :
  Calls Tryz.prog 106 #[.slice (some ⟨g,0,none⟩) n c] w fun e w'=>e=.returned (.tuple #[])/\HasB g n (fun i=>f (n-1-i)) w'/\Upd g w w':=by
 obtain ⟨hg,hc⟩:=h
 have hl:((List.range n).map f).length=n:=by simp
 have hH:Holds (Value.int .u8) w g 0 ((List.range n).map f).toArray:=by
  intro j hj
  have hj':j<n:=by simpa using hj
  have:=hc j hj'
  rw [Nat.zero_add]
  refine ⟨?_,this.2⟩
  rw [this.1,getElem!_pos _ j hj]
  simp
 have hR:=AnyE.slices_Reverse Tryz.laysRev (Value.int .u8) (fun _=>rfl) g 0 c ((List.range n).map f) w hH (by rw [hl];omega)
 rw [hl] at hR
 refine Calls.mono hR ?_
 rintro e w' ⟨rfl,m,rfl⟩
 have hs:((List.range n).map f).reverse.toArray.size=((List.range n).map f).toArray.size:=by simp
 refine ⟨rfl,⟨by simpa using hg,fun i hi=>?_⟩,?_⟩
 ·have hh:=holds_putRow (Value.int .u8) (Sort.ahead w m) g 0 _ ((List.range n).map f).reverse.toArray (holds_ahead _ _ _ _ _ _ hH) hs i (by simpa using hi)
  rw [Nat.zero_add] at hh
  refine ⟨?_,hh.2⟩
  rw [hh.1,getElem!_pos _ i (by simpa using hi)]
  simp
 ·refine ⟨rfl,rfl,rfl,by simp,fun k hk=>?_⟩
  simp only [putRow,mapBlock,Array.getElem?_modify]
  rw [if_neg (fun e=>hk e.symm)]
  rfl
end Go.Proofs.YtahfkpjhlbiamaaGreatDoor

namespace Go.Proofs.YtahfkpjhlbiamaaGreatDoor
open Go.RowKit
theorem zIg (a:Option Addr)(n c:Nat)(x:Nat->Int)(w:World)(hn:n<4294967296)(h:Num w a n c x)(hsz:sizeL x n<=2000) :
  Calls Tryz.prog 48 #[.slice a n c] w fun e w'=>∃ L,val x n<10^L/\e=.returned (.tuple #[.string (strOfNums (zWz (val x n) L)),.int .i64 0])/\Below w.heap.size w w':=by
 have hb:=zRa a n c x w hn h
 have ht:=zWg a n c x w hn h
 obtain ⟨s,hs⟩:∃ s,sizeL x n=s:=⟨_,rfl⟩
 have hss:=zGa x n
 have hx:=h.2.2.1
 have hval:val x n=val x s:=by rw [← hs];exact zLa (zLf n h.2.2.2.1) n (zCa x n)
 rw [hval]
 obtain ⟨V,hV⟩:∃ V,val x s=V:=⟨_,rfl⟩
 rw [hs] at hb ht hsz hss
 have hV0:0<=V:=by rw [← hV];exact (zVa hx s).1
 have hst0:zWq w V s x none 0 0 (w.alloc (.cells (arrOf x s) 22)):=⟨Own.new w x s,World.ownsRow_nil _ _ _ _,zEa w _,by simp⟩
 rw [hV]
 have HVB:Hid (V<18446744073709551616^s):=by show _<_;rw [← hV];exact (zVa hx s).2
 have HV:Hid (val x s=V):=hV
 have HSS:Hid (sizeL x s=s):=hss
 have HX:Hid (zDa x):=hx
 clear h hval hs hV hss hx
 go_enter Tryz.func48,Tryz.ntmps48
 go_wp2_with (first|(go_at_call 102;refine hb.mono ?_;rintro e w' ⟨rfl,rfl⟩)|(go_at_call 103;refine ht.mono ?_;rintro e w' ⟨rfl,rfl⟩))
 generalize w.alloc (.cells (arrOf x s) 22)=wA at *
 go_loopw [4,5,6,20] (fun dv lv u6 u20 wr=>∃ (L m cp:Nat) (ao:Option Addr) (z:Nat->Int),dv=.slice ao L cp/\lv=.slice (some ⟨w.heap.size,0,none⟩) m s/\m<=s/\L<=22*s+18/\zDa z/\sizeL z m=m/\val z m=V/10^L/\zWq w V s z ao L cp wr) (fun dv _ _ _ _=>22*s+19-slLen dv)
 case atStart=>exact ⟨0,s,0,none,x,rfl,rfl,Nat.le_refl _,by omega,HX.out,HSS.out,by rw [HV.out];simp,hst0⟩
 case round =>
  obtain ⟨L,m,cp,ao,z,rfl,rfl,hm,hLs,hz,hzm,hv,hst⟩:=hrel
  by_cases h0:m=0
  ·subst h0
   have hVL:V<10^L:=by
    have e:V/10^L=0:=hv.symm
    have:=Int.lt_mul_ediv_self_add (x:=V) (k:=10^L) (zOc L)
    rw [e] at this;simpa using this
   obtain ⟨hO,hown,hB,hsz2⟩:=hst
   have hown':=hown
   obtain ⟨hl,hcase⟩:=hown'
   rcases hcase with ⟨he,hL0⟩|⟨g,cap,cur,he,_⟩
   ·cases he
    have hTn:=zAm wr
    have HV2:Hid (V<10^0):=hVL
    have HB:Hid (Below w.heap.size w wr):=hB
    clear hVL hB hown hl hO hv hst0
    go_wp2_with (go_at_call 105;refine hTn.mono ?_;rintro e w' ⟨rfl,rfl⟩)
    go_ret2
    exact ⟨0,HV2.out,rfl,HB.out⟩
   ·cases he
    obtain ⟨hbg,hLc,hcm,hHB⟩:=zFu hown
    have hTr:=zBm g L cp (dgt V) wr (by omega) hLc hcm (zTz V) (fun i hi=>(hHB.2 i hi).1)
    have hKL:=zCa (dgt V) L
    have hRv:=zUp g (sizeL (dgt V) L) cp (fun i=>48+dgt V i) wr (by omega) ⟨hHB.1,fun i hi=>hHB.2 i (by omega)⟩
    have HD:Hid (zWz V L=if sizeL (dgt V) L=0 then [48] else (List.range (sizeL (dgt V) L)).map fun i=>48+dgt V (sizeL (dgt V) L-1-i)):=rfl
    have HV2:Hid (V<10^L):=hVL
    have HB:Hid (Below w.heap.size w wr):=hB
    have HG:Hid (w.heap.size<=g):=by show _<=_;omega
    generalize sizeL (dgt V) L=K at *
    clear hVL hB hown hl hO hv hst0 hHB
    by_cases hK:K=0
    ·subst hK
     have HD0:Hid (strOfNums (zWz V L)=⟨#[48]⟩):=by show _=_;rw [HD.out];rfl
     clear HD hRv
     go_wp2_with (go_at_call 105;refine hTr.mono ?_;rintro e w' ⟨rfl,rfl⟩)
     go_ret2
     exact ⟨L,HV2.out,by rw [HD0.out];rfl,HB.out⟩
    ·have hK0:((K:Int)==0)=false:=by simp;omega
     rw [if_neg hK] at HD
     go_wp2_with (first|(go_at_call 105;refine hTr.mono ?_;rintro e w' ⟨rfl,rfl⟩)|(go_at_call 106;refine hRv.mono ?_;rintro e w2 ⟨rfl,hB2,hU2⟩;have hcv:=run_convert_bytes_arg (P:=Tryz.prog) w2 136 5 Tryz.underlying136 Tryz.underlying5 g 0 K cp (zWz V L) (by rw [HD.out];simp) (fun i hi=>by rw [HD.out,Nat.zero_add,(hB2.2 i hi).1];simp [hi]) 9 Tryz.underlying9))
     go_ret2
     exact ⟨L,HV2.out,rfl,HB.out.trans (hU2.below HG.out)⟩
  ·have hm0:(0:Int)<m:=by omega
   have hd:=zWi w.heap.size s m s z 10000000000000000000 wr hm (by omega) hz (by omega) hst.1
   have hL:L<22*s:=by
    have h1:=zKp hz m (by omega) hzm
    rw [hv] at h1
    refine p10_lt (Int.lt_of_le_of_lt ?_ HVB.out)
    have h2:=zOc L
    rcases Int.lt_or_le V (10^L) with h3|h3
    ·rw [Int.ediv_eq_zero_of_lt hV0 h3] at h1;omega
    ·exact h3
   have HZM:Hid (sizeL z m=m):=hzm
   have hq:=zWp hz (show (0:Int)<10000000000000000000 by decide) m
   have hr:V/10^L%10^19=remJ z 10000000000000000000 m m:=by rw [hq.2,hv];rfl
   have hrb:=zFg z 10000000000000000000 m m (by decide)
   have HW:Hid (zDa (divZ z 10000000000000000000 m 0)):=zNl hz (by decide) m 0
   have HQ:Hid (val (divZ z 10000000000000000000 m 0) m=V/10^(L+19)):=by
    show _=_
    rw [zKa (y:=quoW z 10000000000000000000 m) m fun i hi=>by unfold divZ;rw [if_pos (by omega)],hq.1,hv,← zEk];rfl
   have HR:Hid (∀ j,j<19->remJ z 10000000000000000000 m m/10^j%10=dgt V (L+j)):=fun j hj=>zX4 hr hj
   generalize remJ z 10000000000000000000 m m=r at *
   generalize hz':divZ z 10000000000000000000 m 0=z' at *
   have HST:Hid (zWq w V s z ao L cp wr):=hst
   clear hst hzm hq hr hv hz' hst0 hz
   go_wp2_with (go_at_call 104;refine hd.mono ?_;rintro e w1 ⟨rfl,hO1,hU1⟩)
   have hst1:zWq w V s z' ao L cp w1:=⟨hO1,zY2 HST.out.2.1 hU1 (by omega),HST.out.2.2.1.trans (hU1.below (Nat.le_refl _)),by rw [hU1.size];exact HST.out.2.2.2⟩
   clear hO1 hU1 hd
   go_loopw [4,6,20] (fun dv pv cv wr=>∃ (j cp:Nat) (ao:Option Addr),j<=19/\dv=.slice ao (L+j) cp/\pv=.int .u64 (r/10^j)/\cv=.int .i64 j/\zWq w V s z' ao (L+j) cp wr) (fun _ _ cv _=>19-(intOf cv).toNat)
   case atStart=>exact ⟨0,cp,ao,by omega,rfl,by simp,rfl,hst1⟩
   case round =>
    clear hst1 HST
    obtain ⟨j,cp2,ao2,hj,rfl,rfl,rfl,hst2⟩:=hrel
    by_cases hj19:j<19
    ·have hji:(j:Int)<19:=by omega
     have hp:0<=r/10^j/\r/10^j<=18446744073709551615:=by
      have h1:=zOc j
      have h2:=Int.ediv_nonneg hrb.1 (Int.le_of_lt h1)
      have h3:r/10^j<=r:=Int.ediv_le_self _ hrb.1
      omega
     have HP:Hid (r/10^(j+1)=r/10^j/10):=by
      show _=_
      rw [Int.pow_succ,← Int.ediv_ediv_of_nonneg (Int.le_of_lt (zOc j))]
     have HVAL:Hid (r/10^j%10=dgt V (L+j)):=HR.out j hj19
     generalize r/10^j=p at *
     obtain ⟨i0,hi,hz0,hz1,hz2⟩:=info_parts Tryz.info5
     obtain ⟨hO,hown,hB,hsz2⟩:=hst2
     have HOwn:Hid (Own w.heap.size s z' wr):=hO
     have HO:Hid (wr.ownsRow (w.heap.size+1) 5 1 (.slice ao2 (L+j) cp2) (L+j) (blB V (L+j))):=hown
     have HOWN:(wr.alloc (.cells #[.int .u8 (48+p%10)] 5)).ownsRow (w.heap.size+1) 5 1 (.slice ao2 (L+j) cp2) (L+j) (blB V (L+j)):=hown.alloc _
     have HNEWS:∀ (q:Nat) (u:Value),[Value.int .u8 (48+p%10)][q]?=some u->(wr.alloc (.cells #[.int .u8 (48+p%10)] 5)).cell? ((⟨wr.heap.size,0,none⟩:Addr).add q)=some u:=by
      intro q u hq
      match q,hq with
      | 0,hq=>simp at hq;subst hq;simp [Addr.add]
     have HONE:∀ u ∈ [Value.int .u8 (48+p%10)],u.oneCell'=true:=by
      intro u hu;simp at hu;subst hu;rfl
     clear hO hown
     go_wp2_with (first|(at_builtin;refine wpList_append_lies _ rfl (.tmp 22) (.tmp 27) 136 rfl (w.heap.size+1) 5 i0 (.int .u8 0) 1 1 Tryz.underlying136 hi hz0 hz1 hz2 rfl (by decide) (.slice ao2 (L+j) cp2) (L+j) (blB V (L+j)) rfl HOWN ⟨wr.heap.size,0,none⟩ 1 1 [Value.int .u8 (48+p%10)] rfl rfl HNEWS HONE (by omega) (by unfold maxLen;omega) (by omega) (by simp;omega) (wr.heap.size+1) (by simp) ?_;intro g cap w1 hown1 hgrow hat hlt1;clear HOWN HNEWS HONE))
     have hrow:∀ q,(Value.slice ao2 (L+j) cp2).ownBlock=some q->w.heap.size+1<=q:=by
      intro q hq
      rcases ao2 with _|⟨bb,oo,sp⟩
      ·cases hq
      ·cases hq
       obtain ⟨_,h1⟩:=HO.out
       rcases h1 with ⟨h1,_⟩|⟨g',_,_,h1,h2,_⟩
       ·cases h1
       ·cases h1;exact h2
     have hown2:w1.ownsRow (w.heap.size+1) 5 1 (.slice (some ⟨g,0,none⟩) (L+(j+1)) cap) (L+(j+1)) (blB V (L+(j+1))):=by
      rw [HVAL.out,zI5] at hown1;exact hown1
     have HB1:Below (w.heap.size+1) wr w1:=((Below.refl _ wr).alloc hsz2 _).grown hgrow (by simp;omega) hrow
     have HST2:zWq w V s z' (some ⟨g,0,none⟩) (L+(j+1)) cap w1:=⟨Below.own HB1 (by omega) HOwn.out,hown2,hB.trans (HB1.mono (by omega)),Nat.le_trans hsz2 HB1.size⟩
     clear hown1 hgrow hown2 HB1 hB hrow
     go_wp2
     go_roundw
     case rel=>exact ⟨j+1,cap,some ⟨g,0,none⟩,by omega,rfl,by rw [HP.out],by go_num,HST2⟩
     case measure=>simp [intOf];omega
    ·obtain rfl:j=19:=by omega
     obtain ⟨m',hm'⟩:∃ m',sizeL z' m=m':=⟨_,rfl⟩
     have hmle:=zCa z' m
     have hbr:=zRa (some ⟨w.heap.size,0,none⟩) m s (segW z' 0 m) wr (by omega) (hst2.1.num HW.out 0 m s (by omega) hm (by unfold maxLen;omega))
     have e1:sizeL (segW z' 0 m) m=m':=by rw [← hm'];exact zMe m fun i hi=>by rw [zBb z' 0 m i hi,Nat.zero_add]
     rw [e1] at hbr
     rw [hm'] at hmle
     have HM1:Hid (sizeL z' m'=m'):=by show _=_;rw [← hm'];exact zGa z' m
     have HM2:Hid (val z' m'=V/10^(L+19)):=by show _=_;rw [← hm',zMa,HQ.out]
     have HST:Hid (zWq w V s z' ao2 (L+19) cp2 wr):=hst2
     clear hst2 e1 hm'
     go_wp2_with (go_at_call 102;refine hbr.mono ?_;rintro e w2 ⟨rfl,rfl⟩)
     go_roundw
     case rel=>exact ⟨L+19,m',cp2,ao2,z',rfl,rfl,by omega,by omega,HW.out,HM1.out,HM2.out,HST.out⟩
     case measure=>simp [slLen];omega
end Go.Proofs.YtahfkpjhlbiamaaGreatDoor
