/-
  Texts that the proof leans on.
-/
import Derived.Test.YtgknbdehlmlipaaGreatDoorJ36
import Derived.Test.YtgknbdehlmlipaaGreatDoorJ7
import Derived.Test.YtgknbdehlmlipaaGreatDoorJ33
import Derived.Deep.MidRow
import Derived.Test.YtgknbdehlmlipaaGreatDoorJ37
import Derived.Test.YtgknbdehlmlipaaGreatDoorJ24
import Derived.Test.YtgknbdehlmlipaaGreatDoorJ2
set_option maxHeartbeats 8000000
set_option linter.unusedVariables false
set_option linter.unusedSectionVars false
set_option linter.unusedSimpArgs false
set_option maxRecDepth 20000
namespace Go.Proofs.YtgknbdehlmlipaaGreatDoor
open Go.RowKit
section
theorem or_cells {n b:Nat}{a:World}(hb:n<=b):∀ (vs:List Value) (o:Nat) (W:World),Below n a W->Below n a (W.setCells b o vs)
 | [],_,_,h=>h
 | v::r,o,W,h=>or_cells hb r (o+1) _ (h.setCell hb v)
theorem or_far {g h:Nat}(hne:g≠h)(i:Nat):∀ (vs:List Value) (o:Nat) (W:World),(W.setCells h o vs).cell? ⟨g,i,none⟩=W.cell? ⟨g,i,none⟩
 | [],_,_=>rfl
 | v::r,o,W=>by
  have:=or_far hne i r (o+1) (W.setCell ⟨h,o,none⟩ v)
  exact this.trans (by go_simp)
structure O9 (g:Nat) (cs:Array Value) (w:World):Prop where
 lt:g<w.heap.size
 sz:cs.size=9
 c:∀ i,i<9->w.cell? ⟨g,i,none⟩=cs[i]?
 z:∀ i,w.frozen? ⟨g,i,none⟩=false
theorem O9.next {g:Nat}{cs:Array Value}{w w':World}(h:O9 g cs w)(hb:Below w.heap.size w w'):O9 g cs w' :=
 ⟨Nat.lt_of_lt_of_le h.lt hb.size,h.sz,fun i hi=>(hb.cell (p:=⟨g,i,none⟩) h.lt).trans (h.c i hi),fun i=>(hb.frozen (p:=⟨g,i,none⟩) h.lt).trans (h.z i)⟩
theorem O9.put {g:Nat}{cs cs':Array Value}{w:World}(h:O9 g cs w)(hs:cs'.size=9):O9 g cs' (w.setCells g 0 cs'.toList):=by
 have hin:=World.cell?_setCells_in g cs'.toList 0 w (fun j hj=>by
  rw [Nat.zero_add,h.c j (by simpa [hs] using hj),Array.getElem?_eq_getElem (by rw [h.sz];simpa [hs] using hj)];rfl)
 refine ⟨Nat.lt_of_lt_of_le h.lt (or_cells (n:=0) (Nat.zero_le _) _ _ _ (Below.refl 0 w)).size,hs,fun i hi=>?_,fun i=>?_⟩
 ·have:=hin i (by simpa [hs] using hi)
  rw [Nat.zero_add] at this
  rw [this,Array.getElem?_eq_getElem (by rw [hs];exact hi)]
  simp
 ·rw [World.frozen?_setCells];exact h.z i
theorem O9.other {g k:Nat}{cs:Array Value}{vs:List Value}{w:World}(h:O9 g cs w)(hne:g≠k):O9 g cs (w.setCells k 0 vs) :=
 ⟨Nat.lt_of_lt_of_le h.lt (or_cells (n:=0) (Nat.zero_le _) _ _ _ (Below.refl 0 w)).size,h.sz,fun i hi=>(or_far hne i vs 0 w).trans (h.c i hi),fun i=>by rw [World.frozen?_setCells];exact h.z i⟩
attribute [local irreducible] W4 Nt Nz NT
section
variable {a:Act}{w:World}{K:Act->World->Prop}{Q:Exit->Act->World->Prop}{d p q:Nat}{ty:TypeId}{pos:String}{after:Array Edge}{gd:Option (Nat×Bool)}
theorem or_ld9 {h:Nat}{c x b:Int}{s g:Bool}{k:Nat}(h1:slot a p=.pointer (some ⟨h,0,none⟩))(hO:O9 h (OCs c s g x k b) w)(hK:K (a.put (some d) (OV c s g x k b)) w):Oper.wp Tryz.prog { dst:=some d,op:=Op.load 60 (Operand.tmp p),type:=ty,pos:=pos,after:=after,guard:=gd } a w K Q :=
 or_ldO h1 (hO.c 0 (by decide)) (hO.c 1 (by decide)) (hO.c 2 (by decide)) (hO.c 3 (by decide)) (hO.c 4 (by decide)) (hO.c 5 (by decide)) (hO.c 6 (by decide)) (hO.c 7 (by decide)) (hO.c 8 (by decide)) hK
theorem or_st9 {h:Nat}{c x b:Int}{s g:Bool}{k:Nat}{cs:Array Value}(h1:slot a p=.pointer (some ⟨h,0,none⟩))(h2:slot a q=OV c s g x k b)(hB:O9 h cs w)(hK:K (a.put none undef) (w.setCells h 0 (OCs c s g x k b).toList)):Oper.wp Tryz.prog { dst:=none,op:=Op.store 60 (Operand.tmp p) (Operand.tmp q),type:=ty,pos:=pos,after:=after,guard:=gd } a w K Q:=by
 refine wp_store_mid 60 (.tmp p) (.tmp q) rfl h 0 (OCs c s g x k b) (by unfold slot at h1;simp [go_sem,h1]) (by unfold slot at h2;simp [go_sem,h2]) (fun j hj=>?_) (by kernel_rfl) (by simp [Value.oneCell']) hK
 rw [Nat.zero_add,hB.c j hj,Array.getElem?_eq_getElem (by rw [hB.sz];exact hj)]
 exact ⟨rfl,hB.z j⟩
end
noncomputable def opsBo:List Oper:=(Tryz.f30.body.bind (findR 4)).getD []
def slotsBo:List Nat:=[25,26,27,0,1]
theorem regBo {b h j:Nat}{w0 ws:World}{c x e c' x' e' E:Int}{s g s' g':Bool}{k k':Nat}{a0:Act}{Q:Exit->Act->World->Prop}(hs:a0.tmps.size=28)
  (g8:slot a0 8=.pointer (some ⟨h,0,none⟩)) (g9:slot a0 9=.pointer (some ⟨j,0,none⟩)) (g10:slot a0 10=.int .i64 E)
  (hbe:Below b w0 ws) (hlh:b<=h) (hlj:b<=j) (hne:h≠j) (hO:O9 h (OCs c s g x k e) ws) (hO':O9 j (OCs c' s' g' x' k' e') ws)
  (hQ:∀ (a:Act) (w:World),Below b w0 w->O9 h (OCs c s g x k e) w->O9 j (OCs c' s' g' x' k' e') w->slot a 10=.int .i64 E->a.tmps.size=28->a.defers=a0.defers->(∀ t,(∀ i,i<6->[25,26,27,0,1,10].getD i 0≠t)->slot a t=slot a0 t)->Q .normal a w) :
  (Code.region 4 opsBo.toArray true).wp Tryz.prog Q a0 ws:=by
 refine wp_region_memg 5 28 slotsBo [iW (OV c s g x k e),iW (OV c' s' g' x' k' e'),iW (.int .i64 E),(fun _ _=>True),(fun _ _=>True)] (fun _ _=>True) (fun _ _ w=>Below b w0 w/\O9 h (OCs c s g x k e) w/\O9 j (OCs c' s' g' x' k' e') w) [] [] (by kernel_rfl) (by kernel_rfl) (by kernel_rfl) (by kernel_rfl) hs ?_ (fun _=>trivial) ?_ ?_ ⟨hbe.drew,hO.next (Below.refl _ _).drew,hO'.next (Below.refl _ _).drew⟩ ?_ ?_ ?_
 ·intro j c hj hc
  cases hc
 ·intro p hp
  simp only [List.mem_cons,List.not_mem_nil,or_false] at hp
  rcases hp with rfl|rfl|rfl|rfl|rfl
  all_goals exact fun _ _ _ h _=>h
 ·intro i hi hG
  cases hG
 ·intro L i o a w hi ho hG
  cases hG
 ·intro L i o a w hi ho hG hL hcl he hM hF hv
  have f8:slot a 8=.pointer (some ⟨h,0,none⟩):=(hF 8 (by decide)).trans g8
  have f9:slot a 9=.pointer (some ⟨j,0,none⟩):=(hF 9 (by decide)).trans g9
  have f10:slot a 10=.int .i64 E:=(hF 10 (by decide)).trans g10
  obtain ⟨m1,m2,m3⟩:=hM
  have hor:i=0∨i=1∨i=2∨i=3∨i=4:=by omega
  rcases hor with rfl|rfl|rfl|rfl|rfl
  ·obtain rfl:=Option.some.inj (show opsBo[0]?=some o from ho)
   exact or_ld9 f8 m2 ⟨_,rfl,rfl,trivial,m1,m2,m3⟩
  ·obtain rfl:=Option.some.inj (show opsBo[1]?=some o from ho)
   exact or_ld9 f9 m3 ⟨_,rfl,rfl,trivial,m1,m2,m3⟩
  ·obtain rfl:=Option.some.inj (show opsBo[2]?=some o from ho)
   exact og_mv f10 ⟨_,rfl,rfl,trivial,m1,m2,m3⟩
  ·obtain rfl:=Option.some.inj (show opsBo[3]?=some o from ho)
   exact or_st9 f8 (hv 0 (by decide) rfl (he ⟨0,.data⟩ (by simp) rfl):slot a 25=OV c s g x k e) m2 ⟨_,rfl,trivial,trivial,or_cells hlh _ _ _ m1,m2.put rfl,m3.other (Ne.symm hne)⟩
  ·obtain rfl:=Option.some.inj (show opsBo[4]?=some o from ho)
   exact or_st9 f9 (hv 1 (by decide) rfl (he ⟨1,.data⟩ (by simp) rfl):slot a 26=OV c' s' g' x' k' e') m3 ⟨_,rfl,trivial,trivial,or_cells hlj _ _ _ m1,m2.other hne,m3.put rfl⟩
 ·intro L a w hL hM hsz hdf hF hv
  obtain ⟨m1,m2,m3⟩:=hM
  refine BigFrame.wpList_want rfl fun K hK=>og_as (hv 2 (by decide) rfl:slot a 27=.int .i64 E) (hK _ _ ?_)
  clear K hK
  refine hQ _ _ m1 m2 m3 (slot_put (by omega)) (by simpa [Act.put] using hsz) hdf (fun t ht=>?_)
  rw [slot_put_ne (show 10≠t from ht 5 (by decide))]
  exact hF t fun i hi=>by
   have:=ht i (by omega)
   have hor:i=0∨i=1∨i=2∨i=3∨i=4:=by omega
   rcases hor with rfl|rfl|rfl|rfl|rfl<;>exact this
def MXs (ws:World)(X4:Nat)(L:Nat->Prop)(f:Nat->Value)(w:World):Prop :=
 Below ws.heap.size ws w/\(L 2->∃ g X,f 7=.pointer (some ⟨g,0,none⟩)/\ws.heap.size<=g/\B4 g X w/\(L 4->X=X4))/\(L 3->∃ h,f 8=.pointer (some ⟨h,0,none⟩)/\ws.heap.size<=h/\B4 h 0 w)/\(L 2->L 3->f 7≠f 8)
theorem MXs.next {ws w w':World}{X4:Nat}{L:Nat->Prop}{f:Nat->Value}(h:MXs ws X4 L f w)(hb:Below w.heap.size w w'):MXs ws X4 L f w':=by
 obtain ⟨a1,a2,a3,a4⟩:=h
 refine ⟨bnx a1 hb,fun h=>?_,fun h=>?_,a4⟩
 ·obtain ⟨g,X,b1,b2,b3,b4⟩:=a2 h
  exact ⟨g,X,b1,b2,b3.next hb,b4⟩
 ·obtain ⟨g,b1,b2,b3⟩:=a3 h
  exact ⟨g,b1,b2,b3.next hb⟩
end
section
attribute [local irreducible] W4 NT NV
section
variable (n:Int)(nm:ByteArray)(wd pr ex le mo pa:Int)(G T J:Int)(Bb A Rr sN:Nat)(V:Int)(s:Bool)(wn:Nat)(w:World)
 (hG0:11<=G) (hG1:G<=100) (hT0:0<=T) (hT1:T<=200) (hJ0:0<=J) (hJ1:J<=11) (hAb:(A:Int)<=200000)
 (cF1:∀ W,CE 52 #[A4 Bb,.int .i64 T,.int .i64 G] W (NT 19 A))
 (cF2:∀ W,CE 52 #[A4 Bb,.int .i64 0,.int .i64 T] W (NT 19 Rr))
 (cF3:∀ W,CE 52 #[A4 Bb,.int .i64 (T+G),.int .i64 1] W (NT 19 sN))
 (cM1:∀ W v,NT 19 A v W->CQ 53 #[v] W (.int .i64 (A:Int)))
 (cM3:∀ W v,NT 19 sN v W->CQ 53 #[v] W (.int .i64 (sN:Int)))
 (cB2:∀ W v,NT 19 Rr v W->CB 28 #[v] W (A4 Rr))
 (hw:G-5=(wn:Int)) (hwn:wn<=12) (hV:(A:Int)/2^wn=V) (hV0:0<=V) (hV1:V<=31) (hsg:((sN:Int)==1)=s)
include hG0 hG1 hT0 hT1 hJ0 hJ1 hAb cF1 cF2 cF3 cM1 cM3 cB2 hw hwn hV hV0 hV1 hsg
variable (H L F ld:Int)(hH:(2:Int)^wn=H)(hH0:1<=H)(hH1:H<=4096)(hld0:0<=ld)(hld1:ld<=9)(hF0:0<=F)(hF1:F<=20000)(hl0:-30000<=le)(hl1:le<=30000)
include hH hH0 hH1 hld0 hld1 hF0 hF1 hl0 hl1
theorem vmn_ps (Q d1 H4 sgv:Int)(U D M C PP lead:Nat)
  (cO:∀ W,CB 20 #[.int .i64 n] W (.tuple #[IDec n nm wd pr ex le mo pa false,.int .i64 0]))
  (cS:∀ W,CB 62 #[IDec n nm wd pr ex le mo pa false] W (.tuple #[.int .i64 G,.int .i64 T,.int .i64 J]))
  (h30:(V==30)=false) (h31:(V==31)=false) (h24:V<24)
  (hF:(A:Int)/8=F) (h1:bits .and .u64 (A:Int) 7=ld)
  (hU:Rr<2^256) (cT:∀ W v,NV 1 lead v W->CE 22 #[v,.int .i64 T] W (NT 60000 M))
  (cA:∀ W v v',NT 60000 M v W->NV 4 Rr v' W->CE 21 #[v,v'] W (NV 70000 C))
  (hlead:ld=(lead:Int)) (cQ:∀ W,CE 26 #[.int .u64 10,.int .i64 pr] W (NV 50000 PP))
  (cC:∀ W v v',NV 70000 C v W->NV 50000 PP v' W->CQ 25 #[v,v'] W (.int .i64 sgv)) (hsv:¬ 0<=sgv)
  (cB:∀ W v,NV 70000 C v W->CB 28 #[v] W (A4 C)) :
  CB 80 #[.int .i64 n,A4 Bb] w (DV 1 s false (F+le) C):=by
 have hsm:=cell_set_map
 have hV2:(A:Int)/H=V:=by rw [← hH];exact hV
 unfold DV A4 at *
 go_enter Tryz.func80,Tryz.ntmps80
 go_wp2_with (first
  | (go_at_call 20;refine (cO _).mono ?_;rintro r w1 ⟨rfl,hb1⟩;obtain ⟨_,_,_,_,hA1,_⟩:=wz w hb1;obtain ⟨_,_⟩:=zf hb1 (w.heap.size+1);clear hb1)
  | (go_at_call 62;refine (cS _).mono ?_;rintro r w2 ⟨rfl,hb2⟩;obtain ⟨_,_,_,_,hA2,_⟩:=wz w hb2;obtain ⟨_,_⟩:=zf hb2 (w.heap.size+1);obtain ⟨_,_⟩:=zf hb2 w1.heap.size;clear hb2)
  | (go_at_call 52;refine (cF1 _).mono ?_;rintro r w3 ⟨vA,rfl,uA,hb3⟩;clear cF1;obtain ⟨_,_,_,_,hA3,_⟩:=wz w hb3;obtain ⟨_,_⟩:=zf hb3 (w.heap.size+1);obtain ⟨_,_⟩:=zf hb3 w1.heap.size;clear hb3)
  | (go_at_call 53;refine (cM1 _ _ uA).mono ?_;rintro r w0 ⟨rfl,rfl⟩;clear cM1 uA)
  | (go_at_call 52;refine (cF2 _).mono ?_;rintro r w4 ⟨vR,rfl,uR,hb4⟩;clear cF2;obtain ⟨_,_,_,_,hA4,_⟩:=wz w hb4;obtain ⟨_,_⟩:=zf hb4 (w.heap.size+1);obtain ⟨_,_⟩:=zf hb4 w1.heap.size;clear hb4)
  | (go_at_call 28;refine (cB2 _ _ uR).mono ?_;rintro r w5 ⟨rfl,hb5⟩;clear cB2 uR;obtain ⟨_,_,_,_,hA5,_⟩:=wz w hb5;obtain ⟨_,_⟩:=zf hb5 (w.heap.size+1);obtain ⟨_,_⟩:=zf hb5 w1.heap.size;clear hb5)
  | (go_at_call 52;refine (cF3 _).mono ?_;rintro r w6 ⟨vS,rfl,uS,hb6⟩;clear cF3;obtain ⟨_,_,_,_,hA6,_⟩:=wz w hb6;obtain ⟨_,_⟩:=zf hb6 (w.heap.size+1);obtain ⟨_,_⟩:=zf hb6 w1.heap.size;obtain ⟨_,_⟩:=zf hb6 w5.heap.size;clear hb6;have q62_0:w.heap.size<w6.heap.size+1+1:=(by omega);have q62_1:w.heap.size+1<w6.heap.size+1+1:=(by omega);have q62_2:w1.heap.size<w6.heap.size+1+1:=(by omega);have q62_3:w5.heap.size<w6.heap.size+1+1:=(by omega);have q62_4:w6.heap.size<w6.heap.size+1+1:=(by omega);have q62_5:w6.heap.size+1<w6.heap.size+1+1:=(by omega);have q63_6:w.heap.size<w6.heap.size+1+1+1:=(by omega);have q63_7:w.heap.size+1<w6.heap.size+1+1+1:=(by omega);have q63_8:w1.heap.size<w6.heap.size+1+1+1:=(by omega);have q63_9:w5.heap.size<w6.heap.size+1+1+1:=(by omega);have q63_10:w6.heap.size<w6.heap.size+1+1+1:=(by omega);have q63_11:w6.heap.size+1<w6.heap.size+1+1+1:=(by omega);have q64_12:w.heap.size<w6.heap.size+1+1+1+1:=(by omega);have q64_13:w.heap.size+1<w6.heap.size+1+1+1+1:=(by omega);have q64_14:w1.heap.size<w6.heap.size+1+1+1+1:=(by omega);have q64_15:w5.heap.size<w6.heap.size+1+1+1+1:=(by omega);have q64_16:w6.heap.size<w6.heap.size+1+1+1+1:=(by omega);have q64_17:w6.heap.size+1<w6.heap.size+1+1+1+1:=(by omega))
  | (go_at_call 53;refine (cM3 _ _ uS).mono ?_;rintro r w0 ⟨rfl,rfl⟩;clear cM3 uS))
 have uT:NV 4 Rr (.slice (some ⟨w6.heap.size+1,0,none⟩) 4 4) ((((w6.alloc (.cells #[.int .i64 1,.bool s,.bool false,.int .i64 0,.int .u64 0,.int .u64 0,.int .u64 0,.int .u64 0] 34)).alloc (.cells #[.int .u64 (W4 Rr 0),.int .u64 (W4 Rr 1),.int .u64 (W4 Rr 2),.int .u64 (W4 Rr 3)] 24)).alloc (.cells #[] 22)).alloc (.cells #[.int .u64 (lead:Int)] 22)):=nv_cells hU (by first|(simp;done)|(simp;omega)) (by go_simp) (by go_simp) (by go_simp) (by go_simp)
 have uL:NV 1 lead (.slice (some ⟨w6.heap.size+1+1+1,0,none⟩) 1 1) ((((w6.alloc (.cells #[.int .i64 1,.bool s,.bool false,.int .i64 0,.int .u64 0,.int .u64 0,.int .u64 0,.int .u64 0] 34)).alloc (.cells #[.int .u64 (W4 Rr 0),.int .u64 (W4 Rr 1),.int .u64 (W4 Rr 2),.int .u64 (W4 Rr 3)] 24)).alloc (.cells #[] 22)).alloc (.cells #[.int .u64 (lead:Int)] 22)):=nv_dec (by simp) rfl (by omega)
 go_region_with (first
  | (go_at_call 22;refine (cT _ _ (uL.next bgo)).mono ?_;rintro r w8 ⟨vt,rfl,ut,hb8⟩;replace hb8:=bnext (w0:=((((w6.alloc (.cells #[.int .i64 1,.bool s,.bool false,.int .i64 0,.int .u64 0,.int .u64 0,.int .u64 0,.int .u64 0] 34)).alloc (.cells #[.int .u64 (W4 Rr 0),.int .u64 (W4 Rr 1),.int .u64 (W4 Rr 2),.int .u64 (W4 Rr 3)] 24)).alloc (.cells #[] 22)).alloc (.cells #[.int .u64 (lead:Int)] 22))) bgo hb8;have uT8:=uT.next hb8;clear uT uL;obtain ⟨_,_,_,_,hA8,_⟩:=wz w hb8;obtain ⟨_,_⟩:=zf hb8 (w.heap.size+1);obtain ⟨_,_⟩:=zf hb8 w1.heap.size;obtain ⟨_,_⟩:=zf hb8 w5.heap.size;obtain ⟨_,_⟩:=zf hb8 w6.heap.size;obtain ⟨_,_⟩:=zf hb8 (w6.heap.size+1);clear hb8)
  | (go_at_call 21;refine (cA _ _ _ ut uT8).mono ?_;rintro r w10 ⟨vc,rfl,uc,hb10⟩;clear ut uT8;obtain ⟨_,_,_,_,hA10,_⟩:=wz w hb10;obtain ⟨_,_⟩:=zf hb10 (w.heap.size+1);obtain ⟨_,_⟩:=zf hb10 w1.heap.size;obtain ⟨_,_⟩:=zf hb10 w5.heap.size;obtain ⟨_,_⟩:=zf hb10 w6.heap.size;obtain ⟨_,_⟩:=zf hb10 (w6.heap.size+1);clear hb10))
 go_wp2_with (first
  | (go_at_call 26;refine (cQ _).mono ?_;rintro r w11 ⟨vq,rfl,uq,hb11⟩;have uc11:=uc.next hb11;clear uc;obtain ⟨_,_,_,_,hA11,_⟩:=wz w hb11;obtain ⟨_,_⟩:=zf hb11 (w.heap.size+1);obtain ⟨_,_⟩:=zf hb11 w1.heap.size;obtain ⟨_,_⟩:=zf hb11 w5.heap.size;obtain ⟨_,_⟩:=zf hb11 w6.heap.size;obtain ⟨_,_⟩:=zf hb11 (w6.heap.size+1);clear hb11)
  | (go_at_call 25;refine (cC _ _ _ uc11 uq).mono ?_;rintro r w0 ⟨rfl,rfl⟩))
 go_region_with (go_at_call 28;refine (cB _ _ (uc11.next bgo)).mono ?_;rintro r w12 ⟨rfl,hb12⟩;replace hb12:=bnext (w0:=w11) bgo hb12;obtain ⟨_,_,_,_,hA12,_⟩:=wz w hb12;obtain ⟨_,_⟩:=zf hb12 (w.heap.size+1);obtain ⟨_,_⟩:=zf hb12 w1.heap.size;obtain ⟨_,_⟩:=zf hb12 w5.heap.size;obtain ⟨_,_⟩:=zf hb12 w6.heap.size;obtain ⟨_,_⟩:=zf hb12 (w6.heap.size+1);clear hb12)
 all_goals go_wp2
 all_goals exact bodyPost_ret (by simp only [results,Tryz.results80];go_simp) rfl ⟨rfl,bgo⟩
theorem vmn_pso (Q d1 H4 sgv:Int)(U D M C PP lead:Nat)
  (cO:∀ W,CB 20 #[.int .i64 n] W (.tuple #[IDec n nm wd pr ex le mo pa false,.int .i64 0]))
  (cS:∀ W,CB 62 #[IDec n nm wd pr ex le mo pa false] W (.tuple #[.int .i64 G,.int .i64 T,.int .i64 J]))
  (h30:(V==30)=false) (h31:(V==31)=false) (h24:V<24)
  (hF:(A:Int)/8=F) (h1:bits .and .u64 (A:Int) 7=ld)
  (hU:Rr<2^256) (cT:∀ W v,NV 1 lead v W->CE 22 #[v,.int .i64 T] W (NT 60000 M))
  (cA:∀ W v v',NT 60000 M v W->NV 4 Rr v' W->CE 21 #[v,v'] W (NV 70000 C))
  (hlead:ld=(lead:Int)) (cQ:∀ W,CE 26 #[.int .u64 10,.int .i64 pr] W (NV 50000 PP))
  (cC:∀ W v v',NV 70000 C v W->NV 50000 PP v' W->CQ 25 #[v,v'] W (.int .i64 sgv)) (hsv:0<=sgv)
  (cB:∀ W,CB 28 #[.slice none 0 0] W (A4 0)) :
  CB 80 #[.int .i64 n,A4 Bb] w (.agg #[.int .i64 1,.bool s,.bool false,.int .i64 (F+le),.int .u64 0,.int .u64 0,.int .u64 0,.int .u64 0]):=by
 have hsm:=cell_set_map
 have hV2:(A:Int)/H=V:=by rw [← hH];exact hV
 rw [Z4_eq] at cB
 unfold DV A4 at *
 go_enter Tryz.func80,Tryz.ntmps80
 go_wp2_with (first
  | (go_at_call 20;refine (cO _).mono ?_;rintro r w1 ⟨rfl,hb1⟩;obtain ⟨_,_,_,_,hA1,_⟩:=wz w hb1;obtain ⟨_,_⟩:=zf hb1 (w.heap.size+1);clear hb1)
  | (go_at_call 62;refine (cS _).mono ?_;rintro r w2 ⟨rfl,hb2⟩;obtain ⟨_,_,_,_,hA2,_⟩:=wz w hb2;obtain ⟨_,_⟩:=zf hb2 (w.heap.size+1);obtain ⟨_,_⟩:=zf hb2 w1.heap.size;clear hb2)
  | (go_at_call 52;refine (cF1 _).mono ?_;rintro r w3 ⟨vA,rfl,uA,hb3⟩;clear cF1;obtain ⟨_,_,_,_,hA3,_⟩:=wz w hb3;obtain ⟨_,_⟩:=zf hb3 (w.heap.size+1);obtain ⟨_,_⟩:=zf hb3 w1.heap.size;clear hb3)
  | (go_at_call 53;refine (cM1 _ _ uA).mono ?_;rintro r w0 ⟨rfl,rfl⟩;clear cM1 uA)
  | (go_at_call 52;refine (cF2 _).mono ?_;rintro r w4 ⟨vR,rfl,uR,hb4⟩;clear cF2;obtain ⟨_,_,_,_,hA4,_⟩:=wz w hb4;obtain ⟨_,_⟩:=zf hb4 (w.heap.size+1);obtain ⟨_,_⟩:=zf hb4 w1.heap.size;clear hb4)
  | (go_at_call 28;refine (cB2 _ _ uR).mono ?_;rintro r w5 ⟨rfl,hb5⟩;clear cB2 uR;obtain ⟨_,_,_,_,hA5,_⟩:=wz w hb5;obtain ⟨_,_⟩:=zf hb5 (w.heap.size+1);obtain ⟨_,_⟩:=zf hb5 w1.heap.size;clear hb5)
  | (go_at_call 52;refine (cF3 _).mono ?_;rintro r w6 ⟨vS,rfl,uS,hb6⟩;clear cF3;obtain ⟨_,_,_,_,hA6,_⟩:=wz w hb6;obtain ⟨_,_⟩:=zf hb6 (w.heap.size+1);obtain ⟨_,_⟩:=zf hb6 w1.heap.size;obtain ⟨_,_⟩:=zf hb6 w5.heap.size;clear hb6;have q62_0:w.heap.size<w6.heap.size+1+1:=(by omega);have q62_1:w.heap.size+1<w6.heap.size+1+1:=(by omega);have q62_2:w1.heap.size<w6.heap.size+1+1:=(by omega);have q62_3:w5.heap.size<w6.heap.size+1+1:=(by omega);have q62_4:w6.heap.size<w6.heap.size+1+1:=(by omega);have q62_5:w6.heap.size+1<w6.heap.size+1+1:=(by omega);have q63_6:w.heap.size<w6.heap.size+1+1+1:=(by omega);have q63_7:w.heap.size+1<w6.heap.size+1+1+1:=(by omega);have q63_8:w1.heap.size<w6.heap.size+1+1+1:=(by omega);have q63_9:w5.heap.size<w6.heap.size+1+1+1:=(by omega);have q63_10:w6.heap.size<w6.heap.size+1+1+1:=(by omega);have q63_11:w6.heap.size+1<w6.heap.size+1+1+1:=(by omega);have q64_12:w.heap.size<w6.heap.size+1+1+1+1:=(by omega);have q64_13:w.heap.size+1<w6.heap.size+1+1+1+1:=(by omega);have q64_14:w1.heap.size<w6.heap.size+1+1+1+1:=(by omega);have q64_15:w5.heap.size<w6.heap.size+1+1+1+1:=(by omega);have q64_16:w6.heap.size<w6.heap.size+1+1+1+1:=(by omega);have q64_17:w6.heap.size+1<w6.heap.size+1+1+1+1:=(by omega))
  | (go_at_call 53;refine (cM3 _ _ uS).mono ?_;rintro r w0 ⟨rfl,rfl⟩;clear cM3 uS))
 have uT:NV 4 Rr (.slice (some ⟨w6.heap.size+1,0,none⟩) 4 4) ((((w6.alloc (.cells #[.int .i64 1,.bool s,.bool false,.int .i64 0,.int .u64 0,.int .u64 0,.int .u64 0,.int .u64 0] 34)).alloc (.cells #[.int .u64 (W4 Rr 0),.int .u64 (W4 Rr 1),.int .u64 (W4 Rr 2),.int .u64 (W4 Rr 3)] 24)).alloc (.cells #[] 22)).alloc (.cells #[.int .u64 (lead:Int)] 22)):=nv_cells hU (by first|(simp;done)|(simp;omega)) (by go_simp) (by go_simp) (by go_simp) (by go_simp)
 have uL:NV 1 lead (.slice (some ⟨w6.heap.size+1+1+1,0,none⟩) 1 1) ((((w6.alloc (.cells #[.int .i64 1,.bool s,.bool false,.int .i64 0,.int .u64 0,.int .u64 0,.int .u64 0,.int .u64 0] 34)).alloc (.cells #[.int .u64 (W4 Rr 0),.int .u64 (W4 Rr 1),.int .u64 (W4 Rr 2),.int .u64 (W4 Rr 3)] 24)).alloc (.cells #[] 22)).alloc (.cells #[.int .u64 (lead:Int)] 22)):=nv_dec (by simp) rfl (by omega)
 go_region_with (first
  | (go_at_call 22;refine (cT _ _ (uL.next bgo)).mono ?_;rintro r w8 ⟨vt,rfl,ut,hb8⟩;replace hb8:=bnext (w0:=((((w6.alloc (.cells #[.int .i64 1,.bool s,.bool false,.int .i64 0,.int .u64 0,.int .u64 0,.int .u64 0,.int .u64 0] 34)).alloc (.cells #[.int .u64 (W4 Rr 0),.int .u64 (W4 Rr 1),.int .u64 (W4 Rr 2),.int .u64 (W4 Rr 3)] 24)).alloc (.cells #[] 22)).alloc (.cells #[.int .u64 (lead:Int)] 22))) bgo hb8;have uT8:=uT.next hb8;clear uT uL;obtain ⟨_,_,_,_,hA8,_⟩:=wz w hb8;obtain ⟨_,_⟩:=zf hb8 (w.heap.size+1);obtain ⟨_,_⟩:=zf hb8 w1.heap.size;obtain ⟨_,_⟩:=zf hb8 w5.heap.size;obtain ⟨_,_⟩:=zf hb8 w6.heap.size;obtain ⟨_,_⟩:=zf hb8 (w6.heap.size+1);clear hb8)
  | (go_at_call 21;refine (cA _ _ _ ut uT8).mono ?_;rintro r w10 ⟨vc,rfl,uc,hb10⟩;clear ut uT8;obtain ⟨_,_,_,_,hA10,_⟩:=wz w hb10;obtain ⟨_,_⟩:=zf hb10 (w.heap.size+1);obtain ⟨_,_⟩:=zf hb10 w1.heap.size;obtain ⟨_,_⟩:=zf hb10 w5.heap.size;obtain ⟨_,_⟩:=zf hb10 w6.heap.size;obtain ⟨_,_⟩:=zf hb10 (w6.heap.size+1);clear hb10))
 go_wp2_with (first
  | (go_at_call 26;refine (cQ _).mono ?_;rintro r w11 ⟨vq,rfl,uq,hb11⟩;have uc11:=uc.next hb11;clear uc;obtain ⟨_,_,_,_,hA11,_⟩:=wz w hb11;obtain ⟨_,_⟩:=zf hb11 (w.heap.size+1);obtain ⟨_,_⟩:=zf hb11 w1.heap.size;obtain ⟨_,_⟩:=zf hb11 w5.heap.size;obtain ⟨_,_⟩:=zf hb11 w6.heap.size;obtain ⟨_,_⟩:=zf hb11 (w6.heap.size+1);clear hb11)
  | (go_at_call 25;refine (cC _ _ _ uc11 uq).mono ?_;rintro r w0 ⟨rfl,rfl⟩))
 go_region_with (go_at_call 28;refine (cB _).mono ?_;rintro r w12 ⟨rfl,hb12⟩;replace hb12:=bnext (w0:=w11) bgo hb12;obtain ⟨_,_,_,_,hA12,_⟩:=wz w hb12;obtain ⟨_,_⟩:=zf hb12 (w.heap.size+1);obtain ⟨_,_⟩:=zf hb12 w1.heap.size;obtain ⟨_,_⟩:=zf hb12 w5.heap.size;obtain ⟨_,_⟩:=zf hb12 w6.heap.size;obtain ⟨_,_⟩:=zf hb12 (w6.heap.size+1);clear hb12)
 all_goals go_wp2
 all_goals exact bodyPost_ret (by simp only [results,Tryz.results80];go_simp) rfl ⟨rfl,bgo⟩
theorem vmn_pb (Q d1 H4 sgv:Int)(U D M C PP lead:Nat)
  (cO:∀ W,CB 20 #[.int .i64 n] W (.tuple #[IDec n nm wd pr ex le mo pa false,.int .i64 0]))
  (cS:∀ W,CB 62 #[IDec n nm wd pr ex le mo pa false] W (.tuple #[.int .i64 G,.int .i64 T,.int .i64 J]))
  (h30:(V==30)=false) (h31:(V==31)=false) (h24:¬ V<24)
  (hw2:(2:Int)^(wn+2)=H4) (hH4:1<=H4) (hH5:H4<=40000) (hF:bits .and .u64 ((A:Int)/2) (H4-1)=F) (h1:bits .and .u64 (A:Int) 1=d1) (hd:8+d1=ld) (hd0:0<=d1) (hd1:d1<=1)
  (hU:Rr<2^256) (cT:∀ W v,NV 1 lead v W->CE 22 #[v,.int .i64 T] W (NT 60000 M))
  (cA:∀ W v v',NT 60000 M v W->NV 4 Rr v' W->CE 21 #[v,v'] W (NV 70000 C))
  (hlead:ld=(lead:Int)) (cQ:∀ W,CE 26 #[.int .u64 10,.int .i64 pr] W (NV 50000 PP))
  (cC:∀ W v v',NV 70000 C v W->NV 50000 PP v' W->CQ 25 #[v,v'] W (.int .i64 sgv)) (hsv:¬ 0<=sgv)
  (cB:∀ W v,NV 70000 C v W->CB 28 #[v] W (A4 C)) :
  CB 80 #[.int .i64 n,A4 Bb] w (DV 1 s false (F+le) C):=by
 have hsm:=cell_set_map
 have hV2:(A:Int)/H=V:=by rw [← hH];exact hV
 unfold DV A4 at *
 go_enter Tryz.func80,Tryz.ntmps80
 go_wp2_with (first
  | (go_at_call 20;refine (cO _).mono ?_;rintro r w1 ⟨rfl,hb1⟩;obtain ⟨_,_,_,_,hA1,_⟩:=wz w hb1;obtain ⟨_,_⟩:=zf hb1 (w.heap.size+1);clear hb1)
  | (go_at_call 62;refine (cS _).mono ?_;rintro r w2 ⟨rfl,hb2⟩;obtain ⟨_,_,_,_,hA2,_⟩:=wz w hb2;obtain ⟨_,_⟩:=zf hb2 (w.heap.size+1);obtain ⟨_,_⟩:=zf hb2 w1.heap.size;clear hb2)
  | (go_at_call 52;refine (cF1 _).mono ?_;rintro r w3 ⟨vA,rfl,uA,hb3⟩;clear cF1;obtain ⟨_,_,_,_,hA3,_⟩:=wz w hb3;obtain ⟨_,_⟩:=zf hb3 (w.heap.size+1);obtain ⟨_,_⟩:=zf hb3 w1.heap.size;clear hb3)
  | (go_at_call 53;refine (cM1 _ _ uA).mono ?_;rintro r w0 ⟨rfl,rfl⟩;clear cM1 uA)
  | (go_at_call 52;refine (cF2 _).mono ?_;rintro r w4 ⟨vR,rfl,uR,hb4⟩;clear cF2;obtain ⟨_,_,_,_,hA4,_⟩:=wz w hb4;obtain ⟨_,_⟩:=zf hb4 (w.heap.size+1);obtain ⟨_,_⟩:=zf hb4 w1.heap.size;clear hb4)
  | (go_at_call 28;refine (cB2 _ _ uR).mono ?_;rintro r w5 ⟨rfl,hb5⟩;clear cB2 uR;obtain ⟨_,_,_,_,hA5,_⟩:=wz w hb5;obtain ⟨_,_⟩:=zf hb5 (w.heap.size+1);obtain ⟨_,_⟩:=zf hb5 w1.heap.size;clear hb5)
  | (go_at_call 52;refine (cF3 _).mono ?_;rintro r w6 ⟨vS,rfl,uS,hb6⟩;clear cF3;obtain ⟨_,_,_,_,hA6,_⟩:=wz w hb6;obtain ⟨_,_⟩:=zf hb6 (w.heap.size+1);obtain ⟨_,_⟩:=zf hb6 w1.heap.size;obtain ⟨_,_⟩:=zf hb6 w5.heap.size;clear hb6;have q62_0:w.heap.size<w6.heap.size+1+1:=(by omega);have q62_1:w.heap.size+1<w6.heap.size+1+1:=(by omega);have q62_2:w1.heap.size<w6.heap.size+1+1:=(by omega);have q62_3:w5.heap.size<w6.heap.size+1+1:=(by omega);have q62_4:w6.heap.size<w6.heap.size+1+1:=(by omega);have q62_5:w6.heap.size+1<w6.heap.size+1+1:=(by omega);have q63_6:w.heap.size<w6.heap.size+1+1+1:=(by omega);have q63_7:w.heap.size+1<w6.heap.size+1+1+1:=(by omega);have q63_8:w1.heap.size<w6.heap.size+1+1+1:=(by omega);have q63_9:w5.heap.size<w6.heap.size+1+1+1:=(by omega);have q63_10:w6.heap.size<w6.heap.size+1+1+1:=(by omega);have q63_11:w6.heap.size+1<w6.heap.size+1+1+1:=(by omega);have q64_12:w.heap.size<w6.heap.size+1+1+1+1:=(by omega);have q64_13:w.heap.size+1<w6.heap.size+1+1+1+1:=(by omega);have q64_14:w1.heap.size<w6.heap.size+1+1+1+1:=(by omega);have q64_15:w5.heap.size<w6.heap.size+1+1+1+1:=(by omega);have q64_16:w6.heap.size<w6.heap.size+1+1+1+1:=(by omega);have q64_17:w6.heap.size+1<w6.heap.size+1+1+1+1:=(by omega))
  | (go_at_call 53;refine (cM3 _ _ uS).mono ?_;rintro r w0 ⟨rfl,rfl⟩;clear cM3 uS))
 have uT:NV 4 Rr (.slice (some ⟨w6.heap.size+1,0,none⟩) 4 4) ((((w6.alloc (.cells #[.int .i64 1,.bool s,.bool false,.int .i64 0,.int .u64 0,.int .u64 0,.int .u64 0,.int .u64 0] 34)).alloc (.cells #[.int .u64 (W4 Rr 0),.int .u64 (W4 Rr 1),.int .u64 (W4 Rr 2),.int .u64 (W4 Rr 3)] 24)).alloc (.cells #[] 22)).alloc (.cells #[.int .u64 (lead:Int)] 22)):=nv_cells hU (by first|(simp;done)|(simp;omega)) (by go_simp) (by go_simp) (by go_simp) (by go_simp)
 have uL:NV 1 lead (.slice (some ⟨w6.heap.size+1+1+1,0,none⟩) 1 1) ((((w6.alloc (.cells #[.int .i64 1,.bool s,.bool false,.int .i64 0,.int .u64 0,.int .u64 0,.int .u64 0,.int .u64 0] 34)).alloc (.cells #[.int .u64 (W4 Rr 0),.int .u64 (W4 Rr 1),.int .u64 (W4 Rr 2),.int .u64 (W4 Rr 3)] 24)).alloc (.cells #[] 22)).alloc (.cells #[.int .u64 (lead:Int)] 22)):=nv_dec (by simp) rfl (by omega)
 go_region_with (first
  | (go_at_call 22;refine (cT _ _ (uL.next bgo)).mono ?_;rintro r w8 ⟨vt,rfl,ut,hb8⟩;replace hb8:=bnext (w0:=((((w6.alloc (.cells #[.int .i64 1,.bool s,.bool false,.int .i64 0,.int .u64 0,.int .u64 0,.int .u64 0,.int .u64 0] 34)).alloc (.cells #[.int .u64 (W4 Rr 0),.int .u64 (W4 Rr 1),.int .u64 (W4 Rr 2),.int .u64 (W4 Rr 3)] 24)).alloc (.cells #[] 22)).alloc (.cells #[.int .u64 (lead:Int)] 22))) bgo hb8;have uT8:=uT.next hb8;clear uT uL;obtain ⟨_,_,_,_,hA8,_⟩:=wz w hb8;obtain ⟨_,_⟩:=zf hb8 (w.heap.size+1);obtain ⟨_,_⟩:=zf hb8 w1.heap.size;obtain ⟨_,_⟩:=zf hb8 w5.heap.size;obtain ⟨_,_⟩:=zf hb8 w6.heap.size;obtain ⟨_,_⟩:=zf hb8 (w6.heap.size+1);clear hb8)
  | (go_at_call 21;refine (cA _ _ _ ut uT8).mono ?_;rintro r w10 ⟨vc,rfl,uc,hb10⟩;clear ut uT8;obtain ⟨_,_,_,_,hA10,_⟩:=wz w hb10;obtain ⟨_,_⟩:=zf hb10 (w.heap.size+1);obtain ⟨_,_⟩:=zf hb10 w1.heap.size;obtain ⟨_,_⟩:=zf hb10 w5.heap.size;obtain ⟨_,_⟩:=zf hb10 w6.heap.size;obtain ⟨_,_⟩:=zf hb10 (w6.heap.size+1);clear hb10))
 go_wp2_with (first
  | (go_at_call 26;refine (cQ _).mono ?_;rintro r w11 ⟨vq,rfl,uq,hb11⟩;have uc11:=uc.next hb11;clear uc;obtain ⟨_,_,_,_,hA11,_⟩:=wz w hb11;obtain ⟨_,_⟩:=zf hb11 (w.heap.size+1);obtain ⟨_,_⟩:=zf hb11 w1.heap.size;obtain ⟨_,_⟩:=zf hb11 w5.heap.size;obtain ⟨_,_⟩:=zf hb11 w6.heap.size;obtain ⟨_,_⟩:=zf hb11 (w6.heap.size+1);clear hb11)
  | (go_at_call 25;refine (cC _ _ _ uc11 uq).mono ?_;rintro r w0 ⟨rfl,rfl⟩))
 go_region_with (go_at_call 28;refine (cB _ _ (uc11.next bgo)).mono ?_;rintro r w12 ⟨rfl,hb12⟩;replace hb12:=bnext (w0:=w11) bgo hb12;obtain ⟨_,_,_,_,hA12,_⟩:=wz w hb12;obtain ⟨_,_⟩:=zf hb12 (w.heap.size+1);obtain ⟨_,_⟩:=zf hb12 w1.heap.size;obtain ⟨_,_⟩:=zf hb12 w5.heap.size;obtain ⟨_,_⟩:=zf hb12 w6.heap.size;obtain ⟨_,_⟩:=zf hb12 (w6.heap.size+1);clear hb12)
 all_goals go_wp2
 all_goals exact bodyPost_ret (by simp only [results,Tryz.results80];go_simp) rfl ⟨rfl,bgo⟩
theorem vmn_pbo (Q d1 H4 sgv:Int)(U D M C PP lead:Nat)
  (cO:∀ W,CB 20 #[.int .i64 n] W (.tuple #[IDec n nm wd pr ex le mo pa false,.int .i64 0]))
  (cS:∀ W,CB 62 #[IDec n nm wd pr ex le mo pa false] W (.tuple #[.int .i64 G,.int .i64 T,.int .i64 J]))
  (h30:(V==30)=false) (h31:(V==31)=false) (h24:¬ V<24)
  (hw2:(2:Int)^(wn+2)=H4) (hH4:1<=H4) (hH5:H4<=40000) (hF:bits .and .u64 ((A:Int)/2) (H4-1)=F) (h1:bits .and .u64 (A:Int) 1=d1) (hd:8+d1=ld) (hd0:0<=d1) (hd1:d1<=1)
  (hU:Rr<2^256) (cT:∀ W v,NV 1 lead v W->CE 22 #[v,.int .i64 T] W (NT 60000 M))
  (cA:∀ W v v',NT 60000 M v W->NV 4 Rr v' W->CE 21 #[v,v'] W (NV 70000 C))
  (hlead:ld=(lead:Int)) (cQ:∀ W,CE 26 #[.int .u64 10,.int .i64 pr] W (NV 50000 PP))
  (cC:∀ W v v',NV 70000 C v W->NV 50000 PP v' W->CQ 25 #[v,v'] W (.int .i64 sgv)) (hsv:0<=sgv)
  (cB:∀ W,CB 28 #[.slice none 0 0] W (A4 0)) :
  CB 80 #[.int .i64 n,A4 Bb] w (.agg #[.int .i64 1,.bool s,.bool false,.int .i64 (F+le),.int .u64 0,.int .u64 0,.int .u64 0,.int .u64 0]):=by
 have hsm:=cell_set_map
 have hV2:(A:Int)/H=V:=by rw [← hH];exact hV
 rw [Z4_eq] at cB
 unfold DV A4 at *
 go_enter Tryz.func80,Tryz.ntmps80
 go_wp2_with (first
  | (go_at_call 20;refine (cO _).mono ?_;rintro r w1 ⟨rfl,hb1⟩;obtain ⟨_,_,_,_,hA1,_⟩:=wz w hb1;obtain ⟨_,_⟩:=zf hb1 (w.heap.size+1);clear hb1)
  | (go_at_call 62;refine (cS _).mono ?_;rintro r w2 ⟨rfl,hb2⟩;obtain ⟨_,_,_,_,hA2,_⟩:=wz w hb2;obtain ⟨_,_⟩:=zf hb2 (w.heap.size+1);obtain ⟨_,_⟩:=zf hb2 w1.heap.size;clear hb2)
  | (go_at_call 52;refine (cF1 _).mono ?_;rintro r w3 ⟨vA,rfl,uA,hb3⟩;clear cF1;obtain ⟨_,_,_,_,hA3,_⟩:=wz w hb3;obtain ⟨_,_⟩:=zf hb3 (w.heap.size+1);obtain ⟨_,_⟩:=zf hb3 w1.heap.size;clear hb3)
  | (go_at_call 53;refine (cM1 _ _ uA).mono ?_;rintro r w0 ⟨rfl,rfl⟩;clear cM1 uA)
  | (go_at_call 52;refine (cF2 _).mono ?_;rintro r w4 ⟨vR,rfl,uR,hb4⟩;clear cF2;obtain ⟨_,_,_,_,hA4,_⟩:=wz w hb4;obtain ⟨_,_⟩:=zf hb4 (w.heap.size+1);obtain ⟨_,_⟩:=zf hb4 w1.heap.size;clear hb4)
  | (go_at_call 28;refine (cB2 _ _ uR).mono ?_;rintro r w5 ⟨rfl,hb5⟩;clear cB2 uR;obtain ⟨_,_,_,_,hA5,_⟩:=wz w hb5;obtain ⟨_,_⟩:=zf hb5 (w.heap.size+1);obtain ⟨_,_⟩:=zf hb5 w1.heap.size;clear hb5)
  | (go_at_call 52;refine (cF3 _).mono ?_;rintro r w6 ⟨vS,rfl,uS,hb6⟩;clear cF3;obtain ⟨_,_,_,_,hA6,_⟩:=wz w hb6;obtain ⟨_,_⟩:=zf hb6 (w.heap.size+1);obtain ⟨_,_⟩:=zf hb6 w1.heap.size;obtain ⟨_,_⟩:=zf hb6 w5.heap.size;clear hb6;have q62_0:w.heap.size<w6.heap.size+1+1:=(by omega);have q62_1:w.heap.size+1<w6.heap.size+1+1:=(by omega);have q62_2:w1.heap.size<w6.heap.size+1+1:=(by omega);have q62_3:w5.heap.size<w6.heap.size+1+1:=(by omega);have q62_4:w6.heap.size<w6.heap.size+1+1:=(by omega);have q62_5:w6.heap.size+1<w6.heap.size+1+1:=(by omega);have q63_6:w.heap.size<w6.heap.size+1+1+1:=(by omega);have q63_7:w.heap.size+1<w6.heap.size+1+1+1:=(by omega);have q63_8:w1.heap.size<w6.heap.size+1+1+1:=(by omega);have q63_9:w5.heap.size<w6.heap.size+1+1+1:=(by omega);have q63_10:w6.heap.size<w6.heap.size+1+1+1:=(by omega);have q63_11:w6.heap.size+1<w6.heap.size+1+1+1:=(by omega);have q64_12:w.heap.size<w6.heap.size+1+1+1+1:=(by omega);have q64_13:w.heap.size+1<w6.heap.size+1+1+1+1:=(by omega);have q64_14:w1.heap.size<w6.heap.size+1+1+1+1:=(by omega);have q64_15:w5.heap.size<w6.heap.size+1+1+1+1:=(by omega);have q64_16:w6.heap.size<w6.heap.size+1+1+1+1:=(by omega);have q64_17:w6.heap.size+1<w6.heap.size+1+1+1+1:=(by omega))
  | (go_at_call 53;refine (cM3 _ _ uS).mono ?_;rintro r w0 ⟨rfl,rfl⟩;clear cM3 uS))
 have uT:NV 4 Rr (.slice (some ⟨w6.heap.size+1,0,none⟩) 4 4) ((((w6.alloc (.cells #[.int .i64 1,.bool s,.bool false,.int .i64 0,.int .u64 0,.int .u64 0,.int .u64 0,.int .u64 0] 34)).alloc (.cells #[.int .u64 (W4 Rr 0),.int .u64 (W4 Rr 1),.int .u64 (W4 Rr 2),.int .u64 (W4 Rr 3)] 24)).alloc (.cells #[] 22)).alloc (.cells #[.int .u64 (lead:Int)] 22)):=nv_cells hU (by first|(simp;done)|(simp;omega)) (by go_simp) (by go_simp) (by go_simp) (by go_simp)
 have uL:NV 1 lead (.slice (some ⟨w6.heap.size+1+1+1,0,none⟩) 1 1) ((((w6.alloc (.cells #[.int .i64 1,.bool s,.bool false,.int .i64 0,.int .u64 0,.int .u64 0,.int .u64 0,.int .u64 0] 34)).alloc (.cells #[.int .u64 (W4 Rr 0),.int .u64 (W4 Rr 1),.int .u64 (W4 Rr 2),.int .u64 (W4 Rr 3)] 24)).alloc (.cells #[] 22)).alloc (.cells #[.int .u64 (lead:Int)] 22)):=nv_dec (by simp) rfl (by omega)
 go_region_with (first
  | (go_at_call 22;refine (cT _ _ (uL.next bgo)).mono ?_;rintro r w8 ⟨vt,rfl,ut,hb8⟩;replace hb8:=bnext (w0:=((((w6.alloc (.cells #[.int .i64 1,.bool s,.bool false,.int .i64 0,.int .u64 0,.int .u64 0,.int .u64 0,.int .u64 0] 34)).alloc (.cells #[.int .u64 (W4 Rr 0),.int .u64 (W4 Rr 1),.int .u64 (W4 Rr 2),.int .u64 (W4 Rr 3)] 24)).alloc (.cells #[] 22)).alloc (.cells #[.int .u64 (lead:Int)] 22))) bgo hb8;have uT8:=uT.next hb8;clear uT uL;obtain ⟨_,_,_,_,hA8,_⟩:=wz w hb8;obtain ⟨_,_⟩:=zf hb8 (w.heap.size+1);obtain ⟨_,_⟩:=zf hb8 w1.heap.size;obtain ⟨_,_⟩:=zf hb8 w5.heap.size;obtain ⟨_,_⟩:=zf hb8 w6.heap.size;obtain ⟨_,_⟩:=zf hb8 (w6.heap.size+1);clear hb8)
  | (go_at_call 21;refine (cA _ _ _ ut uT8).mono ?_;rintro r w10 ⟨vc,rfl,uc,hb10⟩;clear ut uT8;obtain ⟨_,_,_,_,hA10,_⟩:=wz w hb10;obtain ⟨_,_⟩:=zf hb10 (w.heap.size+1);obtain ⟨_,_⟩:=zf hb10 w1.heap.size;obtain ⟨_,_⟩:=zf hb10 w5.heap.size;obtain ⟨_,_⟩:=zf hb10 w6.heap.size;obtain ⟨_,_⟩:=zf hb10 (w6.heap.size+1);clear hb10))
 go_wp2_with (first
  | (go_at_call 26;refine (cQ _).mono ?_;rintro r w11 ⟨vq,rfl,uq,hb11⟩;have uc11:=uc.next hb11;clear uc;obtain ⟨_,_,_,_,hA11,_⟩:=wz w hb11;obtain ⟨_,_⟩:=zf hb11 (w.heap.size+1);obtain ⟨_,_⟩:=zf hb11 w1.heap.size;obtain ⟨_,_⟩:=zf hb11 w5.heap.size;obtain ⟨_,_⟩:=zf hb11 w6.heap.size;obtain ⟨_,_⟩:=zf hb11 (w6.heap.size+1);clear hb11)
  | (go_at_call 25;refine (cC _ _ _ uc11 uq).mono ?_;rintro r w0 ⟨rfl,rfl⟩))
 go_region_with (go_at_call 28;refine (cB _).mono ?_;rintro r w12 ⟨rfl,hb12⟩;replace hb12:=bnext (w0:=w11) bgo hb12;obtain ⟨_,_,_,_,hA12,_⟩:=wz w hb12;obtain ⟨_,_⟩:=zf hb12 (w.heap.size+1);obtain ⟨_,_⟩:=zf hb12 w1.heap.size;obtain ⟨_,_⟩:=zf hb12 w5.heap.size;obtain ⟨_,_⟩:=zf hb12 w6.heap.size;obtain ⟨_,_⟩:=zf hb12 (w6.heap.size+1);clear hb12)
 all_goals go_wp2
 all_goals exact bodyPost_ret (by simp only [results,Tryz.results80];go_simp) rfl ⟨rfl,bgo⟩
end
end
end Go.Proofs.YtgknbdehlmlipaaGreatDoor
