/-
  Texts that the proof leans on.
-/
import Derived.Test.YtgknbdehlmlipaaGreatDoorJ2
import Derived.Test.YtgknbdehlmlipaaGreatDoorJ37
import Derived.Test.YtgknbdehlmlipaaGreatDoorJ24
import Derived.Test.YtgknbdehlmlipaaGreatDoorJ32
import Derived.Test.YtgknbdehlmlipaaGreatDoorJ7
import Derived.Test.YtgknbdehlmlipaaGreatDoorJ34
set_option maxHeartbeats 8000000
set_option linter.unusedVariables false
set_option linter.unusedSectionVars false
set_option linter.unusedSimpArgs false
set_option maxRecDepth 20000
namespace Go.Proofs.YtgknbdehlmlipaaGreatDoor
open Go.RowKit
section
attribute [local irreducible] W4 NT NV
section
variable {a:Act}{w:World}{K:Act->World->Prop}{Q:Exit->Act->World->Prop}{d p:Nat}{ty:TypeId}{pos:String}{after:Array Edge}{gd:Option (Nat×Bool)}
theorem og_mulV {x c:Int}(h0:0<=x)(h1:x<=1000)(hc0:0<=c)(hc1:c<=1000)(hc2:0<=c*x)(hc3:c*x<=1000000)(hx:slot a p=.int .i64 x)(hK:K (a.put (some d) (.int .i64 (c*x))) w):Oper.wp Tryz.prog { dst:=some d,op:=Op.binOp BinOp.mul 3 (Operand.const (.int .i64 c)) (Operand.tmp p) 3,type:=ty,pos:=pos,after:=after,guard:=gd } a w K Q:=by
 unfold slot at hx
 have e:IntKind.i64.wrap (c*x)=c*x:=by
  rw [IntKind.wrap_i64]
  generalize c*x=y at *
  omega
 simp [go_sem,hx,e]
 exact hK
end
noncomputable def ops28:List Oper:=(Tryz.f80.body.bind (findR 28)).getD []
def slots28:List Nat:=[146,147,148,149,150,151,152]
def slotsA28:List Nat:=[146,147,148,149,150,151,152,16]
theorem put_sizeV {a:Act}{d:Nat}{v:Value}:(a.put (some d) v).tmps.size=a.tmps.size:=by simp [Act.put]
theorem reg28 {gl gt lead D M C U:Nat}{J:Int}{a0:Act}{ws:World}{Q:Exit->Act->World->Prop}(hP:∀ c a d v w,Q (.panic c) (Act.put a d v) w->Q (.panic c) a w)(hs:a0.tmps.size=174)
  (g16:slot a0 16=.slice (some ⟨gl,0,none⟩) 1 1) (g9:slot a0 9=.int .i64 J) (g14:slot a0 14=.pointer (some ⟨gt,0,none⟩)) (hJ0:0<=J) (hJ1:J<=11)
  (uL:NV 1 lead (.slice (some ⟨gl,0,none⟩) 1 1) ws) (uT:NV 4 U (.slice (some ⟨gt,0,none⟩) 4 4) ws)
  (cP:∀ W,CE 26 #[.int .u64 10,.int .i64 (3*J)] W (NV 50000 D))
  (cT:∀ W v v',NV 1 lead v W->NV 50000 D v' W->CE 24 #[v,v'] W (NT 60000 M))
  (cA:∀ W v v',NT 60000 M v W->NV 4 U v' W->CE 21 #[v,v'] W (NV 70000 C))
  (hQ:∀ (a:Act) (w:World) (u:Value),slot a 16=u->NV 70000 C u w->a.tmps.size=174->a.defers=a0.defers->(∀ t,(∀ i,i<8->slotsA28.getD i 0≠t)->slot a t=slot a0 t)->Below ws.heap.size ws w->Q .normal a w) :
  (Code.region 28 ops28.toArray true).wp Tryz.prog Q a0 ws:=by
 refine wp_region_memr 7 174 slots28 [iW (.slice (some ⟨gl,0,none⟩) 1 1),iW (.int .i64 J),iW (.int .i64 (3*J)),NV 50000 D,NT 60000 M,iW (.slice (some ⟨gt,0,none⟩) 4 4),NV 70000 C] (fun w w'=>Below w.heap.size w w') (fun L f w=>Below ws.heap.size ws w) (by kernel_rfl) (by kernel_rfl) hP (by kernel_rfl) hs ?_ (Below.refl _ _).drew ?_ ?_
 ·intro p hp
  simp only [List.mem_cons,List.not_mem_nil,or_false] at hp
  rcases hp with rfl|rfl|rfl|rfl|rfl|rfl|rfl
  all_goals first|exact fun _ _ _ h _=>h|exact fun _ _ _ h hb=>h.next hb
 ·intro L i o a w hi ho hL hcl he hM hF hv
  have f16:slot a 16=.slice (some ⟨gl,0,none⟩) 1 1:=(hF 16 (by decide)).trans g16
  have f9:slot a 9=.int .i64 J:=(hF 9 (by decide)).trans g9
  have f14:slot a 14=.pointer (some ⟨gt,0,none⟩):=(hF 14 (by decide)).trans g14
  have hor:i=0∨i=1∨i=2∨i=3∨i=4∨i=5∨i=6:=by omega
  rcases hor with rfl|rfl|rfl|rfl|rfl|rfl|rfl
  ·obtain rfl:=Option.some.inj (show ops28[0]?=some o from ho)
   exact og_mv f16 ⟨_,rfl,rfl,Below.refl _ _,hM⟩
  ·obtain rfl:=Option.some.inj (show ops28[1]?=some o from ho)
   exact og_mv f9 ⟨_,rfl,rfl,Below.refl _ _,hM⟩
  ·obtain rfl:=Option.some.inj (show ops28[2]?=some o from ho)
   exact og_mulV hJ0 (by omega) (by decide) (by decide) (by omega) (by omega) (hv 1 (by decide) rfl (he ⟨1,.data⟩ (by simp) rfl):slot a 147=.int .i64 J) ⟨_,rfl,rfl,Below.refl _ _,hM⟩
  ·obtain rfl:=Option.some.inj (show ops28[3]?=some o from ho)
   refine og_pow (u0:=.int .u64 10) (hv 2 (by decide) rfl (he ⟨2,.data⟩ (by simp) rfl):slot a 148=.int .i64 (3*J)) ((cP w).mono ?_)
   rintro e w' ⟨v,rfl,hSv,hb⟩
   exact ⟨v,rfl,_,rfl,hSv,hb,bnx hM hb⟩
  ·obtain rfl:=Option.some.inj (show ops28[4]?=some o from ho)
   refine og_c2 (by simp [go_sem]) (hv 0 (by decide) rfl (he ⟨0,.data⟩ (by simp) rfl):slot a 146=.slice (some ⟨gl,0,none⟩) 1 1) rfl ((cT w _ _ (uL.next hM) (hv 3 (by decide) rfl (he ⟨3,.data⟩ (by simp) rfl))).mono ?_)
   rintro e w' ⟨v,rfl,hSv,hb⟩
   exact ⟨v,rfl,_,rfl,hSv,hb,bnx hM hb⟩
  ·obtain rfl:=Option.some.inj (show ops28[5]?=some o from ho)
   exact og_slB f14 ⟨_,rfl,rfl,Below.refl _ _,hM⟩
  ·obtain rfl:=Option.some.inj (show ops28[6]?=some o from ho)
   refine og_c2 (by simp [go_sem]) rfl (hv 5 (by decide) rfl (he ⟨5,.data⟩ (by simp) rfl):slot a 151=.slice (some ⟨gt,0,none⟩) 4 4) ((cA w _ _ (hv 4 (by decide) rfl (he ⟨4,.data⟩ (by simp) rfl)) (uT.next hM)).mono ?_)
   rintro e w' ⟨v,rfl,hSv,hb⟩
   exact ⟨v,rfl,_,rfl,hSv,hb,bnx hM hb⟩
 ·intro L a w hL hM hsz hdf hF hv
  have hq:=(hv 6 (by decide) rfl:NV 70000 C (slot a 152) w)
  refine BigFrame.wpList_want rfl fun K hK=>og_as rfl (hK _ _ ?_)
  clear K hK
  refine hQ _ _ _ (slot_put (by omega)) hq (by simp only [put_sizeV];exact hsz) hdf (fun t ht=>?_) hM
  rw [slot_put_ne (show 16≠t from ht 7 (by decide))]
  exact hF t fun i hi=>by
   have:=ht i (by omega)
   have hor:i=0∨i=1∨i=2∨i=3∨i=4∨i=5∨i=6:=by omega
   rcases hor with rfl|rfl|rfl|rfl|rfl|rfl|rfl<;>exact this
end
section
attribute [local irreducible] W4 NT NV
section
variable (n:Int)(nm:ByteArray)(wd pr ex le mo pa:Int)(G T J:Int)(Bb A Rr sN:Nat)(V:Int)(s:Bool)(wn:Nat)(w:World)
 (hG0:11<=G) (hG1:G<=100) (hT0:0<=T) (hT1:T<=200) (hJ0:0<=J) (hJ1:J<=11) (hAb:(A:Int)<=200000)
 (cF1:∀ W,CE 52 #[A4 Bb,.int .i64 T,.int .i64 G] W (NT 19 A))
 (cF2:∀ W,CE 52 #[A4 Bb,.int .i64 0,.int .i64 T] W (NT 19 Rr))
 (cF3:∀ W,CE 52 #[A4 Bb,.int .i64 (T+G),.int .i64 1] W (NT 19 sN))
 (cM1:∀ W v,NT 19 A v W->CQ 53 #[v] W (.int .i64 (A:Int)))
 (cM3:∀ W v,NT 19 sN v W->CQ 53 #[v] W (.int .i64 (sN:Int)))
 (cB2:∀ W v,NT 19 Rr v W->CB 28 #[v] W (A4 Rr))
 (hw:G-5=(wn:Int)) (hwn:wn<=12) (hV:(A:Int)/2^wn=V) (hV0:0<=V) (hV1:V<=31) (hsg:((sN:Int)==1)=s)
include hG0 hG1 hT0 hT1 hJ0 hJ1 hAb cF1 cF2 cF3 cM1 cM3 cB2 hw hwn hV hV0 hV1 hsg
variable (H L F ld:Int)(hH:(2:Int)^wn=H)(hH0:1<=H)(hH1:H<=4096)(hld0:0<=ld)(hld1:ld<=9)(hF0:0<=F)(hF1:F<=20000)(hl0:-30000<=le)(hl1:le<=30000)
include hH hH0 hH1 hld0 hld1 hF0 hF1 hl0 hl1
theorem vmn_ds (Q d1 H4 sgv:Int)(U D M C PP lead:Nat)
  (cO:∀ W,CB 20 #[.int .i64 n] W (.tuple #[IDec n nm wd pr ex le mo pa true,.int .i64 0]))
  (cS:∀ W,CB 62 #[IDec n nm wd pr ex le mo pa true] W (.tuple #[.int .i64 G,.int .i64 T,.int .i64 J]))
  (h30:(V==30)=false) (h31:(V==31)=false) (h24:V<24)
  (cU:∀ W,CB 109 #[A4 Rr,.int .i64 J] W (.tuple #[A4 U,.int .i64 0]))
  (hU:U<2^256) (hL:bits .and .u64 (A:Int) (H-1)=L) (hQH0:0<=Q*H) (hQH1:Q*H<=200000) (hF:bits .or .u64 (Q*H) L=F) (hQ:V/8=Q) (h1:bits .and .u64 V 7=ld)
  (cP:∀ W,CE 26 #[.int .u64 10,.int .i64 (3*J)] W (NV 50000 D))
  (cT:∀ W v v',NV 1 lead v W->NV 50000 D v' W->CE 24 #[v,v'] W (NT 60000 M))
  (cA:∀ W v v',NT 60000 M v W->NV 4 U v' W->CE 21 #[v,v'] W (NV 70000 C))
  (hlead:ld=(lead:Int)) (cQ:∀ W,CE 26 #[.int .u64 10,.int .i64 pr] W (NV 50000 PP))
  (cC:∀ W v v',NV 70000 C v W->NV 50000 PP v' W->CQ 25 #[v,v'] W (.int .i64 sgv)) (hsv:¬ 0<=sgv)
  (cB:∀ W v,NV 70000 C v W->CB 28 #[v] W (A4 C)) :
  CB 80 #[.int .i64 n,A4 Bb] w (DV 1 s false (F+le) C):=by
 have hsm:=cell_set_map
 have hV2:(A:Int)/H=V:=by rw [← hH];exact hV
 unfold DV A4 at *
 go_enter Tryz.func80,Tryz.ntmps80
 go_wp2_with (first
  | (go_at_call 20;refine (cO _).mono ?_;rintro r w1 ⟨rfl,hb1⟩;obtain ⟨_,_,_,_,hA1,_⟩:=wz w hb1;obtain ⟨_,_⟩:=zf hb1 (w.heap.size+1);clear hb1)
  | (go_at_call 62;refine (cS _).mono ?_;rintro r w2 ⟨rfl,hb2⟩;obtain ⟨_,_,_,_,hA2,_⟩:=wz w hb2;obtain ⟨_,_⟩:=zf hb2 (w.heap.size+1);obtain ⟨_,_⟩:=zf hb2 w1.heap.size;clear hb2)
  | (go_at_call 52;refine (cF1 _).mono ?_;rintro r w3 ⟨vA,rfl,uA,hb3⟩;clear cF1;obtain ⟨_,_,_,_,hA3,_⟩:=wz w hb3;obtain ⟨_,_⟩:=zf hb3 (w.heap.size+1);obtain ⟨_,_⟩:=zf hb3 w1.heap.size;clear hb3)
  | (go_at_call 53;refine (cM1 _ _ uA).mono ?_;rintro r w0 ⟨rfl,rfl⟩;clear cM1 uA)
  | (go_at_call 52;refine (cF2 _).mono ?_;rintro r w4 ⟨vR,rfl,uR,hb4⟩;clear cF2;obtain ⟨_,_,_,_,hA4,_⟩:=wz w hb4;obtain ⟨_,_⟩:=zf hb4 (w.heap.size+1);obtain ⟨_,_⟩:=zf hb4 w1.heap.size;clear hb4)
  | (go_at_call 28;refine (cB2 _ _ uR).mono ?_;rintro r w5 ⟨rfl,hb5⟩;clear cB2 uR;obtain ⟨_,_,_,_,hA5,_⟩:=wz w hb5;obtain ⟨_,_⟩:=zf hb5 (w.heap.size+1);obtain ⟨_,_⟩:=zf hb5 w1.heap.size;clear hb5)
  | (go_at_call 52;refine (cF3 _).mono ?_;rintro r w6 ⟨vS,rfl,uS,hb6⟩;clear cF3;obtain ⟨_,_,_,_,hA6,_⟩:=wz w hb6;obtain ⟨_,_⟩:=zf hb6 (w.heap.size+1);obtain ⟨_,_⟩:=zf hb6 w1.heap.size;obtain ⟨_,_⟩:=zf hb6 w5.heap.size;clear hb6;have q62_0:w.heap.size<w6.heap.size+1+1:=(by omega);have q62_1:w.heap.size+1<w6.heap.size+1+1:=(by omega);have q62_2:w1.heap.size<w6.heap.size+1+1:=(by omega);have q62_3:w5.heap.size<w6.heap.size+1+1:=(by omega);have q62_4:w6.heap.size<w6.heap.size+1+1:=(by omega);have q62_5:w6.heap.size+1<w6.heap.size+1+1:=(by omega))
  | (go_at_call 53;refine (cM3 _ _ uS).mono ?_;rintro r w0 ⟨rfl,rfl⟩;clear cM3 uS)
  | (go_at_call 109;refine (cU _).mono ?_;rintro r w7 ⟨rfl,hb7⟩;obtain ⟨_,_,_,_,hA7,_⟩:=wz w hb7;obtain ⟨_,_⟩:=zf hb7 (w.heap.size+1);obtain ⟨_,_⟩:=zf hb7 w1.heap.size;obtain ⟨_,_⟩:=zf hb7 w5.heap.size;obtain ⟨_,_⟩:=zf hb7 w6.heap.size;obtain ⟨_,_⟩:=zf hb7 (w6.heap.size+1);clear hb7;have q71_0:w.heap.size<w7.heap.size+1:=(by omega);have q71_1:w.heap.size+1<w7.heap.size+1:=(by omega);have q71_2:w1.heap.size<w7.heap.size+1:=(by omega);have q71_3:w5.heap.size<w7.heap.size+1:=(by omega);have q71_4:w6.heap.size<w7.heap.size+1:=(by omega);have q71_5:w6.heap.size+1<w7.heap.size+1:=(by omega);have q72_6:w.heap.size<w7.heap.size+1+1:=(by omega);have q72_7:w.heap.size+1<w7.heap.size+1+1:=(by omega);have q72_8:w1.heap.size<w7.heap.size+1+1:=(by omega);have q72_9:w5.heap.size<w7.heap.size+1+1:=(by omega);have q72_10:w6.heap.size<w7.heap.size+1+1:=(by omega);have q72_11:w6.heap.size+1<w7.heap.size+1+1:=(by omega)))
 have uT:NV 4 U (.slice (some ⟨w6.heap.size+1,0,none⟩) 4 4) (((put4C w7 (w6.heap.size+1) U).alloc (.cells #[] 22)).alloc (.cells #[.int .u64 (lead:Int)] 22)):=nv_cells hU (by first|(simp;done)|(simp;omega)) (by go_simp) (by go_simp) (by go_simp) (by go_simp)
 have uL:NV 1 lead (.slice (some ⟨w7.heap.size+1,0,none⟩) 1 1) (((put4C w7 (w6.heap.size+1) U).alloc (.cells #[] 22)).alloc (.cells #[.int .u64 (lead:Int)] 22)):=nv_dec (by simp) rfl (by omega)
 refine reg28 (gl:=w7.heap.size+1) (gt:=w6.heap.size+1) (lead:=lead) (D:=D) (M:=M) (C:=C) (U:=U) (J:=J) (fun _ _ d _ _ h=>by cases d<;>exact h) rfl rfl rfl rfl hJ0 hJ1 uL uT cP cT cA ?_
 intro a1 w10 vc h16 uc hsz hdf hF10 hb10
 have ha:=act_of slotsA28 8 rfl hsz hdf hF10
 rw [ha]
 simp only [slotsA28,List.foldl_cons,List.foldl_nil,Act.put,List.setIfInBounds_toArray,List.set_cons_succ,List.set_cons_zero,h16]
 generalize slot a1 146=s146
 generalize slot a1 147=s147
 generalize slot a1 148=s148
 generalize slot a1 149=s149
 generalize slot a1 150=s150
 generalize slot a1 151=s151
 generalize slot a1 152=s152
 clear ha h16 hsz hdf hF10 uT uL cP cT cA
 obtain ⟨_,_,_,_,hA10,_⟩:=wz w hb10;obtain ⟨_,_⟩:=zf hb10 (w.heap.size+1);obtain ⟨_,_⟩:=zf hb10 w1.heap.size;obtain ⟨_,_⟩:=zf hb10 w5.heap.size;obtain ⟨_,_⟩:=zf hb10 w6.heap.size;obtain ⟨_,_⟩:=zf hb10 (w6.heap.size+1);clear hb10
 go_wp2_with (first
  | (go_at_call 26;refine (cQ _).mono ?_;rintro r w11 ⟨vq,rfl,uq,hb11⟩;have uc11:=uc.next hb11;clear uc;obtain ⟨_,_,_,_,hA11,_⟩:=wz w hb11;obtain ⟨_,_⟩:=zf hb11 (w.heap.size+1);obtain ⟨_,_⟩:=zf hb11 w1.heap.size;obtain ⟨_,_⟩:=zf hb11 w5.heap.size;obtain ⟨_,_⟩:=zf hb11 w6.heap.size;obtain ⟨_,_⟩:=zf hb11 (w6.heap.size+1);clear hb11)
  | (go_at_call 25;refine (cC _ _ _ uc11 uq).mono ?_;rintro r w0 ⟨rfl,rfl⟩))
 go_region_with (go_at_call 28;refine (cB _ _ (uc11.next bgo)).mono ?_;rintro r w12 ⟨rfl,hb12⟩;replace hb12:=bnext (w0:=w11) bgo hb12;obtain ⟨_,_,_,_,hA12,_⟩:=wz w hb12;obtain ⟨_,_⟩:=zf hb12 (w.heap.size+1);obtain ⟨_,_⟩:=zf hb12 w1.heap.size;obtain ⟨_,_⟩:=zf hb12 w5.heap.size;obtain ⟨_,_⟩:=zf hb12 w6.heap.size;obtain ⟨_,_⟩:=zf hb12 (w6.heap.size+1);clear hb12)
 all_goals go_wp2
 all_goals exact bodyPost_ret (by simp only [results,Tryz.results80];go_simp) rfl ⟨rfl,bgo⟩
theorem vmn_db (Q d1 H4 sgv:Int)(U D M C PP lead:Nat)
  (cO:∀ W,CB 20 #[.int .i64 n] W (.tuple #[IDec n nm wd pr ex le mo pa true,.int .i64 0]))
  (cS:∀ W,CB 62 #[IDec n nm wd pr ex le mo pa true] W (.tuple #[.int .i64 G,.int .i64 T,.int .i64 J]))
  (h30:(V==30)=false) (h31:(V==31)=false) (h24:¬ V<24)
  (cU:∀ W,CB 109 #[A4 Rr,.int .i64 J] W (.tuple #[A4 U,.int .i64 0]))
  (hU:U<2^256) (hL:bits .and .u64 (A:Int) (H-1)=L) (hQH0:0<=Q*H) (hQH1:Q*H<=200000) (hF:bits .or .u64 (Q*H) L=F) (hQ:bits .and .u64 (V/2) 3=Q) (h1:bits .and .u64 V 1=d1) (hd:8+d1=ld) (hd0:0<=d1) (hd1:d1<=1)
  (cP:∀ W,CE 26 #[.int .u64 10,.int .i64 (3*J)] W (NV 50000 D))
  (cT:∀ W v v',NV 1 lead v W->NV 50000 D v' W->CE 24 #[v,v'] W (NT 60000 M))
  (cA:∀ W v v',NT 60000 M v W->NV 4 U v' W->CE 21 #[v,v'] W (NV 70000 C))
  (hlead:ld=(lead:Int)) (cQ:∀ W,CE 26 #[.int .u64 10,.int .i64 pr] W (NV 50000 PP))
  (cC:∀ W v v',NV 70000 C v W->NV 50000 PP v' W->CQ 25 #[v,v'] W (.int .i64 sgv)) (hsv:¬ 0<=sgv)
  (cB:∀ W v,NV 70000 C v W->CB 28 #[v] W (A4 C)) :
  CB 80 #[.int .i64 n,A4 Bb] w (DV 1 s false (F+le) C):=by
 have hsm:=cell_set_map
 have hV2:(A:Int)/H=V:=by rw [← hH];exact hV
 unfold DV A4 at *
 go_enter Tryz.func80,Tryz.ntmps80
 go_wp2_with (first
  | (go_at_call 20;refine (cO _).mono ?_;rintro r w1 ⟨rfl,hb1⟩;obtain ⟨_,_,_,_,hA1,_⟩:=wz w hb1;obtain ⟨_,_⟩:=zf hb1 (w.heap.size+1);clear hb1)
  | (go_at_call 62;refine (cS _).mono ?_;rintro r w2 ⟨rfl,hb2⟩;obtain ⟨_,_,_,_,hA2,_⟩:=wz w hb2;obtain ⟨_,_⟩:=zf hb2 (w.heap.size+1);obtain ⟨_,_⟩:=zf hb2 w1.heap.size;clear hb2)
  | (go_at_call 52;refine (cF1 _).mono ?_;rintro r w3 ⟨vA,rfl,uA,hb3⟩;clear cF1;obtain ⟨_,_,_,_,hA3,_⟩:=wz w hb3;obtain ⟨_,_⟩:=zf hb3 (w.heap.size+1);obtain ⟨_,_⟩:=zf hb3 w1.heap.size;clear hb3)
  | (go_at_call 53;refine (cM1 _ _ uA).mono ?_;rintro r w0 ⟨rfl,rfl⟩;clear cM1 uA)
  | (go_at_call 52;refine (cF2 _).mono ?_;rintro r w4 ⟨vR,rfl,uR,hb4⟩;clear cF2;obtain ⟨_,_,_,_,hA4,_⟩:=wz w hb4;obtain ⟨_,_⟩:=zf hb4 (w.heap.size+1);obtain ⟨_,_⟩:=zf hb4 w1.heap.size;clear hb4)
  | (go_at_call 28;refine (cB2 _ _ uR).mono ?_;rintro r w5 ⟨rfl,hb5⟩;clear cB2 uR;obtain ⟨_,_,_,_,hA5,_⟩:=wz w hb5;obtain ⟨_,_⟩:=zf hb5 (w.heap.size+1);obtain ⟨_,_⟩:=zf hb5 w1.heap.size;clear hb5)
  | (go_at_call 52;refine (cF3 _).mono ?_;rintro r w6 ⟨vS,rfl,uS,hb6⟩;clear cF3;obtain ⟨_,_,_,_,hA6,_⟩:=wz w hb6;obtain ⟨_,_⟩:=zf hb6 (w.heap.size+1);obtain ⟨_,_⟩:=zf hb6 w1.heap.size;obtain ⟨_,_⟩:=zf hb6 w5.heap.size;clear hb6;have q62_0:w.heap.size<w6.heap.size+1+1:=(by omega);have q62_1:w.heap.size+1<w6.heap.size+1+1:=(by omega);have q62_2:w1.heap.size<w6.heap.size+1+1:=(by omega);have q62_3:w5.heap.size<w6.heap.size+1+1:=(by omega);have q62_4:w6.heap.size<w6.heap.size+1+1:=(by omega);have q62_5:w6.heap.size+1<w6.heap.size+1+1:=(by omega))
  | (go_at_call 53;refine (cM3 _ _ uS).mono ?_;rintro r w0 ⟨rfl,rfl⟩;clear cM3 uS)
  | (go_at_call 109;refine (cU _).mono ?_;rintro r w7 ⟨rfl,hb7⟩;obtain ⟨_,_,_,_,hA7,_⟩:=wz w hb7;obtain ⟨_,_⟩:=zf hb7 (w.heap.size+1);obtain ⟨_,_⟩:=zf hb7 w1.heap.size;obtain ⟨_,_⟩:=zf hb7 w5.heap.size;obtain ⟨_,_⟩:=zf hb7 w6.heap.size;obtain ⟨_,_⟩:=zf hb7 (w6.heap.size+1);clear hb7;have q71_0:w.heap.size<w7.heap.size+1:=(by omega);have q71_1:w.heap.size+1<w7.heap.size+1:=(by omega);have q71_2:w1.heap.size<w7.heap.size+1:=(by omega);have q71_3:w5.heap.size<w7.heap.size+1:=(by omega);have q71_4:w6.heap.size<w7.heap.size+1:=(by omega);have q71_5:w6.heap.size+1<w7.heap.size+1:=(by omega);have q72_6:w.heap.size<w7.heap.size+1+1:=(by omega);have q72_7:w.heap.size+1<w7.heap.size+1+1:=(by omega);have q72_8:w1.heap.size<w7.heap.size+1+1:=(by omega);have q72_9:w5.heap.size<w7.heap.size+1+1:=(by omega);have q72_10:w6.heap.size<w7.heap.size+1+1:=(by omega);have q72_11:w6.heap.size+1<w7.heap.size+1+1:=(by omega)))
 have uT:NV 4 U (.slice (some ⟨w6.heap.size+1,0,none⟩) 4 4) (((put4C w7 (w6.heap.size+1) U).alloc (.cells #[] 22)).alloc (.cells #[.int .u64 (lead:Int)] 22)):=nv_cells hU (by first|(simp;done)|(simp;omega)) (by go_simp) (by go_simp) (by go_simp) (by go_simp)
 have uL:NV 1 lead (.slice (some ⟨w7.heap.size+1,0,none⟩) 1 1) (((put4C w7 (w6.heap.size+1) U).alloc (.cells #[] 22)).alloc (.cells #[.int .u64 (lead:Int)] 22)):=nv_dec (by simp) rfl (by omega)
 refine reg28 (gl:=w7.heap.size+1) (gt:=w6.heap.size+1) (lead:=lead) (D:=D) (M:=M) (C:=C) (U:=U) (J:=J) (fun _ _ d _ _ h=>by cases d<;>exact h) rfl rfl rfl rfl hJ0 hJ1 uL uT cP cT cA ?_
 intro a1 w10 vc h16 uc hsz hdf hF10 hb10
 have ha:=act_of slotsA28 8 rfl hsz hdf hF10
 rw [ha]
 simp only [slotsA28,List.foldl_cons,List.foldl_nil,Act.put,List.setIfInBounds_toArray,List.set_cons_succ,List.set_cons_zero,h16]
 generalize slot a1 146=s146
 generalize slot a1 147=s147
 generalize slot a1 148=s148
 generalize slot a1 149=s149
 generalize slot a1 150=s150
 generalize slot a1 151=s151
 generalize slot a1 152=s152
 clear ha h16 hsz hdf hF10 uT uL cP cT cA
 obtain ⟨_,_,_,_,hA10,_⟩:=wz w hb10;obtain ⟨_,_⟩:=zf hb10 (w.heap.size+1);obtain ⟨_,_⟩:=zf hb10 w1.heap.size;obtain ⟨_,_⟩:=zf hb10 w5.heap.size;obtain ⟨_,_⟩:=zf hb10 w6.heap.size;obtain ⟨_,_⟩:=zf hb10 (w6.heap.size+1);clear hb10
 go_wp2_with (first
  | (go_at_call 26;refine (cQ _).mono ?_;rintro r w11 ⟨vq,rfl,uq,hb11⟩;have uc11:=uc.next hb11;clear uc;obtain ⟨_,_,_,_,hA11,_⟩:=wz w hb11;obtain ⟨_,_⟩:=zf hb11 (w.heap.size+1);obtain ⟨_,_⟩:=zf hb11 w1.heap.size;obtain ⟨_,_⟩:=zf hb11 w5.heap.size;obtain ⟨_,_⟩:=zf hb11 w6.heap.size;obtain ⟨_,_⟩:=zf hb11 (w6.heap.size+1);clear hb11)
  | (go_at_call 25;refine (cC _ _ _ uc11 uq).mono ?_;rintro r w0 ⟨rfl,rfl⟩))
 go_region_with (go_at_call 28;refine (cB _ _ (uc11.next bgo)).mono ?_;rintro r w12 ⟨rfl,hb12⟩;replace hb12:=bnext (w0:=w11) bgo hb12;obtain ⟨_,_,_,_,hA12,_⟩:=wz w hb12;obtain ⟨_,_⟩:=zf hb12 (w.heap.size+1);obtain ⟨_,_⟩:=zf hb12 w1.heap.size;obtain ⟨_,_⟩:=zf hb12 w5.heap.size;obtain ⟨_,_⟩:=zf hb12 w6.heap.size;obtain ⟨_,_⟩:=zf hb12 (w6.heap.size+1);clear hb12)
 all_goals go_wp2
 all_goals exact bodyPost_ret (by simp only [results,Tryz.results80];go_simp) rfl ⟨rfl,bgo⟩
end
end
section
attribute [local irreducible] W4
attribute [local go_sem ↓] ld18_eq
attribute [local go_sem] ld18_got
section
variable (n:Int)(B:Nat)(w:World)(hT:Tab w)
include hT
theorem dfor_n (c1:∀ W,Tab W->CB 119 #[.int .i64 n,A4 B] W (.bool false)) :
  CB 92 #[.int .i64 n,A4 B] w (.tuple #[ZL,.int .i64 1]):=by
 have hsm:=cell_set_map
 go_enter Tryz.func92,Tryz.ntmps92
 go_wp2_with (go_at_call 119;refine (c1 _ ((hT.alloc _).alloc _)).mono ?_;rintro r w1 ⟨rfl,hb1⟩;obtain ⟨_,_,_,_,hA1,_⟩:=wz w hb1;obtain ⟨_,_⟩:=zf hb1 (w.heap.size+1);clear hb1)
 exact bodyPost_ret (by simp only [results,Tryz.results92];go_simp) rfl ⟨rfl,bgo⟩
variable (c1:∀ W,Tab W->CB 119 #[.int .i64 n,A4 B] W (.bool true))
include c1
theorem dfor_b (c2:∀ W,Tab W->CB 120 #[.int .i64 n] W (.tuple #[ZL,.int .i64 1])) :
  CB 92 #[.int .i64 n,A4 B] w (.tuple #[ZL,.int .i64 1]):=by
 have hsm:=cell_set_map
 go_enter Tryz.func92,Tryz.ntmps92
 go_wp2_with (first
  | (go_at_call 119;refine (c1 _ ((hT.alloc _).alloc _)).mono ?_;rintro r w1 ⟨rfl,hb1⟩;have hT1:=((hT.alloc _).alloc _).go hb1;obtain ⟨_,_,_,_,hA1,_⟩:=wz w hb1;obtain ⟨_,_⟩:=zf hb1 (w.heap.size+1);clear hb1)
  | (go_at_call 120;refine (c2 _ hT1).mono ?_;rintro r w2 ⟨rfl,hb2⟩;obtain ⟨_,_,_,_,hA2,_⟩:=wz w hb2;obtain ⟨_,_⟩:=zf hb2 (w.heap.size+1);clear hb2))
 exact bodyPost_ret (by simp only [results,Tryz.results92];go_simp) rfl ⟨rfl,bgo⟩
theorem dfor_y (dn:Bool)(g t bl:Int)(wo co pa:Nat)(le mo:Int)
  (c2:∀ W,Tab W->CB 120 #[.int .i64 n] W (.tuple #[LD dn g t bl wo co pa le mo,.int .i64 0])) :
  CB 92 #[.int .i64 n,A4 B] w (.tuple #[LD dn g t bl wo co pa le mo,.int .i64 0]):=by
 have hsm:=cell_set_map
 go_enter Tryz.func92,Tryz.ntmps92
 go_wp2_with (first
  | (go_at_call 119;refine (c1 _ ((hT.alloc _).alloc _)).mono ?_;rintro r w1 ⟨rfl,hb1⟩;have hT1:=((hT.alloc _).alloc _).go hb1;obtain ⟨_,_,_,_,hA1,_⟩:=wz w hb1;obtain ⟨_,_⟩:=zf hb1 (w.heap.size+1);clear hb1)
  | (go_at_call 120;refine (c2 _ hT1).mono ?_;rintro r w2 ⟨rfl,hb2⟩;obtain ⟨_,_,_,_,hA2,_⟩:=wz w hb2;obtain ⟨_,_⟩:=zf hb2 (w.heap.size+1);clear hb2))
 exact bodyPost_ret (v:=.tuple #[LD dn g t bl wo co pa le mo,.int .i64 0]) (by simp only [results,Tryz.results92];go_simp) rfl ⟨rfl,bgo⟩
end
end
end Go.Proofs.YtgknbdehlmlipaaGreatDoor
