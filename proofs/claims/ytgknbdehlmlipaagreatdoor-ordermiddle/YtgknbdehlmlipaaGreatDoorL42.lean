/-
  Texts that the proof leans on.
-/
import Derived.Test.YtgknbdehlmlipaaGreatDoorL2
import Derived.Test.YtgknbdehlmlipaaGreatDoorL36
import Derived.Test.YtgknbdehlmlipaaGreatDoorL29
import Derived.Test.YtgknbdehlmlipaaGreatDoorL8
import Derived.Test.YtgknbdehlmlipaaGreatDoorL34
import Derived.Deep.MidRow
set_option maxHeartbeats 8000000
set_option linter.unusedVariables false
set_option linter.unusedSectionVars false
set_option linter.unusedSimpArgs false
set_option maxRecDepth 20000
namespace Go.Proofs.YtgknbdehlmlipaaGreatDoor
open Go.RowKit
section
def TwI (Z C:Int)(v:Value)(w:World):Prop:=∃ g,v=.slice (some ⟨g,0,none⟩) 2 2/\g<w.heap.size/\w.cell? ⟨g,0,none⟩=some (.int .i64 Z)/\w.cell? ⟨g,1,none⟩=some (.int .i64 C)
theorem TwI.next {Z C:Int}{v:Value}{w w':World}(h:TwI Z C v w)(hb:Below w.heap.size w w'):TwI Z C v w':=by
 obtain ⟨g,h1,h2,h3,h4⟩:=h
 exact ⟨g,h1,Nat.lt_of_lt_of_le h2 hb.size,(hb.cell (p:=⟨g,0,none⟩) h2).trans h3,(hb.cell (p:=⟨g,1,none⟩) h2).trans h4⟩
theorem TwI.new {Z C:Int}(w:World):TwI Z C (.slice (some ⟨w.heap.size,0,none⟩) 2 2) (w.alloc (.cells #[.int .i64 Z,.int .i64 C] 3)) :=
 ⟨w.heap.size,rfl,by simp,by go_simp,by go_simp⟩
attribute [local irreducible] W4 Nt Nz NT TwI
section
variable {a:Act}{w:World}{K:Act->World->Prop}{Q:Exit->Act->World->Prop}{d p q:Nat}{ty:TypeId}{pos:String}{after:Array Edge}{gd:Option (Nat×Bool)}
theorem or_fa0 {g:Nat}(h1:slot a p=.pointer (some ⟨g,0,none⟩))(hK:K (a.put (some d) (.pointer (some ⟨g,0,none⟩))) w):Oper.wp Tryz.prog { dst:=some d,op:=Op.fieldAddr 60 (Operand.tmp p) 0,type:=ty,pos:=pos,after:=after,guard:=gd } a w K Q:=by
 unfold slot at h1
 simp [go_sem,h1]
 exact hK
theorem or_ldO {h:Nat}{c x b:Int}{s g:Bool}{k:Nat}(h1:slot a p=.pointer (some ⟨h,0,none⟩))(c0:w.cell? ⟨h,0,none⟩=some (.int .i64 c))(c1:w.cell? ⟨h,1,none⟩=some (.bool s))(c2:w.cell? ⟨h,2,none⟩=some (.bool g))(c3:w.cell? ⟨h,3,none⟩=some (.int .i64 x))(c4:w.cell? ⟨h,4,none⟩=some (.int .u64 (W4 k 0)))(c5:w.cell? ⟨h,5,none⟩=some (.int .u64 (W4 k 1)))(c6:w.cell? ⟨h,6,none⟩=some (.int .u64 (W4 k 2)))(c7:w.cell? ⟨h,7,none⟩=some (.int .u64 (W4 k 3)))(c8:w.cell? ⟨h,8,none⟩=some (.int .i64 b))(hK:K (a.put (some d) (OV c s g x k b)) w):Oper.wp Tryz.prog { dst:=some d,op:=Op.load 60 (Operand.tmp p),type:=ty,pos:=pos,after:=after,guard:=gd } a w K Q:=by
 unfold slot at h1
 simp [go_sem,h1,c0,c1,c2,c3,c4,c5,c6,c7,c8]
 exact hK
theorem or_c3 {F:Nat}{p0 p1 p2:Nat}{u0 u1 u2:Value}{ts:Array TypeId}(hr:Sem.run Tryz.prog (callFunc F #[u0,u1,u2]) w=.ok (.enter F #[u0,u1,u2]) w)(h0:slot a p0=u0)(h1:slot a p1=u1)(h2:slot a p2=u2)(hc:Calls Tryz.prog F #[u0,u1,u2] w fun e w'=>∃ v,e=.returned v/\K (a.put (some d) v) w'):Oper.wp Tryz.prog { dst:=some d,op:=Op.call { callee:=Callee.value (Operand.func F),args:=#[Operand.tmp p0,Operand.tmp p1,Operand.tmp p2],argTypes:=ts },type:=ty,pos:=pos,after:=after,guard:=gd } a w K Q:=by
 unfold slot at h0 h1 h2
 simp [go_sem,h0,h1,h2,hr]
 refine hc.mono ?_
 rintro e w' ⟨v,rfl,hK⟩
 exact hK
end
noncomputable def opsNr2:List Oper:=(Tryz.f75.body.bind (findR 2)).getD []
def slotsNr2:List Nat:=[19,20,21,22,23,24,25,26,27,28,29,30,31,32,33]
def slotsANr2:List Nat:=[19,20,21,22,23,24,25,26,27,28,29,30,31,32,33,4]
theorem regNr2 {h j k k' T T':Nat}{D G R:Int}(hD:-1000000<=D/\D<=1000000)(hG:-1000000<=G/\G<=1000000){a0:Act}{ws:World}{Q:Exit->Act->World->Prop}(hP:∀ c a d v w,Q (.panic c) (Act.put a d v) w->Q (.panic c) a w)(hs:a0.tmps.size=34)
  (g2:slot a0 2=.pointer (some ⟨h,0,none⟩))
  (g3:slot a0 3=.pointer (some ⟨j,0,none⟩))
  (g5:slot a0 5=.int .i64 D)
  (g6:slot a0 6=.int .i64 G)
  (lh:h<ws.heap.size) (kh4:ws.cell? ⟨h,4,none⟩=some (.int .u64 (W4 k 0))) (kh5:ws.cell? ⟨h,5,none⟩=some (.int .u64 (W4 k 1))) (kh6:ws.cell? ⟨h,6,none⟩=some (.int .u64 (W4 k 2))) (kh7:ws.cell? ⟨h,7,none⟩=some (.int .u64 (W4 k 3)))
  (lj:j<ws.heap.size) (kj4:ws.cell? ⟨j,4,none⟩=some (.int .u64 (W4 k' 0))) (kj5:ws.cell? ⟨j,5,none⟩=some (.int .u64 (W4 k' 1))) (kj6:ws.cell? ⟨j,6,none⟩=some (.int .u64 (W4 k' 2))) (kj7:ws.cell? ⟨j,7,none⟩=some (.int .u64 (W4 k' 3)))
  (c1:∀ W,CE 107 #[A4 k,.int .i64 D,.int .i64 G] W (NT 2001 T))
  (c2:∀ W,CE 107 #[A4 k',.int .i64 (-D),.int .i64 (-G)] W (NT 2001 T'))
  (c3:∀ W v v',NT 2001 T v W->NT 2001 T' v' W->CB 73 #[v,v'] W (.int .i64 R))
  (hQ:∀ (a:Act) (w:World),slot a 4=.int .i64 R->a.tmps.size=34->a.defers=a0.defers->(∀ t,(∀ i,i<16->slotsANr2.getD i 0≠t)->slot a t=slot a0 t)->Below ws.heap.size ws w->Q .normal a w) :
  (Code.region 2 opsNr2.toArray true).wp Tryz.prog Q a0 ws:=by
 refine wp_region_memr 15 34 slotsNr2 [iW (.pointer (some ⟨h,0,none⟩)),iW (.pointer (some ⟨h,4,none⟩)),iW (A4 k),iW (.int .i64 D),iW (.int .i64 G),NT 2001 T,iW (.pointer (some ⟨j,0,none⟩)),iW (.pointer (some ⟨j,4,none⟩)),iW (A4 k'),iW (.int .i64 D),iW (.int .i64 (-D)),iW (.int .i64 G),iW (.int .i64 (-G)),NT 2001 T',iW (.int .i64 R)] (fun w w'=>Below w.heap.size w w') (fun L f w=>Below ws.heap.size ws w) (by kernel_rfl) (by kernel_rfl) hP (by kernel_rfl) hs ?_ (Below.refl _ _).drew ?_ ?_
 ·intro p hp
  simp only [List.mem_cons,List.not_mem_nil,or_false] at hp
  rcases hp with rfl|rfl|rfl|rfl|rfl|rfl|rfl|rfl|rfl|rfl|rfl|rfl|rfl|rfl|rfl
  all_goals first|exact fun _ _ _ h _=>h|exact fun _ _ _ h hb=>h.next hb
 ·intro L i o a w hi ho hL hcl he hM hF hv
  have f2:slot a 2=.pointer (some ⟨h,0,none⟩):=(hF 2 (by decide)).trans g2
  have f3:slot a 3=.pointer (some ⟨j,0,none⟩):=(hF 3 (by decide)).trans g3
  have f5:slot a 5=.int .i64 D:=(hF 5 (by decide)).trans g5
  have f6:slot a 6=.int .i64 G:=(hF 6 (by decide)).trans g6
  have qh4:w.cell? ⟨h,4,none⟩=some (.int .u64 (W4 k 0)):=(hM.cell (p:=⟨h,4,none⟩) lh).trans kh4
  have qh5:w.cell? ⟨h,5,none⟩=some (.int .u64 (W4 k 1)):=(hM.cell (p:=⟨h,5,none⟩) lh).trans kh5
  have qh6:w.cell? ⟨h,6,none⟩=some (.int .u64 (W4 k 2)):=(hM.cell (p:=⟨h,6,none⟩) lh).trans kh6
  have qh7:w.cell? ⟨h,7,none⟩=some (.int .u64 (W4 k 3)):=(hM.cell (p:=⟨h,7,none⟩) lh).trans kh7
  have qj4:w.cell? ⟨j,4,none⟩=some (.int .u64 (W4 k' 0)):=(hM.cell (p:=⟨j,4,none⟩) lj).trans kj4
  have qj5:w.cell? ⟨j,5,none⟩=some (.int .u64 (W4 k' 1)):=(hM.cell (p:=⟨j,5,none⟩) lj).trans kj5
  have qj6:w.cell? ⟨j,6,none⟩=some (.int .u64 (W4 k' 2)):=(hM.cell (p:=⟨j,6,none⟩) lj).trans kj6
  have qj7:w.cell? ⟨j,7,none⟩=some (.int .u64 (W4 k' 3)):=(hM.cell (p:=⟨j,7,none⟩) lj).trans kj7
  have hor:i=0∨i=1∨i=2∨i=3∨i=4∨i=5∨i=6∨i=7∨i=8∨i=9∨i=10∨i=11∨i=12∨i=13∨i=14:=by omega
  rcases hor with rfl|rfl|rfl|rfl|rfl|rfl|rfl|rfl|rfl|rfl|rfl|rfl|rfl|rfl|rfl
  ·obtain rfl:=Option.some.inj (show opsNr2[0]?=some o from ho)
   exact or_fa0 f2 ⟨_,rfl,rfl,Below.refl _ _,hM⟩
  ·obtain rfl:=Option.some.inj (show opsNr2[1]?=some o from ho)
   exact og_fad4 (hv 0 (by decide) rfl (he ⟨0,.data⟩ (by simp) rfl):slot a 19=.pointer (some ⟨h,0,none⟩)) ⟨_,rfl,rfl,Below.refl _ _,hM⟩
  ·obtain rfl:=Option.some.inj (show opsNr2[2]?=some o from ho)
   exact og_ldB (i:=4) (hv 1 (by decide) rfl (he ⟨1,.data⟩ (by simp) rfl):slot a 20=.pointer (some ⟨h,4,none⟩)) qh4 qh5 qh6 qh7 ⟨_,rfl,rfl,Below.refl _ _,hM⟩
  ·obtain rfl:=Option.some.inj (show opsNr2[3]?=some o from ho)
   exact og_mv f5 ⟨_,rfl,rfl,Below.refl _ _,hM⟩
  ·obtain rfl:=Option.some.inj (show opsNr2[4]?=some o from ho)
   exact og_mv f6 ⟨_,rfl,rfl,Below.refl _ _,hM⟩
  ·obtain rfl:=Option.some.inj (show opsNr2[5]?=some o from ho)
   refine or_c3 (by simp [go_sem]) (hv 2 (by decide) rfl (he ⟨2,.data⟩ (by simp) rfl):slot a 21=A4 k) (hv 3 (by decide) rfl (he ⟨3,.data⟩ (by simp) rfl):slot a 22=.int .i64 D) (hv 4 (by decide) rfl (he ⟨4,.data⟩ (by simp) rfl):slot a 23=.int .i64 G) ((c1 w).mono ?_)
   rintro e w' ⟨v,rfl,hSv,hb⟩
   exact ⟨v,rfl,_,rfl,hSv,hb,bnx hM hb⟩
  ·obtain rfl:=Option.some.inj (show opsNr2[6]?=some o from ho)
   exact or_fa0 f3 ⟨_,rfl,rfl,Below.refl _ _,hM⟩
  ·obtain rfl:=Option.some.inj (show opsNr2[7]?=some o from ho)
   exact og_fad4 (hv 6 (by decide) rfl (he ⟨6,.data⟩ (by simp) rfl):slot a 25=.pointer (some ⟨j,0,none⟩)) ⟨_,rfl,rfl,Below.refl _ _,hM⟩
  ·obtain rfl:=Option.some.inj (show opsNr2[8]?=some o from ho)
   exact og_ldB (i:=4) (hv 7 (by decide) rfl (he ⟨7,.data⟩ (by simp) rfl):slot a 26=.pointer (some ⟨j,4,none⟩)) qj4 qj5 qj6 qj7 ⟨_,rfl,rfl,Below.refl _ _,hM⟩
  ·obtain rfl:=Option.some.inj (show opsNr2[9]?=some o from ho)
   exact og_mv f5 ⟨_,rfl,rfl,Below.refl _ _,hM⟩
  ·obtain rfl:=Option.some.inj (show opsNr2[10]?=some o from ho)
   exact og_neg hD (hv 9 (by decide) rfl (he ⟨9,.data⟩ (by simp) rfl):slot a 28=.int .i64 D) ⟨_,rfl,rfl,Below.refl _ _,hM⟩
  ·obtain rfl:=Option.some.inj (show opsNr2[11]?=some o from ho)
   exact og_mv f6 ⟨_,rfl,rfl,Below.refl _ _,hM⟩
  ·obtain rfl:=Option.some.inj (show opsNr2[12]?=some o from ho)
   exact og_neg hG (hv 11 (by decide) rfl (he ⟨11,.data⟩ (by simp) rfl):slot a 30=.int .i64 G) ⟨_,rfl,rfl,Below.refl _ _,hM⟩
  ·obtain rfl:=Option.some.inj (show opsNr2[13]?=some o from ho)
   refine or_c3 (by simp [go_sem]) (hv 8 (by decide) rfl (he ⟨8,.data⟩ (by simp) rfl):slot a 27=A4 k') (hv 10 (by decide) rfl (he ⟨10,.data⟩ (by simp) rfl):slot a 29=.int .i64 (-D)) (hv 12 (by decide) rfl (he ⟨12,.data⟩ (by simp) rfl):slot a 31=.int .i64 (-G)) ((c2 w).mono ?_)
   rintro e w' ⟨v,rfl,hSv,hb⟩
   exact ⟨v,rfl,_,rfl,hSv,hb,bnx hM hb⟩
  ·obtain rfl:=Option.some.inj (show opsNr2[14]?=some o from ho)
   refine og_c2 (by simp [go_sem]) rfl rfl ((c3 w _ _ (hv 5 (by decide) rfl (he ⟨5,.data⟩ (by simp) rfl)) (hv 13 (by decide) rfl (he ⟨13,.data⟩ (by simp) rfl))).mono ?_)
   rintro e w' ⟨rfl,hb⟩
   exact ⟨_,rfl,_,rfl,rfl,hb,bnx hM hb⟩
 ·intro L a w hL hM hsz hdf hF hv
  refine BigFrame.wpList_want rfl fun K hK=>og_as (hv 14 (by decide) rfl:slot a 33=.int .i64 R) (hK _ _ ?_)
  clear K hK
  refine hQ _ _ (slot_put (by omega)) (by simpa [Act.put] using hsz) hdf (fun t ht=>?_) hM
  rw [slot_put_ne (show 4≠t from ht 15 (by decide))]
  exact hF t fun i hi=>by
   have:=ht i (by omega)
   have hor:i=0∨i=1∨i=2∨i=3∨i=4∨i=5∨i=6∨i=7∨i=8∨i=9∨i=10∨i=11∨i=12∨i=13∨i=14:=by omega
   rcases hor with rfl|rfl|rfl|rfl|rfl|rfl|rfl|rfl|rfl|rfl|rfl|rfl|rfl|rfl|rfl<;>exact this
end
section
attribute [local irreducible] W4 Nt Nz NT
theorem otm_l (k:Nat)(t f:Int)(w:World)(hk:k<2^256)(hf:-12000<=f/\f<=12000)(ht:-40000<=t/\t<=40000)(P R:Nat)
  (c1:∀ W e,e=max f 0->Calls Tryz.prog 96 #[.int .i64 5,.int .i64 e] W fun r w'=>∃ v,r=.returned (.tuple #[v,.int .i64 0])/\NT 2001 P v w'/\Below W.heap.size W w')
  (c2:∀ W v v',Nt 4 k v W->NT 2001 P v' W->Calls Tryz.prog 97 #[v,v'] W fun r w'=>∃ q,r=.returned (.tuple #[q,.int .i64 0])/\NT 2001 (k*P) q w'/\Below W.heap.size W w')
  (c3:∀ W v e,e=max t 0->NT 2001 (k*P) v W->Calls Tryz.prog 131 #[v,.int .i64 e] W fun r w'=>∃ q,r=.returned (.tuple #[q,.int .i64 0])/\NT 2001 R q w'/\Below W.heap.size W w') :
  CE 107 #[A4 k,.int .i64 t,.int .i64 f] w (NT 2001 R):=by
 have hbx:=fun W hW=>b4_new (w0:=w) (w:=W) (k:=k) (t:=24) hk hW
 have hsm:=cell_set_map
 unfold A4
 go_enter Tryz.func107,Tryz.ntmps107
 go_wp2_with (first
  | (go_at_call 96;refine (c1 _ _ rfl).mono ?_;rintro r w1 ⟨v1,rfl,hv1,hb1⟩;have hv0:=hbx _ hb1;obtain ⟨_,_,_,_,hA1,_⟩:=wz w hb1;clear hb1)
  | (go_at_call 97;refine (c2 _ _ _ hv0 hv1).mono ?_;rintro r w2 ⟨v2,rfl,hv2,hb2⟩;obtain ⟨_,_,_,_,hA2,_⟩:=wz w hb2;clear hb2)
  | (go_at_call 131;refine (c3 _ _ _ rfl hv2).mono ?_;rintro r w3 ⟨v3,rfl,hv3,hb3⟩;obtain ⟨_,_,_,_,hA3,_⟩:=wz w hb3;clear hb3))
 go_ret
 exact ⟨v3,rfl,hv3,bgo⟩
theorem tmV_eq (k:Nat)(t f:Int):tmV k t f=k*5^(max f 0).toNat*2^(max t 0).toNat:=by
 unfold tmV
 rw [show (max f 0).toNat=f.toNat by omega,show (max t 0).toNat=t.toNat by omega]
theorem otm_v (k:Nat)(t f:Int)(w:World)(hk:k<2^256)(hf:-12000<=f/\f<=12000)(ht:-40000<=t/\t<=40000) :
  CE 107 #[A4 k,.int .i64 t,.int .i64 f] w (NT 2001 (tmV k t f)):=by
 have hA:bl k<=256:=bl_le.2 hk
 have hm:=five_bl (max f 0).toNat
 have hbm:=bl_mul k (5^(max f 0).toNat)
 rw [tmV_eq]
 refine otm_l k t f w hk hf ht (5^(max f 0).toNat) _ (fun W e he=>?_) (fun W v v' hv hv'=>nmul_w (by decide) (by decide) hv hv'.nt (by omega)) (fun W v e he hv=>?_)
 ·have:=npow5z (max f 0).toNat W (by omega)
  rw [show (((max f 0).toNat:Nat):Int)=e by omega] at this
  exact this
 ·have:=nshl_w (w:=W) (max t 0).toNat (by decide) hv.nt (by omega)
  rw [show (((max t 0).toNat:Nat):Int)=e by omega] at this
  exact this
section
variable (c x b:Int)(s g:Bool)(k:Nat)(c' x' b':Int)(s' g':Bool)(k':Nat)(w:World)
theorem onr_l (hx:-20000<=x/\x<=20000)(hx':-20000<=x'/\x'<=20000)(F F':Int)(hF:-20000<=F/\F<=20000)(hF':-20000<=F'/\F'<=20000)(T T':Nat)(R:Int)
  (c1:∀ W,CB 106 #[OV c s g x k b] W (.int .i64 F))
  (c2:∀ W,CB 106 #[OV c' s' g' x' k' b'] W (.int .i64 F'))
  (c3:∀ W,CE 107 #[A4 k,.int .i64 (x-x'),.int .i64 (F-F')] W (NT 2001 T))
  (c4:∀ W,CE 107 #[A4 k',.int .i64 (-(x-x')),.int .i64 (-(F-F'))] W (NT 2001 T'))
  (c5:∀ W v v',NT 2001 T v W->NT 2001 T' v' W->CB 73 #[v,v'] W (.int .i64 R)) :
  CB 75 #[OV c s g x k b,OV c' s' g' x' k' b'] w (.int .i64 R):=by
 have hsm:=cell_set_map
 go_enter Tryz.func75,Tryz.ntmps75
 go_wp2
 refine wp_whole (by kernel_rfl) (by kernel_rfl) fun hne hcell=>?_
 repeat go_big_quiet_step (fail)
 go_big_quiet_step ((go_at_call 106;exact calls_wd _ bk_next (c1 _)))
 repeat go_big_quiet_step (fail)
 go_big_quiet_step ((go_at_call 106;exact calls_wd _ bk_next (c2 _)))
 repeat go_big_quiet_step (fail)
 refine wpQuiet_nil fun w1 hb1=>?_
 obtain ⟨_,_,_,_,hA1,_⟩:=wz w hb1;obtain ⟨_,_⟩:=zf hb1 (w.heap.size+1);clear hb1
 go_wp2
 refine regNr2 (h:=w.heap.size) (j:=w.heap.size+1) (k:=k) (k':=k') (D:=x-x') (G:=F-F') (T:=T) (T':=T') (R:=R) (by omega) (by omega) (fun _ _ d _ _ h=>by cases d<;>exact h) rfl rfl rfl rfl rfl (by first|omega|(simp;omega)|simp) (by go_simp) (by go_simp) (by go_simp) (by go_simp) (by first|omega|(simp;omega)|simp) (by go_simp) (by go_simp) (by go_simp) (by go_simp) c3 c4 c5 ?_
 intro a' w4 h4 hsz hdf hF2 hb4
 have ha:=act_of slotsANr2 16 rfl hsz hdf hF2
 rw [ha]
 simp only [slotsANr2,List.foldl_cons,List.foldl_nil,Act.put,List.setIfInBounds_toArray,List.set_cons_succ,List.set_cons_zero,h4]
 generalize slot a' 19=s19
 generalize slot a' 20=s20
 generalize slot a' 21=s21
 generalize slot a' 22=s22
 generalize slot a' 23=s23
 generalize slot a' 24=s24
 generalize slot a' 25=s25
 generalize slot a' 26=s26
 generalize slot a' 27=s27
 generalize slot a' 28=s28
 generalize slot a' 29=s29
 generalize slot a' 30=s30
 generalize slot a' 31=s31
 generalize slot a' 32=s32
 generalize slot a' 33=s33
 clear ha h4 hsz hdf hF2
 obtain ⟨_,_,_,_,hA4,_⟩:=wz w hb4;obtain ⟨_,_⟩:=zf hb4 (w.heap.size+1);clear hb4
 go_wp2
 go_ret
 exact ⟨by first|rfl|simp,bgo⟩
end
theorem ofv_v {b:Int}{X:Nat}(hX:X=2∨X=10)(hb:b=(X:Int))(c x:Int)(s g:Bool)(k:Nat)(hk:k<2^256)(w:World):CB 106 #[OV c s g x k b] w (.int .i64 (fvE X x)):=by
 subst hb
 rcases hX with rfl|rfl
 ·exact fives_2 c x s g k hk w
 ·exact fives_10 c x s g k hk w
theorem fvE_bd {X:Nat}{x:Int}(h:-20000<=x/\x<=20000):-20000<=fvE X x/\fvE X x<=20000:=by
 unfold fvE
 split<;>omega
theorem onr_v {X Y:Nat}(hX:X=2∨X=10)(hY:Y=2∨Y=10){c x b:Int}{s g:Bool}{k:Nat}{c' x' b':Int}{s' g':Bool}{k':Nat}(hb:b=(X:Int))(hb':b'=(Y:Int))(hk:k<2^256)(hk':k'<2^256)
  (hx:-20000<=x/\x<=20000) (hx':-20000<=x'/\x'<=20000) (hf:-12000<=fvE X x-fvE Y x'/\fvE X x-fvE Y x'<=12000) (w:World) :
  CB 75 #[OV c s g x k b,OV c' s' g' x' k' b'] w (.int .i64 (sgn ((k*X^x.toNat*(1*Y^(-x').toNat):Nat):Int) ((k'*Y^x'.toNat*(1*X^(-x).toNat):Nat):Int))):=by
 rw [← rc_near hX hY k k' x x']
 exact onr_l c x b s g k c' x' b' s' g' k' w hx hx' _ _ (fvE_bd hx) (fvE_bd hx') _ _ _ (fun W=>ofv_v hX hb c x s g k hk W) (fun W=>ofv_v hY hb' c' x' s' g' k' hk' W)
  (fun W=>otm_v k _ _ W hk hf (by omega)) (fun W=>otm_v k' _ _ W hk' (by omega) (by omega)) (fun W v v' hv hv'=>ncmp_v (by decide) (by decide) hv.nt hv'.nt)
end
section
attribute [local irreducible] W4 Nt Nz NT
section
variable (c x b:Int)(s g:Bool)(k:Nat)(hk:k<2^256)(c' x' b':Int)(s' g':Bool)(k':Nat)(hk':k'<2^256)(w:World)
theorem sz_inf (h:(c==2)=true∨((c==2)=false/\(c'==2)=true)) :
  CB 33 #[OV c s g x k b,OV c' s' g' x' k' b'] w (.int .i64 (sgn c c')):=by
 have hsm:=cell_set_map
 have c9:=fun W=>compare_int c c' W
 rcases h with h|⟨h,h'⟩
 all_goals
  go_enter Tryz.func33,Tryz.ntmps33
  go_wp2_with (go_at_call 72;refine (c9 _).mono ?_;rintro r w1 ⟨rfl,rfl⟩)
  go_ret
  exact ⟨by first|rfl|simp,bgo⟩
variable (hc:(c==2)=false)(hc':(c'==2)=false)
include hk hk' hc hc'
theorem sz_nought (n1 n2:Bool)(h:n1=true∨(n1=false/\n2=true))
  (c1:∀ W,CB 31 #[OV c s g x k b] W (.bool n1))
  (c2:∀ W,CB 31 #[OV c' s' g' x' k' b'] W (.bool n2))
  (R:Int) (c3:∀ W v v',Nt 4 k v W->Nt 4 k' v' W->CB 73 #[v,v'] W (.int .i64 R)) :
  CB 33 #[OV c s g x k b,OV c' s' g' x' k' b'] w (.int .i64 R):=by
 have hbx:=fun W hW=>op_new (w0:=w) (w:=W) (c:=c) (s:=s) (g:=g) (x:=x) (b:=b) (t:=60) hk hW
 have hby:∀ W,Below ((w.alloc (.cells (OCs c s g x k b) 60)).alloc (.cells (OCs c' s' g' x' k' b') 60)).heap.size ((w.alloc (.cells (OCs c s g x k b) 60)).alloc (.cells (OCs c' s' g' x' k' b') 60)) W->Nt 4 k' (.slice (some ⟨w.heap.size+1,4,none⟩) 4 4) W:=fun W hW=>by
  have:=op_new (w0:=w.alloc (.cells (OCs c s g x k b) 60)) (w:=W) (c:=c') (s:=s') (g:=g') (x:=x') (b:=b') (t:=60) hk' hW
  rwa [show (w.alloc (.cells (OCs c s g x k b) 60)).heap.size=w.heap.size+1 by simp] at this
 clear hk hk'
 have hsm:=cell_set_map
 rcases h with rfl|⟨rfl,rfl⟩
 ·go_enter Tryz.func33,Tryz.ntmps33
  go_wp2_with (go_at_call 31;refine (c1 _).mono ?_;rintro r w1 ⟨rfl,hb1⟩;have hq0:=hbx _ (bnx (below1 _ _) hb1);have hq1:=hby _ hb1;obtain ⟨_,_,_,_,hA1,_⟩:=wz w hb1;obtain ⟨_,_⟩:=zf hb1 (w.heap.size+1);clear hb1)
  refine wp_tail 6 (by kernel_rfl) (by kernel_rfl) (by kernel_rfl) (fun _ _ d _ _ h=>by cases d<;>exact h) fun hne hcell=>?_
  simp only [List.take_succ_cons,List.take_zero,List.drop_succ_cons,List.drop_zero]
  repeat go_big_quiet_step (fail)
  refine wpQuiet_nil fun w2 hb2=>?_
  have hv0:=hq0.next hb2
  have hv1:=hq1.next hb2
  obtain ⟨_,_,_,_,hA2,_⟩:=wz w hb2;obtain ⟨_,_⟩:=zf hb2 (w.heap.size+1);clear hb2
  go_wp2_with (go_at_call 73;refine (c3 _ _ _ hv0 hv1).mono ?_;rintro r w3 ⟨rfl,hb3⟩;obtain ⟨_,_,_,_,hA3,_⟩:=wz w hb3;obtain ⟨_,_⟩:=zf hb3 (w.heap.size+1);clear hb3)
  go_ret
  exact ⟨by first|rfl|simp,bgo⟩
 ·go_enter Tryz.func33,Tryz.ntmps33
  go_wp2_with (first
   | (have:=hA1;go_at_call 31;refine (c2 _).mono ?_;rintro r w4 ⟨rfl,hb4⟩;have hq0:=hp0.next hb4;have hq1:=hp1.next hb4;obtain ⟨_,_,_,_,hA4,_⟩:=wz w hb4;obtain ⟨_,_⟩:=zf hb4 (w.heap.size+1);clear hb4)
   | (go_at_call 31;refine (c1 _).mono ?_;rintro r w1 ⟨rfl,hb1⟩;have hp0:=hbx _ (bnx (below1 _ _) hb1);have hp1:=hby _ hb1;obtain ⟨_,_,_,_,hA1,_⟩:=wz w hb1;obtain ⟨_,_⟩:=zf hb1 (w.heap.size+1);clear hb1))
  refine wp_tail 6 (by kernel_rfl) (by kernel_rfl) (by kernel_rfl) (fun _ _ d _ _ h=>by cases d<;>exact h) fun hne hcell=>?_
  simp only [List.take_succ_cons,List.take_zero,List.drop_succ_cons,List.drop_zero]
  repeat go_big_quiet_step (fail)
  refine wpQuiet_nil fun w2 hb2=>?_
  have hv0:=hq0.next hb2
  have hv1:=hq1.next hb2
  obtain ⟨_,_,_,_,hA2,_⟩:=wz w hb2;obtain ⟨_,_⟩:=zf hb2 (w.heap.size+1);clear hb2
  go_wp2_with (go_at_call 73;refine (c3 _ _ _ hv0 hv1).mono ?_;rintro r w3 ⟨rfl,hb3⟩;obtain ⟨_,_,_,_,hA3,_⟩:=wz w hb3;obtain ⟨_,_⟩:=zf hb3 (w.heap.size+1);clear hb3)
  go_ret
  exact ⟨by first|rfl|simp,bgo⟩
theorem sz_far (L U L' U' R:Int)(h:(U<=L'/\R=-1)∨(¬ U<=L'/\U'<=L/\R=1))
  (c1:∀ W,CB 31 #[OV c s g x k b] W (.bool false))
  (c2:∀ W,CB 31 #[OV c' s' g' x' k' b'] W (.bool false))
  (c3:∀ W,CB 74 #[OV c s g x k b] W (.tuple #[.int .i64 L,.int .i64 U]))
  (c4:∀ W,CB 74 #[OV c' s' g' x' k' b'] W (.tuple #[.int .i64 L',.int .i64 U'])) :
  CB 33 #[OV c s g x k b,OV c' s' g' x' k' b'] w (.int .i64 R):=by
 have hsm:=cell_set_map
 rcases h with ⟨h,rfl⟩|⟨h,h',rfl⟩
 all_goals
  go_enter Tryz.func33,Tryz.ntmps33
  go_wp2_with (first
   | (have:=hA1;go_at_call 31;refine (c2 _).mono ?_;rintro r w2 ⟨rfl,hb2⟩;obtain ⟨_,_,_,_,hA2,_⟩:=wz w hb2;obtain ⟨_,_⟩:=zf hb2 (w.heap.size+1);clear hb2)
   | (go_at_call 31;refine (c1 _).mono ?_;rintro r w1 ⟨rfl,hb1⟩;obtain ⟨_,_,_,_,hA1,_⟩:=wz w hb1;obtain ⟨_,_⟩:=zf hb1 (w.heap.size+1);clear hb1)
   | (have:=hA3;go_at_call 74;refine (c4 _).mono ?_;rintro r w4 ⟨rfl,hb4⟩;obtain ⟨_,_,_,_,hA4,_⟩:=wz w hb4;obtain ⟨_,_⟩:=zf hb4 (w.heap.size+1);clear hb4)
   | (go_at_call 74;refine (c3 _).mono ?_;rintro r w3 ⟨rfl,hb3⟩;obtain ⟨_,_,_,_,hA3,_⟩:=wz w hb3;obtain ⟨_,_⟩:=zf hb3 (w.heap.size+1);clear hb3))
  go_ret
  exact ⟨by first|rfl|simp,bgo⟩
theorem sz_meet (L U L' U' R:Int)(h:¬ U<=L')(h':¬ U'<=L)
  (c1:∀ W,CB 31 #[OV c s g x k b] W (.bool false))
  (c2:∀ W,CB 31 #[OV c' s' g' x' k' b'] W (.bool false))
  (c3:∀ W,CB 74 #[OV c s g x k b] W (.tuple #[.int .i64 L,.int .i64 U]))
  (c4:∀ W,CB 74 #[OV c' s' g' x' k' b'] W (.tuple #[.int .i64 L',.int .i64 U']))
  (c5:∀ W,CB 75 #[OV c s g x k b,OV c' s' g' x' k' b'] W (.int .i64 R)) :
  CB 33 #[OV c s g x k b,OV c' s' g' x' k' b'] w (.int .i64 R):=by
 have hsm:=cell_set_map
 go_enter Tryz.func33,Tryz.ntmps33
 go_wp2_with (first
  | (have:=hA1;go_at_call 31;refine (c2 _).mono ?_;rintro r w2 ⟨rfl,hb2⟩;obtain ⟨_,_,_,_,hA2,_⟩:=wz w hb2;obtain ⟨_,_⟩:=zf hb2 (w.heap.size+1);clear hb2)
  | (go_at_call 31;refine (c1 _).mono ?_;rintro r w1 ⟨rfl,hb1⟩;obtain ⟨_,_,_,_,hA1,_⟩:=wz w hb1;obtain ⟨_,_⟩:=zf hb1 (w.heap.size+1);clear hb1)
  | (have:=hA3;go_at_call 74;refine (c4 _).mono ?_;rintro r w4 ⟨rfl,hb4⟩;obtain ⟨_,_,_,_,hA4,_⟩:=wz w hb4;obtain ⟨_,_⟩:=zf hb4 (w.heap.size+1);clear hb4)
  | (go_at_call 74;refine (c3 _).mono ?_;rintro r w3 ⟨rfl,hb3⟩;obtain ⟨_,_,_,_,hA3,_⟩:=wz w hb3;obtain ⟨_,_⟩:=zf hb3 (w.heap.size+1);clear hb3)
  | (go_at_call 75;refine (c5 _).mono ?_;rintro r w5 ⟨rfl,hb5⟩;obtain ⟨_,_,_,_,hA5,_⟩:=wz w hb5;obtain ⟨_,_⟩:=zf hb5 (w.heap.size+1);clear hb5))
 go_ret
 exact ⟨by first|rfl|simp,bgo⟩
end
theorem orc_v {b:Int}{X:Nat}(hX:X=2∨X=10)(hb:b=(X:Int))(c x:Int)(s g:Bool)(k:Nat)(hk:k<2^256)(hx:-20000<=x/\x<=20000)(hx10:X=10->-10000<=x/\x<=10000)(w:World):CB 74 #[OV c s g x k b] w (.tuple #[.int .i64 (rcL X x k),.int .i64 (rcU X x k)]):=by
 subst hb
 rcases hX with rfl|rfl
 ·exact reach_2 c x s g k hk w hx
 ·exact reach_10 c x s g k hk w (hx10 rfl)
theorem osz_v {X Y:Nat}(hX:X=2∨X=10)(hY:Y=2∨Y=10){c x b:Int}{s g:Bool}{k:Nat}{c' x' b':Int}{s' g':Bool}{k':Nat}(hb:b=(X:Int))(hb':b'=(Y:Int))(hc:c=1∨c=2)(hc':c'=1∨c'=2)(hk:k<2^256)(hk':k'<2^256)
  (hx:-20000<=x/\x<=20000) (hx':-20000<=x'/\x'<=20000) (hx10:X=10->-10000<=x/\x<=10000) (hy10:Y=10->-10000<=x'/\x'<=10000) (w:World) :
  CB 33 #[OV c s g x k b,OV c' s' g' x' k' b'] w (.int .i64 (szV c k X x c' k' Y x')):=by
 unfold szV
 by_cases h2:c=2∨c'=2
 ·rw [if_pos h2]
  refine sz_inf c x b s g k c' x' b' s' g' k' w ?_
  rcases hc with rfl|rfl
  ·rcases h2 with h|rfl
   ·omega
   ·exact Or.inr ⟨rfl,rfl⟩
  ·exact Or.inl rfl
 ·rw [if_neg h2]
  obtain rfl:c=1:=by omega
  obtain rfl:c'=1:=by omega
  have c1:=fun W=>ont_v 1 x b s g k hk W
  have c2:=fun W=>ont_v 1 x' b' s' g' k' hk' W
  have e1:decide ((1:Int)=1/\k=0)=decide (k=0):=by simp
  have e2:decide ((1:Int)=1/\k'=0)=decide (k'=0):=by simp
  rw [e1] at c1
  rw [e2] at c2
  by_cases h0:k=0∨k'=0
  ·rw [if_pos h0]
   refine sz_nought 1 x b s g k hk 1 x' b' s' g' k' hk' w rfl rfl _ _ ?_ c1 c2 _ (fun W v v' hv hv'=>ncmp_v (by decide) (by decide) hv hv')
   by_cases hk0:k=0
   ·exact Or.inl (decide_eq_true hk0)
   ·exact Or.inr ⟨decide_eq_false hk0,decide_eq_true (by omega)⟩
  ·rw [if_neg h0]
   have hk0:k≠0:=fun h=>h0 (Or.inl h)
   have hk0':k'≠0:=fun h=>h0 (Or.inr h)
   rw [decide_eq_false hk0] at c1
   rw [decide_eq_false hk0'] at c2
   have c3:=fun W=>orc_v hX hb 1 x s g k hk hx hx10 W
   have c4:=fun W=>orc_v hY hb' 1 x' s' g' k' hk' hx' hy10 W
   by_cases hf:rcU X x k<=rcL Y x' k'
   ·have:=rc_far hX hY hk0 hk0' hf
    rw [show sgn ((k*X^x.toNat*(1*Y^(-x').toNat):Nat):Int) ((k'*Y^x'.toNat*(1*X^(-x).toNat):Nat):Int)=-1 by unfold sgn;rw [if_pos (by omega)]]
    exact sz_far 1 x b s g k hk 1 x' b' s' g' k' hk' w rfl rfl _ _ _ _ _ (Or.inl ⟨hf,rfl⟩) c1 c2 c3 c4
   ·by_cases hf':rcU Y x' k'<=rcL X x k
    ·have:=rc_far hY hX hk0' hk0 hf'
     rw [show sgn ((k*X^x.toNat*(1*Y^(-x').toNat):Nat):Int) ((k'*Y^x'.toNat*(1*X^(-x).toNat):Nat):Int)=1 by unfold sgn;rw [if_neg (by omega),if_pos (by omega)]]
     exact sz_far 1 x b s g k hk 1 x' b' s' g' k' hk' w rfl rfl _ _ _ _ _ (Or.inr ⟨hf,hf',rfl⟩) c1 c2 c3 c4
    ·exact sz_meet 1 x b s g k hk 1 x' b' s' g' k' hk' w rfl rfl _ _ _ _ _ hf hf' c1 c2 c3 c4 (fun W=>onr_v hX hY hb hb' hk hk' hx hx' (rc_meet hX hY hk hk' hx hx' hx10 hy10 hf hf') W)
end
section
theorem or_cells {n b:Nat}{a:World}(hb:n<=b):∀ (vs:List Value) (o:Nat) (W:World),Below n a W->Below n a (W.setCells b o vs)
 | [],_,_,h=>h
 | v::r,o,W,h=>or_cells hb r (o+1) _ (h.setCell hb v)
theorem or_far {g h:Nat}(hne:g≠h)(i:Nat):∀ (vs:List Value) (o:Nat) (W:World),(W.setCells h o vs).cell? ⟨g,i,none⟩=W.cell? ⟨g,i,none⟩
 | [],_,_=>rfl
 | v::r,o,W=>by
  have:=or_far hne i r (o+1) (W.setCell ⟨h,o,none⟩ v)
  exact this.trans (by go_simp)
structure O9 (g:Nat) (cs:Array Value) (w:World):Prop where
 lt:g<w.heap.size
 sz:cs.size=9
 c:∀ i,i<9->w.cell? ⟨g,i,none⟩=cs[i]?
 z:∀ i,w.frozen? ⟨g,i,none⟩=false
theorem O9.next {g:Nat}{cs:Array Value}{w w':World}(h:O9 g cs w)(hb:Below w.heap.size w w'):O9 g cs w' :=
 ⟨Nat.lt_of_lt_of_le h.lt hb.size,h.sz,fun i hi=>(hb.cell (p:=⟨g,i,none⟩) h.lt).trans (h.c i hi),fun i=>(hb.frozen (p:=⟨g,i,none⟩) h.lt).trans (h.z i)⟩
theorem O9.put {g:Nat}{cs cs':Array Value}{w:World}(h:O9 g cs w)(hs:cs'.size=9):O9 g cs' (w.setCells g 0 cs'.toList):=by
 have hin:=World.cell?_setCells_in g cs'.toList 0 w (fun j hj=>by
  rw [Nat.zero_add,h.c j (by simpa [hs] using hj),Array.getElem?_eq_getElem (by rw [h.sz];simpa [hs] using hj)];rfl)
 refine ⟨Nat.lt_of_lt_of_le h.lt (or_cells (n:=0) (Nat.zero_le _) _ _ _ (Below.refl 0 w)).size,hs,fun i hi=>?_,fun i=>?_⟩
 ·have:=hin i (by simpa [hs] using hi)
  rw [Nat.zero_add] at this
  rw [this,Array.getElem?_eq_getElem (by rw [hs];exact hi)]
  simp
 ·rw [World.frozen?_setCells];exact h.z i
theorem O9.other {g k:Nat}{cs:Array Value}{vs:List Value}{w:World}(h:O9 g cs w)(hne:g≠k):O9 g cs (w.setCells k 0 vs) :=
 ⟨Nat.lt_of_lt_of_le h.lt (or_cells (n:=0) (Nat.zero_le _) _ _ _ (Below.refl 0 w)).size,h.sz,fun i hi=>(or_far hne i vs 0 w).trans (h.c i hi),fun i=>by rw [World.frozen?_setCells];exact h.z i⟩
attribute [local irreducible] W4 Nt Nz NT
section
variable {a:Act}{w:World}{K:Act->World->Prop}{Q:Exit->Act->World->Prop}{d p q:Nat}{ty:TypeId}{pos:String}{after:Array Edge}{gd:Option (Nat×Bool)}
theorem or_ld9 {h:Nat}{c x b:Int}{s g:Bool}{k:Nat}(h1:slot a p=.pointer (some ⟨h,0,none⟩))(hO:O9 h (OCs c s g x k b) w)(hK:K (a.put (some d) (OV c s g x k b)) w):Oper.wp Tryz.prog { dst:=some d,op:=Op.load 60 (Operand.tmp p),type:=ty,pos:=pos,after:=after,guard:=gd } a w K Q :=
 or_ldO h1 (hO.c 0 (by decide)) (hO.c 1 (by decide)) (hO.c 2 (by decide)) (hO.c 3 (by decide)) (hO.c 4 (by decide)) (hO.c 5 (by decide)) (hO.c 6 (by decide)) (hO.c 7 (by decide)) (hO.c 8 (by decide)) hK
theorem or_st9 {h:Nat}{c x b:Int}{s g:Bool}{k:Nat}{cs:Array Value}(h1:slot a p=.pointer (some ⟨h,0,none⟩))(h2:slot a q=OV c s g x k b)(hB:O9 h cs w)(hK:K (a.put none undef) (w.setCells h 0 (OCs c s g x k b).toList)):Oper.wp Tryz.prog { dst:=none,op:=Op.store 60 (Operand.tmp p) (Operand.tmp q),type:=ty,pos:=pos,after:=after,guard:=gd } a w K Q:=by
 refine wp_store_mid 60 (.tmp p) (.tmp q) rfl h 0 (OCs c s g x k b) (by unfold slot at h1;simp [go_sem,h1]) (by unfold slot at h2;simp [go_sem,h2]) (fun j hj=>?_) (by kernel_rfl) (by simp [Value.oneCell']) hK
 rw [Nat.zero_add,hB.c j hj,Array.getElem?_eq_getElem (by rw [hB.sz];exact hj)]
 exact ⟨rfl,hB.z j⟩
theorem or_k1 {F:Nat}{u0:Value}{ts:Array TypeId}(hr:Sem.run Tryz.prog (callFunc F #[u0]) w=.ok (.enter F #[u0]) w)(hc:Calls Tryz.prog F #[u0] w fun e w'=>∃ v,e=.returned v/\K (a.put (some d) v) w'):Oper.wp Tryz.prog { dst:=some d,op:=Op.call { callee:=Callee.value (Operand.func F),args:=#[Operand.const u0],argTypes:=ts },type:=ty,pos:=pos,after:=after,guard:=gd } a w K Q:=by
 simp [go_sem,hr]
 refine hc.mono ?_
 rintro e w' ⟨v,rfl,hK⟩
 exact hK
theorem or_alW (hK:K (a.put (some d) (.pointer (some ⟨w.heap.size,0,none⟩))) (w.alloc (.cells #[.int .u64 0,.int .u64 0,.int .u64 0,.int .u64 0] 23))):Oper.wp Tryz.prog { dst:=some d,op:=Op.alloc 23,type:=ty,pos:=pos,after:=after,guard:=gd } a w K Q:=by
 simp [go_sem]
 exact hK
theorem or_stW {g X Y:Nat}(h1:slot a p=.pointer (some ⟨g,0,none⟩))(h2:slot a q=A4 Y)(hB:B4 g X w)(hK:K a (put4B w g Y)):Oper.wp Tryz.prog { dst:=none,op:=Op.store 23 (Operand.tmp p) (Operand.tmp q),type:=ty,pos:=pos,after:=after,guard:=gd } a w K Q:=by
 obtain ⟨h3,c0,c1,c2,c3,f0,f1,f2,f3⟩:=hB
 unfold slot at h1 h2
 unfold A4 at h2
 have hsm:=cell_set_map
 simp [go_sem,h1,h2,c0,c1,c2,c3,f0,f1,f2,f3]
 exact hK
end
noncomputable def opsBo:List Oper:=(Tryz.f30.body.bind (findR 4)).getD []
def slotsBo:List Nat:=[25,26,27,0,1]
theorem regBo {b h j:Nat}{w0 ws:World}{c x e c' x' e' E:Int}{s g s' g':Bool}{k k':Nat}{a0:Act}{Q:Exit->Act->World->Prop}(hs:a0.tmps.size=28)
  (g8:slot a0 8=.pointer (some ⟨h,0,none⟩)) (g9:slot a0 9=.pointer (some ⟨j,0,none⟩)) (g10:slot a0 10=.int .i64 E)
  (hbe:Below b w0 ws) (hlh:b<=h) (hlj:b<=j) (hne:h≠j) (hO:O9 h (OCs c s g x k e) ws) (hO':O9 j (OCs c' s' g' x' k' e') ws)
  (hQ:∀ (a:Act) (w:World),Below b w0 w->O9 h (OCs c s g x k e) w->O9 j (OCs c' s' g' x' k' e') w->slot a 10=.int .i64 E->a.tmps.size=28->a.defers=a0.defers->(∀ t,(∀ i,i<6->[25,26,27,0,1,10].getD i 0≠t)->slot a t=slot a0 t)->Q .normal a w) :
  (Code.region 4 opsBo.toArray true).wp Tryz.prog Q a0 ws:=by
 refine wp_region_memg 5 28 slotsBo [iW (OV c s g x k e),iW (OV c' s' g' x' k' e'),iW (.int .i64 E),(fun _ _=>True),(fun _ _=>True)] (fun _ _=>True) (fun _ _ w=>Below b w0 w/\O9 h (OCs c s g x k e) w/\O9 j (OCs c' s' g' x' k' e') w) [] [] (by kernel_rfl) (by kernel_rfl) (by kernel_rfl) (by kernel_rfl) hs ?_ (fun _=>trivial) ?_ ?_ ⟨hbe.drew,hO.next (Below.refl _ _).drew,hO'.next (Below.refl _ _).drew⟩ ?_ ?_ ?_
 ·intro j c hj hc
  cases hc
 ·intro p hp
  simp only [List.mem_cons,List.not_mem_nil,or_false] at hp
  rcases hp with rfl|rfl|rfl|rfl|rfl
  all_goals exact fun _ _ _ h _=>h
 ·intro i hi hG
  cases hG
 ·intro L i o a w hi ho hG
  cases hG
 ·intro L i o a w hi ho hG hL hcl he hM hF hv
  have f8:slot a 8=.pointer (some ⟨h,0,none⟩):=(hF 8 (by decide)).trans g8
  have f9:slot a 9=.pointer (some ⟨j,0,none⟩):=(hF 9 (by decide)).trans g9
  have f10:slot a 10=.int .i64 E:=(hF 10 (by decide)).trans g10
  obtain ⟨m1,m2,m3⟩:=hM
  have hor:i=0∨i=1∨i=2∨i=3∨i=4:=by omega
  rcases hor with rfl|rfl|rfl|rfl|rfl
  ·obtain rfl:=Option.some.inj (show opsBo[0]?=some o from ho)
   exact or_ld9 f8 m2 ⟨_,rfl,rfl,trivial,m1,m2,m3⟩
  ·obtain rfl:=Option.some.inj (show opsBo[1]?=some o from ho)
   exact or_ld9 f9 m3 ⟨_,rfl,rfl,trivial,m1,m2,m3⟩
  ·obtain rfl:=Option.some.inj (show opsBo[2]?=some o from ho)
   exact og_mv f10 ⟨_,rfl,rfl,trivial,m1,m2,m3⟩
  ·obtain rfl:=Option.some.inj (show opsBo[3]?=some o from ho)
   exact or_st9 f8 (hv 0 (by decide) rfl (he ⟨0,.data⟩ (by simp) rfl):slot a 25=OV c s g x k e) m2 ⟨_,rfl,trivial,trivial,or_cells hlh _ _ _ m1,m2.put rfl,m3.other (Ne.symm hne)⟩
  ·obtain rfl:=Option.some.inj (show opsBo[4]?=some o from ho)
   exact or_st9 f9 (hv 1 (by decide) rfl (he ⟨1,.data⟩ (by simp) rfl):slot a 26=OV c' s' g' x' k' e') m3 ⟨_,rfl,trivial,trivial,or_cells hlj _ _ _ m1,m2.other hne,m3.put rfl⟩
 ·intro L a w hL hM hsz hdf hF hv
  obtain ⟨m1,m2,m3⟩:=hM
  refine BigFrame.wpList_want rfl fun K hK=>og_as (hv 2 (by decide) rfl:slot a 27=.int .i64 E) (hK _ _ ?_)
  clear K hK
  refine hQ _ _ m1 m2 m3 (slot_put (by omega)) (by simpa [Act.put] using hsz) hdf (fun t ht=>?_)
  rw [slot_put_ne (show 10≠t from ht 5 (by decide))]
  exact hF t fun i hi=>by
   have:=ht i (by omega)
   have hor:i=0∨i=1∨i=2∨i=3∨i=4:=by omega
   rcases hor with rfl|rfl|rfl|rfl|rfl<;>exact this
noncomputable def opsSt:List Oper:=(Tryz.f43.body.bind (findR 1)).getD []
def slotsSt:List Nat:=[9,10,7,8,0]
def MXs (ws:World)(X4:Nat)(L:Nat->Prop)(f:Nat->Value)(w:World):Prop :=
 Below ws.heap.size ws w/\(L 2->∃ g X,f 7=.pointer (some ⟨g,0,none⟩)/\ws.heap.size<=g/\B4 g X w/\(L 4->X=X4))/\(L 3->∃ h,f 8=.pointer (some ⟨h,0,none⟩)/\ws.heap.size<=h/\B4 h 0 w)/\(L 2->L 3->f 7≠f 8)
theorem MXs.step {ws w:World}{X4 k t:Nat}{L:Nat->Prop}{f:Nat->Value}{v:Value}(h:MXs ws X4 L f w)(h1:t≠7)(h2:t≠8)(h3:k≠2)(h4:k≠3)(h5:k≠4):MXs ws X4 (fun j=>L j∨j=k) (fun u=>if some t=some u then v else f u) w:=by
 obtain ⟨a1,a2,a3,a4⟩:=h
 have e17:(if some t=some 7 then v else f 7)=f 7:=if_neg (fun e=>h1 (Option.some.inj e))
 have e18:(if some t=some 8 then v else f 8)=f 8:=if_neg (fun e=>h2 (Option.some.inj e))
 have l4:∀ {p:Prop},(p∨2=k)->p:=fun h=>h.resolve_right (fun e=>h3 e.symm)
 have l5:∀ {p:Prop},(p∨3=k)->p:=fun h=>h.resolve_right (fun e=>h4 e.symm)
 have l6:∀ {p:Prop},(p∨4=k)->p:=fun h=>h.resolve_right (fun e=>h5 e.symm)
 refine ⟨a1,fun h=>?_,fun h=>?_,fun h h'=>?_⟩
 ·obtain ⟨g,X,b1,b2,b3,b4⟩:=a2 (l4 h)
  exact ⟨g,X,e17.trans b1,b2,b3,fun h=>b4 (l6 h)⟩
 ·obtain ⟨g,b1,b2,b3⟩:=a3 (l5 h)
  exact ⟨g,e18.trans b1,b2,b3⟩
 ·show (if some t=some 7 then v else f 7)≠(if some t=some 8 then v else f 8)
  rw [e17,e18]
  exact a4 (l4 h) (l5 h')
theorem MXs.next {ws w w':World}{X4:Nat}{L:Nat->Prop}{f:Nat->Value}(h:MXs ws X4 L f w)(hb:Below w.heap.size w w'):MXs ws X4 L f w':=by
 obtain ⟨a1,a2,a3,a4⟩:=h
 refine ⟨bnx a1 hb,fun h=>?_,fun h=>?_,a4⟩
 ·obtain ⟨g,X,b1,b2,b3,b4⟩:=a2 h
  exact ⟨g,X,b1,b2,b3.next hb,b4⟩
 ·obtain ⟨g,b1,b2,b3⟩:=a3 h
  exact ⟨g,b1,b2,b3.next hb⟩
theorem regSt {ga X4:Nat}{a0:Act}{ws:World}{Q:Exit->Act->World->Prop}(hs:a0.tmps.size=35)(g3:slot a0 3=.pointer (some ⟨ga,0,none⟩))(hlt:ga<ws.heap.size)
  (k0:ws.cell? ⟨ga,0,none⟩=some (.int .u64 (W4 X4 0))) (k1:ws.cell? ⟨ga,1,none⟩=some (.int .u64 (W4 X4 1))) (k2:ws.cell? ⟨ga,2,none⟩=some (.int .u64 (W4 X4 2))) (k3:ws.cell? ⟨ga,3,none⟩=some (.int .u64 (W4 X4 3)))
  (c1:∀ W,CB 84 #[.int .u64 1] W (A4 1))
  (hQ:∀ (a:Act) (w:World) (g h:Nat),slot a 7=.pointer (some ⟨g,0,none⟩)->slot a 8=.pointer (some ⟨h,0,none⟩)->g≠h->ws.heap.size<=g->ws.heap.size<=h->B4 g X4 w->B4 h 1 w->a.tmps.size=35->a.defers=a0.defers->(∀ t,(∀ i,i<5->slotsSt.getD i 0≠t)->slot a t=slot a0 t)->Below ws.heap.size ws w->Q .normal a w) :
  (Code.region 1 opsSt.toArray true).wp Tryz.prog Q a0 ws:=by
 refine wp_region_memg 5 35 slotsSt [iW (A4 X4),iW (A4 1),(fun _ _=>True),(fun _ _=>True),(fun _ _=>True)] (fun _ _=>True) (MXs ws X4) [] [] (by kernel_rfl) (by kernel_rfl) (by kernel_rfl) (by kernel_rfl) hs ?_ (fun _=>trivial) ?_ ?_ ⟨(Below.refl _ _).drew,fun h=>h.elim,fun h=>h.elim,fun h _=>h.elim⟩ ?_ ?_ ?_
 ·intro j c hj hc
  cases hc
 ·intro p hp
  simp only [List.mem_cons,List.not_mem_nil,or_false] at hp
  rcases hp with rfl|rfl|rfl|rfl|rfl
  all_goals exact fun _ _ _ h _=>h
 ·intro i hi hG
  cases hG
 ·intro L i o a w hi ho hG
  cases hG
 ·intro L i o a w hi ho hG hL hcl he hM hF hv
  have f3:slot a 3=.pointer (some ⟨ga,0,none⟩):=(hF 3 (by decide)).trans g3
  have hB:=hM.1
  have q0:=(hB.cell (p:=⟨ga,0,none⟩) hlt).trans k0
  have q1:=(hB.cell (p:=⟨ga,1,none⟩) hlt).trans k1
  have q2:=(hB.cell (p:=⟨ga,2,none⟩) hlt).trans k2
  have q3:=(hB.cell (p:=⟨ga,3,none⟩) hlt).trans k3
  have hor:i=0∨i=1∨i=2∨i=3∨i=4:=by omega
  rcases hor with rfl|rfl|rfl|rfl|rfl
  ·obtain rfl:=Option.some.inj (show opsSt[0]?=some o from ho)
   exact og_ldB f3 q0 q1 q2 q3 ⟨_,rfl,rfl,trivial,hM.step (by decide) (by decide) (by decide) (by decide) (by decide)⟩
  ·obtain rfl:=Option.some.inj (show opsSt[1]?=some o from ho)
   refine or_k1 (by simp [go_sem]) ((c1 w).mono ?_)
   rintro e w' ⟨rfl,hb⟩
   exact ⟨_,rfl,_,rfl,rfl,trivial,(hM.next hb).step (by decide) (by decide) (by decide) (by decide) (by decide)⟩
  ·have hL6:¬ L 4:=fun h=>hL (hcl 4 _ (show opsSt[4]?=some _ from rfl) h ⟨2,.data⟩ (by simp) rfl)
   obtain rfl:=Option.some.inj (show opsSt[2]?=some o from ho)
   have hb:=below1 w (.cells #[.int .u64 0,.int .u64 0,.int .u64 0,.int .u64 0] 23)
   obtain ⟨a1,a2,a3,a4⟩:=hM
   refine or_alW ⟨_,rfl,trivial,trivial,bnx hB hb,fun _=>⟨_,0,rfl,hB.size,B4.new w _,fun h=>absurd (h.resolve_right (by decide)) hL6⟩,fun h5=>?_,fun _ h5=>?_⟩
   ·obtain ⟨h,b1,b2,b3⟩:=a3 (h5.resolve_right (by decide))
    exact ⟨h,b1,b2,b3.next hb⟩
   ·obtain ⟨h,b1,b2,b3⟩:=a3 (h5.resolve_right (by decide))
    show Value.pointer (some ⟨w.heap.size,0,none⟩)≠slot a 8
    rw [b1]
    have:=b3.lt
    exact ptr_ne (by omega)
  ·obtain rfl:=Option.some.inj (show opsSt[3]?=some o from ho)
   have hb:=below1 w (.cells #[.int .u64 0,.int .u64 0,.int .u64 0,.int .u64 0] 23)
   obtain ⟨a1,a2,a3,a4⟩:=hM
   refine or_alW ⟨_,rfl,trivial,trivial,bnx hB hb,fun h4=>?_,fun _=>⟨_,rfl,hB.size,B4.new w _⟩,fun h4 _=>?_⟩
   ·obtain ⟨g,X,b1,b2,b3,b4⟩:=a2 (h4.resolve_right (by decide))
    exact ⟨g,X,b1,b2,b3.next hb,fun h=>b4 (h.resolve_right (by decide))⟩
   ·obtain ⟨g,X,b1,b2,b3,b4⟩:=a2 (h4.resolve_right (by decide))
    show slot a 7≠Value.pointer (some ⟨w.heap.size,0,none⟩)
    rw [b1]
    have:=b3.lt
    exact ptr_ne (by omega)
  ·obtain rfl:=Option.some.inj (show opsSt[4]?=some o from ho)
   obtain ⟨a1,a2,a3,a4⟩:=hM
   have l4:=he ⟨2,.data⟩ (by simp) rfl
   obtain ⟨g,X,b1,b2,b3,b4⟩:=a2 l4
   refine or_stW b1 (hv 0 (by decide) rfl (he ⟨0,.data⟩ (by simp) rfl):slot a 9=A4 X4) b3 ⟨.bool false,rfl,trivial,trivial,put4B_below hB b2,fun _=>⟨g,X4,b1,b2,b3.put,fun _=>rfl⟩,fun h5=>?_,fun _ h5=>?_⟩
   ·obtain ⟨h,d1,d2,d3⟩:=a3 (h5.resolve_right (by decide))
    refine ⟨h,d1,d2,d3.other fun e=>?_⟩
    have:=a4 l4 (h5.resolve_right (by decide))
    rw [b1,d1,e] at this
    exact this rfl
   ·exact a4 l4 (h5.resolve_right (by decide))
 ·intro L a w hL hM hsz hdf hF hv
  obtain ⟨hB,a2,a3,a4⟩:=hM
  obtain ⟨g,X,e17,hg,hB1,hX⟩:=a2 (hL 2 (by decide))
  obtain ⟨h,e18,hh,hB2⟩:=a3 (hL 3 (by decide))
  obtain rfl:=hX (hL 4 (by decide))
  have hne:g≠h:=fun e=>a4 (hL 2 (by decide)) (hL 3 (by decide)) (by rw [e17,e18,e])
  refine BigFrame.wpList_want rfl fun K hK=>or_stW e18 (hv 1 (by decide) rfl:slot a 10=A4 1) hB2 (hK _ _ ?_)
  clear K hK
  exact hQ a _ g h e17 e18 hne hg hh (hB1.other hne) hB2.put hsz hdf hF (put4B_below hB hh)
end
end Go.Proofs.YtgknbdehlmlipaaGreatDoor
