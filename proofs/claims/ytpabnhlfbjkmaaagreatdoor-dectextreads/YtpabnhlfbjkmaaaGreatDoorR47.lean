/-
  Texts that the proof leans on.
-/
import Derived.Test.YtpabnhlfbjkmaaaGreatDoorR46
import Derived.Test.YtpabnhlfbjkmaaaGreatDoorR1
import Derived.Test.YtpabnhlfbjkmaaaGreatDoorR29
import Derived.Test.YtpabnhlfbjkmaaaGreatDoorR28
import Derived.Test.YtpabnhlfbjkmaaaGreatDoorR6
import Derived.Test.YtpabnhlfbjkmaaaGreatDoorR27
set_option maxHeartbeats 8000000
set_option linter.unusedVariables false
set_option linter.unusedSectionVars false
set_option linter.unusedSimpArgs false
set_option maxRecDepth 20000
namespace Go.Proofs.YtpabnhlfbjkmaaaGreatDoor
open Go.RowKit
section
attribute [local irreducible] W4 Nz Nt
section
variable (n d:Int)(c:Int)(s g:Bool)(l:List UInt8)(x:Int)(T:List UInt8)(nm:ByteArray)(wd P ex lo m pa:Int)(dn:Bool)(w:World)(hT:Tab w)
include hT
theorem dmk_e (E:Int)(hE:(E != 0)=true)(c28:∀ W,Tab W->CB 34 #[.int .i64 n,.int .i64 d] W (.tuple #[IZ,.int .i64 E])) :
  CB 13 #[.int .i64 n,.int .i64 d,PV c s g l x] w (.tuple #[Z4,.int .i64 0,.int .i64 E]):=by
 have hsm:=zAa
 unfold PV at *
 go_enter Tryz.func13,Tryz.ntmps13
 go_wp2_with (go_at_call 34;refine wk w (c28 _ (hT.go bgo)) ?_;intro w1 hb1 _ _ _ _ hA1 _;obtain ⟨_,_⟩:=zf hb1 (w.heap.size+1);clear hb1)
 exact bodyPost_ret (v:=.tuple #[Z4,.int .i64 0,.int .i64 E]) (by simp only [results,Tryz.results13];go_simp) rfl ⟨rfl,bgo⟩
theorem drd_e (bs:ByteArray)(E:Int)(hE:(E != 0)=true)(c28:∀ W,Tab W->CB 34 #[.int .i64 n,.int .i64 d] W (.tuple #[IZ,.int .i64 E])) :
  CB 11 #[.int .i64 n,.int .i64 d,.string bs] w (.tuple #[Z4,.int .i64 0,.int .i64 E]):=by
 have hsm:=zAa
 go_enter Tryz.func11,Tryz.ntmps11
 go_wp2_with (go_at_call 34;refine wk w (c28 _ (hT.go bgo)) ?_;intro w1 hb1 _ _ _ _ hA1 _;clear hb1)
 exact bodyPost_ret (v:=.tuple #[Z4,.int .i64 0,.int .i64 E]) (by simp only [results,Tryz.results11];go_simp) rfl ⟨rfl,bgo⟩
variable (c28:∀ W,Tab W->CB 34 #[.int .i64 n,.int .i64 d] W (.tuple #[zAb n nm wd P ex lo m pa dn,.int .i64 0]))
include c28
theorem dmk_j (E:Int)(hE:(E != 0)=true)(c31:∀ W,Below w.heap.size w W->CB 37 #[PV c s g l x] W (.tuple #[.string (B T),.int .i64 E])) :
  CB 13 #[.int .i64 n,.int .i64 d,PV c s g l x] w (.tuple #[Z4,.int .i64 0,.int .i64 2]):=by
 have hsm:=zAa
 unfold PV at *
 go_enter Tryz.func13,Tryz.ntmps13
 go_wp2_with (first
  | (go_at_call 34;refine wk w (c28 _ (hT.go bgo)) ?_;intro w1 hb1 _ _ _ _ hA1 _;obtain ⟨_,_⟩:=zf hb1 (w.heap.size+1);clear hb1)
  | (go_at_call 37;refine wk w (c31 _ bgo) ?_;intro w2 hb2 _ _ _ _ hA2 _;obtain ⟨_,_,_,_⟩:=zg hb2 (w.heap.size+1) w1.heap.size;clear hb2))
 exact bodyPost_ret (v:=.tuple #[Z4,.int .i64 0,.int .i64 2]) (by simp only [results,Tryz.results13];go_simp) rfl ⟨rfl,bgo⟩
theorem dmk_k (R:Nat)(F E:Int)(vc vx:Int)(vs vg:Bool)(V0 V1 V2 V3:Int)(c31:∀ W,Below w.heap.size w W->CB 37 #[PV c s g l x] W (.tuple #[.string (B T),.int .i64 0]))
  (c32:∀ W,Tab W->CB 38 #[zAb n nm wd P ex lo m pa dn,.int .i64 d,PV c s g l x] W (.tuple #[.agg #[.int .i64 vc,.bool vs,.bool vg,.int .i64 vx,.int .u64 V0,.int .u64 V1,.int .u64 V2,.int .u64 V3],.int .i64 F]))
  (c34:∀ W,Tab W->CB 39 #[.int .i64 n,.agg #[.int .i64 vc,.bool vs,.bool vg,.int .i64 vx,.int .u64 V0,.int .u64 V1,.int .u64 V2,.int .u64 V3]] W (.tuple #[A4 R,.int .i64 E])) :
  CB 13 #[.int .i64 n,.int .i64 d,PV c s g l x] w (.tuple #[A4 R,.int .i64 F,.int .i64 E]):=by
 have hsm:=zAa
 unfold PV A4 at *
 go_enter Tryz.func13,Tryz.ntmps13
 go_wp2_with (first
  | (go_at_call 34;refine wk w (c28 _ (hT.go bgo)) ?_;intro w1 hb1 _ _ _ _ hA1 _;obtain ⟨_,_⟩:=zf hb1 (w.heap.size+1);clear hb1)
  | (go_at_call 37;refine wk w (c31 _ bgo) ?_;intro w2 hb2 _ _ _ _ hA2 _;obtain ⟨_,_,_,_⟩:=zg hb2 (w.heap.size+1) w1.heap.size;clear hb2)
  | (go_at_call 38;refine wk w (c32 _ (hT.go bgo)) ?_;intro w3 hb3 _ _ _ _ hA3 _;obtain ⟨_,_,_,_⟩:=zg hb3 (w.heap.size+1) w1.heap.size;clear hb3)
  | (go_at_call 39;refine wk w (c34 _ (hT.go bgo)) ?_;intro w4 hb4 _ _ _ _ hA4 _;obtain ⟨_,_,_,_,_,_⟩:=zh hb4 (w.heap.size+1) w1.heap.size w3.heap.size;clear hb4))
 exact bodyPost_ret (v:=.tuple #[A4 R,.int .i64 F,.int .i64 E]) (by unfold A4;simp only [results,Tryz.results13];go_simp) rfl ⟨rfl,bgo⟩
variable (bs:ByteArray)(pc px:Int)(ps pg:Bool)(pd:ByteArray)
theorem drd_c (E:Int)(hE:(E != 0)=true)(c30:∀ W,CB 35 #[.string bs] W (.tuple #[.agg #[.int .i64 pc,.bool ps,.bool pg,.string pd,.int .i64 px],.int .i64 E])) :
  CB 11 #[.int .i64 n,.int .i64 d,.string bs] w (.tuple #[Z4,.int .i64 0,.int .i64 E]):=by
 have hsm:=zAa
 go_enter Tryz.func11,Tryz.ntmps11
 go_wp2_with (first
  | (go_at_call 34;refine wk w (c28 _ (hT.go bgo)) ?_;intro w1 hb1 _ _ _ _ hA1 _;clear hb1)
  | (go_at_call 35;refine wk w (c30 _) ?_;intro w2 hb2 _ _ _ _ hA2 _;obtain ⟨_,_⟩:=zf hb2 w1.heap.size;clear hb2))
 exact bodyPost_ret (v:=.tuple #[Z4,.int .i64 0,.int .i64 E]) (by simp only [results,Tryz.results11];go_simp) rfl ⟨rfl,bgo⟩
theorem drd_k (R:Nat)(F E:Int)(c30:∀ W,CB 35 #[.string bs] W (.tuple #[.agg #[.int .i64 pc,.bool ps,.bool pg,.string pd,.int .i64 px],.int .i64 0]))
  (c14:∀ W,Below w.heap.size w W->CB 13 #[.int .i64 n,.int .i64 d,.agg #[.int .i64 pc,.bool ps,.bool pg,.string pd,.int .i64 px]] W (.tuple #[A4 R,.int .i64 F,.int .i64 E])) :
  CB 11 #[.int .i64 n,.int .i64 d,.string bs] w (.tuple #[A4 R,.int .i64 F,.int .i64 E]):=by
 have hsm:=zAa
 unfold A4 at *
 go_enter Tryz.func11,Tryz.ntmps11
 go_wp2_with (first
  | (go_at_call 34;refine wk w (c28 _ (hT.go bgo)) ?_;intro w1 hb1 _ _ _ _ hA1 _;clear hb1)
  | (go_at_call 35;refine wk w (c30 _) ?_;intro w2 hb2 _ _ _ _ hA2 _;obtain ⟨_,_⟩:=zf hb2 w1.heap.size;clear hb2)
  | (go_at_call 13;refine wk w (c14 _ bgo) ?_;intro w3 hb3 _ _ _ _ hA3 _;obtain ⟨_,_,_,_⟩:=zg hb3 w1.heap.size w2.heap.size;clear hb3))
 exact bodyPost_ret (v:=.tuple #[A4 R,.int .i64 F,.int .i64 E]) (by unfold A4;simp only [results,Tryz.results11];go_simp) rfl ⟨rfl,bgo⟩
end
section
variable (n:Int)(Bp:Nat)(c:Int)(s g ok:Bool)(x:Int)(k:Nat)(w:World)(hT:Tab w)
include hT
theorem dwx_e (E:Int)(hE:(E != 0)=true)(c21:∀ W,Tab W->CB 28 #[.int .i64 n,A4 Bp] W (.tuple #[DV c s g x k,.bool ok,.int .i64 E])) :
  CB 9 #[.int .i64 n,A4 Bp] w (.tuple #[.string (B []),.int .i64 E]):=by
 have hsm:=zAa
 unfold DV A4 at *
 go_enter Tryz.func9,Tryz.ntmps9
 go_wp2_with (go_at_call 28;refine wk w (c21 _ (hT.go bgo)) ?_;intro w1 hb1 _ _ _ _ hA1 _;clear hb1)
 exact bodyPost_ret (v:=.tuple #[.string (B []),.int .i64 E]) (by simp only [results,Tryz.results9];go_simp;rfl) rfl ⟨rfl,bgo⟩
variable (hT10:Tb10 w)(c21:∀ W,Tab W->CB 28 #[.int .i64 n,A4 Bp] W (.tuple #[DV c s g x k,.bool ok,.int .i64 0]))
include hT10 c21
theorem dwx_o (hc:(c != 1)=true)(T:List UInt8)(c28:∀ W,Tb10 W->CB 29 #[DV c s g x k] W (.string (B T))) :
  CB 9 #[.int .i64 n,A4 Bp] w (.tuple #[.string (B T),.int .i64 0]):=by
 have hsm:=zAa
 unfold DV A4 at *
 go_enter Tryz.func9,Tryz.ntmps9
 go_wp2_with (first
  | (go_at_call 28;refine wk w (c21 _ (hT.go bgo)) ?_;intro w1 hb1 _ _ _ _ hA1 _;clear hb1)
  | (go_at_call 29;refine wk w (c28 _ (hT10.next bgo)) ?_;intro w2 hb2 _ _ _ _ hA2 _;obtain ⟨_,_⟩:=zf hb2 w1.heap.size;clear hb2))
 exact bodyPost_ret (v:=.tuple #[.string (B T),.int .i64 0]) (by simp only [results,Tryz.results9];go_simp) rfl ⟨rfl,bgo⟩
variable (hc:c=1)(hk:k<2^256)(hx:-10000<=x/\x<=10000)(D:List UInt8)(hD:D.length<=660)(T:List UInt8)(hTl:T.length<=4000)
 (c20:∀ W v,Nt 4 k v W->CB 30 #[v] W (.tuple #[.string (B D),.int .i64 0]))
 (c29:∀ W,Tb10 W->CB 31 #[.string (B D),.int .i64 (x+((B D).size:Int)-1)] W (.string (B T)))
include hc hk hx hD hTl c20 c29
theorem dwx_f (hs:s=false) :
  CB 9 #[.int .i64 n,A4 Bp] w (.tuple #[.string (B T),.int .i64 0]):=by
 subst hc hs
 have hsz:((B D).size:Int)<=660:=by rw [zCa];omega
 clear hD
 have hsm:=zAa
 unfold DV A4 at *
 go_enter Tryz.func9,Tryz.ntmps9
 go_wp2_with (first
  | (go_at_call 28;refine wk w (c21 _ (hT.go bgo)) ?_;intro w1 hb1 _ _ _ _ hA1 _;clear hb1)
  | (go_at_call 30;refine wk w (c20 _ _ (yVa hk (by first|(simp;done)|(simp;omega)) (by go_simp) (by go_simp) (by go_simp) (by go_simp))) ?_;intro w2 hb2 _ _ _ _ hA2 _;obtain ⟨_,_⟩:=zf hb2 w1.heap.size;clear hb2)
  | (go_at_call 31;refine wk w (c29 _ (hT10.next bgo)) ?_;intro w3 hb3 _ _ _ _ hA3 _;obtain ⟨_,_⟩:=zf hb3 w1.heap.size;clear hb3))
 exact bodyPost_ret (v:=.tuple #[.string (B T),.int .i64 0]) (by simp only [results,Tryz.results9];go_simp) rfl ⟨rfl,bgo⟩
theorem dwx_t (hs:s=true) :
  CB 9 #[.int .i64 n,A4 Bp] w (.tuple #[.string (B (45::T)),.int .i64 0]):=by
 subst hc hs
 have hsz:((B D).size:Int)<=660:=by rw [zCa];omega
 have hst:((B T).size:Int)<=4000:=by rw [zCa];omega
 have eB:(⟨#[45]⟩:ByteArray)++B T=B (45::T):=zTa [45] T
 rw [← eB]
 clear hD hTl eB
 have hsm:=zAa
 unfold DV A4 at *
 go_enter Tryz.func9,Tryz.ntmps9
 go_wp2_with (first
  | (go_at_call 28;refine wk w (c21 _ (hT.go bgo)) ?_;intro w1 hb1 _ _ _ _ hA1 _;clear hb1)
  | (go_at_call 30;refine wk w (c20 _ _ (yVa hk (by first|(simp;done)|(simp;omega)) (by go_simp) (by go_simp) (by go_simp) (by go_simp))) ?_;intro w2 hb2 _ _ _ _ hA2 _;obtain ⟨_,_⟩:=zf hb2 w1.heap.size;clear hb2)
  | (go_at_call 31;refine wk w (c29 _ (hT10.next bgo)) ?_;intro w3 hb3 _ _ _ _ hA3 _;obtain ⟨_,_⟩:=zf hb3 w1.heap.size;clear hb3))
 exact bodyPost_ret (v:=.tuple #[.string ((⟨#[45]⟩:ByteArray)++B T),.int .i64 0]) (by simp only [results,Tryz.results9];go_simp) rfl ⟨rfl,bgo⟩
end
end
section
attribute [local irreducible] W4 Nt NT
section
variable {a:Act}{w:World}{K:Act->World->Prop}{Q:Exit->Act->World->Prop}{d p q:Nat}{ty:TypeId}{pos:String}{after:Array Edge}{gd:Option (Nat×Bool)}
theorem opg_f1 {g:Nat}(h1:slot a p=.pointer (some ⟨g,0,none⟩))(hK:K (a.put (some d) (.pointer (some ⟨g,1,none⟩))) w):Oper.wp Tryz.prog { dst:=some d,op:=Op.fieldAddr 35 (Operand.tmp p) 1,type:=ty,pos:=pos,after:=after,guard:=gd } a w K Q:=by
 unfold slot at h1
 simp [go_sem,h1]
 exact hK
theorem opg_f3 {g:Nat}(h1:slot a p=.pointer (some ⟨g,0,none⟩))(hK:K (a.put (some d) (.pointer (some ⟨g,3,none⟩))) w):Oper.wp Tryz.prog { dst:=some d,op:=Op.fieldAddr 35 (Operand.tmp p) 3,type:=ty,pos:=pos,after:=after,guard:=gd } a w K Q:=by
 unfold slot at h1
 simp [go_sem,h1]
 exact hK
theorem opg_f4 {g:Nat}(h1:slot a p=.pointer (some ⟨g,0,none⟩))(hK:K (a.put (some d) (.pointer (some ⟨g,4,none⟩))) w):Oper.wp Tryz.prog { dst:=some d,op:=Op.fieldAddr 35 (Operand.tmp p) 4,type:=ty,pos:=pos,after:=after,guard:=gd } a w K Q:=by
 unfold slot at h1
 simp [go_sem,h1]
 exact hK
theorem opi_f0 {g:Nat}(h1:slot a p=.pointer (some ⟨g,0,none⟩))(hK:K (a.put (some d) (.pointer (some ⟨g,0,none⟩))) w):Oper.wp Tryz.prog { dst:=some d,op:=Op.fieldAddr 65 (Operand.tmp p) 0,type:=ty,pos:=pos,after:=after,guard:=gd } a w K Q:=by
 unfold slot at h1
 simp [go_sem,h1]
 exact hK
theorem opg_l9 {g i:Nat}{v:Value}(h1:slot a p=.pointer (some ⟨g,i,none⟩))(h2:w.cell? ⟨g,i,none⟩=some v)(hK:K (a.put (some d) v) w):Oper.wp Tryz.prog { dst:=some d,op:=Op.load 9 (Operand.tmp p),type:=ty,pos:=pos,after:=after,guard:=gd } a w K Q:=by
 unfold slot at h1
 simp [go_sem,h1,h2]
 exact hK
theorem og_c5 {F:Nat}{p0 p1 p2 p3 p4:Nat}{u0 u1 u2 u3 u4:Value}{ts:Array TypeId}(hr:Sem.run Tryz.prog (callFunc F #[u0,u1,u2,u3,u4]) w=.ok (.enter F #[u0,u1,u2,u3,u4]) w)(h0:slot a p0=u0)(h1:slot a p1=u1)(h2:slot a p2=u2)(h3:slot a p3=u3)(h4:slot a p4=u4)(hc:Calls Tryz.prog F #[u0,u1,u2,u3,u4] w fun e w'=>∃ v,e=.returned v/\K (a.put (some d) v) w'):Oper.wp Tryz.prog { dst:=some d,op:=Op.call { callee:=Callee.value (Operand.func F),args:=#[Operand.tmp p0,Operand.tmp p1,Operand.tmp p2,Operand.tmp p3,Operand.tmp p4],argTypes:=ts },type:=ty,pos:=pos,after:=after,guard:=gd } a w K Q:=by
 unfold slot at h0 h1 h2 h3 h4
 simp [go_sem,h0,h1,h2,h3,h4,hr]
 refine hc.mono ?_
 rintro e w' ⟨v,rfl,hK⟩
 exact hK
end
noncomputable def zHc:List Oper:=(Tryz.f38.body.bind (zXm 2)).getD []
def zR2:List Nat:=[16,17,18,19,20,21,22,23,24,25,26,15,27,28,29,8,51,9]
def zAo:List Nat:=[16,17,18,19,20,21,22,23,24,25,26,15,27,28,29,8,51,9,10]
def KDt2 (ws:World)(N:Nat)(cv:Array Value)(L:Nat->Prop)(f:Nat->Value)(w:World):Prop :=
 Below ws.heap.size ws w/\(L 7->L 10∨Nt 2001 N (f 23) w)/\(L 15->∃ g cs,f 8=.pointer (some ⟨g,0,none⟩)/\ws.heap.size<=g/\D8 g cs w/\(L 16->cs=cv))
theorem KDt2.step {ws w:World}{N:Nat}{cv:Array Value}{k t:Nat}{L:Nat->Prop}{f:Nat->Value}{v:Value}(h:KDt2 ws N cv L f w)(h1:t≠23)(h2:t≠8)(h3:k≠7)(h4:k≠15)(h5:k≠16)(h6:k≠10):KDt2 ws N cv (fun j=>L j∨j=k) (fun u=>if some t=some u then v else f u) w:=by
 obtain ⟨a1,a2,a3⟩:=h
 have e23:(if some t=some 23 then v else f 23)=f 23:=if_neg (fun e=>h1 (Option.some.inj e))
 have e8:(if some t=some 8 then v else f 8)=f 8:=if_neg (fun e=>h2 (Option.some.inj e))
 refine ⟨a1,fun h=>?_,fun h=>?_⟩
 ·rcases a2 (h.resolve_right (fun e=>h3 e.symm)) with q|q
  ·exact Or.inl (Or.inl q)
  ·right;show Nt 2001 N (if some t=some 23 then v else f 23) w;rw [e23];exact q
 ·obtain ⟨g,cs,b1,b2,b3,b4⟩:=a3 (h.resolve_right (fun e=>h4 e.symm))
  exact ⟨g,cs,e8.trans b1,b2,b3,fun h=>b4 (h.resolve_right (fun e=>h5 e.symm))⟩
theorem regDt2 {g3 g5 N vk:Nat}{n d ux vc vx F Er:Int}{us vs vg:Bool}{bs:ByteArray}{a0:Act}{ws:World}{Q:Exit->Act->World->Prop}(hs:a0.tmps.size=52)(hTW:Tab ws)
  (g1:slot a0 1=.int .i64 d) (gg3:slot a0 3=.pointer (some ⟨g3,0,none⟩)) (gg5:slot a0 5=.pointer (some ⟨g5,0,none⟩)) (hlt3:g3<ws.heap.size) (hlt:g5<ws.heap.size)
  (q0:ws.cell? ⟨g3,0,none⟩=some (.int .i64 n)) (q1:ws.cell? ⟨g5,1,none⟩=some (.bool us)) (q3:ws.cell? ⟨g5,3,none⟩=some (.string bs)) (q4:ws.cell? ⟨g5,4,none⟩=some (.int .i64 ux))
  (cN:∀ W,CE 82 #[.string bs] W (Nt 2001 N))
  (cD:∀ W v,Tab W->Nt 2001 N v W->CB 81 #[.int .i64 n,.int .i64 d,.bool us,v,.int .i64 ux] W (.tuple #[DV vc vs vg vx vk,.int .i64 F,.int .i64 Er]))
  (hQ:∀ (a:Act) (w:World) (g:Nat),slot a 8=.pointer (some ⟨g,0,none⟩)->slot a 9=.int .i64 F->slot a 10=.int .i64 Er->ws.heap.size<=g->D8 g (dvc vc vs vg vx vk) w->a.tmps.size=52->a.defers=a0.defers->(∀ t,(∀ i,i<19->zAo.getD i 0≠t)->slot a t=slot a0 t)->Below ws.heap.size ws w->Q .normal a w) :
  (Code.region 2 zHc.toArray true).wp Tryz.prog Q a0 ws:=by
 refine zIg 18 52 zR2 [iW (.pointer (some ⟨g3,0,none⟩)),iW (.int .i64 n),iW (.int .i64 d),iW (.pointer (some ⟨g5,1,none⟩)),iW (.bool us),iW (.pointer (some ⟨g5,3,none⟩)),iW (.string bs),(fun _ _=>True),iW (.pointer (some ⟨g5,4,none⟩)),iW (.int .i64 ux),iW (.tuple #[DV vc vs vg vx vk,.int .i64 F,.int .i64 Er]),iW (.tuple #[DV vc vs vg vx vk,.int .i64 F,.int .i64 Er]),iW (DV vc vs vg vx vk),iW (.int .i64 F),iW (.int .i64 Er),(fun _ _=>True),(fun _ _=>True),iW (.int .i64 F)] (fun _ _=>True) (KDt2 ws N (dvc vc vs vg vx vk)) [] [] (by kernel_rfl) (by kernel_rfl) (by kernel_rfl) (by kernel_rfl) hs ?_ (fun _=>trivial) ?_ ?_ ⟨(Below.refl _ _).drew,fun h=>h.elim,fun h=>h.elim⟩ ?_ ?_ ?_
 ·intro j c hj hc
  cases hc
 ·intro p hp
  simp only [List.mem_cons,List.not_mem_nil,or_false] at hp
  rcases hp with rfl|rfl|rfl|rfl|rfl|rfl|rfl|rfl|rfl|rfl|rfl|rfl|rfl|rfl|rfl|rfl|rfl|rfl
  all_goals exact fun _ _ _ h _=>h
 ·intro i hi hG
  cases hG
 ·intro L i o a w hi ho hG
  cases hG
 ·intro L i o a w hi ho hG hL hcl he hM hF hv
  have f1:slot a 1=.int .i64 d:=(hF 1 (by decide)).trans g1
  have f3:slot a 3=.pointer (some ⟨g3,0,none⟩):=(hF 3 (by decide)).trans gg3
  have f5:slot a 5=.pointer (some ⟨g5,0,none⟩):=(hF 5 (by decide)).trans gg5
  have hB:=hM.1
  have k0:w.cell? ⟨g3,0,none⟩=some (.int .i64 n):=(hB.cell (p:=⟨g3,0,none⟩) hlt3).trans q0
  have k1:w.cell? ⟨g5,1,none⟩=some (.bool us):=(hB.cell (p:=⟨g5,1,none⟩) hlt).trans q1
  have k3:w.cell? ⟨g5,3,none⟩=some (.string bs):=(hB.cell (p:=⟨g5,3,none⟩) hlt).trans q3
  have k4:w.cell? ⟨g5,4,none⟩=some (.int .i64 ux):=(hB.cell (p:=⟨g5,4,none⟩) hlt).trans q4
  have hor:i=0∨i=1∨i=2∨i=3∨i=4∨i=5∨i=6∨i=7∨i=8∨i=9∨i=10∨i=11∨i=12∨i=13∨i=14∨i=15∨i=16∨i=17:=by omega
  rcases hor with rfl|rfl|rfl|rfl|rfl|rfl|rfl|rfl|rfl|rfl|rfl|rfl|rfl|rfl|rfl|rfl|rfl|rfl
  ·obtain rfl:=Option.some.inj (show zHc[0]?=some o from ho)
   exact opi_f0 f3 ⟨_,rfl,rfl,trivial,hM.step (by decide) (by decide) (by decide) (by decide) (by decide) (by decide)⟩
  ·obtain rfl:=Option.some.inj (show zHc[1]?=some o from ho)
   exact zEh (hv 0 (by decide) rfl (he ⟨0,.data⟩ (by simp) rfl):slot a 16=.pointer (some ⟨g3,0,none⟩)) k0 ⟨_,rfl,rfl,trivial,hM.step (by decide) (by decide) (by decide) (by decide) (by decide) (by decide)⟩
  ·obtain rfl:=Option.some.inj (show zHc[2]?=some o from ho)
   exact zFq f1 ⟨_,rfl,rfl,trivial,hM.step (by decide) (by decide) (by decide) (by decide) (by decide) (by decide)⟩
  ·obtain rfl:=Option.some.inj (show zHc[3]?=some o from ho)
   exact opg_f1 f5 ⟨_,rfl,rfl,trivial,hM.step (by decide) (by decide) (by decide) (by decide) (by decide) (by decide)⟩
  ·obtain rfl:=Option.some.inj (show zHc[4]?=some o from ho)
   exact zT6 (hv 3 (by decide) rfl (he ⟨3,.data⟩ (by simp) rfl):slot a 19=.pointer (some ⟨g5,1,none⟩)) k1 ⟨_,rfl,rfl,trivial,hM.step (by decide) (by decide) (by decide) (by decide) (by decide) (by decide)⟩
  ·obtain rfl:=Option.some.inj (show zHc[5]?=some o from ho)
   exact opg_f3 f5 ⟨_,rfl,rfl,trivial,hM.step (by decide) (by decide) (by decide) (by decide) (by decide) (by decide)⟩
  ·obtain rfl:=Option.some.inj (show zHc[6]?=some o from ho)
   exact opg_l9 (hv 5 (by decide) rfl (he ⟨5,.data⟩ (by simp) rfl):slot a 21=.pointer (some ⟨g5,3,none⟩)) k3 ⟨_,rfl,rfl,trivial,hM.step (by decide) (by decide) (by decide) (by decide) (by decide) (by decide)⟩
  ·obtain rfl:=Option.some.inj (show zHc[7]?=some o from ho)
   obtain ⟨a1,a2,a3⟩:=hM
   refine zT3 (by simp [go_sem]) (hv 6 (by decide) rfl (he ⟨6,.data⟩ (by simp) rfl):slot a 22=.string bs) ((cN w).mono ?_)
   rintro e w' ⟨v,rfl,hNv,hb⟩
   refine ⟨v,rfl,_,rfl,trivial,trivial,bnx hB hb,fun _=>Or.inr hNv,fun h15=>?_⟩
   obtain ⟨g,cs,b1,b2,b3,b4⟩:=a3 (h15.resolve_right (by decide))
   exact ⟨g,cs,b1,b2,b3.next hb,fun h=>b4 (h.resolve_right (by decide))⟩
  ·obtain rfl:=Option.some.inj (show zHc[8]?=some o from ho)
   exact opg_f4 f5 ⟨_,rfl,rfl,trivial,hM.step (by decide) (by decide) (by decide) (by decide) (by decide) (by decide)⟩
  ·obtain rfl:=Option.some.inj (show zHc[9]?=some o from ho)
   exact zEh (hv 8 (by decide) rfl (he ⟨8,.data⟩ (by simp) rfl):slot a 24=.pointer (some ⟨g5,4,none⟩)) k4 ⟨_,rfl,rfl,trivial,hM.step (by decide) (by decide) (by decide) (by decide) (by decide) (by decide)⟩
  ·obtain rfl:=Option.some.inj (show zHc[10]?=some o from ho)
   obtain ⟨a1,a2,a3⟩:=hM
   have l7:=he ⟨7,.data⟩ (by simp) rfl
   have h1:Nt 2001 N (slot a 23) w:=(a2 l7).resolve_left hL
   refine og_c5 (by simp [go_sem]) (hv 1 (by decide) rfl (he ⟨1,.data⟩ (by simp) rfl):slot a 17=.int .i64 n) (hv 2 (by decide) rfl (he ⟨2,.data⟩ (by simp) rfl):slot a 18=.int .i64 d) (hv 4 (by decide) rfl (he ⟨4,.data⟩ (by simp) rfl):slot a 20=.bool us) rfl (hv 9 (by decide) rfl (he ⟨9,.data⟩ (by simp) rfl):slot a 25=.int .i64 ux) ((cD w _ (hTW.go hB) h1).mono ?_)
   rintro e w' ⟨rfl,hb⟩
   refine ⟨_,rfl,_,rfl,rfl,trivial,bnx hB hb,fun _=>Or.inl (Or.inr rfl),fun h15=>?_⟩
   obtain ⟨g,cs,b1,b2,b3,b4⟩:=a3 (h15.resolve_right (by decide))
   exact ⟨g,cs,b1,b2,b3.next hb,fun h=>b4 (h.resolve_right (by decide))⟩
  ·obtain rfl:=Option.some.inj (show zHc[11]?=some o from ho)
   exact zFq (hv 10 (by decide) rfl (he ⟨10,.data⟩ (by simp) rfl):slot a 26=.tuple #[DV vc vs vg vx vk,.int .i64 F,.int .i64 Er]) ⟨_,rfl,rfl,trivial,hM.step (by decide) (by decide) (by decide) (by decide) (by decide) (by decide)⟩
  ·obtain rfl:=Option.some.inj (show zHc[12]?=some o from ho)
   exact zNo (hv 11 (by decide) rfl (he ⟨11,.data⟩ (by simp) rfl):slot a 15=.tuple #[DV vc vs vg vx vk,.int .i64 F,.int .i64 Er]) rfl ⟨_,rfl,rfl,trivial,hM.step (by decide) (by decide) (by decide) (by decide) (by decide) (by decide)⟩
  ·obtain rfl:=Option.some.inj (show zHc[13]?=some o from ho)
   exact zNo (hv 11 (by decide) rfl (he ⟨11,.data⟩ (by simp) rfl):slot a 15=.tuple #[DV vc vs vg vx vk,.int .i64 F,.int .i64 Er]) rfl ⟨_,rfl,rfl,trivial,hM.step (by decide) (by decide) (by decide) (by decide) (by decide) (by decide)⟩
  ·obtain rfl:=Option.some.inj (show zHc[14]?=some o from ho)
   exact zNo (hv 11 (by decide) rfl (he ⟨11,.data⟩ (by simp) rfl):slot a 15=.tuple #[DV vc vs vg vx vk,.int .i64 F,.int .i64 Er]) rfl ⟨_,rfl,rfl,trivial,hM.step (by decide) (by decide) (by decide) (by decide) (by decide) (by decide)⟩
  ·have hL16:¬ L 16:=fun h=>hL (hcl 16 _ (show zHc[16]?=some _ from rfl) h ⟨15,.data⟩ (by simp) rfl)
   obtain rfl:=Option.some.inj (show zHc[15]?=some o from ho)
   have hb:=zEa w (.cells zd 50)
   obtain ⟨a1,a2,a3⟩:=hM
   refine od_alc ⟨_,rfl,trivial,trivial,bnx hB hb,fun h6=>?_,fun _=>⟨_,zd,rfl,hB.size,D8.new w,fun h=>absurd (h.resolve_right (by decide)) hL16⟩⟩
   rcases a2 (h6.resolve_right (by decide)) with q|q
   ·exact Or.inl (Or.inl q)
   ·exact Or.inr (q.next hb)
  ·obtain rfl:=Option.some.inj (show zHc[16]?=some o from ho)
   obtain ⟨a1,a2,a3⟩:=hM
   have l15:=he ⟨15,.data⟩ (by simp) rfl
   have l12:=he ⟨12,.data⟩ (by simp) rfl
   have l11:=hcl 12 _ (show zHc[12]?=some _ from rfl) l12 ⟨11,.data⟩ (by simp) rfl
   have l10:=hcl 11 _ (show zHc[11]?=some _ from rfl) l11 ⟨10,.data⟩ (by simp) rfl
   obtain ⟨g,cs,b1,b2,b3,b4⟩:=a3 l15
   exact od_st b1 (hv 12 (by decide) rfl l12:slot a 27=DV vc vs vg vx vk) b3 ⟨.bool false,rfl,trivial,trivial,zEd b2 _ _ _ hB,fun _=>Or.inl (Or.inl l10),fun _=>⟨g,_,b1,b2,b3.put rfl,fun _=>rfl⟩⟩
  ·obtain rfl:=Option.some.inj (show zHc[17]?=some o from ho)
   exact yOa (hv 13 (by decide) rfl (he ⟨13,.data⟩ (by simp) rfl):slot a 28=.int .i64 F) ⟨_,rfl,rfl,trivial,hM.step (by decide) (by decide) (by decide) (by decide) (by decide) (by decide)⟩
 ·intro L a w hL hM hsz hdf hF hv
  obtain ⟨hB,a2,a3⟩:=hM
  obtain ⟨g,cs,e14,hg,hD,hc⟩:=a3 (hL 15 (by decide))
  obtain rfl:=hc (hL 16 (by decide))
  have h15:slot a 9=.int .i64 F:=hv 17 (by decide) rfl
  have h68:slot a 29=.int .i64 Er:=hv 14 (by decide) rfl
  refine BigFrame.wpList_want rfl fun K hK=>yOa h68 (hK _ _ ?_)
  clear K hK
  refine hQ _ _ g ?_ ?_ (zVf (by omega)) hg hD (by simp only [zJo];exact hsz) hdf (fun t ht=>?_) hB
  ·rw [zOb (by decide)];exact e14
  ·rw [zOb (by decide)];exact h15
  ·rw [zOb (show 10≠t from ht 18 (by decide))]
   exact hF t fun i hi=>by
    have hor:i=0∨i=1∨i=2∨i=3∨i=4∨i=5∨i=6∨i=7∨i=8∨i=9∨i=10∨i=11∨i=12∨i=13∨i=14∨i=15∨i=16∨i=17:=by omega
    rcases hor with rfl|rfl|rfl|rfl|rfl|rfl|rfl|rfl|rfl|rfl|rfl|rfl|rfl|rfl|rfl|rfl|rfl|rfl
    ·exact ht 0 (by decide)
    ·exact ht 1 (by decide)
    ·exact ht 2 (by decide)
    ·exact ht 3 (by decide)
    ·exact ht 4 (by decide)
    ·exact ht 5 (by decide)
    ·exact ht 6 (by decide)
    ·exact ht 7 (by decide)
    ·exact ht 8 (by decide)
    ·exact ht 9 (by decide)
    ·exact ht 10 (by decide)
    ·exact ht 11 (by decide)
    ·exact ht 12 (by decide)
    ·exact ht 13 (by decide)
    ·exact ht 14 (by decide)
    ·exact ht 15 (by decide)
    ·exact ht 16 (by decide)
    ·exact ht 17 (by decide)
end
section
attribute [local irreducible] W4 Nz Nt
section
variable (n:Int)(nm:ByteArray)(wd P ex lo m pa:Int)(dn:Bool)(d:Int)(c:Int)(s g:Bool)(l:List UInt8)(x:Int)(w:World)
theorem dtm_1 (hT:Tab w)(hc:c=1)(A vk:Nat)(vc vx F E:Int)(vs vg:Bool)
  (c66:∀ W,CE 82 #[.string (B l)] W (Nt 2001 A))
  (c67:∀ W v,Tab W->Nt 2001 A v W->CB 81 #[.int .i64 n,.int .i64 d,.bool s,v,.int .i64 x] W (.tuple #[DV vc vs vg vx vk,.int .i64 F,.int .i64 E])) :
  CB 38 #[zAb n nm wd P ex lo m pa dn,.int .i64 d,PV c s g l x] w (.tuple #[DV vc vs vg vx vk,.int .i64 F]):=by
 subst hc
 have hsm:=zAa
 unfold PV
 go_enter Tryz.func38,Tryz.ntmps38
 go_upto_region 2 with fail
 refine regDt2 (g3:=w.heap.size) (g5:=w.heap.size+1) rfl (hT.go bgo) rfl rfl rfl (by simp;omega) (by simp) (by go_simp) (by go_simp) (by go_simp) (by go_simp) c66 c67 ?_
 intro a2 w2 gd h8 h9 h10 hg hD hsz hdf hF2 hb2
 have ha:=zTs zAo 19 rfl hsz hdf hF2
 rw [ha]
 simp only [zAo,List.foldl_cons,List.foldl_nil,Act.put,List.setIfInBounds_toArray,List.set_cons_succ,List.set_cons_zero,h8,h9,h10]
 clear ha h8 h9 h10 hsz hdf hF2 c66 c67
 simp only [World.size_alloc] at hg
 obtain ⟨hgl,_,hcs,hfr⟩:=hD
 have p0:w2.cell? ⟨gd,0,none⟩=some (.int .i64 vc):=hcs 0 (by decide)
 have p1:w2.cell? ⟨gd,1,none⟩=some (.bool vs):=hcs 1 (by decide)
 have p2:w2.cell? ⟨gd,2,none⟩=some (.bool vg):=hcs 2 (by decide)
 have p3:w2.cell? ⟨gd,3,none⟩=some (.int .i64 vx):=hcs 3 (by decide)
 have p4:w2.cell? ⟨gd,4,none⟩=some (.int .u64 (W4 vk 0)):=hcs 4 (by decide)
 have p5:w2.cell? ⟨gd,5,none⟩=some (.int .u64 (W4 vk 1)):=hcs 5 (by decide)
 have p6:w2.cell? ⟨gd,6,none⟩=some (.int .u64 (W4 vk 2)):=hcs 6 (by decide)
 have p7:w2.cell? ⟨gd,7,none⟩=some (.int .u64 (W4 vk 3)):=hcs 7 (by decide)
 clear hcs
 obtain ⟨_,_,_,_,hA2,_⟩:=wz w hb2;obtain ⟨_,_,_,_⟩:=zg hb2 (w.heap.size+1) (w.heap.size+1+1);clear hb2
 have hne:¬ gd=w.heap.size+1+1:=by omega
 go_wp2
 exact bodyPost_ret (v:=.tuple #[.agg #[.int .i64 vc,.bool vs,.bool vg,.int .i64 vx,.int .u64 (W4 vk 0),.int .u64 (W4 vk 1),.int .u64 (W4 vk 2),.int .u64 (W4 vk 3)],.int .i64 F]) (by simp only [results,Tryz.results38];go_simp) rfl ⟨rfl,bgo⟩
variable (hc:(c==1)=false)
include hc
theorem dtm_l (hl:¬ ((B l).size:Int)<=pa) :
  CB 38 #[zAb n nm wd P ex lo m pa dn,.int .i64 d,PV c s g l x] w (.tuple #[.agg #[.int .i64 c,.bool s,.bool g,.int .i64 0,.int .u64 0,.int .u64 0,.int .u64 0,.int .u64 0],.int .i64 0]):=by
 have hsm:=zAa
 unfold PV at *
 go_enter Tryz.func38,Tryz.ntmps38
 go_wp2_with fail
 exact bodyPost_ret (v:=.tuple #[.agg #[.int .i64 c,.bool s,.bool g,.int .i64 0,.int .u64 0,.int .u64 0,.int .u64 0,.int .u64 0],.int .i64 0]) (by simp only [results,Tryz.results38];go_simp) rfl ⟨rfl,bgo⟩
variable (hl:((B l).size:Int)<=pa)(A:Nat)(z:Nat->Int)
include hl
theorem dtm_c0 (c66:∀ W,Calls Tryz.prog 82 #[.string (B l)] W fun r w'=>(∃ a cap,r=.returned (.slice a 0 cap))/\Below W.heap.size W w') :
  CB 38 #[zAb n nm wd P ex lo m pa dn,.int .i64 d,PV c s g l x] w (.tuple #[.agg #[.int .i64 c,.bool s,.bool g,.int .i64 0,.int .u64 0,.int .u64 0,.int .u64 0,.int .u64 0],.int .i64 0]):=by
 have hsm:=zAa
 have hcp:=yId
 unfold PV at *
 go_enter Tryz.func38,Tryz.ntmps38
 go_upto_region 6 with fail
 go_region_with (first
  | (go_at_call 82;refine (c66 _).mono ?_;rintro r w1 ⟨⟨a,cap,rfl⟩,hb1⟩;obtain ⟨_,_,_,_,hA1,_⟩:=wz w hb1;obtain ⟨_,_,_,_,_,_⟩:=zh hb1 (w.heap.size+1) (w.heap.size+1+1) (w.heap.size+1+1+1);clear hb1))
 all_goals (
  go_wp2_with fail
  exact bodyPost_ret (v:=.tuple #[.agg #[.int .i64 c,.bool s,.bool g,.int .i64 0,.int .u64 0,.int .u64 0,.int .u64 0,.int .u64 0],.int .i64 0]) (by simp only [results,Tryz.results38];go_simp) rfl ⟨rfl,bgo⟩)
theorem dtm_c1 (c66:∀ W,Calls Tryz.prog 82 #[.string (B l)] W fun r w'=>(∃ b off cap,r=.returned (.slice (some ⟨b,off,none⟩) 1 cap)/\b<w'.heap.size/\w'.cell? ⟨b,off+0,none⟩=some (.int .u64 (z 0)))/\Below W.heap.size W w') :
  CB 38 #[zAb n nm wd P ex lo m pa dn,.int .i64 d,PV c s g l x] w (.tuple #[.agg #[.int .i64 c,.bool s,.bool g,.int .i64 0,.int .u64 (z 0),.int .u64 0,.int .u64 0,.int .u64 0],.int .i64 0]):=by
 have hsm:=zAa
 have hcp:=copy1
 unfold PV at *
 go_enter Tryz.func38,Tryz.ntmps38
 go_upto_region 6 with fail
 go_region_with (first
  | (go_at_call 82;refine (c66 _).mono ?_;rintro r w1 ⟨⟨b,off,cap,rfl,hbb,u0⟩,hb1⟩;try simp only [Nat.add_zero] at u0;obtain ⟨_,_,_,_,hA1,_⟩:=wz w hb1;obtain ⟨_,_,_,_,_,_⟩:=zh hb1 (w.heap.size+1) (w.heap.size+1+1) (w.heap.size+1+1+1);clear hb1))
 all_goals (
  go_wp2_with fail
  exact bodyPost_ret (v:=.tuple #[.agg #[.int .i64 c,.bool s,.bool g,.int .i64 0,.int .u64 (z 0),.int .u64 0,.int .u64 0,.int .u64 0],.int .i64 0]) (by simp only [results,Tryz.results38];go_simp) rfl ⟨rfl,bgo⟩)
theorem dtm_c2 (c66:∀ W,Calls Tryz.prog 82 #[.string (B l)] W fun r w'=>(∃ b off cap,r=.returned (.slice (some ⟨b,off,none⟩) 2 cap)/\b<w'.heap.size/\w'.cell? ⟨b,off+0,none⟩=some (.int .u64 (z 0))/\w'.cell? ⟨b,off+1,none⟩=some (.int .u64 (z 1)))/\Below W.heap.size W w') :
  CB 38 #[zAb n nm wd P ex lo m pa dn,.int .i64 d,PV c s g l x] w (.tuple #[.agg #[.int .i64 c,.bool s,.bool g,.int .i64 0,.int .u64 (z 0),.int .u64 (z 1),.int .u64 0,.int .u64 0],.int .i64 0]):=by
 have hsm:=zAa
 have hcp:=copy2
 unfold PV at *
 go_enter Tryz.func38,Tryz.ntmps38
 go_upto_region 6 with fail
 go_region_with (first
  | (go_at_call 82;refine (c66 _).mono ?_;rintro r w1 ⟨⟨b,off,cap,rfl,hbb,u0,u1⟩,hb1⟩;try simp only [Nat.add_zero] at u0;obtain ⟨_,_,_,_,hA1,_⟩:=wz w hb1;obtain ⟨_,_,_,_,_,_⟩:=zh hb1 (w.heap.size+1) (w.heap.size+1+1) (w.heap.size+1+1+1);clear hb1))
 all_goals (
  go_wp2_with fail
  exact bodyPost_ret (v:=.tuple #[.agg #[.int .i64 c,.bool s,.bool g,.int .i64 0,.int .u64 (z 0),.int .u64 (z 1),.int .u64 0,.int .u64 0],.int .i64 0]) (by simp only [results,Tryz.results38];go_simp) rfl ⟨rfl,bgo⟩)
theorem dtm_c3 (c66:∀ W,Calls Tryz.prog 82 #[.string (B l)] W fun r w'=>(∃ b off cap,r=.returned (.slice (some ⟨b,off,none⟩) 3 cap)/\b<w'.heap.size/\w'.cell? ⟨b,off+0,none⟩=some (.int .u64 (z 0))/\w'.cell? ⟨b,off+1,none⟩=some (.int .u64 (z 1))/\w'.cell? ⟨b,off+2,none⟩=some (.int .u64 (z 2)))/\Below W.heap.size W w') :
  CB 38 #[zAb n nm wd P ex lo m pa dn,.int .i64 d,PV c s g l x] w (.tuple #[.agg #[.int .i64 c,.bool s,.bool g,.int .i64 0,.int .u64 (z 0),.int .u64 (z 1),.int .u64 (z 2),.int .u64 0],.int .i64 0]):=by
 have hsm:=zAa
 have hcp:=copy3
 unfold PV at *
 go_enter Tryz.func38,Tryz.ntmps38
 go_upto_region 6 with fail
 go_region_with (first
  | (go_at_call 82;refine (c66 _).mono ?_;rintro r w1 ⟨⟨b,off,cap,rfl,hbb,u0,u1,u2⟩,hb1⟩;try simp only [Nat.add_zero] at u0;obtain ⟨_,_,_,_,hA1,_⟩:=wz w hb1;obtain ⟨_,_,_,_,_,_⟩:=zh hb1 (w.heap.size+1) (w.heap.size+1+1) (w.heap.size+1+1+1);clear hb1))
 all_goals (
  go_wp2_with fail
  exact bodyPost_ret (v:=.tuple #[.agg #[.int .i64 c,.bool s,.bool g,.int .i64 0,.int .u64 (z 0),.int .u64 (z 1),.int .u64 (z 2),.int .u64 0],.int .i64 0]) (by simp only [results,Tryz.results38];go_simp) rfl ⟨rfl,bgo⟩)
theorem dtm_c4 (c66:∀ W,Calls Tryz.prog 82 #[.string (B l)] W fun r w'=>(∃ b off cap,r=.returned (.slice (some ⟨b,off,none⟩) 4 cap)/\b<w'.heap.size/\w'.cell? ⟨b,off+0,none⟩=some (.int .u64 (z 0))/\w'.cell? ⟨b,off+1,none⟩=some (.int .u64 (z 1))/\w'.cell? ⟨b,off+2,none⟩=some (.int .u64 (z 2))/\w'.cell? ⟨b,off+3,none⟩=some (.int .u64 (z 3)))/\Below W.heap.size W w') :
  CB 38 #[zAb n nm wd P ex lo m pa dn,.int .i64 d,PV c s g l x] w (.tuple #[.agg #[.int .i64 c,.bool s,.bool g,.int .i64 0,.int .u64 (z 0),.int .u64 (z 1),.int .u64 (z 2),.int .u64 (z 3)],.int .i64 0]):=by
 have hsm:=zAa
 have hcp:=copy4
 unfold PV at *
 go_enter Tryz.func38,Tryz.ntmps38
 go_upto_region 6 with fail
 go_region_with (first
  | (go_at_call 82;refine (c66 _).mono ?_;rintro r w1 ⟨⟨b,off,cap,rfl,hbb,u0,u1,u2,u3⟩,hb1⟩;try simp only [Nat.add_zero] at u0;obtain ⟨_,_,_,_,hA1,_⟩:=wz w hb1;obtain ⟨_,_,_,_,_,_⟩:=zh hb1 (w.heap.size+1) (w.heap.size+1+1) (w.heap.size+1+1+1);clear hb1))
 all_goals (
  go_wp2_with fail
  exact bodyPost_ret (v:=.tuple #[.agg #[.int .i64 c,.bool s,.bool g,.int .i64 0,.int .u64 (z 0),.int .u64 (z 1),.int .u64 (z 2),.int .u64 (z 3)],.int .i64 0]) (by simp only [results,Tryz.results38];go_simp) rfl ⟨rfl,bgo⟩)
end
end
section
attribute [local irreducible] W4
section
variable (n d:Int)(bs:ByteArray)(w:World)
theorem rrx_a (c17:∀ W,CQ 17 #[.int .i64 n] W (.bool false)) :
  CB 12 #[.int .i64 n,.int .i64 d,.string bs] w (.tuple #[Z4,.int .i64 0,.int .i64 1]):=by
 have hsm:=zAa
 go_enter Tryz.func12,Tryz.ntmps12
 go_wp2_with (go_at_call 17;refine (c17 _).mono ?_;rintro r w1 ⟨rfl,rfl⟩)
 exact bodyPost_ret (v:=.tuple #[Z4,.int .i64 0,.int .i64 1]) (by simp only [results,Tryz.results12];go_simp) rfl ⟨rfl,bgo⟩
variable (c17:∀ W,CQ 17 #[.int .i64 n] W (.bool true))
include c17
theorem rrx_d (c18:∀ W,CQ 18 #[.int .i64 d] W (.bool false)) :
  CB 12 #[.int .i64 n,.int .i64 d,.string bs] w (.tuple #[Z4,.int .i64 0,.int .i64 1]):=by
 have hsm:=zAa
 go_enter Tryz.func12,Tryz.ntmps12
 go_wp2_with (first
  | (go_at_call 17;refine (c17 _).mono ?_;rintro r w1 ⟨rfl,rfl⟩)
  | (go_at_call 18;refine (c18 _).mono ?_;rintro r w1 ⟨rfl,rfl⟩))
 exact bodyPost_ret (v:=.tuple #[Z4,.int .i64 0,.int .i64 1]) (by simp only [results,Tryz.results12];go_simp) rfl ⟨rfl,bgo⟩
variable (c18:∀ W,CQ 18 #[.int .i64 d] W (.bool true))(pc px:Int)(ps pg:Bool)(pd:ByteArray)
include c18
theorem rrx_c (E:Int)(hE:(E != 0)=true)(c30:∀ W,CB 36 #[.string bs] W (.tuple #[.agg #[.int .i64 pc,.bool ps,.bool pg,.string pd,.int .i64 px],.int .i64 E])) :
  CB 12 #[.int .i64 n,.int .i64 d,.string bs] w (.tuple #[Z4,.int .i64 0,.int .i64 E]):=by
 have hsm:=zAa
 go_enter Tryz.func12,Tryz.ntmps12
 go_wp2_with (first
  | (go_at_call 17;refine (c17 _).mono ?_;rintro r w1 ⟨rfl,rfl⟩)
  | (go_at_call 18;refine (c18 _).mono ?_;rintro r w1 ⟨rfl,rfl⟩)
  | (go_at_call 36;refine wk w (c30 _) ?_;intro w1 hb1 _ _ _ _ hA1 _;clear hb1))
 exact bodyPost_ret (v:=.tuple #[Z4,.int .i64 0,.int .i64 E]) (by simp only [results,Tryz.results12];go_simp) rfl ⟨rfl,bgo⟩
theorem rrx_k (R:Nat)(F E:Int)(c30:∀ W,CB 36 #[.string bs] W (.tuple #[.agg #[.int .i64 pc,.bool ps,.bool pg,.string pd,.int .i64 px],.int .i64 0]))
  (c14:∀ W,Below w.heap.size w W->CB 14 #[.int .i64 n,.int .i64 d,.agg #[.int .i64 pc,.bool ps,.bool pg,.string pd,.int .i64 px]] W (.tuple #[A4 R,.int .i64 F,.int .i64 E])) :
  CB 12 #[.int .i64 n,.int .i64 d,.string bs] w (.tuple #[A4 R,.int .i64 F,.int .i64 E]):=by
 have hsm:=zAa
 unfold A4 at *
 go_enter Tryz.func12,Tryz.ntmps12
 go_wp2_with (first
  | (go_at_call 17;refine (c17 _).mono ?_;rintro r w1 ⟨rfl,rfl⟩)
  | (go_at_call 18;refine (c18 _).mono ?_;rintro r w1 ⟨rfl,rfl⟩)
  | (go_at_call 36;refine wk w (c30 _) ?_;intro w1 hb1 _ _ _ _ hA1 _;clear hb1)
  | (go_at_call 14;refine wk w (c14 _ bgo) ?_;intro w2 hb2 _ _ _ _ hA2 _;obtain ⟨_,_⟩:=zf hb2 w1.heap.size;clear hb2))
 exact bodyPost_ret (v:=.tuple #[A4 R,.int .i64 F,.int .i64 E]) (by unfold A4;simp only [results,Tryz.results12];go_simp) rfl ⟨rfl,bgo⟩
end
noncomputable def krE (n d:Int)(l:List UInt8):Int:=if zRd n/\knB d then (if zRq l=0 then kmE n d (cutV l) else zRq l) else 1
noncomputable def krV (n d:Int)(l:List UInt8):Nat:=if krE n d l=0 then kmV n d (cutV l) else 0
noncomputable def krF (n d:Int)(l:List UInt8):Int:=if krE n d l=0 then kmF n d (cutV l) else 0
theorem zZ6 {n d:Int}{p:Prt}(h:kmE n d p≠0):kmV n d p=0/\kmF n d p=0:=⟨if_neg h,if_neg h⟩
theorem zN0 {l:List UInt8}{p:Prt}(h:zOk l=some p):-9223372036854775808<=p.ex/\p.ex<=9223372036854775807:=by
 rcases (zNs h).2 with ⟨_,_,h⟩|h|h
 ·omega
 ·obtain ⟨_,_,_,h⟩:=h
  omega
 ·obtain ⟨_,h⟩:=h
  omega
theorem rrd16 (n d:Int)(l:List UInt8)(w:World)(hl:l.length<10001)(hT10:Tb10 w) :
  CB 12 #[.int .i64 n,.int .i64 d,.string (B l)] w (.tuple #[A4 (krV n d l),.int .i64 (krF n d l),.int .i64 (krE n d l)]):=by
 have c17:=fun W=>zAd n W
 have c18:=fun W=>zKr d W
 have hZ:A4 0=Z4:=by unfold A4;simp only [zPa]
 unfold krV krF
 by_cases h1:zRd n
 ·rw [decide_eq_true h1] at c17
  by_cases h2:knB d
  ·rw [decide_eq_true h2] at c18
   have c30:=fun W=>zJ3 l W hl
   by_cases h3:zRq l=0
   ·have e:krE n d l=kmE n d (cutV l):=by unfold krE;rw [if_pos ⟨h1,h2⟩,if_pos h3]
    have hp:=zJk h3
    have x1:=zW5 hp
    have c14:=fun W (hb:Below w.heap.size w W)=>rmk16 n d (cutV l) W (by omega) (zN0 hp) (hT10.next hb)
    rw [e]
    rw [h3] at c30
    by_cases h0:kmE n d (cutV l)=0
    ·rw [if_pos h0,if_pos h0]
     generalize cutV l=p at *
     obtain ⟨c,s,g,q,x⟩:=p
     exact rrx_k n d (B l) w c17 c18 _ _ _ _ _ _ _ _ c30 c14
    ·rw [if_neg h0,if_neg h0]
     obtain ⟨q1,q2⟩:=zZ6 h0
     rw [q1,q2] at c14
     generalize cutV l=p at *
     obtain ⟨c,s,g,q,x⟩:=p
     exact rrx_k n d (B l) w c17 c18 _ _ _ _ _ _ _ _ c30 c14
   ·have e:krE n d l=zRq l:=by unfold krE;rw [if_pos ⟨h1,h2⟩,if_neg h3]
    rw [if_neg (by omega),if_neg (by omega),e,hZ]
    generalize cutV l=p at *
    obtain ⟨c,s,g,q,x⟩:=p
    exact rrx_c n d (B l) w c17 c18 _ _ _ _ _ _ (by simpa using h3) c30
  ·rw [decide_eq_false h2] at c18
   have e:krE n d l=1:=if_neg fun h=>h2 h.2
   rw [if_neg (by omega),if_neg (by omega),e,hZ]
   exact rrx_d n d (B l) w c17 c18
 ·rw [decide_eq_false h1] at c17
  have e:krE n d l=1:=if_neg fun h=>h1 h.1
  rw [if_neg (by omega),if_neg (by omega),e,hZ]
  exact rrx_a n d (B l) w c17
end
section
structure DtxC (TT:World->Prop):Prop where
 next:∀ w w',TT w->Below w.heap.size w w'->TT w'
 t10:∀ w,TT w->Tb10 w
 wr:∀ n Bp W,Bp<2^256->TT W->CB 9 #[.int .i64 n,A4 Bp] W (.tuple #[.string (B (dwT n Bp)),.int .i64 (vUE n Bp)])
structure DtxR (TT:World->Prop):Prop where
 rd:∀ n d l W,l.length<10001->TT W->CB 11 #[.int .i64 n,.int .i64 d,.string (B l)] W (.tuple #[A4 (krV n d l),.int .i64 (krF n d l),.int .i64 (krE n d l)])
structure DtxM (TT:World->Prop):Prop where
 mak:∀ n d (p:Prt) W,p.dig.length<10001->(-9223372036854775808<=p.ex/\p.ex<=9223372036854775807)->TT W->CB 13 #[.int .i64 n,.int .i64 d,p.v] W (.tuple #[A4 (kmV n d p),.int .i64 (kmF n d p),.int .i64 (kmE n d p)])
theorem yOd:B (dwT 10 573571232)=⟨#[49,46,50,48,101,48]⟩/\vUE 10 573571232=0:=⟨by kernel_rfl,by kernel_rfl⟩
theorem yNd:W4 573571232 0=573571232/\W4 573571232 1=0/\W4 573571232 2=0/\W4 573571232 3=0:=⟨by decide,by decide,by decide,by decide⟩
attribute [local irreducible] W4
theorem yPd {TT:World->Prop}(h:DtxC TT)(w:World)(hT:TT w):CB 8 #[] w (.bool true):=by
 have c9:=fun W hW=>h.wr 10 573571232 W (by decide) hW
 obtain ⟨e1,e2⟩:=yOd
 obtain ⟨w0,w1,w2,w3⟩:=yNd
 rw [e1,e2] at c9
 unfold A4 at c9
 rw [w0,w1,w2,w3] at c9
 go_enter Tryz.func8,Tryz.ntmps8
 go_wp2_with (go_at_call 9;refine (c9 _ hT).mono ?_;rintro r w1 ⟨rfl,hb1⟩)
 go_ret
 exact ⟨by first|rfl|simp,hb1⟩
section
variable (TT:World->Prop)(hTT:∀ w w',TT w->Below w.heap.size w w'->TT w')(w:World)(hT:TT w)
 (c8:∀ W,TT W->CB 8 #[] W (.bool true))
include hTT hT c8
variable (n d:Int)(bs:ByteArray)(pc px:Int)(ps pg:Bool)(pd:ByteArray)
theorem zQ6 (hl:(10000:Int)<(bs.size:Int)∨(¬ (10000:Int)<(bs.size:Int)/\(10000:Int)<(pd.size:Int))) :
  CB 4 #[.int .i64 n,.int .i64 d,.string bs,.agg #[.int .i64 pc,.bool ps,.bool pg,.string pd,.int .i64 px]] w (.bool true):=by
 have hsm:=zAa
 rcases hl with hl|⟨hl,hl2⟩
 all_goals (
  go_enter Tryz.func4,Tryz.ntmps4
  go_wp2_with (first
   | (have:=hA1;go_at_call 8;refine wk w (c8 _ (hTT _ _ hT bgo)) ?_;intro w2 hb2 _ _ _ _ hA2 _;clear hb2)
   | (go_at_call 8;refine wk w (c8 _ (hTT _ _ hT bgo)) ?_;intro w1 hb1 _ _ _ _ hA1 _;clear hb1))
  go_ret
  exact ⟨by first|rfl|simp,bgo⟩)
theorem rd16_k (hl:¬ (10000:Int)<(bs.size:Int))(hl2:¬ (10000:Int)<(pd.size:Int))(R R':Nat)(F E F' E':Int)(hR:R<2^256)(hR':R'<2^256)
  (c11:∀ W,TT W->CB 11 #[.int .i64 n,.int .i64 d,.string bs] W (.tuple #[A4 R,.int .i64 F,.int .i64 E]))
  (c12:∀ W,TT W->CB 12 #[.int .i64 n,.int .i64 d,.string bs] W (.tuple #[A4 R,.int .i64 F,.int .i64 E]))
  (c13:∀ W,TT W->CB 13 #[.int .i64 n,.int .i64 d,.agg #[.int .i64 pc,.bool ps,.bool pg,.string pd,.int .i64 px]] W (.tuple #[A4 R',.int .i64 F',.int .i64 E']))
  (c14:∀ W,TT W->CB 14 #[.int .i64 n,.int .i64 d,.agg #[.int .i64 pc,.bool ps,.bool pg,.string pd,.int .i64 px]] W (.tuple #[A4 R',.int .i64 F',.int .i64 E'])) :
  CB 4 #[.int .i64 n,.int .i64 d,.string bs,.agg #[.int .i64 pc,.bool ps,.bool pg,.string pd,.int .i64 px]] w (.bool true):=by
 have hsm:=zAa
 have e1:=zE5 (W4 R 0) (W4 R 1) (W4 R 2) (W4 R 3) (W4 R 0) (W4 R 1) (W4 R 2) (W4 R 3)
 rw [decide_eq_true ⟨rfl,rfl,rfl,rfl⟩] at e1
 have e2:=zE5 (W4 R' 0) (W4 R' 1) (W4 R' 2) (W4 R' 3) (W4 R' 0) (W4 R' 1) (W4 R' 2) (W4 R' 3)
 rw [decide_eq_true ⟨rfl,rfl,rfl,rfl⟩] at e2
 unfold A4 at *
 go_enter Tryz.func4,Tryz.ntmps4
 go_wp2_with (first
  | (go_at_call 8;refine wk w (c8 _ (hTT _ _ hT bgo)) ?_;intro w1 hb1 _ _ _ _ hA1 _;clear hb1)
  | (go_at_call 11;refine wk w (c11 _ (hTT _ _ hT bgo)) ?_;intro w2 hb2 _ _ _ _ hA2 _;clear hb2)
  | (go_at_call 12;refine wk w (c12 _ (hTT _ _ hT bgo)) ?_;intro w3 hb3 _ _ _ _ hA3 _;obtain ⟨_,_⟩:=zf hb3 w2.heap.size;clear hb3)
  | (go_at_call 13;refine wk w (c13 _ (hTT _ _ hT bgo)) ?_;intro w4 hb4 _ _ _ _ hA4 _;obtain ⟨_,_,_,_⟩:=zg hb4 w2.heap.size w3.heap.size;clear hb4)
  | (go_at_call 14;refine wk w (c14 _ (hTT _ _ hT bgo)) ?_;intro w5 hb5 _ _ _ _ hA5 _;obtain ⟨_,_,_,_,_,_⟩:=zh hb5 w2.heap.size w3.heap.size w4.heap.size;clear hb5))
 go_ret
 exact ⟨by first|rfl|simp,bgo⟩
end
theorem zA7 (n d:Int)(p:Prt):kmV n d p<2^256:=by
 unfold kmV
 split
 ·exact zO8 n _
 ·decide
theorem kr_256 (n d:Int)(l:List UInt8):krV n d l<2^256:=by
 unfold krV
 split
 ·exact zA7 n d _
 ·decide
theorem zQw {TT:World->Prop}(h:DtxC TT)(hR:DtxR TT)(hM:DtxM TT)(n d:Int)(l:List UInt8)(p:Prt)(w:World)(hT:TT w)(he:-9223372036854775808<=p.ex/\p.ex<=9223372036854775807) :
  CB 4 #[.int .i64 n,.int .i64 d,.string (B l),p.v] w (.bool true):=by
 have c8:=fun W hW=>yPd h W hW
 have s1:=zCa l
 have s2:=zCa p.dig
 have c13:=fun (hl:p.dig.length<10001) W hW=>hM.mak n d p W hl he hW
 have c14:=fun (hl:p.dig.length<10001) W hW=>rmk16 n d p W (by omega) he (h.t10 W hW)
 obtain ⟨c,s,g,q,x⟩:=p
 dsimp only at *
 by_cases hl:(10000:Int)<((B l).size:Int)
 ·exact zQ6 TT h.next w hT c8 n d (B l) c x s g (B q) (Or.inl hl)
 ·by_cases hl2:(10000:Int)<((B q).size:Int)
  ·exact zQ6 TT h.next w hT c8 n d (B l) c x s g (B q) (Or.inr ⟨hl,hl2⟩)
  ·exact rd16_k TT h.next w hT c8 n d (B l) c x s g (B q) hl hl2 _ _ _ _ _ _ (kr_256 n d l) (zA7 n d _) (fun W hW=>hR.rd n d l W (by omega) hW) (fun W hW=>rrd16 n d l W (by omega) (h.t10 W hW)) (c13 (by omega)) (c14 (by omega))
end
theorem ndig_z {K:Nat}{v:Value}{w:World}(hK:K<=1000)(h:Nt K 0 v w):CB 30 #[v] w (.tuple #[.string (B [48]),.int .i64 0]):=by
 obtain ⟨a,n,c,z,rfl,hn,hN,hz⟩:=h
 have hle:=zGa z n
 refine (zNg a n c z w (by omega) hN (by omega)).mono fun r w' ⟨L,hL,he,hB⟩=>⟨?_,hB⟩
 rw [he,hz] at *
 rw [zIk (L':=0) (by decide) hL (by decide)]
 rfl
theorem yZa {K k:Nat}{v:Value}{w:World}(hK:K<=1000)(hk:k<2^256)(h:Nt K k v w):CB 30 #[v] w (.tuple #[.string (B (wtD k)),.int .i64 0]):=by
 unfold wtD
 by_cases h0:k=0
 ·rw [if_pos h0]
  subst h0
  exact ndig_z hK h
 ·rw [if_neg h0]
  exact zW6 hK hk h0 h
theorem ySb {f:DF}(hf:f.ok){v:Dat}(h:vI f v)(hc:¬ v.c=1):jnP ⟨v.c,v.s,v.g,dcL v.k,0⟩:=by
 obtain ⟨h1,h2⟩:=xt_cut hf h
 obtain ⟨f1,f2,f3⟩:=zQh (vI_k hf h)
 unfold xtT xtP at h1
 rw [if_neg hc,if_neg hc] at h1
 exact ⟨by show (dcL v.k).length<=4000;omega,h1⟩
theorem dword {f:DF}(hf:f.ok){v:Dat}(h:vI f v)(hc:¬ v.c=1)(w:World)(hT10:Tb10 w) :
  CB 29 #[v.v] w (.string (B (xtT v))):=by
 have hk:=vI_k hf h
 have hj:=ySb hf h hc
 have c31:=fun W (hb:Below w.heap.size w W)=>zB7 ⟨v.c,v.s,v.g,dcL v.k,0⟩ W (hT10.next hb) ⟨by show (-9223372036854775808:Int)<=0;decide,by show (0:Int)<=9223372036854775807;decide⟩ hj
 have e:xtT v=zCf v.c v.s v.g (dcL v.k) 0:=if_neg hc
 rw [e]
 obtain ⟨c,s,g,x,k⟩:=v
 dsimp only at *
 by_cases h0:k=0
 ·have ed:dcL k=[]:=by rw [h0];kernel_rfl
  rw [ed] at c31 ⊢
  exact dwd_0 c s g x k w _ h0 c31
 ·exact dwd_k c s g x k w _ (dcL k) hk h0 (fun W v hv=>zW6 (by decide) hk h0 hv) c31
theorem dwr16 (n:Int)(Bp:Nat)(w:World)(hB:Bp<2^256)(hT:Tab w)(hT10:Tb10 w) :
  CB 9 #[.int .i64 n,A4 Bp] w (.tuple #[.string (B (dwT n Bp)),.int .i64 (vUE n Bp)]):=by
 have c21:=fun W hW=>yBc n Bp hB W hW
 have hk:=zN8 n Bp
 unfold dwT
 by_cases hg:zCj n Bp
 ·have e1:vUE n Bp=0:=if_pos hg
  have e2:vUD n Bp=vM (fD n) Bp:=if_pos hg
  rw [if_pos hg,e1]
  rw [e1] at c21
  have hi:=zUu (zKd n) Bp
  rw [← e2] at hi ⊢
  obtain ⟨m0,m1,l0,l1,lm,j0,j1⟩:=zWx (zKd n)
  generalize vUD n Bp=v at *
  by_cases hc:v.c=1
  ·have hx:-10000<=v.x/\v.x<=10000:=by
    rcases hi with ⟨_,_,_,a,b⟩|⟨a,_⟩|⟨a,_⟩
    ·unfold DF.m at *
     omega
    ·rw [hc] at a;exact absurd a (by decide)
    ·rw [hc] at a;exact absurd a (by decide)
   have eT:xtT v=sgL v.s++unT (wtD v.k) (v.x+(wtD v.k).length-1):=if_pos hc
   rw [eT]
   have hl:1<=(wtD v.k).length/\(wtD v.k).length<=660:=by
    unfold wtD
    by_cases h0:v.k=0
    ·rw [if_pos h0];decide
    ·rw [if_neg h0]
     exact ⟨List.length_pos_iff.2 (zU7 h0 hk),(zQh hk).2.2⟩
   have hu:=zIf (D:=wtD v.k) (e:=v.x+(wtD v.k).length-1) (by omega)
   have c20:=fun W u (h:Nt 4 v.k u W)=>yZa (by decide) hk h
   have c29:=fun W hW=>yCb (wtD v.k) (v.x+(wtD v.k).length-1) W hW (by omega) hl.1 (by omega)
   rw [show ((wtD v.k).length:Int)=((B (wtD v.k)).size:Int) by rw [zCa]] at c29 hu ⊢
   obtain ⟨c,s,g,x,k⟩:=v
   dsimp only at *
   cases s
   ·exact dwx_f n Bp c false g _ x k w hT hT10 c21 hc hk hx (wtD k) hl.2 (unT (wtD k) (x+((B (wtD k)).size:Int)-1)) (by omega) c20 c29 rfl
   ·exact dwx_t n Bp c true g _ x k w hT hT10 c21 hc hk hx (wtD k) hl.2 (unT (wtD k) (x+((B (wtD k)).size:Int)-1)) (by omega) c20 c29 rfl
  ·have c28:=fun W hW=>dword (zKd n) hi hc W hW
   obtain ⟨c,s,g,x,k⟩:=v
   exact dwx_o n Bp c s g _ x k w hT hT10 c21 (by simpa using hc) _ c28
 ·have e1:vUE n Bp=1:=if_neg hg
  rw [if_neg hg,e1]
  rw [e1] at c21
  exact dwx_e n Bp _ _ _ _ _ _ w hT 1 (by decide) c21
theorem yMa {l:List UInt8}(h:gdD l)(j:Nat):10^j<=dV l↔¬ l.length<=j:=by
 have hd:=zPg h
 have h1:=(zPq hd).1
 constructor
 ·intro hh hl
  have:=Nat.pow_le_pow_right (show 1<=10 by decide) hl
  omega
 ·intro hl
  rcases h with rfl|⟨_,h0⟩
  ·exact absurd (Nat.zero_le _) hl
  ·have h2:=dV_ge hd h0 (fun e=>hl (by rw [e];exact Nat.zero_le _))
   exact Nat.le_trans (Nat.pow_le_pow_right (by decide) (by omega)) h2
theorem nz_k {K A k0:Nat}{v:Value}{w:World}(h:Nz K A v w)(hA:A<2^256)(h0:k0<=4)(h1:bl A<=64*k0)(h2:k0=0∨64*(k0-1)<bl A) :
  ∃ a cap z,v=.slice a k0 cap/\Num w a k0 cap z/\∀ i,i<4->z i=W4 A i:=by
 obtain ⟨a,k,cap,z,rfl,hk,hN,hv,hs⟩:=h
 have e1:=(zId (m:=k0) hN.2.2.1 hv).2 h1
 have e2:k0<=k:=by
  rcases h2 with h2|h2
  ·omega
  ·by_cases hh:k0<=k
   ·exact hh
   ·have:=(zId (m:=k0-1) hN.2.2.1 hv).1 (by omega)
    omega
 obtain rfl:k=k0:=by omega
 have hv4:val z 4=(A:Int):=by rw [zMa hN.2.2.2.1 4 h0,hv]
 exact ⟨a,cap,z,rfl,hN,zZl hN.2.2.1 (zLa A) 4 (by rw [hv4,zZb hA])⟩
theorem zCe {A k i:Nat}(h:bl A<=64*k)(hi:k<=i):W4 A i=0:=by
 have h1:=bl_le.1 h
 have h2:(2:Nat)^(64*k)<=2^(64*i):=Nat.pow_le_pow_right (by decide) (by omega)
 unfold W4
 rw [Nat.div_eq_of_lt (by omega)]
 rfl
theorem zLm {K A k0:Nat}{v:Value}{w:World}(h:Nz K A v w)(hA:A<2^256)(h0:k0<=4)(h1:bl A<=64*k0)(h2:64*(k0-1)<bl A) :
  ∃ b off cap,v=.slice (some ⟨b,off,none⟩) k0 cap/\b<w.heap.size/\∀ i,i<k0->w.cell? ⟨b,off+i,none⟩=some (.int .u64 (W4 A i)):=by
 obtain ⟨a,cap,z,rfl,⟨n1,n2,n3,n4,n5⟩,hz⟩:=nz_k h hA h0 h1 (Or.inr h2)
 rcases n5 with ⟨rfl,rfl⟩|⟨b,off,rfl,hb,hc⟩
 ·obtain rfl:k0=0:=by omega
  omega
 ·exact ⟨b,off,cap,rfl,hb,fun i hi=>by rw [← hz i (by omega)];exact hc i hi⟩
theorem dtm_c {n:Int}{nm:ByteArray}{wd P ex lo m pa:Int}{dn:Bool}{d c:Int}{s g:Bool}{l:List UInt8}{x:Int}{w:World}(hc:¬ c=1)(hl:(l.length:Int)<=pa)(hd:l.all dg=true)(hl2:l.length<=4000)(hk:dV l<2^256) :
  CB 38 #[zAb n nm wd P ex lo m pa dn,.int .i64 d,PV c s g l x] w (.tuple #[DV c s g 0 (dV l),.int .i64 0]):=by
 have c66:=fun W=>zRo l W hd hl2
 have hl':((B l).size:Int)<=pa:=by rw [zCa];exact hl
 have hc':(c==1)=false:=by simpa using hc
 have h256:=bl_le.2 hk
 generalize dV l=A at *
 unfold DV
 by_cases b0:bl A<=64*0
 ·rw [zCe b0 (Nat.zero_le _),zCe b0 (Nat.zero_le _),zCe b0 (Nat.zero_le _),zCe b0 (Nat.zero_le _)]
  refine dtm_c0 n nm wd P ex lo m pa dn d c s g l x w hc' hl' fun W=>(c66 W).mono fun r w' ⟨v,e1,e2,e3⟩=>⟨?_,e3⟩
  obtain ⟨a,cap,z,rfl,_⟩:=nz_k e2 hk (by decide) b0 (Or.inl rfl)
  exact ⟨a,cap,e1⟩
 by_cases b1:bl A<=64*1
 ·rw [zCe b1 (by decide:1<=1),zCe b1 (by decide:1<=2),zCe b1 (by decide:1<=3)]
  refine dtm_c1 n nm wd P ex lo m pa dn d c s g l x w hc' hl' (W4 A) fun W=>(c66 W).mono fun r w' ⟨v,e1,e2,e3⟩=>⟨?_,e3⟩
  obtain ⟨b,off,cap,rfl,hb,h⟩:=zLm e2 hk (by decide) b1 (by omega)
  exact ⟨b,off,cap,e1,hb,h 0 (by decide)⟩
 by_cases b2:bl A<=64*2
 ·rw [zCe b2 (by decide:2<=2),zCe b2 (by decide:2<=3)]
  refine dtm_c2 n nm wd P ex lo m pa dn d c s g l x w hc' hl' (W4 A) fun W=>(c66 W).mono fun r w' ⟨v,e1,e2,e3⟩=>⟨?_,e3⟩
  obtain ⟨b,off,cap,rfl,hb,h⟩:=zLm e2 hk (by decide) b2 (by omega)
  exact ⟨b,off,cap,e1,hb,h 0 (by decide),h 1 (by decide)⟩
 by_cases b3:bl A<=64*3
 ·rw [zCe b3 (by decide:3<=3)]
  refine dtm_c3 n nm wd P ex lo m pa dn d c s g l x w hc' hl' (W4 A) fun W=>(c66 W).mono fun r w' ⟨v,e1,e2,e3⟩=>⟨?_,e3⟩
  obtain ⟨b,off,cap,rfl,hb,h⟩:=zLm e2 hk (by decide) b3 (by omega)
  exact ⟨b,off,cap,e1,hb,h 0 (by decide),h 1 (by decide),h 2 (by decide)⟩
 ·refine dtm_c4 n nm wd P ex lo m pa dn d c s g l x w hc' hl' (W4 A) fun W=>(c66 W).mono fun r w' ⟨v,e1,e2,e3⟩=>⟨?_,e3⟩
  obtain ⟨b,off,cap,rfl,hb,h⟩:=zLm (k0:=4) e2 hk (by decide) (by omega) (by omega)
  exact ⟨b,off,cap,e1,hb,h 0 (by decide),h 1 (by decide),h 2 (by decide),h 3 (by decide)⟩
theorem yGd {n d:Int}(h1:zRd n)(h2:knB d){p:Prt}(h3:gdP p){nm:ByteArray}{wd P ex lo m:Int}{dn:Bool}{w:World}(hT:Tab w) :
  CB 38 #[zAb n nm wd P ex lo m (3*((fD n).j:Int)) dn,.int .i64 d,p.v] w (.tuple #[(dmD n d p).v,.int .i64 (dmF n d p)]):=by
 obtain ⟨g1,g2⟩:=zEz h3
 have hbl:=zA0 g1 g2
 have hi:=yPc (d:=d) h1 h2 h3 (by omega)
 have hk:=vI_k (zKd n) hi
 have c66:=fun W=>zRo p.dig W g1 g2
 have hpl:=yMa h3.1 (3*(fD n).j)
 obtain ⟨c,s,g,l,x⟩:=p
 obtain ⟨hg,hp⟩:=h3
 unfold dmF
 unfold dmD at hk ⊢
 dsimp only at *
 by_cases hc:c=1
 ·rw [if_pos hc,if_pos hc]
  exact dtm_1 n nm wd P ex lo m _ dn d c s g l x w hT hc (dV l) _ _ _ _ _ _ _ (fun W=>(c66 W).mono fun r w' ⟨v,e1,e2,e3⟩=>⟨v,e1,e2.nt.more (by decide),e3⟩) (fun W v hW hv=>drk_v hW hv)
 ·rw [if_neg hc] at hk ⊢
  rw [if_neg hc]
  by_cases hl:l.length<=3*(fD n).j
  ·have e:(if c=3 then (if 10^(3*(fD n).j)<=dV l then 0 else dV l) else 0)=dV l:=by
    rw [if_neg (fun hh=>(hpl.1 hh) hl)]
    rcases hp with ⟨q1,_⟩|⟨q1,q2,q3,q4⟩|⟨q1,q2,q3⟩
    ·exact absurd q1 hc
    ·rw [if_neg (by rw [q1];decide),q3,zM0]
    ·rw [if_pos q1]
   rw [e] at hk ⊢
   exact dtm_c (l:=l) hc (by omega) g1 g2 hk
  ·have e:(if c=3 then (if 10^(3*(fD n).j)<=dV l then 0 else dV l) else 0)=0:=by
    rw [if_pos (hpl.2 hl)]
    split<;>rfl
   rw [e]
   unfold Dat.v DV
   simp only [zPa]
   exact dtm_l n nm wd P ex lo m _ dn d c s g l x w (by simpa using hc) (by rw [zCa];omega)
theorem dmk16 (n d:Int)(p:Prt)(w:World)(he:-9223372036854775808<=p.ex/\p.ex<=9223372036854775807)(hT:Tab w)(hT10:Tb10 w) :
  CB 13 #[.int .i64 n,.int .i64 d,p.v] w (.tuple #[A4 (kmV n d p),.int .i64 (kmF n d p),.int .i64 (kmE n d p)]):=by
 have hZ:A4 0=Z4:=by unfold A4;simp only [zPa]
 unfold kmV kmF
 by_cases h12:zRd n/\knB d
 ·obtain ⟨h1,h2⟩:=h12
  have c28:=fun W hW=>zMs (n:=n) (d:=d) (w:=W) hW h1 h2
  by_cases h3:gdP p
  ·have e:kmE n d p=0:=by unfold kmE;rw [if_pos ⟨h1,h2⟩,if_pos h3]
   rw [if_pos e,if_pos e,e]
   have c31:=fun W (hb:Below w.heap.size w W)=>zB7 p W (hT10.next hb) he (zUm h3)
   obtain ⟨g1,g2⟩:=zEz h3
   have hbl:=zA0 g1 g2
   have hi:=yPc (d:=d) h1 h2 h3 (by omega)
   have hk:=vI_k (zKd n) hi
   have c32:=fun W (hW:Tab W)=>yGd h1 h2 h3 (nm:=zJd n) (wd:=zLb n) (P:=3*((fD n).j:Int)+1) (ex:=zWi n) (lo:=(fD n).l) (m:=(fD n).m) (dn:=zEc n) hW
   have c34:=fun W hW=>yIc n (dmD n d p) hk W hW
   have e3:vPE n (dmD n d p)=0:=by unfold vPE;rw [if_pos h1,if_pos hi]
   rw [e3] at c34
   generalize dmD n d p=D at *
   obtain ⟨c,s,g,l,x⟩:=p
   exact dmk_k n d c s g l x _ _ _ _ _ _ _ _ _ w hT c28 _ _ _ _ _ _ _ _ _ _ _ c31 c32 c34
  ·have e:kmE n d p=2:=by unfold kmE;rw [if_pos ⟨h1,h2⟩,if_neg h3]
   rw [if_neg (by omega),if_neg (by omega),e,hZ]
   have c31:=fun W (hb:Below w.heap.size w W)=>join_n p W (hT10.next hb) he (fun h=>h3 (zN4 h))
   obtain ⟨c,s,g,l,x⟩:=p
   exact dmk_j n d c s g l x _ _ _ _ _ _ _ _ _ w hT c28 1 (by decide) c31
 ·have e:kmE n d p=1:=if_neg h12
  rw [if_neg (by omega),if_neg (by omega),e,hZ]
  obtain ⟨c,s,g,l,x⟩:=p
  exact dmk_e n d c s g l x w hT 1 (by decide) (fun W hW=>zI0 hW h12)
theorem drd16 (n d:Int)(l:List UInt8)(w:World)(hl:l.length<10001)(hT:Tab w)(hT10:Tb10 w) :
  CB 11 #[.int .i64 n,.int .i64 d,.string (B l)] w (.tuple #[A4 (krV n d l),.int .i64 (krF n d l),.int .i64 (krE n d l)]):=by
 have hZ:A4 0=Z4:=by unfold A4;simp only [zPa]
 unfold krV krF
 by_cases h12:zRd n/\knB d
 ·have c28:=fun W hW=>zMs (n:=n) (d:=d) (w:=W) hW h12.1 h12.2
  have c30:=fun W=>zQq l W hl
  by_cases h3:zRq l=0
  ·have e:krE n d l=kmE n d (cutV l):=by unfold krE;rw [if_pos h12,if_pos h3]
   have hp:=zJk h3
   have c14:=fun W (hb:Below w.heap.size w W)=>dmk16 n d (cutV l) W (zN0 hp) (hT.go hb) (hT10.next hb)
   rw [e]
   rw [h3] at c30
   by_cases h0:kmE n d (cutV l)=0
   ·rw [if_pos h0,if_pos h0]
    generalize cutV l=p at *
    obtain ⟨c,s,g,q,x⟩:=p
    exact drd_k n d _ _ _ _ _ _ _ _ w hT c28 (B l) _ _ _ _ _ _ _ _ c30 c14
   ·rw [if_neg h0,if_neg h0]
    obtain ⟨q1,q2⟩:=zZ6 h0
    rw [q1,q2] at c14
    generalize cutV l=p at *
    obtain ⟨c,s,g,q,x⟩:=p
    exact drd_k n d _ _ _ _ _ _ _ _ w hT c28 (B l) _ _ _ _ _ _ _ _ c30 c14
  ·have e:krE n d l=zRq l:=by unfold krE;rw [if_pos h12,if_neg h3]
   rw [if_neg (by omega),if_neg (by omega),e,hZ]
   generalize cutV l=p at *
   obtain ⟨c,s,g,q,x⟩:=p
   exact drd_c n d _ _ _ _ _ _ _ _ w hT c28 (B l) _ _ _ _ _ _ (by simpa using h3) c30
 ·have e:krE n d l=1:=if_neg h12
  rw [if_neg (by omega),if_neg (by omega),e,hZ]
  exact drd_e n d w hT (B l) 1 (by decide) (fun W hW=>zI0 hW h12)
def TTb (w:World):Prop:=Tab w/\Tb10 w
theorem dtxC:DtxC TTb where
 next:=fun w w' hT hb=>⟨hT.1.go hb,hT.2.next hb⟩
 t10:=fun w hT=>hT.2
 wr:=fun n Bp W hB hT=>dwr16 n Bp W hB hT.1 hT.2
theorem dtxR:DtxR TTb where
 rd:=fun n d l W hl hT=>drd16 n d l W hl hT.1 hT.2
theorem dtxM:DtxM TTb where
 mak:=fun n d p W _ he hT=>dmk16 n d p W he hT.1 hT.2
theorem zDj (n d:Int)(s:ByteArray)(p:Prt)(w:World)(hT:Tab w)(hT10:Tb10 w)(he:-9223372036854775808<=p.ex/\p.ex<=9223372036854775807) :
  CB 4 #[.int .i64 n,.int .i64 d,.string s,p.v] w (.bool true):=by
 rw [← B_of s]
 exact zQw dtxC dtxR dtxM n d _ p w ⟨hT,hT10⟩ he
end Go.Proofs.YtpabnhlfbjkmaaaGreatDoor
