/-
  Texts that the proof leans on.
-/
import Derived.Test.YtahfkpjhlbiamaaGreatDoorL1
import Derived.Test.YtahfkpjhlbiamaaGreatDoorL3
import Derived.Deep.QuietTactic
import Derived.BigQuiet
import Derived.Lib.Strings
import Derived.Laws.IdiomStrings
set_option maxHeartbeats 8000000
set_option linter.unusedVariables false
set_option linter.unusedSimpArgs false
set_option linter.unusedSectionVars false
set_option maxRecDepth 20000
namespace Go.Proofs.YtahfkpjhlbiamaaGreatDoor
open Go.RowKit
theorem gbcell {W w1:World}(hb:Below W.heap.size W w1):(∀ b o,b<W.heap.size->w1.cell? ⟨b,o,none⟩=W.cell? ⟨b,o,none⟩)/\(∀ b o,b<W.heap.size->w1.frozen? ⟨b,o,none⟩=W.frozen? ⟨b,o,none⟩) :=
 ⟨fun b o h=>hb.cell (p:=⟨b,o,none⟩) h,fun b o h=>hb.frozen (p:=⟨b,o,none⟩) h⟩
theorem gbelow_drewN {B:Nat}{a w:World}{m:Nat}(h:Below B a w):Below B a (w.drewN m):=⟨h.os,h.tape,h.output,h.size,h.block⟩
theorem gbnext {w0 W W':World}(h:Below w0.heap.size w0 W)(hb:Below W.heap.size W W'):Below w0.heap.size w0 W':=h.trans (hb.mono h.size)
theorem glt_below {n g:Nat}{W W':World}(hb:Below n W W')(h:g<W.heap.size):g<W'.heap.size:=Nat.lt_of_lt_of_le h hb.size
theorem gcell_set_map (W:World)(b i:Nat)(v:Value):(W.setCell ⟨b,i,none⟩ v).cell? ⟨b,i,none⟩=(W.cell? ⟨b,i,none⟩).map fun _=>v:=by
 unfold World.cell? World.setCell
 simp only [Array.getElem?_modify,if_true]
 cases h:W.heap[b]? with
 | none=>simp
 | some o =>
  cases o with
  | cells c e fr =>
   simp only [Option.map_some,Option.isSome_none,Bool.false_eq_true,if_false]
   by_cases hi:i<c.size
   ·simp [hi]
   ·simp [hi]
  | _=>simp
theorem B_toList (l:List UInt8):(B l).toList=l:=by rw [Lib.toList_data];rfl
theorem ldig_any (l:List UInt8)(w:World)(hs:l.length<4294967296) :
  CB 222 #[.string (B l)] w (.tuple #[.string (B (dgs l)),.string (B (rst l))]):=by
 have hsz:=B_size l
 have E1:(B l).extract 0 (dgs l).length=B (dgs l):=by rw [B_ext,List.drop_zero,take_dgs]
 have E2:(B l).extract (dgs l).length (B l).size=B (rst l):=by rw [B_ext,B_size,List.take_length,drop_dgs]
 rw [hsz] at E2
 have hle:=dgs_le l
 have HA:Hid (∀ i,i<(dgs l).length->48<=by_ l i/\by_ l i<=57):=dgs_at l
 have HS:Hid ((dgs l).length<l.length->¬ (48<=by_ l (dgs l).length/\by_ l (dgs l).length<=57)):=dgs_stop l
 generalize dgs l=d at *
 go_enter Tryz.func222,Tryz.ntmps222
 go_wp2
 go_loop [4] (fun i=>∃ k:Nat,k<=d.length/\i=.int .i64 k) (fun i=>d.length-(intOf i).toNat)
 case atStart=>exact ⟨0,Nat.zero_le _,rfl⟩
 case round =>
  obtain ⟨k,hk,rfl⟩:=hrel
  by_cases hlt:k<d.length
  ·have hki:(k:Int)<(B l).size:=by omega
   have hsb:=by_lt (l:=l) (i:=k) (by omega)
   have hbd:=HA.out k hlt
   go_wp2
   go_round
   case rel=>exact ⟨k+1,by omega,by go_num⟩
   case measure=>simp [intOf];omega
  ·obtain rfl:k=d.length:=by omega
   by_cases he:d.length<l.length
   ·have hki:(d.length:Int)<(B l).size:=by omega
    have hsb:=by_lt (l:=l) (i:=d.length) (by omega)
    have hbd:=by_bd l d.length
    have hst:=HS.out he
    by_cases h1:by_ l d.length<48
    ·go_wp2
     go_quiet (fail)
     go_wp2
     go_ret2
     exact ⟨rfl,gbelow_drewN (Below.refl _ _)⟩
    ·have h2:57<by_ l d.length:=by omega
     go_wp2
     go_quiet (fail)
     go_wp2
     go_ret2
     exact ⟨rfl,gbelow_drewN (Below.refl _ _)⟩
   ·have hki:(d.length:Int)=(B l).size:=by omega
    have hki2:(d.length:Int)=l.length:=by omega
    have hdl:d.length=l.length:=by omega
    have X1:Hid (B d=(B l).extract 0 l.length):=by show _=_;rw [← E1,hdl]
    have X2:Hid (B (rst l)=ByteArray.empty):=by
     show _=_
     rw [← E2,hdl,B_ext,List.take_length,List.drop_length];rfl
    go_wp2
    go_quiet (fail)
    go_wp2
    go_ret2
    refine ⟨?_,gbelow_drewN (Below.refl _ _)⟩
    rw [X1.out,X2.out]
    rfl
def gsgB:List UInt8->Bool
 | c::_=>decide ((c.toNat:Int)=45)
 | []=>false
def sgR:List UInt8->List UInt8
 | c::r=>if (c.toNat:Int)=45∨(c.toNat:Int)=43 then r else c::r
 | []=>[]
theorem B_tail (c:UInt8)(r:List UInt8):(B (c::r)).extract 1 (B (c::r)).size=B r:=by
 rw [B_ext,B_size,List.take_length];rfl
theorem lsign_any (l:List UInt8)(w:World)(hs:l.length<4294967296) :
  CB 204 #[.string (B l)] w (.tuple #[.bool (gsgB l),.string (B (sgR l))]):=by
 have htl:=B_toList
 cases l with
 | nil =>
  have hsz:(B []).size=0:=rfl
  go_enter Tryz.func204,Tryz.ntmps204
  go_wp2
  go_ret2
  exact ⟨rfl,Below.refl _ _⟩
 | cons c r =>
  have hsz:=B_size (c::r)
  have hln:(c::r).length=r.length+1:=rfl
  have hbt:=B_tail c r
  have hsb:=by_lt (l:=c::r) (i:=0) (by rw [hsz,hln];omega)
  rw [by_zero] at hsb
  rw [hsz,hln] at hbt
  have hbd:=c.toNat_lt
  rw [List.length_cons] at hs
  by_cases h1:(c.toNat:Int)=45
  ·have HX:Hid (sgR (c::r)=r/\gsgB (c::r)=true):=⟨if_pos (Or.inl h1),decide_eq_true h1⟩
   rw [HX.out.1,HX.out.2]
   go_enter Tryz.func204,Tryz.ntmps204
   go_wp2
   go_quiet (fail)
   go_wp2
   go_ret2
   exact ⟨rfl,gbelow_drewN (Below.refl _ _)⟩
  ·by_cases h2:(c.toNat:Int)=43
   ·have HX:Hid (sgR (c::r)=r/\gsgB (c::r)=false):=⟨if_pos (Or.inr h2),decide_eq_false h1⟩
    rw [HX.out.1,HX.out.2]
    go_enter Tryz.func204,Tryz.ntmps204
    go_wp2
    go_quiet (fail)
    go_wp2
    go_ret2
    exact ⟨rfl,gbelow_drewN (Below.refl _ _)⟩
   ·have HX:Hid (sgR (c::r)=c::r/\gsgB (c::r)=false):=⟨if_neg (by omega),decide_eq_false h1⟩
    rw [HX.out.1,HX.out.2]
    have g1:((c.toNat:Int)==45)=false:=beq_eq_false_iff_ne.2 h1
    have g2:((c.toNat:Int)==43)=false:=beq_eq_false_iff_ne.2 h2
    go_enter Tryz.func204,Tryz.ntmps204
    go_wp2
    go_ret2
    exact ⟨rfl,Below.refl _ _⟩
def bar (l:List UInt8):List UInt8:=l.dropWhile (·==48)
theorem bar_cons (c:UInt8)(r:List UInt8):bar (c::r)=if (c.toNat:Int)=48 then bar r else c::r:=by
 unfold bar
 rw [List.dropWhile_cons]
 by_cases h:c=48
 ·subst h;rfl
 ·have:¬ (c.toNat:Int)=48:=fun e=>h (UInt8.toNat_inj.1 (by simpa using (show c.toNat=48 by omega)))
  rw [if_neg this,if_neg (by simpa using h)]
def isd (l:List UInt8):Bool:=l.all dg&&!l.isEmpty
theorem all_dg (l:List UInt8):l.all dg=true↔∀ i,i<l.length->48<=by_ l i/\by_ l i<=57:=by
 rw [List.all_eq_true]
 constructor
 ·intro h i hi
  have:=h _ (List.getElem_mem hi)
  unfold dg at this;simp at this
  unfold by_;rw [dif_pos hi];omega
 ·intro h c hc
  obtain ⟨i,hi,rfl⟩:=List.getElem_of_mem hc
  have:=h i hi
  unfold by_ at this;rw [dif_pos hi] at this
  unfold dg;simp;omega
def nv (l:List UInt8):Int:=l.foldl (fun v c=>10*v+((c.toNat:Int)-48)) 0
theorem nv_fold (l:List UInt8):∀ v:Int,l.foldl (fun v c=>10*v+((c.toNat:Int)-48)) v=v*10^l.length+nv l:=by
 induction l with
 | nil=>intro v;simp [nv]
 | cons c r ih =>
  intro v
  unfold nv
  rw [List.foldl_cons,List.foldl_cons,ih,ih (10*0+_),List.length_cons,Int.pow_succ]
  grind
theorem nv_app (a b:List UInt8):nv (a++b)=nv a*10^b.length+nv b:=by
 unfold nv
 rw [List.foldl_append,nv_fold b]
 rfl
theorem gnv_one (c:UInt8):nv [c]=(c.toNat:Int)-48:=by simp [nv]
theorem take_snoc {l:List UInt8}{k:Nat}(h:k<l.length):l.take (k+1)=l.take k++[l[k]]:=List.take_succ_eq_append_getElem h
theorem nv_take {l:List UInt8}{k:Nat}(h:k<l.length):nv (l.take (k+1))=10*nv (l.take k)+(by_ l k-48):=by
 rw [take_snoc h,nv_app,gnv_one]
 unfold by_;rw [dif_pos h]
 simp;omega
theorem nv_nn {l:List UInt8}(h:l.all dg=true):0<=nv l/\nv l<10^l.length:=by
 have key:∀ k,k<=l.length->0<=nv (l.take k)/\nv (l.take k)<10^k:=by
  intro k
  induction k with
  | zero=>intro _;simp [nv]
  | succ k ih =>
   intro hk
   have h1:=ih (by omega)
   have h2:=(all_dg l).1 h k (by omega)
   rw [nv_take (by omega),Int.pow_succ]
   omega
 have:=key l.length (Nat.le_refl _)
 rwa [List.take_length] at this
theorem nv_take_nn {l:List UInt8}(h:l.all dg=true)(k:Nat):0<=nv (l.take k) :=
 (nv_nn (l:=l.take k) (List.all_eq_true.2 fun c hc=>List.all_eq_true.1 h c (List.mem_of_mem_take hc))).1
def vc (l:List UInt8):Int:=min (nv l) 2000000000
theorem value_any (l:List UInt8)(w:World)(hs:l.length<4294967296)(hd:l.all dg=true) :
  CB 241 #[.string (B l)] w (.int .i64 (vc l)):=by
 have hsz:=B_size l
 have HD:Hid (l.all dg=true):=hd
 have HA:Hid (∀ i,i<l.length->48<=by_ l i/\by_ l i<=57):=(all_dg l).1 hd
 clear hd
 go_enter Tryz.func241,Tryz.ntmps241
 go_wp2
 go_loop [3,4,7] (fun v u4 i=>∃ (k:Nat) (x:Int),k<=l.length/\i=.int .i64 k/\v=.int .i64 x/\0<=x/\x<=2000000000/\Hid (x=vc (l.take k))) (fun _ _ i=>l.length-(intOf i).toNat)
 case atStart=>exact ⟨0,0,Nat.zero_le _,rfl,rfl,by decide,by decide,rfl⟩
 case round =>
  obtain ⟨k,x,hk,rfl,rfl,hx0,hx1,hx⟩:=hrel
  by_cases hlt:k<l.length
  ·have hki:(k:Int)<(B l).size:=by omega
   have hki2:(k:Int)<l.length:=by omega
   have hsb:=by_lt (l:=l) (i:=k) (by omega)
   have hbd:=HA.out k hlt
   have HX:Hid (min (10*x+(by_ l k-48)) 2000000000=vc (l.take (k+1))):=by
    show _=_
    have h0:=nv_take_nn HD.out k
    rw [hx.out];unfold vc;rw [nv_take hlt]
    omega
   go_wp2
   go_round
   case rel=>exact ⟨k+1,min (10*x+(by_ l k-48)) 2000000000,by omega,by go_num,by go_num,by omega,by omega,HX.out⟩
   case measure=>simp [intOf];omega
  ·obtain rfl:k=l.length:=by omega
   rw [List.take_length] at hx
   go_wp2
   go_ret
   exact ⟨by rw [← hx.out];rfl,Below.refl _ _⟩
theorem all_dgs (l:List UInt8):(dgs l).all dg=true:=List.all_takeWhile
theorem rst_nil {l:List UInt8}(h:rst l=[]):dgs l=l:=by
 have:=dgs_rst l;rw [h,List.append_nil] at this;exact this
theorem rst_of_all {l:List UInt8}(h:l.all dg=true):rst l=[]/\dgs l=l:=by
 have:dgs l=l:=by
  induction l with
  | nil=>rfl
  | cons c r ih =>
   rw [List.all_cons,Bool.and_eq_true] at h
   unfold dgs at ih ⊢
   rw [List.takeWhile_cons,if_pos h.1,ih h.2]
 refine ⟨?_,this⟩
 have e:=dgs_rst l
 rw [this] at e
 simpa using e
theorem isd_iff (l:List UInt8):isd l=true↔dgs l≠[]/\rst l=[]:=by
 unfold isd
 simp only [Bool.and_eq_true,Bool.not_eq_true',List.isEmpty_eq_false_iff]
 constructor
 ·rintro ⟨h1,h2⟩
  obtain ⟨a,b⟩:=rst_of_all h1
  exact ⟨by rw [b];exact h2,a⟩
 ·rintro ⟨h1,h2⟩
  have:=rst_nil h2
  rw [this] at h1
  exact ⟨by rw [← this];exact all_dgs l,h1⟩
theorem sgR_le (l:List UInt8):(sgR l).length<=l.length:=by
 cases l with
 | nil=>exact Nat.le_refl _
 | cons c r =>
  show (if _ then r else c::r).length<=_
  split<;>simp
theorem rst_le (l:List UInt8):(rst l).length<=l.length:=by
 have:=congrArg List.length (dgs_rst l)
 rw [List.length_append] at this;omega
def exB:List UInt8->Bool
 | []=>true
 | c::r=>decide ((c.toNat:Int)=101∨(c.toNat:Int)=69)&&isd (sgR r)
def exS (r:List UInt8):Int:=if gsgB r then-vc (sgR r) else vc (sgR r)
def exI:List UInt8->Int
 | []=>0
 | c::r=>if exB (c::r) then exS r else 0
theorem vc_bd {l:List UInt8}(h:l.all dg=true):0<=vc l/\vc l<=2000000000:=by
 have:=(nv_nn h).1
 unfold vc;omega
theorem exponent_e (c:UInt8)(r:List UInt8)(w:World)(hs:r.length<4294967290)(hc:(c.toNat:Int)=101∨(c.toNat:Int)=69) :
  CB 224 #[.string (B (c::r))] w (.tuple #[.int .i64 (if isd (sgR r) then exS r else 0),.bool (isd (sgR r))]):=by
 have htl:=B_toList
 have hsz:=B_size (c::r)
 have hln:(c::r).length=r.length+1:=rfl
 have hbt:=B_tail c r
 have hsb:=by_lt (l:=c::r) (i:=0) (by rw [hsz,hln];omega)
 rw [by_zero] at hsb
 rw [hsz,hln] at hbt
 have c16:=fun w=>lsign_any r w (by omega)
 have hsl:=sgR_le r
 have c27:=fun w=>ldig_any (sgR r) w (by omega)
 have hdl:=dgs_le (sgR r)
 have g1:((c.toNat:Int) != 101&&(c.toNat:Int) != 69)=false:=by
  rcases hc with h|h<;>rw [h]<;>rfl
 have g0:=c.toNat_lt
 by_cases hi:isd (sgR r)=true
 ·have hi2:=(isd_iff _).1 hi
  have c40:=fun w=>value_any (dgs (sgR r)) w (by omega) (all_dgs _)
  have hvb:=vc_bd (all_dgs (sgR r))
  have HE:Hid (exS r=if gsgB r then-vc (dgs (sgR r)) else vc (dgs (sgR r))):=by show _=_;unfold exS;rw [rst_nil hi2.2]
  rw [if_pos hi,hi]
  rw [hi2.2] at c27
  have HN:=hi2.1
  clear hi hi2
  generalize dgs (sgR r)=D at *
  cases D with
  | nil=>exact absurd rfl HN
  | cons d ds =>
   clear HN
   generalize sgR r=X at *
   generalize exS r=E at *
   have hb:∀ z:Bool,gsgB r=z->CB 224 #[.string (B (c::r))] w (.tuple #[.int .i64 E,.bool true]):=by
    intro z hz
    rw [hz] at c16 HE
    clear hz
    cases z
    all_goals
     simp only [Bool.false_eq_true,if_true,if_false] at HE
     rcases hc with h|h
     all_goals
      rw [HE.out];clear HE
      go_enter Tryz.func224,Tryz.ntmps224
      go_wp2_with (first
       | (go_at_call 204;refine (c16 _).mono ?_;rintro x w1 ⟨rfl,hb1⟩)
       | (go_at_call 222;refine (c27 _).mono ?_;rintro x w2 ⟨rfl,hb2⟩)
       | (go_at_call 241;refine (c40 _).mono ?_;rintro x w3 ⟨rfl,hb3⟩))
      go_ret2
      exact ⟨rfl,gbnext (gbnext hb1 hb2) hb3⟩
   exact hb _ rfl
 ·have hi0:isd (sgR r)=false:=by simpa using hi
  rw [if_neg hi,hi0]
  have HN:¬ (dgs (sgR r)≠[]/\rst (sgR r)=[]):=fun h=>hi ((isd_iff _).2 h)
  clear hi hi0
  generalize dgs (sgR r)=D at *
  generalize rst (sgR r)=R at *
  generalize sgR r=X at *
  have hb:∀ (k:c.toNat=101∨c.toNat=69),CB 224 #[.string (B (c::r))] w (.tuple #[.int .i64 0,.bool false]):=by
   intro _
   cases D with
   | nil =>
    clear HN
    rcases hc with h|h
    all_goals
     go_enter Tryz.func224,Tryz.ntmps224
     go_wp2_with (first
      | (go_at_call 204;refine (c16 _).mono ?_;rintro x w1 ⟨rfl,hb1⟩)
      | (go_at_call 222;refine (c27 _).mono ?_;rintro x w2 ⟨rfl,hb2⟩))
     go_ret2
     exact ⟨rfl,gbnext hb1 hb2⟩
   | cons d ds =>
    cases R with
    | nil=>exact absurd ⟨by simp,rfl⟩ HN
    | cons q qs =>
     clear HN
     rcases hc with h|h
     all_goals
      go_enter Tryz.func224,Tryz.ntmps224
      go_wp2_with (first
       | (go_at_call 204;refine (c16 _).mono ?_;rintro x w1 ⟨rfl,hb1⟩)
       | (go_at_call 222;refine (c27 _).mono ?_;rintro x w2 ⟨rfl,hb2⟩))
      go_ret2
      exact ⟨rfl,gbnext hb1 hb2⟩
  exact hb (by omega)
theorem exponent_any (l:List UInt8)(w:World)(hs:l.length<4294967290) :
  CB 224 #[.string (B l)] w (.tuple #[.int .i64 (exI l),.bool (exB l)]):=by
 have htl:=B_toList
 cases l with
 | nil =>
  unfold exI exB
  go_enter Tryz.func224,Tryz.ntmps224
  go_wp2
  go_ret2
  exact ⟨rfl,Below.refl _ _⟩
 | cons c r =>
  by_cases hc:(c.toNat:Int)=101∨(c.toNat:Int)=69
  ·have:=exponent_e c r w (by rw [List.length_cons] at hs;omega) hc
   have e1:exB (c::r)=isd (sgR r):=by
    show (decide _&&_)=_
    rw [decide_eq_true hc];rfl
   rw [show exI (c::r)=if exB (c::r) then exS r else 0 from rfl,e1];exact this
  ·have e1:exB (c::r)=false:=by
    show (decide _&&_)=_
    rw [decide_eq_false hc];rfl
   have e2:exI (c::r)=0:=by rw [show exI (c::r)=if exB (c::r) then exS r else 0 from rfl,e1];rfl
   rw [e1,e2]
   have hsz:=B_size (c::r)
   have hln:(c::r).length=r.length+1:=rfl
   have hsb:=by_lt (l:=c::r) (i:=0) (by rw [hsz,hln];omega)
   rw [by_zero] at hsb
   have h1:¬ (c.toNat:Int)=101:=fun h=>hc (Or.inl h)
   have h2:¬ (c.toNat:Int)=69:=fun h=>hc (Or.inr h)
   have g1:((c.toNat:Int) != 101)=true:=by simpa using h1
   have g2:((c.toNat:Int) != 69)=true:=by simpa using h2
   clear hc
   go_enter Tryz.func224,Tryz.ntmps224
   go_wp2
   go_ret2
   exact ⟨rfl,Below.refl _ _⟩
/-! the document's -/
theorem bar_le (l:List UInt8):(bar l).length<=l.length:=by
 induction l with
 | nil=>exact Nat.le_refl _
 | cons c r ih =>
  rw [bar_cons]
  split
  ·rw [List.length_cons];omega
  ·exact Nat.le_refl _
theorem B_drop (l:List UInt8)(k:Nat):(B l).extract k (B l).size=B (l.drop k):=by
 rw [B_ext,B_size,List.take_length]
theorem isd_all {l:List UInt8}(h:isd l=true):l.all dg=true:=by
 unfold isd at h;simp only [Bool.and_eq_true] at h;exact h.1
structure By (g n:Nat) (x:Nat->Int) (W:World):Prop where
 lt:g<W.heap.size
 cell:∀ j,j<n->W.cell? ⟨g,j,none⟩=some (.int .u8 (x j))
 frz:∀ j,j<n->W.frozen? ⟨g,j,none⟩=false
theorem By.set {g n:Nat}{x:Nat->Int}{W:World}(h:By g n x W)(i:Nat)(v:Int):By g n (fun j=>if j=i then v else x j) (W.setCell ⟨g,i,none⟩ (.int .u8 v)):=by
 refine ⟨by simpa using h.lt,fun j hj=>?_,fun j hj=>by rw [World.frozen?_setCell];exact h.frz j hj⟩
 show _=some (Value.int .u8 (if j=i then v else x j))
 by_cases e:j=i
 ·subst e
  rw [if_pos rfl]
  exact World.cell?_setCell_same (h:=h.cell j hj) ..
 ·rw [if_neg e]
  exact (World.cell?_setCell_other (h:=by intro h;cases h;exact e rfl) ..).trans (h.cell j hj)
theorem By.cong {g n:Nat}{x y:Nat->Int}{W:World}(h:By g n x W)(e:∀ j,j<n->x j=y j):By g n y W :=
 ⟨h.lt,fun j hj=>by rw [h.cell j hj,e j hj],h.frz⟩
theorem By.of {l:List UInt8}{w:World}{cap:Nat}:By w.heap.size l.length (by_ l) (w.drew.alloc (.cells (bytesRow (B l) cap) 5 ((bytesRow (B l) cap).size,(bytesRow (B l) cap).size+1))):=by
 have hsz:l.length<=(bytesRow (B l) cap).size:=by unfold bytesRow;simp [B]
 refine ⟨by simp,fun j hj=>?_,fun j hj=>?_⟩
 ·have:(bytesRow (B l) cap)[j]?=some (.int .u8 (by_ l j)):=by
   unfold bytesRow by_
   rw [dif_pos hj,Array.getElem?_append_left (by simpa [B] using hj)]
   simp [B,hj]
  have hh:(w.drew.alloc (.cells (bytesRow (B l) cap) 5 ((bytesRow (B l) cap).size,(bytesRow (B l) cap).size+1))).heap[w.heap.size]?=some (.cells (bytesRow (B l) cap) 5 ((bytesRow (B l) cap).size,(bytesRow (B l) cap).size+1)):=by
   show (Array.push w.heap _)[w.heap.size]?=_
   simp
  unfold World.cell?
  simp only [hh]
  simp [this]
 ·have hh:(w.drew.alloc (.cells (bytesRow (B l) cap) 5 ((bytesRow (B l) cap).size,(bytesRow (B l) cap).size+1))).heap[w.heap.size]?=some (.cells (bytesRow (B l) cap) 5 ((bytesRow (B l) cap).size,(bytesRow (B l) cap).size+1)):=by
   show (Array.push w.heap _)[w.heap.size]?=_
   simp
  unfold World.frozen?
  simp only [hh]
  simp
  omega
def sm (c:UInt8):UInt8:=if 65<=c.toNat/\c.toNat<=90 then c+32 else c
def sml (l:List UInt8):List UInt8:=l.map sm
theorem sml_len (l:List UInt8):(sml l).length=l.length:=by simp [sml]
theorem sm_nat (c:UInt8):((sm c).toNat:Int)=if 65<=(c.toNat:Int)/\(c.toNat:Int)<=90 then (c.toNat:Int)+32 else c.toNat:=by
 unfold sm
 have:=c.toNat_lt
 by_cases h:65<=c.toNat/\c.toNat<=90
 ·rw [if_pos h,if_pos (by omega),UInt8.toNat_add]
  simp;omega
 ·rw [if_neg h,if_neg (by omega)]
theorem by_sml {l:List UInt8}{i:Nat}(h:i<l.length):by_ (sml l) i=if 65<=by_ l i/\by_ l i<=90 then by_ l i+32 else by_ l i:=by
 unfold by_
 rw [dif_pos (by rw [sml_len];exact h),dif_pos h,← sm_nat]
 simp [sml]
def mix (l:List UInt8)(k j:Nat):Int:=if j<k then by_ (sml l) j else by_ l j
theorem mix_zero (l:List UInt8)(j:Nat):mix l 0 j=by_ l j:=if_neg (Nat.not_lt_zero _)
theorem mix_next {l:List UInt8}{k:Nat}(h:k<l.length)(j:Nat):(if j=k then by_ (sml l) k else mix l k j)=mix l (k+1) j:=by
 unfold mix
 by_cases e:j=k
 ·subst e;rw [if_pos rfl,if_pos (by omega)]
 ·rw [if_neg e]
  by_cases e2:j<k
  ·rw [if_pos e2,if_pos (by omega)]
  ·rw [if_neg e2,if_neg (by omega)]
theorem by_get {l:List UInt8}{i:Nat}(h:i<l.length):((l[i]'h).toNat:Int)=by_ l i:=by unfold by_;rw [dif_pos h]
theorem back_any {l:List UInt8}{g cap n:Nat}{x:Nat->Int}{W:World}(hn:l.length=n)(h:By g n x W)(e:∀ j,j<n->x j=by_ l j):(convert 136 9 (.slice (some ⟨g,0,none⟩) n cap)).run Tryz.prog W=.ok (.string (B l)) W:=by
 subst hn
 refine run_convert_bytes_back W 136 9 5 ⟨g,0,none⟩ cap l Tryz.underlying136 Tryz.underlying5 Tryz.underlying9 fun j hj=>?_
 have:=h.cell j hj
 rw [e j hj,← by_get hj] at this
 rw [show (⟨g,0,none⟩:Addr).add j=⟨g,j,none⟩ by unfold Addr.add;split<;>simp_all]
 exact this
theorem gsmall_any (l:List UInt8)(w:World)(hs:l.length<10001) :
  CB 226 #[.string (B l)] w (.string (B (sml l))):=by
 have hsz:=B_size l
 have hcv:=run_bytes_of_string (P:=Tryz.prog) w 9 136 5 (B l) Tryz.underlying9 Tryz.underlying136 Tryz.underlying5
 rw [hsz] at hcv
 generalize hcp:grownCap w l.length 0 5=cap at hcv
 have HY:By w.heap.size l.length (by_ l) (w.drew.alloc (.cells (bytesRow (B l) cap) 5 ((bytesRow (B l) cap).size,(bytesRow (B l) cap).size+1))):=By.of
 have HB:Below w.heap.size w (w.drew.alloc (.cells (bytesRow (B l) cap) 5 ((bytesRow (B l) cap).size,(bytesRow (B l) cap).size+1))):=(Below.refl _ _).drew.alloc (Nat.le_refl _) _
 generalize hW:w.drew.alloc (.cells (bytesRow (B l) cap) 5 ((bytesRow (B l) cap).size,(bytesRow (B l) cap).size+1))=W at *
 clear hW hcp
 go_enter Tryz.func226,Tryz.ntmps226
 go_wp2
 go_loopw [4,5,10] (fun u4 u5 i wr=>∃ k:Nat,k<=l.length/\i=.int .i64 k/\By w.heap.size l.length (mix l k) wr/\Below w.heap.size w wr) (fun _ _ i _=>l.length-(intOf i).toNat)
 case atStart=>exact ⟨0,Nat.zero_le _,rfl,HY.cong fun j _=>(mix_zero l j).symm,HB⟩
 case round =>
  clear HY HB hcv
  obtain ⟨k,hk,rfl,hY,hB⟩:=hrel
  by_cases hlt:k<l.length
  ·have hki:(k:Int)<l.length:=by omega
   have hc:=hY.cell k hlt
   have hf:=hY.frz k hlt
   rw [show mix l k k=by_ l k from if_neg (Nat.lt_irrefl _)] at hc
   have hbd:=by_bd l k
   have HS:Hid (by_ (sml l) k=if 65<=by_ l k/\by_ l k<=90 then by_ l k+32 else by_ l k):=by_sml hlt
   have HM:Hid (∀ j,(if j=k then by_ (sml l) k else mix l k j)=mix l (k+1) j):=mix_next hlt
   have HY:Hid (By w.heap.size l.length (mix l k) wr):=hY
   have HB:Hid (Below w.heap.size w wr):=hB
   clear hY hB
   by_cases h1:65<=by_ l k/\by_ l k<=90
   ·obtain ⟨h1,h2⟩:=h1
    have HV:Hid (by_ (sml l) k=by_ l k+32):=by show _=_;rw [HS.out,if_pos ⟨h1,h2⟩]
    generalize by_ l k=b at *
    go_wp2
    go_roundw
    case rel =>
     refine ⟨k+1,by omega,by go_num,?_,HB.out.setCell (Nat.le_refl _) _⟩
     refine By.cong (HY.out.set k _) fun j hj=>?_
     rw [← HM.out j,HV.out]
     all_goals
      by_cases e:j=k
      ·rw [if_pos e,if_pos e];omega
      ·rw [if_neg e,if_neg e]
    case measure=>simp [intOf];omega
   ·have HV:Hid (by_ (sml l) k=by_ l k):=by show _=_;rw [HS.out,if_neg h1]
    have hrel2:Hid (By w.heap.size l.length (mix l (k+1)) wr):=HY.out.cong fun j hj=>by
     rw [← HM.out j,HV.out]
     by_cases e:j=k
     ·subst e;rw [if_pos rfl];exact if_neg (Nat.lt_irrefl _)
     ·rw [if_neg e]
    generalize by_ l k=b at *
    rcases Int.lt_or_le b 65 with h2|h2
    ·clear h1
     go_wp2
     go_roundw
     case rel=>exact ⟨k+1,by omega,by go_num,hrel2.out,HB.out⟩
     case measure=>simp [intOf];omega
    ·have h3:90<b:=by omega
     clear h1
     go_wp2
     go_roundw
     case rel=>exact ⟨k+1,by omega,by go_num,hrel2.out,HB.out⟩
     case measure=>simp [intOf];omega
  ·obtain rfl:k=l.length:=by omega
   have hbk:=back_any (l:=sml l) (cap:=cap) (sml_len l) hY fun j hj=>if_pos hj
   have HB:Hid (Below w.heap.size w wr):=hB
   clear hY hB
   go_wp2
   go_ret
   exact ⟨rfl,HB.out⟩
end Go.Proofs.YtahfkpjhlbiamaaGreatDoor
