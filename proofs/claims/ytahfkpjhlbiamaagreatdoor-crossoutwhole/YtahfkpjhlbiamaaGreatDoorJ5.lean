/-
  Texts that the proof leans on.
-/
import Derived.Test.YtahfkpjhlbiamaaGreatDoorJ1
import Derived.Laws.IdiomStrings
import Derived.Test.YtahfkpjhlbiamaaGreatDoorJ2
set_option maxHeartbeats 8000000
set_option linter.unusedVariables false
set_option linter.unusedSimpArgs false
set_option linter.unusedSectionVars false
set_option maxRecDepth 20000
namespace Go.Proofs.YtahfkpjhlbiamaaGreatDoor
open Go.RowKit
theorem zVq (l:List UInt8):(dgs l).all dg=true:=List.all_takeWhile
theorem zNw {l:List UInt8}(h:rst l=[]):dgs l=l:=by
 have:=zLg l;rw [h,List.append_nil] at this;exact this
theorem zWt {l:List UInt8}(h:l.all dg=true):rst l=[]/\dgs l=l:=by
 have:dgs l=l:=by
  induction l with
  | nil=>rfl
  | cons c r ih =>
   rw [List.all_cons,Bool.and_eq_true] at h
   unfold dgs at ih ⊢
   rw [List.takeWhile_cons,if_pos h.1,ih h.2]
 refine ⟨?_,this⟩
 have e:=zLg l
 rw [this] at e
 simpa using e
theorem zGy (l:List UInt8):isd l=true↔dgs l≠[]/\rst l=[]:=by
 unfold isd
 simp only [Bool.and_eq_true,Bool.not_eq_true',List.isEmpty_eq_false_iff]
 constructor
 ·rintro ⟨h1,h2⟩
  obtain ⟨a,b⟩:=zWt h1
  exact ⟨by rw [b];exact h2,a⟩
 ·rintro ⟨h1,h2⟩
  have:=zNw h2
  rw [this] at h1
  exact ⟨by rw [← this];exact zVq l,h1⟩
theorem zJr (l:List UInt8):(sgR l).length<=l.length:=by
 cases l with
 | nil=>exact Nat.le_refl _
 | cons c r =>
  show (if _ then r else c::r).length<=_
  split<;>simp
theorem zOw (l:List UInt8):(rst l).length<=l.length:=by
 have:=congrArg List.length (zLg l)
 rw [List.length_append] at this;omega
def exB:List UInt8->Bool
 | []=>true
 | c::r=>decide ((c.toNat:Int)=101∨(c.toNat:Int)=69)&&isd (sgR r)
def exS (r:List UInt8):Int:=if gsgB r then-vc (sgR r) else vc (sgR r)
def exI:List UInt8->Int
 | []=>0
 | c::r=>if exB (c::r) then exS r else 0
theorem vc_bd {l:List UInt8}(h:l.all dg=true):0<=vc l/\vc l<=2000000000:=by
 have:=(nv_nn h).1
 unfold vc;omega
theorem zVu (c:UInt8)(r:List UInt8)(w:World)(hs:r.length<4294967290)(hc:(c.toNat:Int)=101∨(c.toNat:Int)=69) :
  CB 224 #[.string (B (c::r))] w (.tuple #[.int .i64 (if isd (sgR r) then exS r else 0),.bool (isd (sgR r))]):=by
 have htl:=zSa
 have hsz:=zFa (c::r)
 have hln:(c::r).length=r.length+1:=rfl
 have hbt:=zF7 c r
 have hsb:=zYu (l:=c::r) (i:=0) (by rw [hsz,hln];omega)
 rw [zNg] at hsb
 rw [hsz,hln] at hbt
 have c16:=fun w=>zYg r w (by omega)
 have hsl:=zJr r
 have c27:=fun w=>zZg (sgR r) w (by omega)
 have hdl:=zPl (sgR r)
 have g1:((c.toNat:Int) != 101&&(c.toNat:Int) != 69)=false:=by
  rcases hc with h|h<;>rw [h]<;>rfl
 have g0:=c.toNat_lt
 by_cases hi:isd (sgR r)=true
 ·have hi2:=(zGy _).1 hi
  have c40:=fun w=>zGv (dgs (sgR r)) w (by omega) (zVq _)
  have hvb:=vc_bd (zVq (sgR r))
  have HE:Hid (exS r=if gsgB r then-vc (dgs (sgR r)) else vc (dgs (sgR r))):=by show _=_;unfold exS;rw [zNw hi2.2]
  rw [if_pos hi,hi]
  rw [hi2.2] at c27
  have HN:=hi2.1
  clear hi hi2
  generalize dgs (sgR r)=D at *
  cases D with
  | nil=>exact absurd rfl HN
  | cons d ds =>
   clear HN
   generalize sgR r=X at *
   generalize exS r=E at *
   have hb:∀ z:Bool,gsgB r=z->CB 224 #[.string (B (c::r))] w (.tuple #[.int .i64 E,.bool true]):=by
    intro z hz
    rw [hz] at c16 HE
    clear hz
    cases z
    all_goals
     simp only [Bool.false_eq_true,if_true,if_false] at HE
     rcases hc with h|h
     all_goals
      rw [HE.out];clear HE
      go_enter Tryz.func224,Tryz.ntmps224
      go_wp2_with (first
       | (go_at_call 204;refine (c16 _).mono ?_;rintro x w1 ⟨rfl,hb1⟩)
       | (go_at_call 222;refine (c27 _).mono ?_;rintro x w2 ⟨rfl,hb2⟩)
       | (go_at_call 241;refine (c40 _).mono ?_;rintro x w3 ⟨rfl,hb3⟩))
      go_ret2
      exact ⟨rfl,zLs (zLs hb1 hb2) hb3⟩
   exact hb _ rfl
 ·have hi0:isd (sgR r)=false:=by simpa using hi
  rw [if_neg hi,hi0]
  have HN:¬ (dgs (sgR r)≠[]/\rst (sgR r)=[]):=fun h=>hi ((zGy _).2 h)
  clear hi hi0
  generalize dgs (sgR r)=D at *
  generalize rst (sgR r)=R at *
  generalize sgR r=X at *
  have hb:∀ (k:c.toNat=101∨c.toNat=69),CB 224 #[.string (B (c::r))] w (.tuple #[.int .i64 0,.bool false]):=by
   intro _
   cases D with
   | nil =>
    clear HN
    rcases hc with h|h
    all_goals
     go_enter Tryz.func224,Tryz.ntmps224
     go_wp2_with (first
      | (go_at_call 204;refine (c16 _).mono ?_;rintro x w1 ⟨rfl,hb1⟩)
      | (go_at_call 222;refine (c27 _).mono ?_;rintro x w2 ⟨rfl,hb2⟩))
     go_ret2
     exact ⟨rfl,zLs hb1 hb2⟩
   | cons d ds =>
    cases R with
    | nil=>exact absurd ⟨by simp,rfl⟩ HN
    | cons q qs =>
     clear HN
     rcases hc with h|h
     all_goals
      go_enter Tryz.func224,Tryz.ntmps224
      go_wp2_with (first
       | (go_at_call 204;refine (c16 _).mono ?_;rintro x w1 ⟨rfl,hb1⟩)
       | (go_at_call 222;refine (c27 _).mono ?_;rintro x w2 ⟨rfl,hb2⟩))
      go_ret2
      exact ⟨rfl,zLs hb1 hb2⟩
  exact hb (by omega)
theorem zVi (l:List UInt8)(w:World)(hs:l.length<4294967290) :
  CB 224 #[.string (B l)] w (.tuple #[.int .i64 (exI l),.bool (exB l)]):=by
 have htl:=zSa
 cases l with
 | nil =>
  unfold exI exB
  go_enter Tryz.func224,Tryz.ntmps224
  go_wp2
  go_ret2
  exact ⟨rfl,Below.refl _ _⟩
 | cons c r =>
  by_cases hc:(c.toNat:Int)=101∨(c.toNat:Int)=69
  ·have:=zVu c r w (by rw [List.length_cons] at hs;omega) hc
   have e1:exB (c::r)=isd (sgR r):=by
    show (decide _&&_)=_
    rw [decide_eq_true hc];rfl
   rw [show exI (c::r)=if exB (c::r) then exS r else 0 from rfl,e1];exact this
  ·have e1:exB (c::r)=false:=by
    show (decide _&&_)=_
    rw [decide_eq_false hc];rfl
   have e2:exI (c::r)=0:=by rw [show exI (c::r)=if exB (c::r) then exS r else 0 from rfl,e1];rfl
   rw [e1,e2]
   have hsz:=zFa (c::r)
   have hln:(c::r).length=r.length+1:=rfl
   have hsb:=zYu (l:=c::r) (i:=0) (by rw [hsz,hln];omega)
   rw [zNg] at hsb
   have h1:¬ (c.toNat:Int)=101:=fun h=>hc (Or.inl h)
   have h2:¬ (c.toNat:Int)=69:=fun h=>hc (Or.inr h)
   have g1:((c.toNat:Int) != 101)=true:=by simpa using h1
   have g2:((c.toNat:Int) != 69)=true:=by simpa using h2
   clear hc
   go_enter Tryz.func224,Tryz.ntmps224
   go_wp2
   go_ret2
   exact ⟨rfl,Below.refl _ _⟩
/-! the document's -/
theorem bar_le (l:List UInt8):(bar l).length<=l.length:=by
 induction l with
 | nil=>exact Nat.le_refl _
 | cons c r ih =>
  rw [zBn]
  split
  ·rw [List.length_cons];omega
  ·exact Nat.le_refl _
theorem B_drop (l:List UInt8)(k:Nat):(B l).extract k (B l).size=B (l.drop k):=by
 rw [zXq,zFa,List.take_length]
theorem zGq {l:List UInt8}(h:isd l=true):l.all dg=true:=by
 unfold isd at h;simp only [Bool.and_eq_true] at h;exact h.1
structure By (g n:Nat) (x:Nat->Int) (W:World):Prop where
 lt:g<W.heap.size
 cell:∀ j,j<n->W.cell? ⟨g,j,none⟩=some (.int .u8 (x j))
 frz:∀ j,j<n->W.frozen? ⟨g,j,none⟩=false
theorem By.set {g n:Nat}{x:Nat->Int}{W:World}(h:By g n x W)(i:Nat)(v:Int):By g n (fun j=>if j=i then v else x j) (W.setCell ⟨g,i,none⟩ (.int .u8 v)):=by
 refine ⟨by simpa using h.lt,fun j hj=>?_,fun j hj=>by rw [World.frozen?_setCell];exact h.frz j hj⟩
 show _=some (Value.int .u8 (if j=i then v else x j))
 by_cases e:j=i
 ·subst e
  rw [if_pos rfl]
  exact World.cell?_setCell_same (h:=h.cell j hj) ..
 ·rw [if_neg e]
  exact (World.cell?_setCell_other (h:=by intro h;cases h;exact e rfl) ..).trans (h.cell j hj)
theorem By.cong {g n:Nat}{x y:Nat->Int}{W:World}(h:By g n x W)(e:∀ j,j<n->x j=y j):By g n y W :=
 ⟨h.lt,fun j hj=>by rw [h.cell j hj,e j hj],h.frz⟩
theorem By.of {l:List UInt8}{w:World}{cap:Nat}:By w.heap.size l.length (by_ l) (w.drew.alloc (.cells (bytesRow (B l) cap) 5 ((bytesRow (B l) cap).size,(bytesRow (B l) cap).size+1))):=by
 have hsz:l.length<=(bytesRow (B l) cap).size:=by unfold bytesRow;simp [B]
 refine ⟨by simp,fun j hj=>?_,fun j hj=>?_⟩
 ·have:(bytesRow (B l) cap)[j]?=some (.int .u8 (by_ l j)):=by
   unfold bytesRow by_
   rw [dif_pos hj,Array.getElem?_append_left (by simpa [B] using hj)]
   simp [B,hj]
  have hh:(w.drew.alloc (.cells (bytesRow (B l) cap) 5 ((bytesRow (B l) cap).size,(bytesRow (B l) cap).size+1))).heap[w.heap.size]?=some (.cells (bytesRow (B l) cap) 5 ((bytesRow (B l) cap).size,(bytesRow (B l) cap).size+1)):=by
   show (Array.push w.heap _)[w.heap.size]?=_
   simp
  unfold World.cell?
  simp only [hh]
  simp [this]
 ·have hh:(w.drew.alloc (.cells (bytesRow (B l) cap) 5 ((bytesRow (B l) cap).size,(bytesRow (B l) cap).size+1))).heap[w.heap.size]?=some (.cells (bytesRow (B l) cap) 5 ((bytesRow (B l) cap).size,(bytesRow (B l) cap).size+1)):=by
   show (Array.push w.heap _)[w.heap.size]?=_
   simp
  unfold World.frozen?
  simp only [hh]
  simp
  omega
def sm (c:UInt8):UInt8:=if 65<=c.toNat/\c.toNat<=90 then c+32 else c
def sml (l:List UInt8):List UInt8:=l.map sm
theorem zRp (l:List UInt8):(sml l).length=l.length:=by simp [sml]
theorem sm_nat (c:UInt8):((sm c).toNat:Int)=if 65<=(c.toNat:Int)/\(c.toNat:Int)<=90 then (c.toNat:Int)+32 else c.toNat:=by
 unfold sm
 have:=c.toNat_lt
 by_cases h:65<=c.toNat/\c.toNat<=90
 ·rw [if_pos h,if_pos (by omega),UInt8.toNat_add]
  simp;omega
 ·rw [if_neg h,if_neg (by omega)]
theorem by_sml {l:List UInt8}{i:Nat}(h:i<l.length):by_ (sml l) i=if 65<=by_ l i/\by_ l i<=90 then by_ l i+32 else by_ l i:=by
 unfold by_
 rw [dif_pos (by rw [zRp];exact h),dif_pos h,← sm_nat]
 simp [sml]
def mix (l:List UInt8)(k j:Nat):Int:=if j<k then by_ (sml l) j else by_ l j
theorem zN3 (l:List UInt8)(j:Nat):mix l 0 j=by_ l j:=if_neg (Nat.not_lt_zero _)
theorem zO3 {l:List UInt8}{k:Nat}(h:k<l.length)(j:Nat):(if j=k then by_ (sml l) k else mix l k j)=mix l (k+1) j:=by
 unfold mix
 by_cases e:j=k
 ·subst e;rw [if_pos rfl,if_pos (by omega)]
 ·rw [if_neg e]
  by_cases e2:j<k
  ·rw [if_pos e2,if_pos (by omega)]
  ·rw [if_neg e2,if_neg (by omega)]
theorem by_get {l:List UInt8}{i:Nat}(h:i<l.length):((l[i]'h).toNat:Int)=by_ l i:=by unfold by_;rw [dif_pos h]
theorem zK5 {l:List UInt8}{g cap n:Nat}{x:Nat->Int}{W:World}(hn:l.length=n)(h:By g n x W)(e:∀ j,j<n->x j=by_ l j):(convert 136 9 (.slice (some ⟨g,0,none⟩) n cap)).run Tryz.prog W=.ok (.string (B l)) W:=by
 subst hn
 refine run_convert_bytes_back W 136 9 5 ⟨g,0,none⟩ cap l Tryz.underlying136 Tryz.underlying5 Tryz.underlying9 fun j hj=>?_
 have:=h.cell j hj
 rw [e j hj,← by_get hj] at this
 rw [show (⟨g,0,none⟩:Addr).add j=⟨g,j,none⟩ by unfold Addr.add;split<;>simp_all]
 exact this
theorem zOu (l:List UInt8)(w:World)(hs:l.length<10001) :
  CB 226 #[.string (B l)] w (.string (B (sml l))):=by
 have hsz:=zFa l
 have hcv:=run_bytes_of_string (P:=Tryz.prog) w 9 136 5 (B l) Tryz.underlying9 Tryz.underlying136 Tryz.underlying5
 rw [hsz] at hcv
 generalize hcp:grownCap w l.length 0 5=cap at hcv
 have HY:By w.heap.size l.length (by_ l) (w.drew.alloc (.cells (bytesRow (B l) cap) 5 ((bytesRow (B l) cap).size,(bytesRow (B l) cap).size+1))):=By.of
 have HB:Below w.heap.size w (w.drew.alloc (.cells (bytesRow (B l) cap) 5 ((bytesRow (B l) cap).size,(bytesRow (B l) cap).size+1))):=(Below.refl _ _).drew.alloc (Nat.le_refl _) _
 generalize hW:w.drew.alloc (.cells (bytesRow (B l) cap) 5 ((bytesRow (B l) cap).size,(bytesRow (B l) cap).size+1))=W at *
 clear hW hcp
 go_enter Tryz.func226,Tryz.ntmps226
 go_wp2
 go_loopw [4,5,10] (fun u4 u5 i wr=>∃ k:Nat,k<=l.length/\i=.int .i64 k/\By w.heap.size l.length (mix l k) wr/\Below w.heap.size w wr) (fun _ _ i _=>l.length-(intOf i).toNat)
 case atStart=>exact ⟨0,Nat.zero_le _,rfl,HY.cong fun j _=>(zN3 l j).symm,HB⟩
 case round =>
  clear HY HB hcv
  obtain ⟨k,hk,rfl,hY,hB⟩:=hrel
  by_cases hlt:k<l.length
  ·have hki:(k:Int)<l.length:=by omega
   have hc:=hY.cell k hlt
   have hf:=hY.frz k hlt
   rw [show mix l k k=by_ l k from if_neg (Nat.lt_irrefl _)] at hc
   have hbd:=by_bd l k
   have HS:Hid (by_ (sml l) k=if 65<=by_ l k/\by_ l k<=90 then by_ l k+32 else by_ l k):=by_sml hlt
   have HM:Hid (∀ j,(if j=k then by_ (sml l) k else mix l k j)=mix l (k+1) j):=zO3 hlt
   have HY:Hid (By w.heap.size l.length (mix l k) wr):=hY
   have HB:Hid (Below w.heap.size w wr):=hB
   clear hY hB
   by_cases h1:65<=by_ l k/\by_ l k<=90
   ·obtain ⟨h1,h2⟩:=h1
    have HV:Hid (by_ (sml l) k=by_ l k+32):=by show _=_;rw [HS.out,if_pos ⟨h1,h2⟩]
    generalize by_ l k=b at *
    go_wp2
    go_roundw
    case rel =>
     refine ⟨k+1,by omega,by go_num,?_,HB.out.setCell (Nat.le_refl _) _⟩
     refine By.cong (HY.out.set k _) fun j hj=>?_
     rw [← HM.out j,HV.out]
     all_goals
      by_cases e:j=k
      ·rw [if_pos e,if_pos e];omega
      ·rw [if_neg e,if_neg e]
    case measure=>simp [intOf];omega
   ·have HV:Hid (by_ (sml l) k=by_ l k):=by show _=_;rw [HS.out,if_neg h1]
    have hrel2:Hid (By w.heap.size l.length (mix l (k+1)) wr):=HY.out.cong fun j hj=>by
     rw [← HM.out j,HV.out]
     by_cases e:j=k
     ·subst e;rw [if_pos rfl];exact if_neg (Nat.lt_irrefl _)
     ·rw [if_neg e]
    generalize by_ l k=b at *
    rcases Int.lt_or_le b 65 with h2|h2
    ·clear h1
     go_wp2
     go_roundw
     case rel=>exact ⟨k+1,by omega,by go_num,hrel2.out,HB.out⟩
     case measure=>simp [intOf];omega
    ·have h3:90<b:=by omega
     clear h1
     go_wp2
     go_roundw
     case rel=>exact ⟨k+1,by omega,by go_num,hrel2.out,HB.out⟩
     case measure=>simp [intOf];omega
  ·obtain rfl:k=l.length:=by omega
   have hbk:=zK5 (l:=sml l) (cap:=cap) (zRp l) hY fun j hj=>if_pos hj
   have HB:Hid (Below w.heap.size w wr):=hB
   clear hY hB
   go_wp2
   go_ret
   exact ⟨rfl,HB.out⟩
theorem zKy (l:List UInt8)(w:World):Calls Tryz.prog 243 #[.string (B l),.string ⟨#[48]⟩] w fun e w'=>e=.returned (.string (B (bar l)))/\w'=w :=
 Tryz.strings_TrimLeft_one (B l) 48 (by decide) w
theorem zC0 (l:List UInt8)(w:World)(hs:l.length<4294967296):CB 242 #[.string (B l)] w (.string (B l)):=by
 have c:=fun w=>Tryz.stringslite_Clone (B l) w (by rw [zFa];omega)
 go_enter Tryz.func242,Tryz.ntmps242
 go_wp2_with (go_at_call 250;refine (c _).mono ?_;rintro x w1 ⟨rfl,hb1⟩)
 go_ret
 exact ⟨rfl,hb1⟩
theorem zDh (l p:List UInt8)(w:World):Calls Tryz.prog 223 #[.string (B l),.string ⟨p.toArray⟩] w fun e w'=>e=.returned (.tuple #[.string (B (Lib.trimPrefix l p)),.bool (Lib.hasPrefix l p)])/\w'=w :=
 Tryz.strings_CutPrefix (B l) (B p) w
theorem zRh (l:List UInt8)(w:World)(hs:l.length<4294967296):CB 225 #[.string (B l)] w (.string (B (bar l))):=by
 have c:=fun w=>zKy l w
 have c2:=fun w=>zC0 (bar l) w (by have:=bar_le l;omega)
 go_enter Tryz.func225,Tryz.ntmps225
 go_wp2_with (first|(go_at_call 243;refine (c _).mono ?_;rintro x w1 ⟨rfl,rfl⟩)|(go_at_call 242;refine (c2 _).mono ?_;rintro x w2 ⟨rfl,hb2⟩))
 go_ret
 exact ⟨rfl,hb2⟩
def PV (c:Int)(s g:Bool)(d:List UInt8)(e:Int):Value:=.agg #[.int .i64 c,.bool s,.bool g,.string (B d),.int .i64 e]
def zZf (e:Int):Int:=min (max e (-1000000000)) 1000000000
def zOo (s:List UInt8):List UInt8:=if Lib.hasPrefix (rst s) [46] then dgs (Lib.trimPrefix (rst s) [46]) else []
def zNc (s:List UInt8):List UInt8:=if Lib.hasPrefix (rst s) [46] then rst (Lib.trimPrefix (rst s) [46]) else rst s
def zKl (s:List UInt8):Bool:=exB (zNc s)&&!((dgs s).isEmpty&&(zOo s).isEmpty)
def finD (s:List UInt8):List UInt8:=bar (dgs s++zOo s)
def finE (s:List UInt8):Int:=zZf (exI (zNc s)-(zOo s).length)
theorem zCe (l p:List UInt8):(Lib.trimPrefix l p).length<=l.length:=by unfold Lib.trimPrefix;split<;>simp
theorem exS_bd (r:List UInt8)(h:isd (sgR r)=true):-2000000000<=exS r/\exS r<=2000000000:=by
 have:=vc_bd (zGq h)
 unfold exS;split<;>omega
theorem zM6 (l:List UInt8):-2000000000<=exI l/\exI l<=2000000000:=by
 cases l with
 | nil=>show -2000000000<=(0:Int)/\(0:Int)<=2000000000;omega
 | cons c r =>
  show -2000000000<=(if exB (c::r) then exS r else 0)/\(if exB (c::r) then exS r else 0)<=2000000000
  by_cases h:exB (c::r)=true
  ·rw [if_pos h]
   have:isd (sgR r)=true:=by
    have h2:(decide _&&isd (sgR r))=true:=h
    rw [Bool.and_eq_true] at h2;exact h2.2
   exact exS_bd r this
  ·rw [if_neg h];omega
def npB (s:List UInt8):Bool:=exB (rst s)&&!(dgs s).isEmpty
theorem zRy (s:List UInt8)(w:World)(hs:s.length<10001)(hp:Lib.hasPrefix (rst s) [46]=false) :
  CB 205 #[.string (B s)] w (.tuple #[if npB s then PV 1 false false (bar (dgs s)) (zZf (exI (rst s))) else PV 0 false false [] 0,.bool (npB s)]):=by
 have htl:=zSa
 have c27:=fun w=>zZg s w (by omega)
 have c28:∀ w,Calls Tryz.prog 223 #[.string (B (rst s)),.string ⟨#[46]⟩] w fun e w'=>e=.returned (.tuple #[.string (B (Lib.trimPrefix (rst s) [46])),.bool (Lib.hasPrefix (rst s) [46])])/\w'=w:=fun w=>zDh (rst s) [46] w
 rw [hp] at c28
 have hdl:=zPl s
 have c29:=fun w=>zVi (rst s) w (by have:=zOw s;omega)
 have hx:=zM6 (rst s)
 have c30:=fun w=>zRh (dgs s) w (by omega)
 unfold npB PV zZf
 generalize bar (dgs s)=D at *
 generalize Lib.trimPrefix (rst s) [46]=T at *
 generalize rst s=R at *
 generalize exI R=E at *
 generalize exB R=z at *
 clear hp
 cases z
 ·rw [Bool.false_and]
  clear c30
  generalize dgs s=X at *
  simp only [Bool.false_eq_true,if_false]
  go_enter Tryz.func205,Tryz.ntmps205
  go_wp2_with (first|(go_at_call 222;refine wk w (c27 _) ?_;intro w1 hb1 _ _ _ _ hA1 _;clear hb1)|(go_at_call 223;refine (c28 _).mono ?_;rintro x w2 ⟨rfl,rfl⟩)|(go_at_call 224;refine wk w (c29 _) ?_;intro w3 hb3 _ _ _ _ hA3 _;clear hb3)|(go_at_call 225;refine wk w (c30 _) ?_;intro w4 hb4 _ _ _ _ hA4 _;clear hb4))
  exact bodyPost_ret (v:=.tuple #[.agg #[.int .i64 0,.bool false,.bool false,.string ⟨#[]⟩,.int .i64 0],.bool false]) (by simp only [results,Tryz.results205];go_simp) rfl ⟨rfl,bgo⟩
 ·rw [Bool.true_and]
  generalize dgs s=X at *
  cases X with
  | nil =>
   clear c30
   simp only [List.isEmpty_nil,Bool.not_true,Bool.false_eq_true,if_false]
   go_enter Tryz.func205,Tryz.ntmps205
   go_wp2_with (first|(go_at_call 222;refine wk w (c27 _) ?_;intro w1 hb1 _ _ _ _ hA1 _;clear hb1)|(go_at_call 223;refine (c28 _).mono ?_;rintro x w2 ⟨rfl,rfl⟩)|(go_at_call 224;refine wk w (c29 _) ?_;intro w3 hb3 _ _ _ _ hA3 _;clear hb3)|(go_at_call 225;refine wk w (c30 _) ?_;intro w4 hb4 _ _ _ _ hA4 _;clear hb4))
   exact bodyPost_ret (v:=.tuple #[.agg #[.int .i64 0,.bool false,.bool false,.string ⟨#[]⟩,.int .i64 0],.bool false]) (by simp only [results,Tryz.results205];go_simp) rfl ⟨rfl,bgo⟩
  | cons x xs =>
   simp only [List.isEmpty_cons,Bool.not_false,if_true]
   have hap:=zCn (x::xs) []
   rw [List.append_nil] at hap
   have hb9:(B (x::xs)).size<10001:=by rw [zFa];omega
   have hn:B []=⟨#[]⟩:=rfl
   have hn0:(⟨#[]⟩:ByteArray).size=0:=rfl
   rw [hn] at hap
   go_enter Tryz.func205,Tryz.ntmps205
   go_wp2_with (first|(go_at_call 222;refine wk w (c27 _) ?_;intro w1 hb1 _ _ _ _ hA1 _;clear hb1)|(go_at_call 223;refine (c28 _).mono ?_;rintro x w2 ⟨rfl,rfl⟩)|(go_at_call 224;refine wk w (c29 _) ?_;intro w3 hb3 _ _ _ _ hA3 _;clear hb3)|(go_at_call 225;refine wk w (c30 _) ?_;intro w4 hb4 _ _ _ _ hA4 _;clear hb4))
   exact bodyPost_ret (v:=.tuple #[.agg #[.int .i64 1,.bool false,.bool false,.string (B D),.int .i64 (min (max E (-1000000000)) 1000000000)],.bool true]) (by simp only [results,Tryz.results205];go_simp) rfl ⟨rfl,bgo⟩
def ptB (X T:List UInt8):Bool:=exB (rst T)&&!(X.isEmpty&&(dgs T).isEmpty)
theorem zQy (s T:List UInt8)(w:World)(hs:s.length<10001)(hp:Lib.hasPrefix (rst s) [46]=true)(hT:Lib.trimPrefix (rst s) [46]=T) :
  CB 205 #[.string (B s)] w (.tuple #[if ptB (dgs s) T then PV 1 false false (bar (dgs s++dgs T)) (zZf (exI (rst T)-(dgs T).length)) else PV 0 false false [] 0,.bool (ptB (dgs s) T)]):=by
 have htl:=zSa
 have c27:=fun w=>zZg s w (by omega)
 have c28:∀ w,Calls Tryz.prog 223 #[.string (B (rst s)),.string ⟨#[46]⟩] w fun e w'=>e=.returned (.tuple #[.string (B (Lib.trimPrefix (rst s) [46])),.bool (Lib.hasPrefix (rst s) [46])])/\w'=w:=fun w=>zDh (rst s) [46] w
 rw [hp] at c28
 have hdl:=zPl s
 rw [hT] at c28
 have hTl:T.length<=s.length:=by rw [← hT];exact Nat.le_trans (zCe _ _) (zOw _)
 have hFl:=zPl T
 have c27b:=fun w=>zZg T w (by omega)
 have c29:=fun w=>zVi (rst T) w (by have:=zOw T;omega)
 have hx:=zM6 (rst T)
 have c30:=fun w=>zRh (dgs s++dgs T) w (by rw [List.length_append];omega)
 have hap:=zCn (dgs s) (dgs T)
 unfold ptB PV zZf
 generalize bar (dgs s++dgs T)=D at *
 clear hT hp
 generalize rst s=R at *
 generalize exI (rst T)=E at *
 generalize exB (rst T)=z at *
 generalize rst T=R2 at *
 generalize dgs T=F at *
 have hszF:=zFa F
 have hF9:(B F).size<10001:=by rw [hszF];omega
 cases z
 ·rw [Bool.false_and]
  clear c30 hap
  generalize dgs s=X at *
  simp only [Bool.false_eq_true,if_false]
  go_enter Tryz.func205,Tryz.ntmps205
  go_wp2_with (first|(go_at_call 222;refine (c27 _).mono ?_;rintro x w1 ⟨rfl,hb1⟩;clear c27;obtain ⟨_,_,_,_,hA1,_⟩:=wz w hb1;clear hb1)|(go_at_call 223;refine (c28 _).mono ?_;rintro x w2 ⟨rfl,rfl⟩))
  go_wp2_with (first|(go_at_call 222;refine wk w (c27b _) ?_;intro w5 hb5 _ _ _ _ hA5 _;clear hb5)|(go_at_call 224;refine wk w (c29 _) ?_;intro w3 hb3 _ _ _ _ hA3 _;clear hb3)|(go_at_call 225;refine wk w (c30 _) ?_;intro w4 hb4 _ _ _ _ hA4 _;clear hb4))
  exact bodyPost_ret (v:=.tuple #[.agg #[.int .i64 0,.bool false,.bool false,.string ⟨#[]⟩,.int .i64 0],.bool false]) (by simp only [results,Tryz.results205];go_simp) rfl ⟨rfl,bgo⟩
 ·rw [Bool.true_and]
  generalize dgs s=X at *
  cases X with
  | nil =>
   cases F with
   | nil =>
    clear c30 hap
    simp only [List.isEmpty_nil,Bool.true_and,Bool.not_true,Bool.false_eq_true,if_false]
    go_enter Tryz.func205,Tryz.ntmps205
    go_wp2_with (first|(go_at_call 222;refine (c27 _).mono ?_;rintro x w1 ⟨rfl,hb1⟩;clear c27;obtain ⟨_,_,_,_,hA1,_⟩:=wz w hb1;clear hb1)|(go_at_call 223;refine (c28 _).mono ?_;rintro x w2 ⟨rfl,rfl⟩))
    go_wp2_with (first|(go_at_call 222;refine wk w (c27b _) ?_;intro w5 hb5 _ _ _ _ hA5 _;clear hb5)|(go_at_call 224;refine wk w (c29 _) ?_;intro w3 hb3 _ _ _ _ hA3 _;clear hb3)|(go_at_call 225;refine wk w (c30 _) ?_;intro w4 hb4 _ _ _ _ hA4 _;clear hb4))
    exact bodyPost_ret (v:=.tuple #[.agg #[.int .i64 0,.bool false,.bool false,.string ⟨#[]⟩,.int .i64 0],.bool false]) (by simp only [results,Tryz.results205];go_simp) rfl ⟨rfl,bgo⟩
   | cons f fs =>
    simp only [List.isEmpty_nil,List.isEmpty_cons,Bool.true_and,Bool.not_false,if_true]
    have hb9:(B []).size=0:=rfl
    have hfs:fs.length+1<10001:=by rw [List.length_cons] at hFl;omega
    go_enter Tryz.func205,Tryz.ntmps205
    go_wp2_with (first|(go_at_call 222;refine (c27 _).mono ?_;rintro x w1 ⟨rfl,hb1⟩;clear c27;obtain ⟨_,_,_,_,hA1,_⟩:=wz w hb1;clear hb1)|(go_at_call 223;refine (c28 _).mono ?_;rintro x w2 ⟨rfl,rfl⟩))
    go_wp2_with (first|(go_at_call 222;refine wk w (c27b _) ?_;intro w5 hb5 _ _ _ _ hA5 _;clear hb5)|(go_at_call 224;refine wk w (c29 _) ?_;intro w3 hb3 _ _ _ _ hA3 _;clear hb3)|(go_at_call 225;refine wk w (c30 _) ?_;intro w4 hb4 _ _ _ _ hA4 _;clear hb4))
    exact bodyPost_ret (v:=.tuple #[.agg #[.int .i64 1,.bool false,.bool false,.string (B D),.int .i64 (min (max (E-(f::fs).length) (-1000000000)) 1000000000)],.bool true]) (by simp only [results,Tryz.results205];go_simp) rfl ⟨rfl,bgo⟩
  | cons x xs =>
   simp only [List.isEmpty_cons,Bool.false_and,Bool.not_false,if_true]
   have hb9:(B (x::xs)).size<10001:=by rw [zFa];omega
   go_enter Tryz.func205,Tryz.ntmps205
   go_wp2_with (first|(go_at_call 222;refine (c27 _).mono ?_;rintro x w1 ⟨rfl,hb1⟩;clear c27;obtain ⟨_,_,_,_,hA1,_⟩:=wz w hb1;clear hb1)|(go_at_call 223;refine (c28 _).mono ?_;rintro x w2 ⟨rfl,rfl⟩))
   go_wp2_with (first|(go_at_call 222;refine wk w (c27b _) ?_;intro w5 hb5 _ _ _ _ hA5 _;clear hb5)|(go_at_call 224;refine wk w (c29 _) ?_;intro w3 hb3 _ _ _ _ hA3 _;clear hb3)|(go_at_call 225;refine wk w (c30 _) ?_;intro w4 hb4 _ _ _ _ hA4 _;clear hb4))
   exact bodyPost_ret (v:=.tuple #[.agg #[.int .i64 1,.bool false,.bool false,.string (B D),.int .i64 (min (max (E-F.length) (-1000000000)) 1000000000)],.bool true]) (by simp only [results,Tryz.results205];go_simp) rfl ⟨rfl,bgo⟩
theorem zSy (s:List UInt8)(w:World)(hs:s.length<10001) :
  CB 205 #[.string (B s)] w (.tuple #[if zKl s then PV 1 false false (finD s) (finE s) else PV 0 false false [] 0,.bool (zKl s)]):=by
 by_cases hp:Lib.hasPrefix (rst s) [46]=true
 ·have c:=zQy s _ w hs hp rfl
  have e1:zKl s=ptB (dgs s) (Lib.trimPrefix (rst s) [46]):=by unfold zKl ptB zOo zNc;rw [if_pos hp,if_pos hp]
  have e2:finD s=bar (dgs s++dgs (Lib.trimPrefix (rst s) [46])):=by unfold finD zOo;rw [if_pos hp]
  have e3:finE s=zZf (exI (rst (Lib.trimPrefix (rst s) [46]))-(dgs (Lib.trimPrefix (rst s) [46])).length):=by unfold finE zOo zNc;rw [if_pos hp,if_pos hp]
  rw [e1,e2,e3];exact c
 ·have hp':Lib.hasPrefix (rst s) [46]=false:=by simpa using hp
  have c:=zRy s w hs hp'
  have e1:zKl s=npB s:=by unfold zKl npB zOo zNc;rw [if_neg hp,if_neg hp];simp
  have e2:finD s=bar (dgs s):=by unfold finD zOo;rw [if_neg hp,List.append_nil]
  have e3:finE s=zZf (exI (rst s)):=by unfold finE zOo zNc;rw [if_neg hp,if_neg hp];simp
  rw [e1,e2,e3];exact c
def paD (l:List UInt8):List UInt8:=if Lib.hasPrefix l [40] then dgs (Lib.trimPrefix l [40]) else []
def paB (l:List UInt8):Bool:=l.isEmpty||(Lib.hasPrefix l [40]&&(!(dgs (Lib.trimPrefix l [40])).isEmpty&&(rst (Lib.trimPrefix l [40])==[41])))
theorem zXp (l:List UInt8)(w:World)(hs:l.length<10001) :
  CB 227 #[.string (B l)] w (.tuple #[.string (B (paD l)),.bool (paB l)]):=by
 have htl:=zSa
 cases l with
 | nil =>
  go_enter Tryz.func227,Tryz.ntmps227
  go_wp2
  go_ret2
  exact ⟨rfl,Below.refl _ _⟩
 | cons c r =>
  have c28:∀ w,Calls Tryz.prog 223 #[.string (B (c::r)),.string ⟨#[40]⟩] w fun e w'=>e=.returned (.tuple #[.string (B (Lib.trimPrefix (c::r) [40])),.bool (Lib.hasPrefix (c::r) [40])])/\w'=w:=fun w=>zDh (c::r) [40] w
  have hTl:=zCe (c::r) [40]
  have c27:=fun w=>zZg (Lib.trimPrefix (c::r) [40]) w (by omega)
  unfold paD paB
  generalize Lib.trimPrefix (c::r) [40]=T at *
  generalize Lib.hasPrefix (c::r) [40]=z at *
  simp only [List.isEmpty_cons,Bool.false_or]
  cases z
  ·simp only [Bool.false_eq_true,if_false,Bool.false_and]
   go_enter Tryz.func227,Tryz.ntmps227
   go_wp2_with (go_at_call 223;refine (c28 _).mono ?_;rintro x w2 ⟨rfl,rfl⟩)
   go_ret2
   exact ⟨rfl,Below.refl _ _⟩
  ·simp only [if_true,Bool.true_and]
   generalize dgs T=D at *
   generalize rst T=R at *
   cases D with
   | nil =>
    simp only [List.isEmpty_nil,Bool.not_true,Bool.false_and]
    go_enter Tryz.func227,Tryz.ntmps227
    go_wp2_with (first|(go_at_call 223;refine (c28 _).mono ?_;rintro x w2 ⟨rfl,rfl⟩)|(go_at_call 222;refine (c27 _).mono ?_;rintro x w3 ⟨rfl,hb3⟩))
    go_ret2
    exact ⟨rfl,hb3⟩
   | cons d ds =>
    simp only [List.isEmpty_cons,Bool.not_false,Bool.true_and]
    go_enter Tryz.func227,Tryz.ntmps227
    go_wp2_with (first|(go_at_call 223;refine (c28 _).mono ?_;rintro x w2 ⟨rfl,rfl⟩)|(go_at_call 222;refine (c27 _).mono ?_;rintro x w3 ⟨rfl,hb3⟩))
    go_ret2
    exact ⟨rfl,hb3⟩
def zHy (x:List UInt8):Bool:=x==[105,110,102]||x==[105,110,102,105,110,105,116,121]
def nanR (x:List UInt8):List UInt8:=Lib.trimPrefix (Lib.trimPrefix x [115]) [110,97,110]
def zV9 (x:List UInt8):Bool:=Lib.hasPrefix (Lib.trimPrefix x [115]) [110,97,110]&&paB (nanR x)
def woB (s:List UInt8):Bool:=zHy (sml s)||zV9 (sml s)
def woV (s:List UInt8):Value:=if zHy (sml s) then PV 2 false false [] 0 else if zV9 (sml s) then PV 3 false (Lib.hasPrefix (sml s) [115]) (bar (paD (nanR (sml s)))) 0 else PV 0 false false [] 0
theorem zNo (s:List UInt8)(w:World)(hs:s.length<10001) :
  CB 206 #[.string (B s)] w (.tuple #[woV s,.bool (woB s)]):=by
 have htl:=zSa
 have c31:=fun w=>zOu s w hs
 unfold woV woB PV
 have hxl:=zRp s
 generalize sml s=x at *
 have HI:Hid (zHy x=(x==[105,110,102]||x==[105,110,102,105,110,105,116,121])):=rfl
 by_cases h1:x=[105,110,102]
 ·have hi:zHy x=true:=by rw [h1];rfl
  rw [hi]
  subst h1
  simp only [if_true,Bool.true_or]
  go_enter Tryz.func206,Tryz.ntmps206
  go_wp2_with (first|(go_at_call 226;refine wk w (c31 _) ?_;intro w1 hb1 _ _ _ _ hA1 _;clear hb1))
  exact bodyPost_ret (v:=.tuple #[.agg #[.int .i64 2,.bool false,.bool false,.string ⟨#[]⟩,.int .i64 0],.bool true]) (by simp only [results,Tryz.results206];go_simp) rfl ⟨rfl,bgo⟩
 ·by_cases h2:x=[105,110,102,105,110,105,116,121]
  ·have hi:zHy x=true:=by rw [h2];rfl
   rw [hi]
   subst h2
   simp only [if_true,Bool.true_or]
   go_enter Tryz.func206,Tryz.ntmps206
   go_wp2_with (first|(go_at_call 226;refine wk w (c31 _) ?_;intro w1 hb1 _ _ _ _ hA1 _;clear hb1))
   exact bodyPost_ret (v:=.tuple #[.agg #[.int .i64 2,.bool false,.bool false,.string ⟨#[]⟩,.int .i64 0],.bool true]) (by simp only [results,Tryz.results206];go_simp) rfl ⟨rfl,bgo⟩
  ·have hi:zHy x=false:=by unfold zHy;rw [beq_eq_false_iff_ne.2 h1,beq_eq_false_iff_ne.2 h2];rfl
   rw [hi]
   have b1:(x==[105,110,102])=false:=beq_eq_false_iff_ne.2 h1
   have b2:(x==[105,110,102,105,110,105,116,121])=false:=beq_eq_false_iff_ne.2 h2
   simp only [Bool.false_eq_true,if_false,Bool.false_or]
   have c28:∀ w,Calls Tryz.prog 223 #[.string (B x),.string ⟨#[115]⟩] w fun e w'=>e=.returned (.tuple #[.string (B (Lib.trimPrefix x [115])),.bool (Lib.hasPrefix x [115])])/\w'=w:=fun w=>zDh x [115] w
   have hl1:=zCe x [115]
   have c28n:∀ w,Calls Tryz.prog 223 #[.string (B (Lib.trimPrefix x [115])),.string ⟨#[110,97,110]⟩] w fun e w'=>e=.returned (.tuple #[.string (B (nanR x)),.bool (Lib.hasPrefix (Lib.trimPrefix x [115]) [110,97,110])])/\w'=w:=fun w=>zDh (Lib.trimPrefix x [115]) [110,97,110] w
   have hl2:=zCe (Lib.trimPrefix x [115]) [110,97,110]
   change (nanR x).length<=_ at hl2
   unfold zV9
   generalize Lib.hasPrefix (Lib.trimPrefix x [115]) [110,97,110]=z at *
   generalize Lib.hasPrefix x [115]=g at *
   generalize Lib.trimPrefix x [115]=T at *
   have c32:=fun w=>zXp (nanR x) w (by omega)
   generalize nanR x=N at *
   have hpl:(paD N).length<=N.length:=by
    unfold paD;split
    ·exact Nat.le_trans (zPl _) (zCe _ _)
    ·simp
   have c30:=fun w=>zRh (paD N) w (by omega)
   generalize paD N=P at *
   generalize paB N=y at *
   cases z
   ·simp only [Bool.false_and,Bool.false_eq_true,if_false]
    go_enter Tryz.func206,Tryz.ntmps206
    go_wp2_with (first|(go_at_call 226;refine wk w (c31 _) ?_;intro w1 hb1 _ _ _ _ hA1 _;clear hb1)|(go_at_call 223;refine (c28 _).mono ?_;rintro x w2 ⟨rfl,rfl⟩;clear c28))
    go_wp2_with (first|(go_at_call 223;refine (c28n _).mono ?_;rintro x w2 ⟨rfl,rfl⟩;clear c28n))
    exact bodyPost_ret (v:=.tuple #[.agg #[.int .i64 0,.bool false,.bool false,.string ⟨#[]⟩,.int .i64 0],.bool false]) (by simp only [results,Tryz.results206];go_simp) rfl ⟨rfl,bgo⟩
   ·cases y
    ·simp only [Bool.true_and,Bool.false_eq_true,if_false]
     go_enter Tryz.func206,Tryz.ntmps206
     go_wp2_with (first|(go_at_call 226;refine wk w (c31 _) ?_;intro w1 hb1 _ _ _ _ hA1 _;clear hb1)|(go_at_call 223;refine (c28 _).mono ?_;rintro x w2 ⟨rfl,rfl⟩;clear c28))
     go_wp2_with (first|(go_at_call 223;refine (c28n _).mono ?_;rintro x w2 ⟨rfl,rfl⟩;clear c28n)|(go_at_call 227;refine wk w (c32 _) ?_;intro w3 hb3 _ _ _ _ hA3 _;clear hb3))
     exact bodyPost_ret (v:=.tuple #[.agg #[.int .i64 0,.bool false,.bool false,.string ⟨#[]⟩,.int .i64 0],.bool false]) (by simp only [results,Tryz.results206];go_simp) rfl ⟨rfl,bgo⟩
    ·simp only [Bool.true_and,if_true]
     go_enter Tryz.func206,Tryz.ntmps206
     go_wp2_with (first|(go_at_call 226;refine wk w (c31 _) ?_;intro w1 hb1 _ _ _ _ hA1 _;clear hb1)|(go_at_call 223;refine (c28 _).mono ?_;rintro x w2 ⟨rfl,rfl⟩;clear c28))
     go_wp2_with (first|(go_at_call 223;refine (c28n _).mono ?_;rintro x w2 ⟨rfl,rfl⟩;clear c28n)|(go_at_call 227;refine wk w (c32 _) ?_;intro w3 hb3 _ _ _ _ hA3 _;clear hb3)|(go_at_call 225;refine wk w (c30 _) ?_;intro w4 hb4 _ _ _ _ hA4 _;clear hb4))
     exact bodyPost_ret (v:=.tuple #[.agg #[.int .i64 3,.bool false,.bool g,.string (B (bar P)),.int .i64 0],.bool true]) (by simp only [results,Tryz.results206];go_simp) rfl ⟨rfl,bgo⟩
end Go.Proofs.YtahfkpjhlbiamaaGreatDoor
