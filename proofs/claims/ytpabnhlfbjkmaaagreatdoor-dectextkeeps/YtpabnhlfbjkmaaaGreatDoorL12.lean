/-
  Texts that the proof leans on, joined: Ha, Hb.
-/
import Derived.Test.YtpabnhlfbjkmaaaGreatDoorL10
import Derived.Test.YtpabnhlfbjkmaaaGreatDoorL1
set_option linter.unusedVariables false
set_option linter.unusedSimpArgs false
set_option linter.unusedSectionVars false
set_option maxRecDepth 20000
namespace Go.Proofs.YtpabnhlfbjkmaaaGreatDoor
open Go.RowKit
theorem dig_of (k:Nat) (h:k<10):dg (UInt8.ofNat (48+k))=true/\((UInt8.ofNat (48+k)).toNat:Int)=48+k:=by
 have:(UInt8.ofNat (48+k)).toNat=48+k:=by
  rw [UInt8.toNat_ofNat'];omega
 refine ⟨?_,by omega⟩
 unfold dg;rw [this];simp;omega
theorem dec_dg (u:Nat):(Lib.decDigits u).all dg=true:=by
 induction u using Nat.strongRecOn with
 | ind u ih =>
  rw [Lib.decDigits]
  split
  ·rename_i h
   simp only [List.all_cons,List.all_nil,Bool.and_true]
   exact (dig_of u h).1
  ·rename_i h
   rw [List.all_append,ih (u/10) (by omega)]
   simp only [List.all_cons,List.all_nil,Bool.and_true,Bool.true_and]
   exact (dig_of (u%10) (by omega)).1
theorem dec_nv (u:Nat):nv (Lib.decDigits u)=u:=by
 induction u using Nat.strongRecOn with
 | ind u ih =>
  rw [Lib.decDigits]
  split
  ·rename_i h
   rw [gnv_one,(dig_of u h).2];omega
  ·rename_i h
   rw [nv_app,ih (u/10) (by omega),gnv_one,(dig_of (u%10) (by omega)).2]
   simp
   omega
theorem dec_ne (u:Nat):Lib.decDigits u≠[]:=by
 rw [Lib.decDigits]
 split
 ·simp
 ·simp
theorem dec_isd (u:Nat):isd (Lib.decDigits u)=true:=by
 unfold isd
 rw [dec_dg]
 simp [dec_ne u]
theorem sg_cons {c:UInt8} {r:List UInt8} (h:(c.toNat:Int)≠45/\(c.toNat:Int)≠43):gsgB (c :: r)=false/\sgR (c :: r)=c :: r:=by
 refine ⟨by simp only [gsgB];exact decide_eq_false h.1,?_⟩
 simp only [sgR]
 rw [if_neg (by omega)]
theorem dg_nat {c:UInt8} (h:dg c=true):48<=(c.toNat:Int)/\(c.toNat:Int)<=57:=by
 unfold dg at h
 have:=of_decide_eq_true h
 omega
theorem sg_all {l:List UInt8} (h:l.all dg=true):gsgB l=false/\sgR l=l:=by
 cases l with
 | nil=>exact ⟨rfl,rfl⟩
 | cons c r =>
  rw [List.all_cons,Bool.and_eq_true] at h
  have:=dg_nat h.1
  exact sg_cons ⟨by omega,by omega⟩
theorem exT_cut (e:Int) (h:-1000000000<=e/\e<=1000000000):exB (exT e)=true/\exI (exT e)=e/\Lib.hasPrefix (exT e) [46]=false/\dgs (exT e)=[]/\rst (exT e)=exT e:=by
 unfold exT
 split
 ·rename_i h0;subst h0;exact ⟨rfl,rfl,rfl,rfl,rfl⟩
 ·rename_i h0
  have hi:isd (sgR (Lib.itoa e))=true/\exS (Lib.itoa e)=e:=by
   unfold Lib.itoa
   split
   ·rename_i h1
    have e1:gsgB (45 :: Lib.decDigits e.natAbs)=true:=rfl
    have e2:sgR (45 :: Lib.decDigits e.natAbs)=Lib.decDigits e.natAbs:=rfl
    unfold exS
    rw [e1,e2,if_pos rfl]
    refine ⟨dec_isd _,?_⟩
    unfold vc;rw [dec_nv];omega
   ·rename_i h1
    obtain ⟨e1,e2⟩:=sg_all (dec_dg e.toNat)
    unfold exS
    rw [e1,e2]
    refine ⟨dec_isd _,?_⟩
    rw [if_neg (by decide)]
    unfold vc;rw [dec_nv];omega
  have hx:exB (101 :: Lib.itoa e)=true:=by
   simp only [exB]
   rw [hi.1];rfl
  refine ⟨hx,?_,rfl,rfl,rfl⟩
  simp only [exI]
  rw [if_pos hx]
  exact hi.2
theorem dgs_app2 {l m:List UInt8} (h:l.all dg=true) (hm:dgs m=[]):dgs (l++m)=l/\rst (l++m)=m:=by
 have h1:dgs (l++m)=l:=by
  induction l with
  | nil=>exact hm
  | cons c r ih =>
   rw [List.all_cons,Bool.and_eq_true] at h
   unfold dgs at ih ⊢
   rw [List.cons_append,List.takeWhile_cons,if_pos h.1,ih h.2]
 refine ⟨h1,?_⟩
 have e:=dgs_rst (l++m)
 rw [h1] at e
 exact List.append_cancel_left e
theorem fin_cut (T:List UInt8) (e:Int) (hT:T.all dg=true) (hn:T≠[]) (h:-1000000000<=e/\e<=1000000000):finB (T++exT e)=true/\finD (T++exT e)=bar T/\finE (T++exT e)=e:=by
 obtain ⟨h1,h2,h3,h4,h5⟩:=exT_cut e h
 obtain ⟨d1,d2⟩:=dgs_app2 hT h4
 have f1:frac (T++exT e)=[]:=by unfold frac;rw [d2,h3];rfl
 have f2:behind (T++exT e)=exT e:=by unfold behind;rw [d2,h3];rfl
 refine ⟨?_,?_,?_⟩
 ·unfold finB;rw [f1,f2,h1,d1]
  cases T with
  | nil=>exact absurd rfl hn
  | cons c r=>rfl
 ·unfold finD;rw [f1,d1,List.append_nil]
 ·unfold finE;rw [f1,f2,h2];unfold clampE;simp;omega
def gdD (d:List UInt8):Prop:=d=[]∨(isd d=true/\by_ d 0≠48)
theorem gdD_all {d:List UInt8} (h:gdD d):d.all dg=true:=by
 rcases h with rfl | ⟨h,_⟩
 ·rfl
 ·exact isd_all h
theorem gdD_bar {d:List UInt8} (h:gdD d):bar d=d:=by
 cases d with
 | nil=>rfl
 | cons c r =>
  rcases h with h | ⟨_,h⟩
  ·cases h
  ·rw [by_zero] at h
   rw [bar_cons,if_neg h]
theorem bar_gdD {l:List UInt8} (h:l.all dg=true):gdD (bar l):=by
 have ha:=bar_all h
 cases hb:bar l with
 | nil=>exact Or.inl rfl
 | cons c r =>
  rw [hb] at ha
  refine Or.inr ⟨?_,?_⟩
  ·unfold isd;rw [ha];rfl
  ·rw [by_zero];exact bar_head hb
theorem gdD_dgT {d:List UInt8} (h:gdD d):(dgT d).all dg=true/\dgT d≠[]/\bar (dgT d)=d:=by
 unfold dgT
 split
 ·rename_i h0;subst h0;exact ⟨rfl,by simp,rfl⟩
 ·rename_i h0;exact ⟨gdD_all h,h0,gdD_bar h⟩
def gdP (p:Prt):Prop:=gdD p.dig/\((p.cls=1/\p.sn=false/\(-1000000000<=p.ex/\p.ex<=1000000000)/\(texT p.cls p.sg p.sn p.dig p.ex).length<=4000)∨(p.cls=2/\p.sn=false/\p.dig=[]/\p.ex=0)∨(p.cls=3/\p.ex=0/\(texT p.cls p.sg p.sn p.dig p.ex).length<=4000))
theorem sig_app (s:Bool) (c:UInt8) (r:List UInt8) (h:(c.toNat:Int)≠45/\(c.toNat:Int)≠43):gsgB ((if s then [45] else [])++(c :: r))=s/\sgR ((if s then [45] else [])++(c :: r))=c :: r:=by
 cases s
 ·exact sg_cons h
 ·exact ⟨rfl,rfl⟩
theorem sml_dg {d:List UInt8} (h:d.all dg=true):sml d=d:=by
 induction d with
 | nil=>rfl
 | cons c r ih =>
  rw [List.all_cons,Bool.and_eq_true] at h
  have:=dg_nat h.1
  show sm c :: sml r=c :: r
  rw [ih h.2]
  unfold sm
  rw [if_neg (by omega)]
theorem nan_pa {d:List UInt8} (h:gdD d):sml (if d=[] then [] else 40 :: (d++[41]))=(if d=[] then [] else 40 :: (d++[41]))/\paB (if d=[] then [] else 40 :: (d++[41]))=true/\paD (if d=[] then [] else 40 :: (d++[41]))=d:=by
 by_cases h0:d=[]
 ·rw [if_pos h0];subst h0;exact ⟨rfl,rfl,rfl⟩
 ·rw [if_neg h0]
  have e1:Lib.trimPrefix (40 :: (d++[41])) [40]=d++[41]:=rfl
  have e2:Lib.hasPrefix (40 :: (d++[41])) [40]=true:=rfl
  obtain ⟨d1,d2⟩:=dgs_app2 (m:=[41]) (gdD_all h) rfl
  refine ⟨?_,?_,?_⟩
  ·have:=sml_dg (gdD_all h)
   unfold sml at this ⊢
   rw [List.map_cons,List.map_append,this];rfl
  ·unfold paB;rw [e1,e2,d1,d2]
   cases d with
   | nil=>exact absurd rfl h0
   | cons c r=>rfl
  ·unfold paD;rw [e1,e2,d1];rfl
theorem nan_cut (g:Bool) {d:List UInt8} (h:gdD d):finB (nanT g d)=false/\infB (sml (nanT g d))=false/\nanB (sml (nanT g d))=true/\Lib.hasPrefix (sml (nanT g d)) [115]=g/\paD (nanR (sml (nanT g d)))=d:=by
 obtain ⟨p1,p2,p3⟩:=nan_pa h
 unfold nanT
 generalize (if d=[] then [] else 40 :: (d++[41]):List UInt8)=X at p1 p2 p3 ⊢
 cases g
 ·have e:sml ((if false=true then [115] else [])++([110,97,110]++X))=[110,97,110]++X:=by
   show 110 :: 97 :: 110 :: sml X=_
   rw [p1];rfl
  rw [e]
  refine ⟨rfl,rfl,?_,rfl,?_⟩
  ·show (true && paB X)=true
   rw [p2];rfl
  ·exact p3
 ·have e:sml ((if true=true then [115] else [])++([110,97,110]++X))=115 :: ([110,97,110]++X):=by
   show 115 :: 110 :: 97 :: 110 :: sml X=_
   rw [p1];rfl
  rw [e]
  refine ⟨rfl,rfl,?_,rfl,?_⟩
  ·show (true && paB X)=true
   rw [p2];rfl
  ·exact p3
theorem jn_of_gd {p:Prt} (h:gdP p):jnP p:=by
 obtain ⟨c,s,g,d,e⟩:=p
 obtain ⟨hd,h⟩:=h
 dsimp only at hd h
 rcases h with ⟨rfl,rfl,he,hl⟩ | ⟨rfl,rfl,rfl,rfl⟩ | ⟨rfl,rfl,hl⟩
 ·obtain ⟨t1,t2,t3⟩:=gdD_dgT hd
  have hb:bodT 1 false d e=dgT d++exT e:=rfl
  have hdl:d.length<=(dgT d).length:=by
   unfold dgT;split
   ·rename_i h0;subst h0;simp
   ·exact Nat.le_refl _
  have ht:texT 1 s false d e=(if s then [45] else [])++(dgT d++exT e):=rfl
  refine ⟨?_,?_⟩
  ·rw [ht] at hl
   simp only [List.length_append] at hl
   show d.length<=4000
   omega
  ·unfold cutP
   rw [if_neg (show ¬ 4000<(texT 1 s false d e).length by omega)]
   show bodP (gsgB (texT 1 s false d e)) (sgR (texT 1 s false d e))=_
   obtain ⟨f1,f2,f3⟩:=fin_cut (dgT d) e t1 t2 he
   have hs:gsgB (texT 1 s false d e)=s/\sgR (texT 1 s false d e)=dgT d++exT e:=by
    rw [ht]
    revert t1 t2
    generalize dgT d=T
    intro t1 t2
    cases T with
    | nil=>exact absurd rfl t2
    | cons c r =>
     rw [List.all_cons,Bool.and_eq_true] at t1
     have:=dg_nat t1.1
     exact sig_app s c _ ⟨by omega,by omega⟩
   rw [hs.1,hs.2]
   unfold bodP
   rw [if_pos f1,f2,f3,t3]
 ·refine ⟨by simp,?_⟩
  cases s <;> rfl
 ·have hn:=nan_cut g hd
  have ht:texT 3 s g d 0=(if s then [45] else [])++nanT g d:=rfl
  refine ⟨?_,?_⟩
  ·rw [ht] at hl
   unfold nanT at hl
   simp only [List.length_append] at hl
   show d.length<=4000
   by_cases h0:d=[]
   ·subst h0;simp
   ·rw [if_neg h0] at hl
    simp only [List.length_cons,List.length_append] at hl
    omega
  ·unfold cutP
   rw [if_neg (show ¬ 4000<(texT 3 s g d 0).length by omega)]
   show bodP (gsgB (texT 3 s g d 0)) (sgR (texT 3 s g d 0))=_
   have hs:gsgB (texT 3 s g d 0)=s/\sgR (texT 3 s g d 0)=nanT g d:=by
    rw [ht]
    cases g
    ·exact sig_app s 110 _ ⟨by decide,by decide⟩
    ·exact sig_app s 115 _ ⟨by decide,by decide⟩
   obtain ⟨n1,n2,n3,n4,n5⟩:=hn
   rw [hs.1,hs.2]
   unfold bodP
   rw [if_neg (by rw [n1];decide),if_neg (by rw [n2];decide),if_pos n3,n4,n5,gdD_bar hd]
theorem cut_good {l:List UInt8} {p:Prt} (h:cutP l=some p):gdD p.dig/\((p.cls=1/\p.sn=false/\(-1000000000<=p.ex/\p.ex<=1000000000))∨(p.cls=2/\p.sn=false/\p.dig=[]/\p.ex=0)∨(p.cls=3/\p.ex=0)):=by
 unfold cutP at h
 split at h
 ·cases h
 ·unfold bodP at h
  generalize sgR l=r at h
  split at h
  ·injection h with h;subst h
   refine ⟨bar_gdD ?_,Or.inl ⟨rfl,rfl,?_⟩⟩
   ·rw [List.all_append,all_dgs]
    unfold frac
    split
    ·rw [all_dgs];rfl
    ·rfl
   ·show -1000000000<=finE r/\finE r<=1000000000
    unfold finE clampE
    omega
  ·split at h
   ·injection h with h;subst h
    exact ⟨Or.inl rfl,Or.inr (Or.inl ⟨rfl,rfl,rfl,rfl⟩)⟩
   ·split at h
    ·injection h with h;subst h
     refine ⟨bar_gdD ?_,Or.inr (Or.inr ⟨rfl,rfl⟩)⟩
     unfold paD
     split
     ·rw [all_dgs]
     ·rfl
    ·cases h
theorem gd_of_jn {p:Prt} (h:jnP p):gdP p:=by
 obtain ⟨hd,h⟩:=h
 have hl:(texT p.cls p.sg p.sn p.dig p.ex).length<=4000:=by
  unfold cutP at h
  split at h
  ·cases h
  ·omega
 obtain ⟨g1,g2⟩:=cut_good h
 refine ⟨g1,?_⟩
 rcases g2 with ⟨a,b,c⟩ | g2 | ⟨a,b⟩
 ·exact Or.inl ⟨a,b,c,hl⟩
 ·exact Or.inr (Or.inl g2)
 ·exact Or.inr (Or.inr ⟨a,b,hl⟩)
theorem itoa_any (e:Int) (w:World) (he:-9223372036854775808<=e/\e<=9223372036854775807) (hT:Tb10 w) :
  CB 68 #[.int .i64 e] w (.string (B (Lib.itoa e))):=by
 refine (Tryz.strconv_Itoa e he.1 he.2 w hT).mono ?_
 rintro x w' ⟨rfl,k,os,rfl⟩
 exact ⟨rfl,⟨rfl,rfl,rfl,by show w.heap.size<=(w.heap++os).size;simp,fun b hb=>by show (w.heap++os)[b]?=w.heap[b]?;rw [Array.getElem?_append_left hb]⟩⟩
end Go.Proofs.YtpabnhlfbjkmaaaGreatDoor
