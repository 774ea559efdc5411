/-
  Texts that the proof leans on.
-/
import Derived.Test.YtahfkpjhlbiamaaGreatDoorL17
import Derived.Test.YtahfkpjhlbiamaaGreatDoorL18
import Derived.Test.YtahfkpjhlbiamaaGreatDoorL6
import Derived.Test.YtahfkpjhlbiamaaGreatDoorL1
import Derived.Test.YtahfkpjhlbiamaaGreatDoorL9
import Derived.Test.YtahfkpjhlbiamaaGreatDoorL13
import Derived.BigQuiet
import Derived.Test.YtahfkpjhlbiamaaGreatDoorL3
set_option maxHeartbeats 8000000
set_option linter.unusedVariables false
set_option linter.unusedSectionVars false
set_option linter.unusedSimpArgs false
set_option maxRecDepth 20000
namespace Go.Proofs.YtahfkpjhlbiamaaGreatDoor
open Go.RowKit
theorem cell_set_map (W:World)(b i:Nat)(v:Value):(W.setCell ⟨b,i,none⟩ v).cell? ⟨b,i,none⟩=(W.cell? ⟨b,i,none⟩).map fun _=>v:=by
 unfold World.cell? World.setCell
 simp only [Array.getElem?_modify,if_true]
 cases h:W.heap[b]? with
 | none=>simp
 | some o =>
  cases o with
  | cells c e fr =>
   simp only [Option.map_some,Option.isSome_none,Bool.false_eq_true,if_false]
   by_cases hi:i<c.size
   ·simp [hi]
   ·simp [hi]
  | _=>simp
structure Dat where
 c:Int
 s:Bool
 g:Bool
 x:Int
 k:Nat
abbrev DV (c:Int)(s g:Bool)(x:Int)(k:Nat):Value:=.agg #[.int .i64 c,.bool s,.bool g,.int .i64 x,.int .u64 (W4 k 0),.int .u64 (W4 k 1),.int .u64 (W4 k 2),.int .u64 (W4 k 3)]
abbrev Dat.v (d:Dat):Value:=DV d.c d.s d.g d.x d.k
theorem W4_zero (i:Nat):W4 0 i=0:=by unfold W4;simp
def spc (f:Nat)(s:Bool)(F:Nat):Dat:=if F=0 then ⟨2,s,false,0,0⟩ else if F<2^(f-1) then ⟨3,s,true,0,F⟩ else ⟨3,s,false,0,F-2^(f-1)⟩
theorem special_zero (f e:Nat)(l m:Int)(s:Bool)(w:World) :
  CB 36 #[LV f e l m,.bool s,A4 0] w (DV 2 s false 0 0):=by
 have c46:=fun w=>len4' 0 w
 rw [(len4_zero (A:=0) (by decide)).2 rfl] at c46
 unfold DV
 simp only [A4,W4_zero] at c46 ⊢
 go_enter Tryz.func36,Tryz.ntmps36
 go_wp2_with (go_at_call 75;refine (c46 _).mono ?_;rintro x w1 ⟨rfl,hb1⟩;obtain ⟨_,_,_,_,hA1,_⟩:=wz w hb1;obtain ⟨_,_⟩:=zf hb1 (w.heap.size+1);obtain ⟨_,_⟩:=zf hb1 (w.heap.size+1+1);clear hb1)
 have hsm:=cell_set_map
 exact bodyPost_ret (v:=.agg #[.int .i64 2,.bool s,.bool false,.int .i64 0,.int .u64 0,.int .u64 0,.int .u64 0,.int .u64 0]) (by simp only [results,Tryz.results36];go_simp) rfl ⟨rfl,bgo⟩
theorem special_nan (f e:Nat)(l m:Int)(s:Bool)(F:Nat)(w:World)(h:Fm f e l m)(hF:F<2^256)(h0:F≠0) :
  CB 36 #[LV f e l m,.bool s,A4 F] w (if F<2^(f-1) then DV 3 s true 0 F else DV 3 s false 0 (F-2^(f-1))):=by
 have hf2:=h.f2
 have hf240:=h.f240
 have c46:=fun w=>len4' F w
 have hL:lenL (W4 F) 4≠0:=fun h1=>h0 ((len4_zero hF).1 h1)
 generalize lenL (W4 F) 4=L at *
 have hLb:(L==0)=false:=by simpa using hL
 have c47:=fun w=>quiet_any f e l m w h
 have c39:=fun w=>sub4 F (2^(f-1)) w hF (Nat.pow_lt_pow_right (by decide) (by omega))
 clear h hF h0 hL hf2 hf240
 by_cases hlt:F<2^(f-1)
 ·rw [if_pos hlt]
  rw [if_pos hlt] at c39
  clear hlt
  generalize F+2^256-2^(f-1)=Pl at *
  generalize 2^(f-1)=Qt at *
  go_enter Tryz.func36,Tryz.ntmps36
  go_wp2_with (go_at_call 75;refine (c46 _).mono ?_;rintro x w1 ⟨rfl,hb1⟩;obtain ⟨_,_,_,_,hA1,_⟩:=wz w hb1;obtain ⟨_,_⟩:=zf hb1 (w.heap.size+1);obtain ⟨_,_⟩:=zf hb1 (w.heap.size+1+1);clear hb1)
  refine wp_made 4 7 7 #[.int .u64 0,.int .u64 0,.int .u64 0,.int .u64 0] (by kernel_rfl) (by kernel_rfl) (by kernel_rfl) rfl (fun oa hoa a w=>?_) (by kernel_rfl) (by kernel_rfl) rfl rfl (fun _ _ d _ _ h=>by cases d<;>exact h) ?_
  ·cases hoa;exact ⟨23,by simp [go_sem]⟩
  apply Exists.intro
  refine ⟨fun al hne hcell=>?_,fun w2 hb2=>?_,fun g w2 hb2 hg0 hg1 hg2 hg3=>?_⟩
  ·simp only [List.take_succ_cons,List.take_zero]
   repeat go_big_quiet_step (fail)
   go_big_quiet_step ((go_at_call 76;exact calls_wd _ al_next (c47 _)))
   repeat go_big_quiet_step (fail)
   go_big_quiet_step ((go_at_call 73;exact calls_wd _ al_next (c39 _)))
   exact wpQuiet_nil rfl
  ·simp only [List.drop_succ_cons,List.drop_zero]
   obtain ⟨_,hf2,_,_,hA2,_⟩:=wz w hb2;obtain ⟨_,_⟩:=zf hb2 (w.heap.size+1);obtain ⟨_,_⟩:=zf hb2 (w.heap.size+1+1);clear hb2
   go_wp2
   have hsm:=cell_set_map
   exact bodyPost_ret (v:=DV 3 s true 0 F) (by simp only [results,Tryz.results36];go_simp) rfl ⟨rfl,bgo⟩
  ·simp only [List.drop_succ_cons,List.drop_zero,Nat.reduceSub,List.eraseIdx_cons_succ,List.eraseIdx_cons_zero]
   have hgw:=hA1.size
   have hz0:g≠w.heap.size:=by omega
   have hz1:g≠w.heap.size+1:=by omega
   have hz2:g≠w.heap.size+1+1:=by omega
   obtain ⟨_,hf2,_,_,hA2,_⟩:=wz w hb2;obtain ⟨_,_⟩:=zf hb2 (w.heap.size+1);obtain ⟨_,_⟩:=zf hb2 (w.heap.size+1+1);clear hb2
   have hsm:=cell_set_map
   go_wp2
   exact bodyPost_ret (v:=DV 3 s true 0 F) (by simp only [results,Tryz.results36];go_simp) rfl ⟨rfl,bgo⟩
 ·rw [if_neg hlt]
  rw [if_neg hlt,A4_sub (by omega)] at c39
  clear hlt
  generalize F-2^(f-1)=Pl at *
  generalize 2^(f-1)=Qt at *
  go_enter Tryz.func36,Tryz.ntmps36
  go_wp2_with (go_at_call 75;refine (c46 _).mono ?_;rintro x w1 ⟨rfl,hb1⟩;obtain ⟨_,_,_,_,hA1,_⟩:=wz w hb1;obtain ⟨_,_⟩:=zf hb1 (w.heap.size+1);obtain ⟨_,_⟩:=zf hb1 (w.heap.size+1+1);clear hb1)
  refine wp_made 4 7 7 #[.int .u64 0,.int .u64 0,.int .u64 0,.int .u64 0] (by kernel_rfl) (by kernel_rfl) (by kernel_rfl) rfl (fun oa hoa a w=>?_) (by kernel_rfl) (by kernel_rfl) rfl rfl (fun _ _ d _ _ h=>by cases d<;>exact h) ?_
  ·cases hoa;exact ⟨23,by simp [go_sem]⟩
  apply Exists.intro
  refine ⟨fun al hne hcell=>?_,fun w2 hb2=>?_,fun g w2 hb2 hg0 hg1 hg2 hg3=>?_⟩
  ·simp only [List.take_succ_cons,List.take_zero]
   repeat go_big_quiet_step (fail)
   go_big_quiet_step ((go_at_call 76;exact calls_wd _ al_next (c47 _)))
   repeat go_big_quiet_step (fail)
   go_big_quiet_step ((go_at_call 73;exact calls_wd _ al_next (c39 _)))
   exact wpQuiet_nil rfl
  ·simp only [List.drop_succ_cons,List.drop_zero]
   obtain ⟨_,hf2,_,_,hA2,_⟩:=wz w hb2;obtain ⟨_,_⟩:=zf hb2 (w.heap.size+1);obtain ⟨_,_⟩:=zf hb2 (w.heap.size+1+1);clear hb2
   go_wp2
   have hsm:=cell_set_map
   exact bodyPost_ret (v:=DV 3 s false 0 Pl) (by simp only [results,Tryz.results36];go_simp) rfl ⟨rfl,bgo⟩
  ·simp only [List.drop_succ_cons,List.drop_zero,Nat.reduceSub,List.eraseIdx_cons_succ,List.eraseIdx_cons_zero]
   have hgw:=hA1.size
   have hz0:g≠w.heap.size:=by omega
   have hz1:g≠w.heap.size+1:=by omega
   have hz2:g≠w.heap.size+1+1:=by omega
   obtain ⟨_,hf2,_,_,hA2,_⟩:=wz w hb2;obtain ⟨_,_⟩:=zf hb2 (w.heap.size+1);obtain ⟨_,_⟩:=zf hb2 (w.heap.size+1+1);clear hb2
   have hsm:=cell_set_map
   go_wp2
   exact bodyPost_ret (v:=DV 3 s false 0 Pl) (by simp only [results,Tryz.results36];go_simp) rfl ⟨rfl,bgo⟩
theorem special_spc (f e:Nat)(l m:Int)(s:Bool)(F:Nat)(w:World)(h:Fm f e l m)(hF:F<2^256) :
  Calls Tryz.prog 36 #[LV f e l m,.bool s,A4 F] w fun x w'=>x=.returned (spc f s F).v/\Below w.heap.size w w':=by
 unfold spc
 by_cases h0:F=0
 ·subst h0
  rw [if_pos rfl]
  exact special_zero f e l m s w
 ·rw [if_neg h0]
  refine (special_nan f e l m s F w h hF h0).mono ?_
  rintro x w' ⟨rfl,hb⟩
  refine ⟨?_,hb⟩
  split<;>rfl
def binN (n:Int):Prop:=1<=n/\n<=6
instance (n:Int):Decidable (binN n):=inferInstanceAs (Decidable (_/\_))
def fN (n:Int):Nat:=(precN n-1).toNat
def eN (n:Int):Nat:=(expN n).toNat
theorem bin_cases {n:Int}(h:binN n):n=1∨n=2∨n=3∨n=4∨n=5∨n=6:=by unfold binN at h;omega
theorem bin_fm {n:Int}(h:binN n):Fm (fN n) (eN n) (leastN n) (mostN n):=by
 rcases bin_cases h with rfl|rfl|rfl|rfl|rfl|rfl<;>exact ⟨by decide,by decide,by decide,by decide,by decide,by decide,by decide,by decide⟩
theorem bin_fields {n:Int}(h:binN n):okN n/\baseN n=2/\precN n=(fN n:Int)+1/\expN n=(eN n:Int)/\widthN n=((fN n+eN n+1:Nat):Int)/\payN n=(fN n:Int)-1:=by
 rcases bin_cases h with rfl|rfl|rfl|rfl|rfl|rfl<;>exact ⟨by decide,by decide,by decide,by decide,by decide,by decide⟩
theorem not_bin {n:Int}(h:¬ binN n):(okN n/\baseN n=10)∨¬ okN n:=by
 by_cases hk:okN n
 ·left
  refine ⟨hk,?_⟩
  rcases okN_cases hk with rfl|rfl|rfl|rfl|rfl|rfl|rfl|rfl|rfl|rfl|rfl|rfl<;>first|rfl|exact absurd (by decide) h
 ·exact Or.inr hk
abbrev LZ:Value:=.agg #[.int .i64 0,.int .i64 0,.int .i64 0,.int .i64 0]
theorem layoutOf_ok (n:Int)(w:World)(hT:Tab w)(h:binN n) :
  CB 49 #[.int .i64 n] w (.tuple #[LV (fN n) (eN n) (leastN n) (mostN n),.int .i64 0]):=by
 have c1:=fun w hT=>ofv_any n w hT
 obtain ⟨hk,hb,hp,he,hw,hy⟩:=bin_fields h
 have hE:infoE n=0:=if_pos hk
 have hF:=bin_fm h
 have hf1:=hF.f240
 simp only [hE,hb,hp,he] at c1
 clear hE hb hp he hw hy hk hF
 go_enter Tryz.func49,Tryz.ntmps49
 go_wp2_with (go_at_call 53;refine (c1 _ (hT.alloc _)).mono ?_;rintro x w1 ⟨rfl,hb1⟩;obtain ⟨_,hf1,_,_,hA1,_⟩:=wz w hb1;clear hb1)
 have hsm:=cell_set_map
 exact bodyPost_ret (v:=.tuple #[LV (fN n) (eN n) (leastN n) (mostN n),.int .i64 0]) (by simp only [results,Tryz.results49];go_simp) rfl ⟨rfl,bgo⟩
theorem layoutOf_bad (n:Int)(w:World)(hT:Tab w)(h:¬ binN n) :
  CB 49 #[.int .i64 n] w (.tuple #[LZ,.int .i64 1]):=by
 have c1:=fun w hT=>ofv_any n w hT
 rcases not_bin h with ⟨hk,hb⟩|hk
 ·have hE:infoE n=0:=if_pos hk
  simp only [hE,hb] at c1
  clear hE hb hk h
  go_enter Tryz.func49,Tryz.ntmps49
  go_wp2_with (go_at_call 53;refine (c1 _ (hT.alloc _)).mono ?_;rintro x w1 ⟨rfl,hb1⟩;obtain ⟨_,hf1,_,_,hA1,_⟩:=wz w hb1;clear hb1)
  have hsm:=cell_set_map
  exact bodyPost_ret (v:=.tuple #[LZ,.int .i64 1]) (by simp only [results,Tryz.results49];go_simp) rfl ⟨rfl,bgo⟩
 ·have hE:infoE n=1:=if_neg hk
  simp only [hE] at c1
  clear hE hk h
  go_enter Tryz.func49,Tryz.ntmps49
  go_wp2_with (go_at_call 53;refine (c1 _ (hT.alloc _)).mono ?_;rintro x w1 ⟨rfl,hb1⟩;obtain ⟨_,hf1,_,_,hA1,_⟩:=wz w hb1;clear hb1)
  have hsm:=cell_set_map
  exact bodyPost_ret (v:=.tuple #[LZ,.int .i64 1]) (by simp only [results,Tryz.results49];go_simp) rfl ⟨rfl,bgo⟩
def goodN (n:Int)(B:Nat):Prop:=binN n/\B<2^(fN n+eN n+1)
instance (n:Int) (B:Nat):Decidable (goodN n B):=inferInstanceAs (Decidable (_/\_))
theorem A4_get (B:Nat):∀ i,i<4->(#[Value.int .u64 (W4 B 0),.int .u64 (W4 B 1),.int .u64 (W4 B 2),.int .u64 (W4 B 3)]:Array Value)[i]?=some (.int .u64 (W4 B i)):=fun i hi=>by
 have:i=0∨i=1∨i=2∨i=3:=by omega
 rcases this with rfl|rfl|rfl|rfl<;>rfl
theorem fits4 (n:Int)(B:Nat)(hB:B<2^256)(w:World)(hT:Tab w) :
  CB 70 #[.int .i64 n,A4 B] w (.bool (decide (okN n/\B<2^(widthN n).toNat))):=by
 refine (fits_any n (W4 B) (W4_words B) _ (A4_get B) rfl w hT).mono ?_
 rintro x w' ⟨rfl,hb⟩
 refine ⟨?_,hb⟩
 have hwd:=(fields_bounds n).2.1
 have e:(fitsP n (W4 B))↔(okN n/\B<2^(widthN n).toNat):=by
  unfold fitsP
  rw [lenL_low]
  have:=len4_le (k:=(widthN n).toNat) hB
  rw [show (((widthN n).toNat:Nat):Int)=widthN n by omega] at this
  rw [this]
 rw [decide_eq_decide.2 e]
theorem layoutFor_ok (n:Int)(B:Nat)(w:World)(hT:Tab w)(hB:B<2^256)(h:goodN n B) :
  CB 33 #[.int .i64 n,A4 B] w (.tuple #[LV (fN n) (eN n) (leastN n) (mostN n),.int .i64 0]):=by
 have hF:=bin_fields h.1
 have c42:=fun w hT=>fits4 n B hB w hT
 rw [decide_eq_true (show okN n/\B<2^(widthN n).toNat from ⟨hF.1,by rw [hF.2.2.2.2.1,Int.toNat_natCast];exact h.2⟩)] at c42
 have c31:=fun w hT=>layoutOf_ok n w hT h.1
 clear hF h hB
 go_enter Tryz.func33,Tryz.ntmps33
 go_wp2_with (first
  | (go_at_call 70;refine (c42 _ ((hT.alloc _).alloc _)).mono ?_;rintro x w1 ⟨rfl,hb1⟩;obtain ⟨_,hf1,_,_,hA1,_⟩:=wz w hb1;obtain ⟨_,_⟩:=zf hb1 (w.heap.size+1);clear hb1)
  | (go_at_call 49;refine (c31 _ (hT.go hA1)).mono ?_;rintro x w2 ⟨rfl,hb2⟩;obtain ⟨_,_,_,_,hA2,_⟩:=wz w hb2;obtain ⟨_,_⟩:=zf hb2 (w.heap.size+1);clear hb2))
 have hsm:=cell_set_map
 exact bodyPost_ret (v:=.tuple #[LV (fN n) (eN n) (leastN n) (mostN n),.int .i64 0]) (by simp only [results,Tryz.results33];go_simp) rfl ⟨rfl,bgo⟩
theorem layoutFor_bad (n:Int)(B:Nat)(w:World)(hT:Tab w)(hB:B<2^256)(h:¬ goodN n B) :
  CB 33 #[.int .i64 n,A4 B] w (.tuple #[LZ,.int .i64 1]):=by
 have c42:=fun w hT=>fits4 n B hB w hT
 by_cases hf:okN n/\B<2^(widthN n).toNat
 ·rw [decide_eq_true hf] at c42
  have hnb:¬ binN n:=fun hb=>h ⟨hb,by have:=bin_fields hb;rw [this.2.2.2.2.1,Int.toNat_natCast] at hf;exact hf.2⟩
  have c31:=fun w hT=>layoutOf_bad n w hT hnb
  clear h hB hf hnb
  go_enter Tryz.func33,Tryz.ntmps33
  go_wp2_with (first
   | (go_at_call 70;refine (c42 _ ((hT.alloc _).alloc _)).mono ?_;rintro x w1 ⟨rfl,hb1⟩;obtain ⟨_,hf1,_,_,hA1,_⟩:=wz w hb1;obtain ⟨_,_⟩:=zf hb1 (w.heap.size+1);clear hb1)
   | (go_at_call 49;refine (c31 _ (hT.go hA1)).mono ?_;rintro x w2 ⟨rfl,hb2⟩;obtain ⟨_,_,_,_,hA2,_⟩:=wz w hb2;obtain ⟨_,_⟩:=zf hb2 (w.heap.size+1);clear hb2))
  have hsm:=cell_set_map
  exact bodyPost_ret (v:=.tuple #[LZ,.int .i64 1]) (by simp only [results,Tryz.results33];go_simp) rfl ⟨rfl,bgo⟩
 ·rw [decide_eq_false hf] at c42
  clear h hB hf
  go_enter Tryz.func33,Tryz.ntmps33
  go_wp2_with (go_at_call 70;refine (c42 _ ((hT.alloc _).alloc _)).mono ?_;rintro x w1 ⟨rfl,hb1⟩;obtain ⟨_,hf1,_,_,hA1,_⟩:=wz w hb1;obtain ⟨_,_⟩:=zf hb1 (w.heap.size+1);clear hb1)
  have hsm:=cell_set_map
  exact bodyPost_ret (v:=.tuple #[LZ,.int .i64 1]) (by simp only [results,Tryz.results33];go_simp) rfl ⟨rfl,bgo⟩
section
def unp (f e:Nat)(l:Int)(B:Nat):Dat :=
 if B/2^f%2^e=2^e-1 then spc f (sgB f e B) (B%2^f)
 else if B/2^f%2^e=0 then ⟨1,sgB f e B,false,l,B%2^f⟩
 else ⟨1,sgB f e B,false,l+((B/2^f%2^e:Nat)-1:Int),B%2^f+2^f⟩
theorem unpack_bad (n:Int)(B:Nat)(w:World)(hT:Tab w)(hB:B<2^256)(h:¬ goodN n B) :
  CB 13 #[.int .i64 n,A4 B] w (.tuple #[DV 0 false false 0 0,.int .i64 1]):=by
 have c18:=fun w hT=>layoutFor_bad n B w hT hB h
 unfold DV
 simp only [W4_zero]
 clear h hB
 go_enter Tryz.func13,Tryz.ntmps13
 go_wp2_with (go_at_call 33;refine (c18 _ ((hT.alloc _).alloc _)).mono ?_;rintro x w1 ⟨rfl,hb1⟩;obtain ⟨_,_,_,_,hA1,_⟩:=wz w hb1;obtain ⟨_,_⟩:=zf hb1 (w.heap.size+1);clear hb1)
 have hsm:=cell_set_map
 exact bodyPost_ret (v:=.tuple #[.agg #[.int .i64 0,.bool false,.bool false,.int .i64 0,.int .u64 0,.int .u64 0,.int .u64 0,.int .u64 0],.int .i64 1]) (by simp only [results,Tryz.results13];go_simp) rfl ⟨rfl,bgo⟩
section
variable (n:Int)(B:Nat)(f e:Nat)(l m:Int)(w:World)(hT:Tab w)(S:Bool)(E sp:Int)(Fr:Nat)
 (c18:∀ w,Tab w->CB 33 #[.int .i64 n,A4 B] w (.tuple #[LV f e l m,.int .i64 0]))
 (c19:∀ w,CB 34 #[LV f e l m,A4 B] w (.tuple #[.bool S,.int .u64 E,A4 Fr]))
 (c20:∀ w,CB 35 #[LV f e l m] w (.int .u64 sp))
include hT c18 c19 c20
theorem unpack_sp (D:Dat)(c21:∀ w,CB 36 #[LV f e l m,.bool S,A4 Fr] w D.v)(hE:(E==sp)=true) :
  CB 13 #[.int .i64 n,A4 B] w (.tuple #[D.v,.int .i64 0]):=by
 obtain ⟨dc,ds,dg,dx,dk⟩:=D
 unfold Dat.v at *
 dsimp only at *
 go_enter Tryz.func13,Tryz.ntmps13
 go_wp2_with (first
  | (go_at_call 33;refine (c18 _ ((hT.alloc _).alloc _)).mono ?_;rintro x w1 ⟨rfl,hb1⟩;obtain ⟨_,_,_,_,hA1,_⟩:=wz w hb1;obtain ⟨_,_⟩:=zf hb1 (w.heap.size+1);clear hb1)
  | (go_at_call 34;refine (c19 _).mono ?_;rintro x w2 ⟨rfl,hb2⟩;obtain ⟨_,_,_,_,hA2,_⟩:=wz w hb2;obtain ⟨_,_⟩:=zf hb2 (w.heap.size+1);obtain ⟨_,_⟩:=zf hb2 w1.heap.size;clear hb2)
  | (go_at_call 35;refine (c20 _).mono ?_;rintro x w3 ⟨rfl,hb3⟩;obtain ⟨_,_,_,_,hA3,_⟩:=wz w hb3;obtain ⟨_,_⟩:=zf hb3 (w.heap.size+1);obtain ⟨_,_⟩:=zf hb3 w1.heap.size;obtain ⟨_,_⟩:=zf hb3 w2.heap.size;clear hb3)
  | (go_at_call 36;refine (c21 _).mono ?_;rintro x w4 ⟨rfl,hb4⟩;obtain ⟨_,_,_,_,hA4,_⟩:=wz w hb4;obtain ⟨_,_⟩:=zf hb4 (w.heap.size+1);obtain ⟨_,_⟩:=zf hb4 w1.heap.size;obtain ⟨_,_⟩:=zf hb4 w2.heap.size;clear hb4))
 have hsm:=cell_set_map
 exact bodyPost_ret (v:=.tuple #[DV dc ds dg dx dk,.int .i64 0]) (by simp only [results,Tryz.results13];go_simp) rfl ⟨rfl,bgo⟩
theorem unpack_sub (hE:(E==sp)=false)(hE0:E=0) :
  CB 13 #[.int .i64 n,A4 B] w (.tuple #[DV 1 S false l Fr,.int .i64 0]):=by
 subst hE0
 go_enter Tryz.func13,Tryz.ntmps13
 go_wp2_with (first
  | (go_at_call 33;refine (c18 _ ((hT.alloc _).alloc _)).mono ?_;rintro x w1 ⟨rfl,hb1⟩;obtain ⟨_,_,_,_,hA1,_⟩:=wz w hb1;obtain ⟨_,_⟩:=zf hb1 (w.heap.size+1);clear hb1)
  | (go_at_call 34;refine (c19 _).mono ?_;rintro x w2 ⟨rfl,hb2⟩;obtain ⟨_,_,_,_,hA2,_⟩:=wz w hb2;obtain ⟨_,_⟩:=zf hb2 (w.heap.size+1);obtain ⟨_,_⟩:=zf hb2 w1.heap.size;clear hb2)
  | (go_at_call 35;refine (c20 _).mono ?_;rintro x w3 ⟨rfl,hb3⟩;obtain ⟨_,_,_,_,hA3,_⟩:=wz w hb3;obtain ⟨_,_⟩:=zf hb3 (w.heap.size+1);obtain ⟨_,_⟩:=zf hb3 w1.heap.size;obtain ⟨_,_⟩:=zf hb3 w2.heap.size;clear hb3))
 have hsm:=cell_set_map
 exact bodyPost_ret (v:=.tuple #[DV 1 S false l Fr,.int .i64 0]) (by simp only [results,Tryz.results13];go_simp) rfl ⟨rfl,bgo⟩
theorem unpack_norm (Pw Co:Nat)(cr:Int)(hl:-1000000<=l/\l<=0)(hE:(E==sp)=false)(hE0:0<E)(hE1:E<=32768)
  (c23:∀ w,CB 38 #[.int .i64 f] w (A4 Pw))
  (c22:∀ w,CB 37 #[A4 Fr,A4 Pw] w (.tuple #[A4 Co,.int .u64 cr])) :
  CB 13 #[.int .i64 n,A4 B] w (.tuple #[DV 1 S false (l+(E-1)) Co,.int .i64 0]):=by
 go_enter Tryz.func13,Tryz.ntmps13
 go_wp2_with (first
  | (go_at_call 33;refine (c18 _ ((hT.alloc _).alloc _)).mono ?_;rintro x w1 ⟨rfl,hb1⟩;obtain ⟨_,_,_,_,hA1,_⟩:=wz w hb1;obtain ⟨_,_⟩:=zf hb1 (w.heap.size+1);clear hb1)
  | (go_at_call 34;refine (c19 _).mono ?_;rintro x w2 ⟨rfl,hb2⟩;obtain ⟨_,_,_,_,hA2,_⟩:=wz w hb2;obtain ⟨_,_⟩:=zf hb2 (w.heap.size+1);obtain ⟨_,_⟩:=zf hb2 w1.heap.size;clear hb2)
  | (go_at_call 35;refine (c20 _).mono ?_;rintro x w3 ⟨rfl,hb3⟩;obtain ⟨_,_,_,_,hA3,_⟩:=wz w hb3;obtain ⟨_,_⟩:=zf hb3 (w.heap.size+1);obtain ⟨_,_⟩:=zf hb3 w1.heap.size;obtain ⟨_,_⟩:=zf hb3 w2.heap.size;clear hb3))
 have hn1:w1.heap.size≠w.heap.size:=by omega
 have hn2:w1.heap.size≠w.heap.size+1:=by omega
 have hn3:w2.heap.size≠w1.heap.size:=by omega
 refine wp_made 5 8 12 #[.int .u64 0,.int .u64 0,.int .u64 0,.int .u64 0] (by kernel_rfl) (by kernel_rfl) (by kernel_rfl) rfl (fun oa hoa a w=>?_) (by kernel_rfl) (by kernel_rfl) rfl rfl (fun _ _ d _ _ h=>by cases d<;>exact h) ?_
 ·cases hoa;exact ⟨23,by simp [go_sem]⟩
 apply Exists.intro
 refine ⟨fun al hne hcell=>?_,fun w4 hb4=>?_,fun g w4 hb4 hg0 hg1 hg2 hg3=>?_⟩
 ·simp only [List.take_succ_cons,List.take_zero]
  repeat go_big_quiet_step (fail)
  go_big_quiet_step ((go_at_call 38;exact calls_wd _ al_next (c23 _)))
  repeat go_big_quiet_step (fail)
  go_big_quiet_step ((go_at_call 37;exact calls_wd _ al_next (c22 _)))
  exact wpQuiet_nil rfl
 ·simp only [List.drop_succ_cons,List.drop_zero]
  obtain ⟨_,_,_,_,hA4,_⟩:=wz w hb4;obtain ⟨_,_⟩:=zf hb4 (w.heap.size+1);obtain ⟨_,_⟩:=zf hb4 w1.heap.size;obtain ⟨_,_⟩:=zf hb4 w2.heap.size;obtain ⟨_,_⟩:=zf hb4 w3.heap.size;clear hb4
  have hsm:=cell_set_map
  go_wp2
  exact bodyPost_ret (v:=.tuple #[DV 1 S false (l+(E-1)) Co,.int .i64 0]) (by simp only [results,Tryz.results13];go_simp) rfl ⟨rfl,bgo⟩
 ·simp only [List.drop_succ_cons,List.drop_zero,Nat.reduceSub,List.eraseIdx_cons_succ,List.eraseIdx_cons_zero]
  simp only [World.size_alloc] at hg0
  have hgw:=hA3.size
  have hz0:g≠w.heap.size:=by omega
  have hz1:g≠w.heap.size+1:=by omega
  have hz2:g≠w1.heap.size:=by omega
  have hz3:g≠w2.heap.size:=by omega
  have hz4:g≠w3.heap.size:=by omega
  obtain ⟨_,_,_,_,hA4,_⟩:=wz w hb4;obtain ⟨_,_⟩:=zf hb4 (w.heap.size+1);obtain ⟨_,_⟩:=zf hb4 w1.heap.size;obtain ⟨_,_⟩:=zf hb4 w2.heap.size;obtain ⟨_,_⟩:=zf hb4 w3.heap.size;clear hb4
  have hsm:=cell_set_map
  go_wp2
  exact bodyPost_ret (v:=.tuple #[DV 1 S false (l+(E-1)) Co,.int .i64 0]) (by simp only [results,Tryz.results13];go_simp) rfl ⟨rfl,bgo⟩
end
theorem unpack_ok (n:Int)(B:Nat)(w:World)(hT:Tab w)(hB:B<2^256)(h:goodN n B) :
  CB 13 #[.int .i64 n,A4 B] w (.tuple #[(unp (fN n) (eN n) (leastN n) B).v,.int .i64 0]):=by
 have hF:=bin_fm h.1
 have c18:=fun w hT=>layoutFor_ok n B w hT hB h
 have c19:=fun w=>split_any (fN n) (eN n) (leastN n) (mostN n) B w hF hB
 have c20:=fun w=>special_any (fN n) (eN n) (leastN n) (mostN n) w hF
 have hf240:=hF.f240
 have hp:=pow_e hF.e2 hF.e15
 have hpc:((2:Int)^eN n)=((2^eN n:Nat):Int):=by simp
 have hmod:B/2^fN n%2^eN n<2^eN n:=Nat.mod_lt _ (Nat.two_pow_pos _)
 have hfr:B%2^fN n<2^fN n:=Nat.mod_lt _ (Nat.two_pow_pos _)
 have hf256:2^fN n<2^256:=Nat.pow_lt_pow_right (by decide) (by omega)
 unfold unp
 by_cases h1:B/2^fN n%2^eN n=2^eN n-1
 ·rw [if_pos h1]
  exact unpack_sp n B _ _ _ _ w hT _ _ _ _ c18 c19 c20 _ (fun w=>special_spc (fN n) (eN n) (leastN n) (mostN n) (sgB (fN n) (eN n) B) (B%2^fN n) w hF (by omega)) (by rw [h1];simp)
 ·rw [if_neg h1]
  have hE:(((B/2^fN n%2^eN n:Nat):Int)==((2^eN n-1:Nat):Int))=false:=by
   rw [beq_eq_false_iff_ne];omega
  by_cases h2:B/2^fN n%2^eN n=0
  ·rw [if_pos h2]
   exact unpack_sub n B _ _ _ _ w hT _ _ _ _ c18 c19 c20 hE (by omega)
  ·rw [if_neg h2]
   have h256:(2:Nat)^256=115792089237316195423570985008687907853269984665640564039457584007913129639936:=by decide
   exact unpack_norm n B _ _ _ _ w hT _ _ _ _ c18 c19 c20 (2^fN n) (B%2^fN n+2^fN n) _ ⟨hF.l1,hF.l0⟩ hE (by omega) (by rw [hpc] at hp;omega) (fun w=>power_any (fN n) w (by omega)) (fun w=>add4 (B%2^fN n) (2^fN n) w (by omega) hf256)
end
def NV (K V:Nat)(v:Value)(w:World):Prop:=∃ g k cap z,v=.slice (some ⟨g,0,none⟩) k cap/\k<=K/\Num w (some ⟨g,0,none⟩) k cap z/\val z k=(V:Int)
theorem NV.next {K V:Nat}{v:Value}{w w':World}(h:NV K V v w)(hb:Below w.heap.size w w'):NV K V v w':=by
 obtain ⟨g,k,cap,z,h1,h2,h3,h4⟩:=h
 exact ⟨g,k,cap,z,h1,h2,h3.next hb,h4⟩
theorem NV.more {K K' V:Nat}{v:Value}{w:World}(h:NV K V v w)(hk:K<=K'):NV K' V v w:=by
 obtain ⟨g,k,cap,z,h1,h2,h3,h4⟩:=h
 exact ⟨g,k,cap,z,h1,by omega,h3,h4⟩
def NT (K V:Nat)(v:Value)(w:World):Prop:=∃ g k cap z,v=.slice (some ⟨g,0,none⟩) k cap/\k<=K/\Num w (some ⟨g,0,none⟩) k cap z/\val z k=(V:Int)/\sizeL z k=k
theorem NT.next {K V:Nat}{v:Value}{w w':World}(h:NT K V v w)(hb:Below w.heap.size w w'):NT K V v w':=by
 obtain ⟨g,k,cap,z,h1,h2,h3,h4,h5⟩:=h
 exact ⟨g,k,cap,z,h1,h2,h3.next hb,h4,h5⟩
theorem NT.zero {K V:Nat}{v:Value}{w:World}(h:NT K V v w):∃ g k cap,v=.slice (some ⟨g,0,none⟩) k cap/\k<=K/\(k=0↔V=0):=by
 obtain ⟨g,k,cap,z,h1,h2,h3,h4,h5⟩:=h
 refine ⟨g,k,cap,h1,h2,?_⟩
 constructor
 ·intro hk;subst hk
  have:val z 0=0:=rfl
  omega
 ·intro hV
  rcases Nat.eq_zero_or_pos k with hk|hk
  ·exact hk
  ·exfalso
   have ht:=sizeL_top (x:=z) k (by omega)
   rw [h5] at ht
   obtain ⟨j,rfl⟩:∃ j,k=j+1:=⟨k-1,by omega⟩
   have hs:val z (j+1)=val z j+z j*18446744073709551616^j:=rfl
   have hb:=val_bd h3.2.2.1 j
   have hp:=pw_pos j
   have hj:=h3.2.2.1 j
   have hz:z j≠0:=ht
   have:1*18446744073709551616^j<=z j*18446744073709551616^j:=Int.mul_le_mul_of_nonneg_right (by omega) (Int.le_of_lt hp)
   omega
structure DF where
 t:Nat
 w:Nat
 j:Nat
 l:Int
 dn:Bool
def DF.ok (f:DF):Prop:=(f.t=20/\f.w=6/\f.j=2/\f.l=-101)∨(f.t=50/\f.w=8/\f.j=5/\f.l=-398)∨(f.t=110/\f.w=12/\f.j=11/\f.l=-6176)
def vR (f:DF)(B:Nat):Nat:=B%2^f.t
def vG (f:DF)(B:Nat):Nat:=B/2^f.t%2^(f.w+5)
def vS (f:DF)(B:Nat):Bool:=decide (B/2^(f.t+(f.w+5))%2=1)
def vV (w G:Nat):Nat:=G/2^w
def vF (dn:Bool)(w G:Nat):Nat :=
 if dn then (if vV w G<24 then vV w G/8*2^w+G%2^w else vV w G/2%4*2^w+G%2^w)
 else (if vV w G<24 then G/8 else G/2%2^(w+2))
def vL (dn:Bool)(w G:Nat):Nat :=
 if dn then (if vV w G<24 then vV w G%8 else 8+vV w G%2) else (if vV w G<24 then G%8 else 8+G%2)
def vT (f:DF)(R:Nat):Nat:=if f.dn then dlU f.j R else R
def vQ (f:DF):Nat:=if f.dn then 10^(3*f.j) else 2^f.t
def vD (f:DF)(s:Bool)(G R:Nat):Dat :=
 if vV f.w G=30 then ⟨2,s,false,0,0⟩
 else if vV f.w G=31 then ⟨3,s,decide (G/2^(f.w-1)%2=1),0,if vT f R<10^(3*f.j) then vT f R else 0⟩
 else ⟨1,s,false,(vF f.dn f.w G:Int)+f.l,if vL f.dn f.w G*vQ f+vT f R<10^(3*f.j+1) then vL f.dn f.w G*vQ f+vT f R else 0⟩
def vM (f:DF)(B:Nat):Dat:=vD f (vS f B) (vG f B) (vR f B)
def vI (f:DF)(d:Dat):Prop :=
 (d.c=1/\d.g=false/\d.k<10^(3*f.j+1)/\f.l<=d.x/\d.x<=f.l+3*2^f.w-1)∨(d.c=2/\d.g=false/\d.k=0/\d.x=0)∨(d.c=3/\d.x=0/\d.k<10^(3*f.j))
def vN (dn:Bool)(w E a:Nat):Nat :=
 if dn then (if 8<=a then 24+E/2^w*2+a%2 else E/2^w*8+a)*2^w+E%2^w
 else (if 8<=a then 3*2^(w+3)+E*2+a%2 else E*8+a)
def vPG (f:DF)(d:Dat):Nat :=
 if d.c=2 then 30*2^f.w else if d.c=3 then 31*2^f.w+(if d.g then 2^(f.w-1) else 0)
 else vN f.dn f.w (d.x-f.l).toNat (d.k/vQ f)
def vPR (f:DF)(d:Dat):Nat :=
 if d.c=2 then 0 else if d.c=3 then (if f.dn then dlP f.j d.k else d.k)
 else if f.dn then dlP f.j (d.k%10^(3*f.j)) else d.k%2^f.t
def vP (f:DF)(d:Dat):Nat:=(if d.s then 2^(f.t+(f.w+5)) else 0)+vPG f d*2^f.t+vPR f d
theorem ten3 (j:Nat):(10:Nat)^(3*j)=1000^j:=by rw [Nat.pow_mul]
theorem DF.ok.t10 {f:DF}(h:f.ok):f.t=10*f.j:=by
 rcases h with ⟨h1,h2,h3,h4⟩|⟨h1,h2,h3,h4⟩|⟨h1,h2,h3,h4⟩<;>omega
theorem DF.ok.pt {f:DF}(h:f.ok):2^f.t=1024^f.j:=by rw [h.t10,Nat.pow_mul]
theorem v_parts (f:DF)(s:Bool){G R:Nat}(hG:G<2^(f.w+5))(hR:R<2^f.t) :
  vR f ((if s then 2^(f.t+(f.w+5)) else 0)+G*2^f.t+R)=R/\vG f ((if s then 2^(f.t+(f.w+5)) else 0)+G*2^f.t+R)=G/\vS f ((if s then 2^(f.t+(f.w+5)) else 0)+G*2^f.t+R)=s:=by
 have e:(if s then 2^(f.t+(f.w+5)) else 0)+G*2^f.t+R=((if s then 1 else 0)*2^(f.w+5)+G)*2^f.t+R:=by
  cases s
  ·simp
  ·simp only [if_true,Nat.one_mul,Nat.add_mul]
   rw [← Nat.pow_add,Nat.add_comm (f.w+5) f.t]
 rw [e]
 have hT:0<2^f.t:=Nat.two_pow_pos _
 have hH:0<2^(f.w+5):=Nat.two_pow_pos _
 have h1:(((if s then 1 else 0)*2^(f.w+5)+G)*2^f.t+R)%2^f.t=R:=by rw [Nat.mul_comm,Nat.mul_add_mod,Nat.mod_eq_of_lt hR]
 have h2:(((if s then 1 else 0)*2^(f.w+5)+G)*2^f.t+R)/2^f.t=(if s then 1 else 0)*2^(f.w+5)+G:=by rw [Nat.mul_comm,Nat.mul_add_div hT,Nat.div_eq_of_lt hR,Nat.add_zero]
 have h3:((if s then 1 else 0)*2^(f.w+5)+G)%2^(f.w+5)=G:=by rw [Nat.mul_comm,Nat.mul_add_mod,Nat.mod_eq_of_lt hG]
 have h4:((if s then 1 else 0)*2^(f.w+5)+G)/2^(f.w+5)=(if s then 1 else 0):=by rw [Nat.mul_comm,Nat.mul_add_div hH,Nat.div_eq_of_lt hG,Nat.add_zero]
 refine ⟨h1,?_,?_⟩
 ·unfold vG;rw [h2,h3]
 ·unfold vS;rw [Nat.pow_add 2 f.t (f.w+5),← Nat.div_div_eq_div_mul,h2,h4];cases s<;>rfl
theorem vG_lt (f:DF)(B:Nat):vG f B<2^(f.w+5):=Nat.mod_lt _ (Nat.two_pow_pos _)
theorem vR_lt (f:DF)(B:Nat):vR f B<2^f.t:=Nat.mod_lt _ (Nat.two_pow_pos _)
theorem vT_lt {f:DF}(h:f.ok)(hd:f.dn=true)(R:Nat):vT f R<10^(3*f.j):=by
 unfold vT
 rw [hd,if_pos rfl,ten3]
 exact dlU_lt _ _
theorem vD_is {f:DF}(h:f.ok)(s:Bool){G R:Nat}(hG:G<2^(f.w+5))(hR:R<2^f.t):vI f (vD f s G R):=by
 have hp:0<(10:Nat)^(3*f.j):=Nat.pow_pos (by decide)
 have hp':0<(10:Nat)^(3*f.j+1):=Nat.pow_pos (by decide)
 unfold vD
 by_cases h30:vV f.w G=30
 ·rw [if_pos h30];exact Or.inr (Or.inl ⟨rfl,rfl,rfl,rfl⟩)
 ·rw [if_neg h30]
  by_cases h31:vV f.w G=31
  ·rw [if_pos h31]
   refine Or.inr (Or.inr ⟨rfl,rfl,?_⟩)
   show (if vT f R<10^(3*f.j) then vT f R else 0)<10^(3*f.j)
   split<;>omega
  ·rw [if_neg h31]
   refine Or.inl ⟨rfl,rfl,?_,?_,?_⟩
   ·show (if vL f.dn f.w G*vQ f+vT f R<10^(3*f.j+1) then vL f.dn f.w G*vQ f+vT f R else 0)<10^(3*f.j+1)
    split<;>omega
   ·show f.l<=(vF f.dn f.w G:Int)+f.l
    omega
   ·show (vF f.dn f.w G:Int)+f.l<=f.l+3*2^f.w-1
    have:vF f.dn f.w G<3*2^f.w:=by
     unfold vF
     unfold vV at *
     rcases h with ⟨h1,h2,h3,h4⟩|⟨h1,h2,h3,h4⟩|⟨h1,h2,h3,h4⟩<;>rw [h2] at hG h30 h31 ⊢<;>cases f.dn<;>simp only [Bool.false_eq_true,if_false,if_true]<;>simp only [Nat.reducePow,Nat.reduceAdd] at*<;> split<;>omega
    have e:((3*2^f.w:Nat):Int)=3*2^f.w:=by simp
    omega
theorem vM_is {f:DF}(h:f.ok)(B:Nat):vI f (vM f B):=vD_is h _ (vG_lt f B) (vR_lt f B)
theorem vPG_lt {f:DF}(h:f.ok){d:Dat}(hd:vI f d):vPG f d<2^(f.w+5):=by
 have hq:d.c=1->d.k/vQ f<=9:=fun h1=>by
  rcases hd with ⟨_,_,hk,_,_⟩|⟨h2,_⟩|⟨h2,_⟩
  ·unfold vQ
   rcases h with ⟨h1,h2,h3,h4⟩|⟨h1,h2,h3,h4⟩|⟨h1,h2,h3,h4⟩<;>rw [h3] at hk ⊢<;>rw [h1]<;>cases f.dn<;>simp only [Bool.false_eq_true,if_false,if_true]<;>simp only [Nat.reducePow,Nat.reduceAdd,Nat.reduceMul] at*<;> omega
  ·omega
  ·omega
 unfold vPG
 rcases hd with ⟨c1,g1,hk,hx,hx'⟩|⟨c1,g1,hk,hx⟩|⟨c1,hx,hk⟩
 ·have h9:=hq c1
  rw [if_neg (by omega),if_neg (by omega)]
  generalize d.k/vQ f=a at *
  have hE:(d.x-f.l).toNat<3*2^f.w:=by
   have e:((3*2^f.w:Nat):Int)=3*2^f.w:=by simp
   omega
  generalize (d.x-f.l).toNat=E at *
  unfold vN
  rcases h with ⟨h1,h2,h3,h4⟩|⟨h1,h2,h3,h4⟩|⟨h1,h2,h3,h4⟩<;>rw [h2] at hE ⊢<;>cases f.dn<;>simp only [Bool.false_eq_true,if_false,if_true]<;>simp only [Nat.reducePow,Nat.reduceAdd,Nat.reduceMul] at*<;> split<;>omega
 ·rw [if_pos c1]
  rcases h with ⟨h1,h2,h3,h4⟩|⟨h1,h2,h3,h4⟩|⟨h1,h2,h3,h4⟩<;>rw [h2]<;>decide
 ·rw [if_neg (by omega),if_pos c1]
  rcases h with ⟨h1,h2,h3,h4⟩|⟨h1,h2,h3,h4⟩|⟨h1,h2,h3,h4⟩<;>rw [h2]<;>cases d.g<;>decide
theorem vPR_lt {f:DF}(h:f.ok){d:Dat}(hd:vI f d):vPR f d<2^f.t:=by
 unfold vPR
 rcases hd with ⟨c1,g1,hk,hx,hx'⟩|⟨c1,g1,hk,hx⟩|⟨c1,hx,hk⟩
 ·rw [if_neg (by omega),if_neg (by omega)]
  split
  ·rw [h.pt];exact dlP_lt _ _
  ·exact Nat.mod_lt _ (Nat.two_pow_pos _)
 ·rw [if_pos c1];exact Nat.two_pow_pos _
 ·rw [if_neg (by omega),if_pos c1]
  split
  ·rw [h.pt];exact dlP_lt _ _
  ·refine Nat.lt_of_lt_of_le hk ?_
   rcases h with ⟨h1,h2,h3,h4⟩|⟨h1,h2,h3,h4⟩|⟨h1,h2,h3,h4⟩<;>rw [h1,h3]<;>decide
theorem vP_lt {f:DF}(h:f.ok){d:Dat}(hd:vI f d):vP f d<2^(f.t+(f.w+6)):=by
 have h1:=vPG_lt h hd
 have h2:=vPR_lt h hd
 unfold vP
 have e5:2^(f.t+(f.w+5))=2^(f.w+5)*2^f.t:=by rw [← Nat.pow_add,Nat.add_comm]
 have e6:2^(f.t+(f.w+6))=2*(2^(f.w+5)*2^f.t):=by rw [← Nat.pow_add,← Nat.pow_succ'];congr 1;omega
 have h3:(if d.s then 2^(f.t+(f.w+5)) else 0)<=2^(f.w+5)*2^f.t:=by split<;>omega
 have h4:(vPG f d+1)*2^f.t<=2^(f.w+5)*2^f.t:=Nat.mul_le_mul_right _ h1
 rw [Nat.add_mul,Nat.one_mul] at h4
 rw [e6]
 omega
theorem vP_256 {f:DF}(h:f.ok){d:Dat}(hd:vI f d):vP f d<2^256:=by
 refine Nat.lt_of_lt_of_le (vP_lt h hd) (Nat.pow_le_pow_right (by decide) ?_)
 rcases h with ⟨h1,h2,h3,h4⟩|⟨h1,h2,h3,h4⟩|⟨h1,h2,h3,h4⟩<;>omega
theorem vM_256 {f:DF}(h:f.ok)(B:Nat):(vM f B).k<2^256:=by
 have hi:=vM_is h B
 have e:(10:Nat)^(3*f.j+1)<=10^34:=Nat.pow_le_pow_right (by decide) (by rcases h with ⟨h1,h2,h3,h4⟩|⟨h1,h2,h3,h4⟩|⟨h1,h2,h3,h4⟩<;>omega)
 have e':(10:Nat)^(3*f.j)<=10^34:=Nat.pow_le_pow_right (by decide) (by rcases h with ⟨h1,h2,h3,h4⟩|⟨h1,h2,h3,h4⟩|⟨h1,h2,h3,h4⟩<;>omega)
 have e2:(10:Nat)^34<2^256:=by decide
 rcases hi with ⟨_,_,hk,_⟩|⟨_,_,hk,_⟩|⟨_,_,hk⟩<;>omega
theorem vN_back {f:DF}(h:f.ok){E a:Nat}(hE:E<3*2^f.w)(ha:a<=9):vF f.dn f.w (vN f.dn f.w E a)=E/\vL f.dn f.w (vN f.dn f.w E a)=a/\vV f.w (vN f.dn f.w E a)≠30/\vV f.w (vN f.dn f.w E a)≠31:=by
 unfold vF vL vN vV
 rcases h with ⟨h1,h2,h3,h4⟩|⟨h1,h2,h3,h4⟩|⟨h1,h2,h3,h4⟩<;>rw [h2] at hE ⊢<;>cases f.dn<;>simp only [Bool.false_eq_true,if_false,if_true]<;>simp only [Nat.reducePow,Nat.reduceAdd,Nat.reduceMul] at*<;> by_cases h8:8<=a
 all_goals simp only [h8,if_true,if_false]
 all_goals refine ⟨?_,?_,?_,?_⟩
 all_goals (try split)<;>omega
theorem vM_vP {f:DF}(h:f.ok){d:Dat}(hd:vI f d):vM f (vP f d)=d:=by
 obtain ⟨e1,e2,e3⟩:=v_parts f d.s (vPG_lt h hd) (vPR_lt h hd)
 unfold vM
 unfold vP
 rw [e1,e2,e3]
 obtain ⟨c,s,g,x,k⟩:=d
 unfold vD vPG vPR
 rcases hd with ⟨c1,g1,hk,hx,hx'⟩|⟨c1,g1,hk,hx⟩|⟨c1,hx,hk⟩
 ·simp only at c1 g1 hk hx hx'
  subst c1 g1
  simp only [show ¬ (1:Int)=2 by decide,show ¬ (1:Int)=3 by decide,if_false]
  have hE:(x-f.l).toNat<3*2^f.w:=by
   have e:((3*2^f.w:Nat):Int)=3*2^f.w:=by simp
   omega
  have ha:k/vQ f<=9:=by
   unfold vQ
   rcases h with ⟨h1,h2,h3,h4⟩|⟨h1,h2,h3,h4⟩|⟨h1,h2,h3,h4⟩<;>rw [h3] at hk ⊢<;>rw [h1]<;>cases f.dn<;>simp only [Bool.false_eq_true,if_false,if_true]<;>simp only [Nat.reducePow,Nat.reduceAdd,Nat.reduceMul] at*<;> omega
  obtain ⟨b1,b2,b3,b4⟩:=vN_back h hE ha
  rw [if_neg b3,if_neg b4,b1,b2]
  have ht:k/vQ f*vQ f+vT f (if f.dn then dlP f.j (k%10^(3*f.j)) else k%2^f.t)=k:=by
   unfold vT vQ
   cases f.dn
   ·simp only [Bool.false_eq_true,if_false]
    rw [Nat.mul_comm];exact Nat.div_add_mod k _
   ·simp only [if_true]
    rw [dl_there _ _ (by rw [← ten3];exact Nat.mod_lt _ (Nat.pow_pos (by decide))),Nat.mul_comm]
    exact Nat.div_add_mod k _
  rw [ht,if_pos hk]
  congr 1
  omega
 ·simp only at c1 g1 hk hx
  subst c1 g1 hk hx
  simp only [if_true]
  have:vV f.w (30*2^f.w)=30:=by unfold vV;exact Nat.mul_div_cancel _ (Nat.two_pow_pos _)
  rw [if_pos this]
 ·simp only at c1 hx hk
  subst c1 hx
  simp only [show ¬ (3:Int)=2 by decide,if_false,if_true]
  have hw:2^f.w=2*2^(f.w-1):=by rw [← Nat.pow_succ'];congr 1;rcases h with ⟨h1,h2,h3,h4⟩|⟨h1,h2,h3,h4⟩|⟨h1,h2,h3,h4⟩<;>omega
  have hp:=Nat.two_pow_pos (f.w-1)
  have h31:vV f.w (31*2^f.w+if g then 2^(f.w-1) else 0)=31:=by
   unfold vV
   rw [Nat.mul_comm,Nat.mul_add_div (Nat.two_pow_pos _),Nat.div_eq_of_lt (by split<;>omega)]
  have hg:decide ((31*2^f.w+if g then 2^(f.w-1) else 0)/2^(f.w-1)%2=1)=g:=by
   rw [hw,show 31*(2*2^(f.w-1))=2^(f.w-1)*62 by omega,Nat.mul_add_div hp]
   cases g
   ·simp
   ·simp only [if_true];rw [Nat.div_self hp];decide
  rw [if_neg (by rw [h31];decide),if_pos h31,hg]
  have ht:vT f (if f.dn then dlP f.j k else k)=k:=by
   unfold vT
   cases f.dn
   ·simp
   ·simp only [if_true]
    exact dl_there _ _ (by rw [← ten3];exact hk)
  rw [ht,if_pos hk]
section
section
attribute [local go_sem] setCell_drewN alloc_drewN
theorem below_two (w:World)(o1 o2:Obj)(m:Nat):Below w.heap.size w ((((w.alloc o1).alloc o2).drewN m)):=by
 have h:=((Below.refl w.heap.size w).alloc (Nat.le_refl _) o1).alloc (by simp) o2
 exact ⟨h.os,h.tape,h.output,h.size,h.block⟩
theorem below_dr {b:Nat}{w w':World}(h:Below b w w')(m:Nat):Below b w (w'.drewN m):=⟨h.os,h.tape,h.output,h.size,h.block⟩
theorem limCmp4 (x y:Nat->Int)(w:World)(hx:Words x)(hy:Words y) :
  CB 181 #[.agg (arrOf x 4),.agg (arrOf y 4)] w (.int .i64 (cmpL x y 4)):=by
 have sx:(arrOf x 4).size=4:=arrOf_size x 4
 have sy:(arrOf y 4).size=4:=arrOf_size y 4
 have gx:=fun i h=>arrOf_get? x 4 i h
 have gy:=fun i h=>arrOf_get? y 4 i h
 have hx0:=arrOf_get x 4
 have hy0:=arrOf_get y 4
 generalize arrOf x 4=ax at *
 generalize arrOf y 4=ay at *
 go_enter Tryz.func181,Tryz.ntmps181
 go_wp2
 go_loopw [5] (fun t wr=>∃ k m:Nat,k<=4/\cmpL x y k=cmpL x y 4/\t=.int .i64 ((k:Int)-1)/\wr=(((w.alloc (.cells ax 23)).alloc (.cells ay 23)).drewN m)) (fun t _=>(intOf t+1).toNat)
 case atStart=>exact ⟨4,0,Nat.le_refl _,rfl,rfl,rfl⟩
 case round =>
  obtain ⟨k,m,hk,hs,rfl,rfl⟩:=hrel
  by_cases h0:k=0
  ·subst h0
   have HS:Hid (cmpL x y 4=0):=hs.symm
   clear hs
   go_wp2
   go_ret
   exact ⟨ret_int HS.out.symm,below_two _ _ _ _⟩
  ·obtain ⟨j,rfl⟩:∃ j,k=j+1:=⟨k-1,by omega⟩
   have ej:((j+1:Nat):Int)-1=j:=by omega
   have hj8:(j:Int)<4:=by omega
   rw [ej]
   have hcx:=gx j (by omega)
   have hcy:=gy j (by omega)
   have hgx:=hx0 j
   have hgy:=hy0 j
   have HS:Hid ((if x j<y j then -1 else if y j<x j then 1 else cmpL x y j)=cmpL x y 4):=hs
   have hkm:j<=4:=by omega
   clear hs ej hk gx gy hx0 hy0 hx hy
   by_cases hlt:x j<y j
   ·have HR:Hid (cmpL x y 4=-1):=by rw [← HS.out,if_pos hlt];rfl
    clear HS
    go_wp2
    go_quiet (fail)
    go_wp2
    go_ret
    exact ⟨ret_int HR.out.symm,below_dr (below_two _ _ _ _) _⟩
   ·by_cases hgt:y j<x j
    ·have HR:Hid (cmpL x y 4=1):=by rw [← HS.out,if_neg hlt,if_pos hgt];rfl
     clear HS
     go_wp2
     go_quiet (fail)
     go_wp2
     go_quiet (fail)
     go_wp2
     go_ret
     exact ⟨ret_int HR.out.symm,below_dr (below_dr (below_two _ _ _ _) _) _⟩
    ·have HR:Hid (cmpL x y j=cmpL x y 4):=by rw [← HS.out,if_neg hlt,if_neg hgt];rfl
     clear HS
     go_wp2
     go_quiet (fail)
     go_wp2
     go_quiet (fail)
     go_wp2
     go_roundw
     case rel=>exact ⟨j,_,hkm,HR.out,by go_num,rfl⟩
     case measure=>simp [intOf]
end
theorem cmp4 (A B:Nat)(w:World)(hA:A<2^256)(hB:B<2^256) :
  CB 181 #[A4 A,A4 B] w (.int .i64 (sgn (A:Int) (B:Int))):=by
 have h:=limCmp4 (W4 A) (W4 B) w (W4_words A) (W4_words B)
 rw [cmpL_val (W4_words A) (W4_words B),W4_val4 hA,W4_val4 hB] at h
 exact h
theorem dlow_v (x:Int)(c:Nat)(hx:0<=x/\x<=18446744073709551615)(hc:c<=62)(w:World) :
  CQ 187 #[.int .u64 x,.int .i64 (c:Int)] w (.int .u64 (x%2^c)):=by
 have hm:=and_mask (y:=x) (r:=c) hx (by omega)
 have hp:(1:Int)<=2^c/\(2:Int)^c<=4611686018427387904:=by
  have a:(2:Nat)^0<=2^c:=Nat.pow_le_pow_right (by decide) (by omega)
  have b:(2:Nat)^c<=2^62:=Nat.pow_le_pow_right (by decide) hc
  have e:((2:Int)^c)=((2^c:Nat):Int):=by simp
  rw [e];omega
 go_enter Tryz.func187,Tryz.ntmps187
 go_wp2
 go_ret
 exact ⟨rfl,rfl⟩
abbrev LD (dn:Bool)(g t bl:Int)(wo co pa:Nat)(le mo:Int):Value:=.agg #[.bool dn,.int .i64 g,.int .i64 t,.int .i64 bl,.int .u64 (W4 wo 0),.int .u64 (W4 wo 1),.int .u64 (W4 wo 2),.int .u64 (W4 wo 3),.int .u64 (W4 co 0),.int .u64 (W4 co 1),.int .u64 (W4 co 2),.int .u64 (W4 co 3),.int .u64 (W4 pa 0),.int .u64 (W4 pa 1),.int .u64 (W4 pa 2),.int .u64 (W4 pa 3),.int .i64 le,.int .i64 mo]
attribute [local irreducible] W4
section
variable (dn:Bool)(g t bl:Int)(wo co pa:Nat)(le mo:Int)(w:World)
theorem kind_v (x V:Int)(n:Nat)(hx:0<=x/\x<=18446744073709551615)(hg:g-5=(n:Int))(hg0:5<=g)(hg1:g<=60)(hV:x/2^n=V) :
  CB 138 #[LD dn g t bl wo co pa le mo,.int .u64 x] w (.int .u64 V):=by
 go_enter Tryz.func138,Tryz.ntmps138
 go_wp2
 go_ret
 exact ⟨rfl,bgo⟩
theorem signals_v (x V:Int)(n:Nat)(hx:0<=x/\x<=18446744073709551615)(hg:g-5-1=(n:Int))(hg0:6<=g)(hg1:g<=60)(hV:bits .and .u64 (x/2^n) 1=V) :
  CB 139 #[LD dn g t bl wo co pa le mo,.int .u64 x] w (.bool (V==1)):=by
 go_enter Tryz.func139,Tryz.ntmps139
 go_wp2
 go_ret
 exact ⟨rfl,bgo⟩
theorem special_v (k R:Int)(s:Bool)(n:Nat)(hk0:0<=k)(hk1:k<=31)(hg:g-5-1=(n:Int))(hg0:6<=g)(hg1:g<=30)(H:Int)(hH:(2:Int)^n=H)(hH0:1<=H)(hH1:H<=16777216)(ho:bits .or .u64 (k*2) 1=k*2+1)(hR:(k*2+if s then 1 else 0)*H=R)(hR1:R<=4611686018427387904) :
  CB 185 #[LD dn g t bl wo co pa le mo,.int .u64 k,.bool s] w (.int .u64 R):=by
 cases s
 ·simp only [Bool.false_eq_true,if_false,Int.add_zero] at hR
  have hR0:0<=R:=by rw [← hR];exact Int.mul_nonneg (by omega) (by omega)
  go_enter Tryz.func185,Tryz.ntmps185
  go_wp2
  go_ret
  exact ⟨rfl,bgo⟩
 ·simp only [if_true] at hR
  have hR0:0<=R:=by rw [← hR];exact Int.mul_nonneg (by omega) (by omega)
  go_enter Tryz.func185,Tryz.ntmps185
  go_wp2
  go_ret
  exact ⟨rfl,bgo⟩
end
end
section
theorem dlowb_v (x:Int)(c:Nat)(hx:0<=x/\x<=18446744073709551615)(hc:c<=62)(w:World) :
  CB 187 #[.int .u64 x,.int .i64 (c:Int)] w (.int .u64 (x%2^c)):=by
 refine (dlow_v x c hx hc w).mono ?_
 rintro r w' ⟨rfl,rfl⟩
 exact ⟨rfl,Below.refl _ _⟩
attribute [local irreducible] W4
section
variable (dn:Bool)(g t:Int)(wo co pa:Nat)(le mo:Int)(w:World)(x A M F FS X R L:Int)(b m:Nat)
 (hx:0<=x/\x<=1073741824) (hb:b<=30) (hg0:6<=g) (hg1:g<=30) (hm:g-2=(m:Int)) (hA:x/2^b=A) (hA0:0<=A) (hA1:A<=1073741824) (hM:x/2^m=M)
 (hF0:0<=F) (hF1:F<=1073741824) (hFS:F*2^b=FS) (hS0:0<=FS) (hS1:FS<=1152921504606846976)
 (cl:∀ W,CB 187 #[.int .u64 x,.int .i64 (b:Int)] W (.int .u64 X))
 (ho:bits .or .u64 FS X=R)
include hx hb hg0 hg1 hm hA hA0 hA1 hM hF0 hF1 hFS hS0 hS1 cl ho
theorem part_s (hM3:(M==3)=false)(hF:A/8=F)
  (c3:∀ W,CQ 187 #[.int .u64 A,.int .i64 3] W (.int .u64 L)) :
  CB 142 #[LD dn g t (b:Int) wo co pa le mo,.int .u64 x] w (.tuple #[.int .u64 R,.int .u64 L]):=by
 have hb0:(0:Int)<=(b:Int):=by omega
 have hb1:(b:Int)<=30:=by omega
 go_enter Tryz.func142,Tryz.ntmps142
 go_wp2_with (go_at_call 187;refine (c3 _).mono ?_;rintro r w1 ⟨rfl,rfl⟩)
 refine wp_tail 11 (by kernel_rfl) (by kernel_rfl) (by kernel_rfl) (fun _ _ d _ _ h=>by cases d<;>exact h) fun hne hcell=>?_
 simp only [List.take_succ_cons,List.take_zero,List.drop_succ_cons,List.drop_zero]
 repeat go_big_quiet_step (fail)
 go_big_quiet_step ((go_at_call 187;exact calls_wd _ bk_next (cl _)))
 repeat go_big_quiet_step (fail)
 refine wpQuiet_nil fun w2 hb2=>?_
 obtain ⟨_,_,_,_,hA2,_⟩:=wz w hb2;clear hb2
 go_wp2
 exact bodyPost_ret (by simp only [results,Tryz.results142];go_simp) rfl ⟨rfl,bgo⟩
theorem part_g (A' L0:Int)(k:Nat)(hM3:(M==3)=true)(hk:(m:Int)-(b:Int)=(k:Int))(hA'0:0<=A')(hA'1:A'<=1073741824)(hF:A'/2=F)(hL0:0<=L0)(hL1:L0<=1)(hL:8+L0=L)
  (c3:∀ W,CQ 187 #[.int .u64 A,.int .i64 (k:Int)] W (.int .u64 A'))
  (c4:∀ W,CQ 187 #[.int .u64 A',.int .i64 1] W (.int .u64 L0)) :
  CB 142 #[LD dn g t (b:Int) wo co pa le mo,.int .u64 x] w (.tuple #[.int .u64 R,.int .u64 L]):=by
 have hb0:(0:Int)<=(b:Int):=by omega
 have hb1:(b:Int)<=30:=by omega
 go_enter Tryz.func142,Tryz.ntmps142
 go_wp2_with (go_at_call 187;first|(refine (c3 _).mono ?_;rintro r w1 ⟨rfl,rfl⟩;clear c3)|(refine (c4 _).mono ?_;rintro r w1 ⟨rfl,rfl⟩;clear c4))
 refine wp_tail 11 (by kernel_rfl) (by kernel_rfl) (by kernel_rfl) (fun _ _ d _ _ h=>by cases d<;>exact h) fun hne hcell=>?_
 simp only [List.take_succ_cons,List.take_zero,List.drop_succ_cons,List.drop_zero]
 repeat go_big_quiet_step (fail)
 go_big_quiet_step ((go_at_call 187;exact calls_wd _ bk_next (cl _)))
 repeat go_big_quiet_step (fail)
 refine wpQuiet_nil fun w2 hb2=>?_
 obtain ⟨_,_,_,_,hA2,_⟩:=wz w hb2;clear hb2
 go_wp2
 exact bodyPost_ret (by simp only [results,Tryz.results142];go_simp) rfl ⟨rfl,bgo⟩
end
section
variable (dn:Bool)(g t:Int)(wo co pa:Nat)(le mo:Int)(w:World)(E a A Y YS X R:Int)(b:Nat)
 (hE:0<=E/\E<=1073741824) (ha:0<=a/\a<=9) (hb:b<=30) (hg0:6<=g) (hg1:g<=30) (hA:E/2^b=A) (hA0:0<=A) (hA1:A<=1073741824)
 (hY0:0<=Y) (hY1:Y<=1073741824) (hYS:Y*2^b=YS) (hS0:0<=YS) (hS1:YS<=1152921504606846976)
 (cl:∀ W,CB 187 #[.int .u64 E,.int .i64 (b:Int)] W (.int .u64 X))
 (ho:bits .or .u64 YS X=R)
include hE ha hb hg0 hg1 hA hA0 hA1 hY0 hY1 hYS hS0 hS1 cl ho
theorem unite_s (h8:¬ 8<=a)(hY:bits .or .u64 (A*8) a=Y) :
  CB 183 #[LD dn g t (b:Int) wo co pa le mo,.int .u64 E,.int .u64 a] w (.int .u64 R):=by
 have hb0:(0:Int)<=(b:Int):=by omega
 have hb1:(b:Int)<=30:=by omega
 go_enter Tryz.func183,Tryz.ntmps183
 go_wp2
 refine wp_tail 9 (by kernel_rfl) (by kernel_rfl) (by kernel_rfl) (fun _ _ d _ _ h=>by cases d<;>exact h) fun hne hcell=>?_
 simp only [List.take_succ_cons,List.take_zero,List.drop_succ_cons,List.drop_zero]
 repeat go_big_quiet_step (fail)
 go_big_quiet_step ((go_at_call 187;exact calls_wd _ bk_next (cl _)))
 repeat go_big_quiet_step (fail)
 refine wpQuiet_nil fun w2 hb2=>?_
 obtain ⟨_,_,_,_,hA2,_⟩:=wz w hb2;clear hb2
 go_wp2
 exact bodyPost_ret (by simp only [results,Tryz.results183];go_simp) rfl ⟨rfl,bgo⟩
theorem unite_g (k:Nat)(H U L0:Int)(h8:8<=a)(hk:g-2-(b:Int)=(k:Int))(hH:(2:Int)^k=H)(hH0:1<=H)(hH1:H<=1073741824)(hU:bits .or .u64 (3*H) (A*2)=U)(hY:bits .or .u64 U L0=Y)
  (c1:∀ W,CB 187 #[.int .u64 a,.int .i64 1] W (.int .u64 L0)) :
  CB 183 #[LD dn g t (b:Int) wo co pa le mo,.int .u64 E,.int .u64 a] w (.int .u64 R):=by
 have hb0:(0:Int)<=(b:Int):=by omega
 have hb1:(b:Int)<=30:=by omega
 have hk0:0<=g-2-(b:Int):=by omega
 go_enter Tryz.func183,Tryz.ntmps183
 go_wp2
 refine wp_tail 13 (by kernel_rfl) (by kernel_rfl) (by kernel_rfl) (fun _ _ d _ _ h=>by cases d<;>exact h) fun hne hcell=>?_
 simp only [List.take_succ_cons,List.take_zero,List.drop_succ_cons,List.drop_zero]
 repeat go_big_quiet_step (fail)
 go_big_quiet_step ((go_at_call 187;exact calls_wd _ bk_next (c1 _)))
 repeat go_big_quiet_step (fail)
 refine wpQuiet_nil fun w1 hb1'=>?_
 have hb1:=hb1'
 obtain ⟨_,_,_,_,hA1,_⟩:=wz w hb1;clear hb1
 go_wp2
 refine wp_tail 9 (by kernel_rfl) (by kernel_rfl) (by kernel_rfl) (fun _ _ d _ _ h=>by cases d<;>exact h) fun hne hcell=>?_
 simp only [List.take_succ_cons,List.take_zero,List.drop_succ_cons,List.drop_zero]
 repeat go_big_quiet_step (fail)
 go_big_quiet_step ((go_at_call 187;exact calls_wd _ bk_next (cl _)))
 repeat go_big_quiet_step (fail)
 refine wpQuiet_nil fun w2 hb2=>?_
 obtain ⟨_,_,_,_,hA2,_⟩:=wz w hb2;clear hb2
 go_wp2
 exact bodyPost_ret (by simp only [results,Tryz.results183];go_simp) rfl ⟨rfl,bgo⟩
end
end
theorem great_v (x g:Int)(hx:0<=x)(hg:x/8=g)(w:World):CQ 255 #[.int .i64 x] w (.int .i64 g):=by
 go_enter Tryz.func255,Tryz.ntmps255
 go_wp2
 go_ret
 exact ⟨rfl,rfl⟩
theorem known_v (n:Int)(w:World):CQ 212 #[.int .i64 n] w (.bool (decide (0<=n/\n<=11))):=by
 by_cases h0:0<=n
 ·go_enter Tryz.func212,Tryz.ntmps212
  go_wp2
  go_ret
  exact ⟨by simp [h0],rfl⟩
 ·rw [decide_eq_false (fun h=>h0 h.1)]
  go_enter Tryz.func212,Tryz.ntmps212
  go_wp2
  go_ret
  exact ⟨rfl,rfl⟩
theorem fields_0 (a b c x y z:Int)(w:World)
  (ga:∀ W,CQ 255 #[.int .i64 a] W (.int .i64 0))
  (gb:∀ W,CQ 255 #[.int .i64 b] W (.int .i64 0))
  (gc:∀ W,CQ 255 #[.int .i64 c] W (.int .i64 0))
  (ha:0<=a) (hb:0<=b) (hc:0<=c) (hx:bits .and .i64 (a/2) 3=x) (hy:bits .and .i64 (b/2) 3=y) (hz:bits .and .i64 (c/2) 3=z) :
  CQ 245 #[.int .i64 a,.int .i64 b,.int .i64 c] w (.tuple #[.int .i64 x,.int .i64 y,.int .i64 z]):=by
 have o1:bits .or .i64 0 0=0:=by decide
 have o2:bits .or .i64 0 0=0:=by decide
 go_enter Tryz.func245,Tryz.ntmps245
 go_wp2_with (go_at_call 255;first
  | (refine (ga _).mono ?_;rintro r w1 ⟨rfl,rfl⟩;clear ga)
  | (refine (gb _).mono ?_;rintro r w1 ⟨rfl,rfl⟩;clear gb)
  | (refine (gc _).mono ?_;rintro r w1 ⟨rfl,rfl⟩;clear gc))
 exact bodyPost_ret (by simp only [results,Tryz.results245];go_simp) rfl ⟨rfl,rfl⟩
theorem fields_1 (a b c x y z:Int)(w:World)
  (ga:∀ W,CQ 255 #[.int .i64 a] W (.int .i64 0))
  (gb:∀ W,CQ 255 #[.int .i64 b] W (.int .i64 0))
  (gc:∀ W,CQ 255 #[.int .i64 c] W (.int .i64 1))
  (ha:0<=a) (hb:0<=b) (hc:0<=c) (hx:bits .and .i64 (a/2) 3=x) (hy:bits .and .i64 (b/2) 3=y) (hz:bits .and .i64 (c/2) 3=z) :
  CQ 245 #[.int .i64 a,.int .i64 b,.int .i64 c] w (.tuple #[.int .i64 x,.int .i64 y,.int .i64 4]):=by
 have o1:bits .or .i64 0 0=0:=by decide
 have o2:bits .or .i64 0 1=1:=by decide
 go_enter Tryz.func245,Tryz.ntmps245
 go_wp2_with (go_at_call 255;first
  | (refine (ga _).mono ?_;rintro r w1 ⟨rfl,rfl⟩;clear ga)
  | (refine (gb _).mono ?_;rintro r w1 ⟨rfl,rfl⟩;clear gb)
  | (refine (gc _).mono ?_;rintro r w1 ⟨rfl,rfl⟩;clear gc))
 exact bodyPost_ret (by simp only [results,Tryz.results245];go_simp) rfl ⟨rfl,rfl⟩
theorem fields_2 (a b c x y z:Int)(w:World)
  (ga:∀ W,CQ 255 #[.int .i64 a] W (.int .i64 0))
  (gb:∀ W,CQ 255 #[.int .i64 b] W (.int .i64 1))
  (gc:∀ W,CQ 255 #[.int .i64 c] W (.int .i64 0))
  (ha:0<=a) (hb:0<=b) (hc:0<=c) (hx:bits .and .i64 (a/2) 3=x) (hy:bits .and .i64 (b/2) 3=y) (hz:bits .and .i64 (c/2) 3=z) :
  CQ 245 #[.int .i64 a,.int .i64 b,.int .i64 c] w (.tuple #[.int .i64 x,.int .i64 z,.int .i64 5]):=by
 have o1:bits .or .i64 0 2=2:=by decide
 have o2:bits .or .i64 2 0=2:=by decide
 go_enter Tryz.func245,Tryz.ntmps245
 go_wp2_with (go_at_call 255;first
  | (refine (ga _).mono ?_;rintro r w1 ⟨rfl,rfl⟩;clear ga)
  | (refine (gb _).mono ?_;rintro r w1 ⟨rfl,rfl⟩;clear gb)
  | (refine (gc _).mono ?_;rintro r w1 ⟨rfl,rfl⟩;clear gc))
 exact bodyPost_ret (by simp only [results,Tryz.results245];go_simp) rfl ⟨rfl,rfl⟩
theorem fields_4 (a b c x y z:Int)(w:World)
  (ga:∀ W,CQ 255 #[.int .i64 a] W (.int .i64 1))
  (gb:∀ W,CQ 255 #[.int .i64 b] W (.int .i64 0))
  (gc:∀ W,CQ 255 #[.int .i64 c] W (.int .i64 0))
  (ha:0<=a) (hb:0<=b) (hc:0<=c) (hx:bits .and .i64 (a/2) 3=x) (hy:bits .and .i64 (b/2) 3=y) (hz:bits .and .i64 (c/2) 3=z) :
  CQ 245 #[.int .i64 a,.int .i64 b,.int .i64 c] w (.tuple #[.int .i64 z,.int .i64 y,.int .i64 6]):=by
 have o1:bits .or .i64 4 0=4:=by decide
 have o2:bits .or .i64 4 0=4:=by decide
 go_enter Tryz.func245,Tryz.ntmps245
 go_wp2_with (go_at_call 255;first
  | (refine (ga _).mono ?_;rintro r w1 ⟨rfl,rfl⟩;clear ga)
  | (refine (gb _).mono ?_;rintro r w1 ⟨rfl,rfl⟩;clear gb)
  | (refine (gc _).mono ?_;rintro r w1 ⟨rfl,rfl⟩;clear gc))
 exact bodyPost_ret (by simp only [results,Tryz.results245];go_simp) rfl ⟨rfl,rfl⟩
theorem fields_3 (a b c x y z:Int)(w:World)
  (ga:∀ W,CQ 255 #[.int .i64 a] W (.int .i64 0))
  (gb:∀ W,CQ 255 #[.int .i64 b] W (.int .i64 1))
  (gc:∀ W,CQ 255 #[.int .i64 c] W (.int .i64 1))
  (ha:0<=a) (hb:0<=b) (hc:0<=c) (hx:bits .and .i64 (a/2) 3=x) (hy:bits .and .i64 (b/2) 3=y) (hz:bits .and .i64 (c/2) 3=z) :
  CQ 245 #[.int .i64 a,.int .i64 b,.int .i64 c] w (.tuple #[.int .i64 x,.int .i64 2,.int .i64 7]):=by
 have o1:bits .or .i64 0 2=2:=by decide
 have o2:bits .or .i64 2 1=3:=by decide
 go_enter Tryz.func245,Tryz.ntmps245
 go_wp2_with (go_at_call 255;first
  | (refine (ga _).mono ?_;rintro r w1 ⟨rfl,rfl⟩;clear ga)
  | (refine (gb _).mono ?_;rintro r w1 ⟨rfl,rfl⟩;clear gb)
  | (refine (gc _).mono ?_;rintro r w1 ⟨rfl,rfl⟩;clear gc))
 exact bodyPost_ret (by simp only [results,Tryz.results245];go_simp) rfl ⟨rfl,rfl⟩
theorem fields_5 (a b c x y z:Int)(w:World)
  (ga:∀ W,CQ 255 #[.int .i64 a] W (.int .i64 1))
  (gb:∀ W,CQ 255 #[.int .i64 b] W (.int .i64 0))
  (gc:∀ W,CQ 255 #[.int .i64 c] W (.int .i64 1))
  (ha:0<=a) (hb:0<=b) (hc:0<=c) (hx:bits .and .i64 (a/2) 3=x) (hy:bits .and .i64 (b/2) 3=y) (hz:bits .and .i64 (c/2) 3=z) :
  CQ 245 #[.int .i64 a,.int .i64 b,.int .i64 c] w (.tuple #[.int .i64 y,.int .i64 1,.int .i64 7]):=by
 have o1:bits .or .i64 4 0=4:=by decide
 have o2:bits .or .i64 4 1=5:=by decide
 go_enter Tryz.func245,Tryz.ntmps245
 go_wp2_with (go_at_call 255;first
  | (refine (ga _).mono ?_;rintro r w1 ⟨rfl,rfl⟩;clear ga)
  | (refine (gb _).mono ?_;rintro r w1 ⟨rfl,rfl⟩;clear gb)
  | (refine (gc _).mono ?_;rintro r w1 ⟨rfl,rfl⟩;clear gc))
 exact bodyPost_ret (by simp only [results,Tryz.results245];go_simp) rfl ⟨rfl,rfl⟩
theorem fields_6 (a b c x y z:Int)(w:World)
  (ga:∀ W,CQ 255 #[.int .i64 a] W (.int .i64 1))
  (gb:∀ W,CQ 255 #[.int .i64 b] W (.int .i64 1))
  (gc:∀ W,CQ 255 #[.int .i64 c] W (.int .i64 0))
  (ha:0<=a) (hb:0<=b) (hc:0<=c) (hx:bits .and .i64 (a/2) 3=x) (hy:bits .and .i64 (b/2) 3=y) (hz:bits .and .i64 (c/2) 3=z) :
  CQ 245 #[.int .i64 a,.int .i64 b,.int .i64 c] w (.tuple #[.int .i64 z,.int .i64 0,.int .i64 7]):=by
 have o1:bits .or .i64 4 2=6:=by decide
 have o2:bits .or .i64 6 0=6:=by decide
 go_enter Tryz.func245,Tryz.ntmps245
 go_wp2_with (go_at_call 255;first
  | (refine (ga _).mono ?_;rintro r w1 ⟨rfl,rfl⟩;clear ga)
  | (refine (gb _).mono ?_;rintro r w1 ⟨rfl,rfl⟩;clear gb)
  | (refine (gc _).mono ?_;rintro r w1 ⟨rfl,rfl⟩;clear gc))
 exact bodyPost_ret (by simp only [results,Tryz.results245];go_simp) rfl ⟨rfl,rfl⟩
theorem fields_7 (a b c x y z:Int)(w:World)
  (ga:∀ W,CQ 255 #[.int .i64 a] W (.int .i64 1))
  (gb:∀ W,CQ 255 #[.int .i64 b] W (.int .i64 1))
  (gc:∀ W,CQ 255 #[.int .i64 c] W (.int .i64 1))
  (ha:0<=a) (hb:0<=b) (hc:0<=c) (hx:bits .and .i64 (a/2) 3=x) (hy:bits .and .i64 (b/2) 3=y) (hz:bits .and .i64 (c/2) 3=z) :
  CQ 245 #[.int .i64 a,.int .i64 b,.int .i64 c] w (.tuple #[.int .i64 0,.int .i64 3,.int .i64 7]):=by
 have o1:bits .or .i64 4 2=6:=by decide
 have o2:bits .or .i64 6 1=7:=by decide
 go_enter Tryz.func245,Tryz.ntmps245
 go_wp2_with (go_at_call 255;first
  | (refine (ga _).mono ?_;rintro r w1 ⟨rfl,rfl⟩;clear ga)
  | (refine (gb _).mono ?_;rintro r w1 ⟨rfl,rfl⟩;clear gb)
  | (refine (gc _).mono ?_;rintro r w1 ⟨rfl,rfl⟩;clear gc))
 exact bodyPost_ret (by simp only [results,Tryz.results245];go_simp) rfl ⟨rfl,rfl⟩
def mgT (p s:Int):Int×Int×Int:=if s=2 then (p*2,8,8) else if s=1 then (8,p*2,8) else if s=0 then (8,8,p*2) else (8,8,8)
theorem mgr_v (p s:Int)(w:World)(hp:0<=p/\p<4)(hs:0<=s/\s<4) :
  CQ 246 #[.int .i64 p,.int .i64 s] w (.tuple #[.int .i64 (mgT p s).1,.int .i64 (mgT p s).2.1,.int .i64 (mgT p s).2.2]):=by
 obtain rfl|rfl|rfl|rfl:s=0∨s=1∨s=2∨s=3:=by omega
 all_goals (
  go_enter Tryz.func246,Tryz.ntmps246
  go_wp2
  exact bodyPost_ret (by simp only [results,Tryz.results246];go_simp;first|done|exact ⟨rfl,rfl,rfl⟩) rfl ⟨rfl,rfl⟩)
def evT (p s v:Int):Int×Int×Int:=if v=4 then (p*2,s*2,8) else if v=5 then (p*2,8,s*2) else if v=6 then (8,s*2,p*2) else if v=7 then mgT p s else (p*2,s*2,v*2)
theorem ev_7 (p s x y z:Int)(w:World)
  (cm:∀ W,CQ 246 #[.int .i64 p,.int .i64 s] W (.tuple #[.int .i64 x,.int .i64 y,.int .i64 z])) :
  CQ 232 #[.int .i64 p,.int .i64 s,.int .i64 7] w (.tuple #[.int .i64 x,.int .i64 y,.int .i64 z]):=by
 go_enter Tryz.func232,Tryz.ntmps232
 go_wp2_with (go_at_call 246;refine (cm _).mono ?_;rintro r w1 ⟨rfl,rfl⟩)
 exact bodyPost_ret (by simp only [results,Tryz.results232];go_simp;first|done|exact ⟨rfl,rfl,rfl⟩) rfl ⟨rfl,rfl⟩
theorem evens_v (p s v:Int)(w:World)(hp:0<=p/\p<4)(hs:0<=s/\s<4)(hv:0<=v/\v<8) :
  CQ 232 #[.int .i64 p,.int .i64 s,.int .i64 v] w (.tuple #[.int .i64 (evT p s v).1,.int .i64 (evT p s v).2.1,.int .i64 (evT p s v).2.2]):=by
 by_cases h7:v=7
 ·subst h7
  exact ev_7 p s _ _ _ w (fun W=>mgr_v p s W hp hs)
 by_cases h4:v=4
 ·subst h4
  go_enter Tryz.func232,Tryz.ntmps232
  go_wp2
  exact bodyPost_ret (by simp only [results,Tryz.results232];go_simp;first|done|exact ⟨rfl,rfl,rfl⟩) rfl ⟨rfl,rfl⟩
 by_cases h5:v=5
 ·subst h5
  go_enter Tryz.func232,Tryz.ntmps232
  go_wp2
  exact bodyPost_ret (by simp only [results,Tryz.results232];go_simp;first|done|exact ⟨rfl,rfl,rfl⟩) rfl ⟨rfl,rfl⟩
 by_cases h6:v=6
 ·subst h6
  go_enter Tryz.func232,Tryz.ntmps232
  go_wp2
  exact bodyPost_ret (by simp only [results,Tryz.results232];go_simp;first|done|exact ⟨rfl,rfl,rfl⟩) rfl ⟨rfl,rfl⟩
 have e:evT p s v=(p*2,s*2,v*2):=by
  unfold evT
  rw [if_neg h4,if_neg h5,if_neg h6,if_neg h7]
 rw [e]
 have b4:(v==4)=false:=by simp [h4]
 have b5:(v==5)=false:=by simp [h5]
 have b6:(v==6)=false:=by simp [h6]
 have b7:(v==7)=false:=by simp [h7]
 go_enter Tryz.func232,Tryz.ntmps232
 go_wp2
 exact bodyPost_ret (by simp only [results,Tryz.results232];go_simp;first|done|exact ⟨rfl,rfl,rfl⟩) rfl ⟨rfl,rfl⟩
section
def fdT (a b c:Int):Int×Int×Int :=
 if a/8=0 then
  if b/8=0 then (if c/8=0 then (bits .and .i64 (a/2) 3,bits .and .i64 (b/2) 3,bits .and .i64 (c/2) 3) else (bits .and .i64 (a/2) 3,bits .and .i64 (b/2) 3,4))
  else (if c/8=0 then (bits .and .i64 (a/2) 3,bits .and .i64 (c/2) 3,5) else (bits .and .i64 (a/2) 3,2,7))
 else
  if b/8=0 then (if c/8=0 then (bits .and .i64 (c/2) 3,bits .and .i64 (b/2) 3,6) else (bits .and .i64 (b/2) 3,1,7))
  else (if c/8=0 then (bits .and .i64 (c/2) 3,0,7) else (0,3,7))
theorem fields_v (a b c:Int)(w:World)(ha:0<=a/\a<=9)(hb:0<=b/\b<=9)(hc:0<=c/\c<=9) :
  CQ 245 #[.int .i64 a,.int .i64 b,.int .i64 c] w (.tuple #[.int .i64 (fdT a b c).1,.int .i64 (fdT a b c).2.1,.int .i64 (fdT a b c).2.2]):=by
 unfold fdT
 by_cases h1:a/8=0
 ·rw [if_pos h1]
  by_cases h2:b/8=0
  ·rw [if_pos h2]
   by_cases h3:c/8=0
   ·rw [if_pos h3]
    exact fields_0 a b c _ _ _ w (fun W=>great_v a 0 ha.1 h1 W) (fun W=>great_v b 0 hb.1 h2 W) (fun W=>great_v c 0 hc.1 h3 W) ha.1 hb.1 hc.1 rfl rfl rfl
   ·rw [if_neg h3]
    exact fields_1 a b c _ _ _ w (fun W=>great_v a 0 ha.1 h1 W) (fun W=>great_v b 0 hb.1 h2 W) (fun W=>great_v c 1 hc.1 (by omega) W) ha.1 hb.1 hc.1 rfl rfl rfl
  ·rw [if_neg h2]
   by_cases h3:c/8=0
   ·rw [if_pos h3]
    exact fields_2 a b c _ _ _ w (fun W=>great_v a 0 ha.1 h1 W) (fun W=>great_v b 1 hb.1 (by omega) W) (fun W=>great_v c 0 hc.1 h3 W) ha.1 hb.1 hc.1 rfl rfl rfl
   ·rw [if_neg h3]
    exact fields_3 a b c _ _ _ w (fun W=>great_v a 0 ha.1 h1 W) (fun W=>great_v b 1 hb.1 (by omega) W) (fun W=>great_v c 1 hc.1 (by omega) W) ha.1 hb.1 hc.1 rfl rfl rfl
 ·rw [if_neg h1]
  by_cases h2:b/8=0
  ·rw [if_pos h2]
   by_cases h3:c/8=0
   ·rw [if_pos h3]
    exact fields_4 a b c _ _ _ w (fun W=>great_v a 1 ha.1 (by omega) W) (fun W=>great_v b 0 hb.1 h2 W) (fun W=>great_v c 0 hc.1 h3 W) ha.1 hb.1 hc.1 rfl rfl rfl
   ·rw [if_neg h3]
    exact fields_5 a b c _ _ _ w (fun W=>great_v a 1 ha.1 (by omega) W) (fun W=>great_v b 0 hb.1 h2 W) (fun W=>great_v c 1 hc.1 (by omega) W) ha.1 hb.1 hc.1 rfl rfl rfl
  ·rw [if_neg h2]
   by_cases h3:c/8=0
   ·rw [if_pos h3]
    exact fields_6 a b c _ _ _ w (fun W=>great_v a 1 ha.1 (by omega) W) (fun W=>great_v b 1 hb.1 (by omega) W) (fun W=>great_v c 0 hc.1 h3 W) ha.1 hb.1 hc.1 rfl rfl rfl
   ·rw [if_neg h3]
    exact fields_7 a b c _ _ _ w (fun W=>great_v a 1 ha.1 (by omega) W) (fun W=>great_v b 1 hb.1 (by omega) W) (fun W=>great_v c 1 hc.1 (by omega) W) ha.1 hb.1 hc.1 rfl rfl rfl
def dcT (a b c:Int):Int:=bits .or .i64 (bits .or .i64 (bits .or .i64 (bits .or .i64 (bits .or .i64 ((fdT a b c).1*256) (bits .and .i64 a 1*128)) ((fdT a b c).2.1*32)) (bits .and .i64 b 1*16)) ((fdT a b c).2.2*2)) (bits .and .i64 c 1)
theorem dc_all (n:Nat)(hn:n<1000):dcT ((n:Int)/100) ((n:Int)/10%10) ((n:Int)%10)=(dlE n:Int)/\(0<=(fdT ((n:Int)/100) ((n:Int)/10%10) ((n:Int)%10)).1/\(fdT ((n:Int)/100) ((n:Int)/10%10) ((n:Int)%10)).1<4)/\(0<=(fdT ((n:Int)/100) ((n:Int)/10%10) ((n:Int)%10)).2.1/\(fdT ((n:Int)/100) ((n:Int)/10%10) ((n:Int)%10)).2.1<4)/\(0<=(fdT ((n:Int)/100) ((n:Int)/10%10) ((n:Int)%10)).2.2/\(fdT ((n:Int)/100) ((n:Int)/10%10) ((n:Int)%10)).2.2<8):=by
 have h:=upTo_all (f:=fun n=>decide (dcT ((n:Int)/100) ((n:Int)/10%10) ((n:Int)%10)=(dlE n:Int)/\(0<=(fdT ((n:Int)/100) ((n:Int)/10%10) ((n:Int)%10)).1/\(fdT ((n:Int)/100) ((n:Int)/10%10) ((n:Int)%10)).1<4)/\(0<=(fdT ((n:Int)/100) ((n:Int)/10%10) ((n:Int)%10)).2.1/\(fdT ((n:Int)/100) ((n:Int)/10%10) ((n:Int)%10)).2.1<4)/\(0<=(fdT ((n:Int)/100) ((n:Int)/10%10) ((n:Int)%10)).2.2/\(fdT ((n:Int)/100) ((n:Int)/10%10) ((n:Int)%10)).2.2<8))) (m:=1000) (by decide +kernel) n hn
 exact of_decide_eq_true h
theorem and_low (n:Nat)(hn:n<1024):bits .and .i64 (n:Int) 1=((n%2:Nat):Int):=by
 have h:=upTo_all (f:=fun n=>decide (bits .and .i64 (n:Int) 1=((n%2:Nat):Int))) (m:=1024) (by decide +kernel) n hn
 exact of_decide_eq_true h
section
variable (n a b c P S V x y z R:Int)(w:World)(h0:¬ n<0)(h9:¬ 1000<=n)(ea:n/100=a)(eb:n/10%10=b)(ec:n%10=c)
 (cf:∀ W,CQ 245 #[.int .i64 a,.int .i64 b,.int .i64 c] W (.tuple #[.int .i64 P,.int .i64 S,.int .i64 V]))
 (hP0:0<=P) (hP1:P<4) (hS0:0<=S) (hS1:S<4) (hV0:0<=V) (hV1:V<8)
 (hx:bits .and .i64 a 1=x) (hy:bits .and .i64 b 1=y) (hz:bits .and .i64 c 1=z) (hx0:0<=x) (hx1:x<2) (hy0:0<=y) (hy1:y<2)
 (hR:bits .or .i64 (bits .or .i64 (bits .or .i64 (bits .or .i64 (bits .or .i64 (P*256) (x*128)) (S*32)) (y*16)) (V*2)) z=R)
include h0 h9 ea eb ec cf hP0 hP1 hS0 hS1 hV0 hV1 hx hy hz hx0 hx1 hy0 hy1 hR
theorem denc_w:CQ 231 #[.int .i64 n] w (.tuple #[.int .i64 R,.int .i64 0]):=by
 go_enter Tryz.func231,Tryz.ntmps231
 go_wp2_with (go_at_call 245;refine (cf _).mono ?_;rintro r w1 ⟨rfl,rfl⟩)
 exact bodyPost_ret (by simp only [results,Tryz.results231];go_simp) rfl ⟨rfl,rfl⟩
end
theorem denc_v (n:Nat)(hn:n<1000)(w:World):CQ 231 #[.int .i64 (n:Int)] w (.tuple #[.int .i64 (dlE n:Int),.int .i64 0]):=by
 obtain ⟨hR,⟨p0,p1⟩,⟨s0,s1⟩,⟨v0,v1⟩⟩:=dc_all n hn
 unfold dcT at hR
 have la:=and_low (n/100) (by omega)
 have lb:=and_low (n/10%10) (by omega)
 rw [show ((n/100:Nat):Int)=(n:Int)/100 by omega] at la
 rw [show ((n/10%10:Nat):Int)=(n:Int)/10%10 by omega] at lb
 exact denc_w (n:Int) _ _ _ _ _ _ _ _ _ _ w (by omega) (by omega) rfl rfl rfl (fun W=>fields_v _ _ _ W (by omega) (by omega) (by omega)) p0 p1 s0 s1 v0 v1 rfl rfl rfl (by rw [la];omega) (by rw [la];omega) (by rw [lb];omega) (by rw [lb];omega) hR
def dmT (d:Nat):Int:=100*bits .or .i64 (evT ((d:Int)/256) (bits .and .i64 ((d:Int)/32) 3) (bits .and .i64 ((d:Int)/2) 7)).1 (bits .and .i64 ((d:Int)/128) 1)+10*bits .or .i64 (evT ((d:Int)/256) (bits .and .i64 ((d:Int)/32) 3) (bits .and .i64 ((d:Int)/2) 7)).2.1 (bits .and .i64 ((d:Int)/16) 1)+bits .or .i64 (evT ((d:Int)/256) (bits .and .i64 ((d:Int)/32) 3) (bits .and .i64 ((d:Int)/2) 7)).2.2 (bits .and .i64 (d:Int) 1)
theorem dm_all (d:Nat)(hd:d<1024):dmT d=(dlD d:Int)/\(0<=bits .and .i64 ((d:Int)/32) 3/\bits .and .i64 ((d:Int)/32) 3<4)/\(0<=bits .and .i64 ((d:Int)/2) 7/\bits .and .i64 ((d:Int)/2) 7<8)/\(0<=bits .or .i64 (evT ((d:Int)/256) (bits .and .i64 ((d:Int)/32) 3) (bits .and .i64 ((d:Int)/2) 7)).1 (bits .and .i64 ((d:Int)/128) 1)/\bits .or .i64 (evT ((d:Int)/256) (bits .and .i64 ((d:Int)/32) 3) (bits .and .i64 ((d:Int)/2) 7)).1 (bits .and .i64 ((d:Int)/128) 1)<=9)/\(0<=bits .or .i64 (evT ((d:Int)/256) (bits .and .i64 ((d:Int)/32) 3) (bits .and .i64 ((d:Int)/2) 7)).2.1 (bits .and .i64 ((d:Int)/16) 1)/\bits .or .i64 (evT ((d:Int)/256) (bits .and .i64 ((d:Int)/32) 3) (bits .and .i64 ((d:Int)/2) 7)).2.1 (bits .and .i64 ((d:Int)/16) 1)<=9)/\(0<=bits .or .i64 (evT ((d:Int)/256) (bits .and .i64 ((d:Int)/32) 3) (bits .and .i64 ((d:Int)/2) 7)).2.2 (bits .and .i64 (d:Int) 1)/\bits .or .i64 (evT ((d:Int)/256) (bits .and .i64 ((d:Int)/32) 3) (bits .and .i64 ((d:Int)/2) 7)).2.2 (bits .and .i64 (d:Int) 1)<=9):=by
 have h:=upTo_all (f:=fun d=>decide (dmT d=(dlD d:Int)/\(0<=bits .and .i64 ((d:Int)/32) 3/\bits .and .i64 ((d:Int)/32) 3<4)/\(0<=bits .and .i64 ((d:Int)/2) 7/\bits .and .i64 ((d:Int)/2) 7<8)/\(0<=bits .or .i64 (evT ((d:Int)/256) (bits .and .i64 ((d:Int)/32) 3) (bits .and .i64 ((d:Int)/2) 7)).1 (bits .and .i64 ((d:Int)/128) 1)/\bits .or .i64 (evT ((d:Int)/256) (bits .and .i64 ((d:Int)/32) 3) (bits .and .i64 ((d:Int)/2) 7)).1 (bits .and .i64 ((d:Int)/128) 1)<=9)/\(0<=bits .or .i64 (evT ((d:Int)/256) (bits .and .i64 ((d:Int)/32) 3) (bits .and .i64 ((d:Int)/2) 7)).2.1 (bits .and .i64 ((d:Int)/16) 1)/\bits .or .i64 (evT ((d:Int)/256) (bits .and .i64 ((d:Int)/32) 3) (bits .and .i64 ((d:Int)/2) 7)).2.1 (bits .and .i64 ((d:Int)/16) 1)<=9)/\(0<=bits .or .i64 (evT ((d:Int)/256) (bits .and .i64 ((d:Int)/32) 3) (bits .and .i64 ((d:Int)/2) 7)).2.2 (bits .and .i64 (d:Int) 1)/\bits .or .i64 (evT ((d:Int)/256) (bits .and .i64 ((d:Int)/32) 3) (bits .and .i64 ((d:Int)/2) 7)).2.2 (bits .and .i64 (d:Int) 1)<=9))) (m:=1024) (by decide +kernel) d hd
 exact of_decide_eq_true h
section
variable (d s v x y z xa ya za X Y Z R:Int)(w:World)(h0:¬ d<0)(h0':0<=d)(h9:¬ 1024<=d)(hs:bits .and .i64 (d/32) 3=s)(hv:bits .and .i64 (d/2) 7=v)
 (cf:∀ W,CQ 232 #[.int .i64 (d/256),.int .i64 s,.int .i64 v] W (.tuple #[.int .i64 x,.int .i64 y,.int .i64 z]))
 (ha:bits .and .i64 (d/128) 1=xa) (hb:bits .and .i64 (d/16) 1=ya) (hc:bits .and .i64 d 1=za)
 (hx:bits .or .i64 x xa=X) (hy:bits .or .i64 y ya=Y) (hz:bits .or .i64 z za=Z) (hX0:0<=X) (hX1:X<=9) (hY0:0<=Y) (hY1:Y<=9) (hZ0:0<=Z) (hZ1:Z<=9)
 (hR:100*X+10*Y+Z=R)
include h0 h0' h9 hs hv cf ha hb hc hx hy hz hX0 hX1 hY0 hY1 hZ0 hZ1 hR
theorem ddcd_w:CQ 213 #[.int .i64 d] w (.tuple #[.int .i64 R,.int .i64 0]):=by
 go_enter Tryz.func213,Tryz.ntmps213
 go_wp2_with (go_at_call 232;refine (cf _).mono ?_;rintro r w1 ⟨rfl,rfl⟩)
 exact bodyPost_ret (by simp only [results,Tryz.results213];go_simp) rfl ⟨rfl,rfl⟩
end
theorem ddcd_v (d:Nat)(hd:d<1024)(w:World):CQ 213 #[.int .i64 (d:Int)] w (.tuple #[.int .i64 (dlD d:Int),.int .i64 0]):=by
 obtain ⟨hR,hs,hv,⟨x0,x1⟩,⟨y0,y1⟩,⟨z0,z1⟩⟩:=dm_all d hd
 exact ddcd_w (d:Int) _ _ _ _ _ _ _ _ _ _ _ _ w (by omega) (by omega) (by omega) rfl rfl (fun W=>evens_v _ _ _ W (by omega) hs hv) rfl rfl rfl rfl rfl rfl x0 x1 y0 y1 z0 z1 hR
end
end Go.Proofs.YtahfkpjhlbiamaaGreatDoor
