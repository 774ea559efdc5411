/-
  Texts that the proof leans on.
-/
import Derived.Test.YtpabnhlfbjkmaaaGreatDoorR29
import Derived.Test.YtpabnhlfbjkmaaaGreatDoorR30
import Derived.Test.YtpabnhlfbjkmaaaGreatDoorR1
set_option maxHeartbeats 8000000
set_option linter.unusedVariables false
set_option linter.unusedSectionVars false
set_option linter.unusedSimpArgs false
set_option maxRecDepth 20000
namespace Go.Proofs.YtpabnhlfbjkmaaaGreatDoor
open Go.RowKit
section
attribute [local irreducible] W4 NT NV
section
variable (n:Int)(nm:ByteArray)(wd pr ex le mo pa:Int)(dn:Bool)(d:Int)(s:Bool)(gv kv cv:Nat)(vd:Value)(exp want em ec E q:Int)(N1 D1 A Z C0 PP:Nat)(sgv:Int)(w:World)
 (hpr0:1<=pr) (hpr1:pr<=100) (hle0:-10000<=le) (hle1:le<=10000) (hmo0:-10000<=mo) (hmo1:mo<=10000)
 (cO:∀ W,CB 19 #[.int .i64 n] W (.tuple #[zAb n nm wd pr ex le mo pa dn,.int .i64 0]))
include hpr0 hpr1 hle0 hle1 hmo0 hmo1 cO
theorem rnd_z (x1 x2:Int)(h1:max want le=x1)(h2:min x1 mo=x2)(gz cz:Nat) :
  CB 41 #[.int .i64 n,.int .i64 d,.bool s,.slice (some ⟨gz,0,none⟩) 0 cz,vd,.int .i64 exp,.int .i64 want] w (.tuple #[.agg #[.int .i64 1,.bool s,.bool false,.int .i64 x2,.int .u64 0,.int .u64 0,.int .u64 0,.int .u64 0],.int .i64 0]):=by
 have hsm:=zAa
 go_enter Tryz.func41,Tryz.ntmps41
 go_wp2_with (go_at_call 19;refine wk w (cO _) ?_;intro w1 hb1 _ _ _ _ hA1 _;clear hb1)
 exact bodyPost_ret (by simp only [results,Tryz.results41];go_simp) rfl ⟨rfl,bgo⟩
end
section
variable (n:Int)(nm:ByteArray)(wd pr ex le mo pa:Int)(dn:Bool)(d:Int)(s:Bool)(gv kv cv:Nat)(vd:Value)(exp want em ec E q:Int)(N1 D1 A Z C0 PP:Nat)(sgv:Int)(w:World)
 (hpr0:1<=pr) (hpr1:pr<=100) (hle0:-10000<=le) (hle1:le<=10000) (hmo0:-10000<=mo) (hmo1:mo<=10000)
 (cO:∀ W,CB 19 #[.int .i64 n] W (.tuple #[zAb n nm wd pr ex le mo pa dn,.int .i64 0]))
 (hkv:(0:Int)<(kv:Int)) (hm1:max exp (-20000)=em) (hm2:min em 20000=ec) (hE0:-60000<=E) (hE1:E<=60000) (hq:max le (E-pr+1)=q) (hq0:-70000<=q) (hq1:q<=70000)
 (cS1:∀ W,Below w.heap.size w W->Calls Tryz.prog 85 #[.slice (some ⟨gv,0,none⟩) kv cv,vd,.int .u64 10,.int .i64 ec] W fun r w'=>∃ a b,r=.returned (.tuple #[a,b])/\NT 7000 N1 a w'/\NT 7000 D1 b w'/\Below W.heap.size W w')
 (cT:∀ W a b,NT 7000 N1 a W->NT 7000 D1 b W->CB 86 #[a,b] W (.int .i64 E))
 (cS2:∀ W a b,NT 7000 N1 a W->NT 7000 D1 b W->Calls Tryz.prog 85 #[a,b,.int .u64 10,.int .i64 (-q)] W fun r w'=>∃ a' b',r=.returned (.tuple #[a',b'])/\NT 7000 A a' w'/\NT 7000 Z b' w'/\Below W.heap.size W w')
 (cP:∀ W,CE 25 #[.int .u64 10,.int .i64 pr] W (NT 4000 PP))
 (cC:∀ W v v',NV 41002 C0 v W->NT 4000 PP v' W->CQ 42 #[v,v'] W (.int .i64 sgv))
include hpr0 hpr1 hle0 hle1 hmo0 hmo1 cO hkv hm1 hm2 hE0 hE1 hq hq0 hq1 cS1 cT cS2 cP cC
theorem rnd_ni (X:Bool)(P1 ML U:Nat)(x2:Int)(Fl:Int)
  (cW:∀ W a b,NT 7000 A a W->NT 7000 Z b W->Calls Tryz.prog 87 #[.int .i64 d,.bool s,a,b] W fun r w'=>∃ v,r=.returned (.tuple #[v,.bool X])/\NV 41002 C0 v w'/\Below W.heap.size W w') (hsv:¬ 0<=sgv)
  (hmo:mo<q)
  (cF:∀ W,CQ 88 #[.int .i64 d,.bool s] W (.bool true)) :
  CB 41 #[.int .i64 n,.int .i64 d,.bool s,.slice (some ⟨gv,0,none⟩) kv cv,vd,.int .i64 exp,.int .i64 want] w (.tuple #[.agg #[.int .i64 2,.bool s,.bool false,.int .i64 0,.int .u64 0,.int .u64 0,.int .u64 0,.int .u64 0],.int .i64 10]):=by
 have hsm:=zAa
 have hq2:-(-q)=q:=by omega
 (try unfold DV at *)
 (try unfold A4 at *)
 go_enter Tryz.func41,Tryz.ntmps41
 go_wp2_with (first
  | (go_at_call 19;refine wk w (cO _) ?_;intro w1 hb1 _ _ _ _ hA1 _;clear hb1;have q1a:w.heap.size<w1.heap.size+1+1:=(by omega);have q1b:w1.heap.size<w1.heap.size+1+1:=(by omega))
  | (go_at_call 85;refine (cS1 _ bgo).mono ?_;rintro r w2 ⟨a1,b1,rfl,uA,uB,hb2⟩;clear cS1;obtain ⟨_,_,_,_,hA2,_⟩:=wz w hb2;obtain ⟨_,_,_,_⟩:=zg hb2 w1.heap.size (w1.heap.size+1);clear hb2)
  | (go_at_call 86;refine (cT _ _ _ uA uB).mono ?_;rintro r w3 ⟨rfl,hb3⟩;have uA3:=uA.next hb3;have uB3:=uB.next hb3;clear cT uA uB;obtain ⟨_,_,_,_,hA3,_⟩:=wz w hb3;obtain ⟨_,_,_,_⟩:=zg hb3 w1.heap.size (w1.heap.size+1);clear hb3)
  | (go_at_call 85;refine (cS2 _ _ _ uA3 uB3).mono ?_;rintro r w4 ⟨a2,b2,rfl,uC,uD,hb4⟩;clear cS2 uA3 uB3;obtain ⟨_,_,_,_,hA4,_⟩:=wz w hb4;obtain ⟨_,_,_,_⟩:=zg hb4 w1.heap.size (w1.heap.size+1);clear hb4)
  | (go_at_call 87;refine (cW _ _ _ uC uD).mono ?_;rintro r w5 ⟨vc,rfl,uE,hb5⟩;clear cW uC uD;obtain ⟨_,_,_,_,hA5,_⟩:=wz w hb5;obtain ⟨_,_,_,_⟩:=zg hb5 w1.heap.size (w1.heap.size+1);clear hb5)
  | (go_at_call 25;refine (cP _).mono ?_;rintro r w6 ⟨vp,rfl,uP,hb6⟩;have uE6:=uE.next hb6;clear cP uE;obtain ⟨_,_,_,_,hA6,_⟩:=wz w hb6;obtain ⟨_,_,_,_⟩:=zg hb6 w1.heap.size (w1.heap.size+1);clear hb6)
  | (go_at_call 42;refine (cC _ _ _ uE6 uP).mono ?_;rintro r w0 ⟨rfl,rfl⟩;clear cC)
  | (go_at_call 88;refine (cF _).mono ?_;rintro r w0 ⟨rfl,rfl⟩))
 exact bodyPost_ret (by simp only [results,Tryz.results41];go_simp) rfl ⟨rfl,bgo⟩
theorem rnd_nm (X:Bool)(P1 ML U:Nat)(x2:Int)(Fl:Int)
  (cW:∀ W a b,NT 7000 A a W->NT 7000 Z b W->Calls Tryz.prog 87 #[.int .i64 d,.bool s,a,b] W fun r w'=>∃ v,r=.returned (.tuple #[v,.bool X])/\NV 41002 C0 v w'/\Below W.heap.size W w') (hsv:¬ 0<=sgv)
  (hmo:mo<q)
  (cF:∀ W,CQ 88 #[.int .i64 d,.bool s] W (.bool false))
  (cL:∀ W v v',NT 4000 PP v W->NV 1 1 v' W->CE 89 #[v,v'] W (NV 4000 ML))
  (cB:∀ W v,NV 4000 ML v W->CB 22 #[v] W (A4 ML)) :
  CB 41 #[.int .i64 n,.int .i64 d,.bool s,.slice (some ⟨gv,0,none⟩) kv cv,vd,.int .i64 exp,.int .i64 want] w (.tuple #[DV 1 s false mo ML,.int .i64 10]):=by
 have hsm:=zAa
 have hq2:-(-q)=q:=by omega
 (try unfold DV at *)
 (try unfold A4 at *)
 go_enter Tryz.func41,Tryz.ntmps41
 go_wp2_with (first
  | (go_at_call 19;refine wk w (cO _) ?_;intro w1 hb1 _ _ _ _ hA1 _;clear hb1;have q1a:w.heap.size<w1.heap.size+1+1:=(by omega);have q1b:w1.heap.size<w1.heap.size+1+1:=(by omega))
  | (go_at_call 85;refine (cS1 _ bgo).mono ?_;rintro r w2 ⟨a1,b1,rfl,uA,uB,hb2⟩;clear cS1;obtain ⟨_,_,_,_,hA2,_⟩:=wz w hb2;obtain ⟨_,_,_,_⟩:=zg hb2 w1.heap.size (w1.heap.size+1);clear hb2)
  | (go_at_call 86;refine (cT _ _ _ uA uB).mono ?_;rintro r w3 ⟨rfl,hb3⟩;have uA3:=uA.next hb3;have uB3:=uB.next hb3;clear cT uA uB;obtain ⟨_,_,_,_,hA3,_⟩:=wz w hb3;obtain ⟨_,_,_,_⟩:=zg hb3 w1.heap.size (w1.heap.size+1);clear hb3)
  | (go_at_call 85;refine (cS2 _ _ _ uA3 uB3).mono ?_;rintro r w4 ⟨a2,b2,rfl,uC,uD,hb4⟩;clear cS2 uA3 uB3;obtain ⟨_,_,_,_,hA4,_⟩:=wz w hb4;obtain ⟨_,_,_,_⟩:=zg hb4 w1.heap.size (w1.heap.size+1);clear hb4)
  | (go_at_call 87;refine (cW _ _ _ uC uD).mono ?_;rintro r w5 ⟨vc,rfl,uE,hb5⟩;clear cW uC uD;obtain ⟨_,_,_,_,hA5,_⟩:=wz w hb5;obtain ⟨_,_,_,_⟩:=zg hb5 w1.heap.size (w1.heap.size+1);clear hb5)
  | (go_at_call 25;refine (cP _).mono ?_;rintro r w6 ⟨vp,rfl,uP,hb6⟩;have uE6:=uE.next hb6;clear cP uE;obtain ⟨_,_,_,_,hA6,_⟩:=wz w hb6;obtain ⟨_,_,_,_⟩:=zg hb6 w1.heap.size (w1.heap.size+1);clear hb6)
  | (go_at_call 42;refine (cC _ _ _ uE6 uP).mono ?_;rintro r w0 ⟨rfl,rfl⟩;clear cC)
  | (go_at_call 88;refine (cF _).mono ?_;rintro r w0 ⟨rfl,rfl⟩))
 go_region_with (first
  | (go_at_call 89;refine (cL _ _ _ (uP.next bgo) ((zDb (W:=w6) (g:=w6.heap.size) (V:=1) (vi:=1) rfl rfl (by decide)).next bgo)).mono ?_;rintro r w8 ⟨v8,rfl,u8,hb8⟩;replace hb8:=zTg (w0:=w6) bgo hb8;obtain ⟨_,_,_,_,hA8,_⟩:=wz w hb8;obtain ⟨_,_,_,_⟩:=zg hb8 w1.heap.size (w1.heap.size+1);clear hb8)
  | (go_at_call 22;refine wk w (cB _ _ u8) ?_;intro w9 hb9 _ _ _ _ hA9 _;obtain ⟨_,_,_,_⟩:=zg hb9 w1.heap.size (w1.heap.size+1);clear hb9))
 all_goals go_wp2
 all_goals exact bodyPost_ret (by simp only [results,Tryz.results41];go_simp) rfl ⟨rfl,bgo⟩
theorem rnd_nx (X:Bool)(P1 ML U:Nat)(x2:Int)(Fl:Int)
  (cW:∀ W a b,NT 7000 A a W->NT 7000 Z b W->Calls Tryz.prog 87 #[.int .i64 d,.bool s,a,b] W fun r w'=>∃ v,r=.returned (.tuple #[v,.bool true])/\NT 41000 C0 v w'/\Below W.heap.size W w') (hsv:¬ 0<=sgv)
  (hmo:¬ mo<q)
  (cM:∀ W v,NT 41000 C0 v W->Calls Tryz.prog 90 #[v,.int .i64 q,.int .i64 want,zAb n nm wd pr ex le mo pa dn] W fun r w'=>∃ v,r=.returned (.tuple #[v,.int .i64 x2])/\NT 41000 U v w'/\Below W.heap.size W w')
  (cB:∀ W v,NT 41000 U v W->CB 22 #[v] W (A4 U)) :
  CB 41 #[.int .i64 n,.int .i64 d,.bool s,.slice (some ⟨gv,0,none⟩) kv cv,vd,.int .i64 exp,.int .i64 want] w (.tuple #[DV 1 s false x2 U,.int .i64 0]):=by
 have hsm:=zAa
 have hq2:-(-q)=q:=by omega
 (try unfold DV at *)
 (try unfold A4 at *)
 go_enter Tryz.func41,Tryz.ntmps41
 go_wp2_with (first
  | (go_at_call 19;refine wk w (cO _) ?_;intro w1 hb1 _ _ _ _ hA1 _;clear hb1;have q1a:w.heap.size<w1.heap.size+1+1:=(by omega);have q1b:w1.heap.size<w1.heap.size+1+1:=(by omega))
  | (go_at_call 85;refine (cS1 _ bgo).mono ?_;rintro r w2 ⟨a1,b1,rfl,uA,uB,hb2⟩;clear cS1;obtain ⟨_,_,_,_,hA2,_⟩:=wz w hb2;obtain ⟨_,_,_,_⟩:=zg hb2 w1.heap.size (w1.heap.size+1);clear hb2)
  | (go_at_call 86;refine (cT _ _ _ uA uB).mono ?_;rintro r w3 ⟨rfl,hb3⟩;have uA3:=uA.next hb3;have uB3:=uB.next hb3;clear cT uA uB;obtain ⟨_,_,_,_,hA3,_⟩:=wz w hb3;obtain ⟨_,_,_,_⟩:=zg hb3 w1.heap.size (w1.heap.size+1);clear hb3)
  | (go_at_call 85;refine (cS2 _ _ _ uA3 uB3).mono ?_;rintro r w4 ⟨a2,b2,rfl,uC,uD,hb4⟩;clear cS2 uA3 uB3;obtain ⟨_,_,_,_,hA4,_⟩:=wz w hb4;obtain ⟨_,_,_,_⟩:=zg hb4 w1.heap.size (w1.heap.size+1);clear hb4)
  | (go_at_call 87;refine (cW _ _ _ uC uD).mono ?_;rintro r w5 ⟨vc,rfl,uE,hb5⟩;clear cW uC uD;obtain ⟨_,_,_,_,hA5,_⟩:=wz w hb5;obtain ⟨_,_,_,_⟩:=zg hb5 w1.heap.size (w1.heap.size+1);clear hb5)
  | (go_at_call 25;refine (cP _).mono ?_;rintro r w6 ⟨vp,rfl,uP,hb6⟩;have uE6:=uE.next hb6;clear cP uE;obtain ⟨_,_,_,_,hA6,_⟩:=wz w hb6;obtain ⟨_,_,_,_⟩:=zg hb6 w1.heap.size (w1.heap.size+1);clear hb6)
  | (go_at_call 42;refine (cC _ _ _ (uE6.nv.more (by decide)) uP).mono ?_;rintro r w0 ⟨rfl,rfl⟩;clear cC)
  | (go_at_call 90;refine (cM _ _ uE6).mono ?_;rintro r w8 ⟨v8,rfl,u8,hb8⟩;clear cM;obtain ⟨_,_,_,_,hA8,_⟩:=wz w hb8;obtain ⟨_,_,_,_⟩:=zg hb8 w1.heap.size (w1.heap.size+1);clear hb8)
  | (go_at_call 22;refine wk w (cB _ _ u8) ?_;intro w9 hb9 _ _ _ _ hA9 _;obtain ⟨_,_,_,_⟩:=zg hb9 w1.heap.size (w1.heap.size+1);clear hb9))
 exact bodyPost_ret (by simp only [results,Tryz.results41];go_simp) rfl ⟨rfl,bgo⟩
theorem rnd_ns (X:Bool)(P1 ML U:Nat)(x2:Int)(Fl:Int)
  (cW:∀ W a b,NT 7000 A a W->NT 7000 Z b W->Calls Tryz.prog 87 #[.int .i64 d,.bool s,a,b] W fun r w'=>∃ v,r=.returned (.tuple #[v,.bool false])/\NV 41002 C0 v w'/\Below W.heap.size W w') (hsv:¬ 0<=sgv)
  (hmo:¬ mo<q)
  (cB:∀ W v,NV 41002 C0 v W->CB 22 #[v] W (A4 C0)) (hlow:E<le+pr-1) :
  CB 41 #[.int .i64 n,.int .i64 d,.bool s,.slice (some ⟨gv,0,none⟩) kv cv,vd,.int .i64 exp,.int .i64 want] w (.tuple #[DV 1 s false (q) C0,.int .i64 12]):=by
 have hsm:=zAa
 have hq2:-(-q)=q:=by omega
 (try unfold DV at *)
 (try unfold A4 at *)
 go_enter Tryz.func41,Tryz.ntmps41
 go_wp2_with (first
  | (go_at_call 19;refine wk w (cO _) ?_;intro w1 hb1 _ _ _ _ hA1 _;clear hb1;have q1a:w.heap.size<w1.heap.size+1+1:=(by omega);have q1b:w1.heap.size<w1.heap.size+1+1:=(by omega))
  | (go_at_call 85;refine (cS1 _ bgo).mono ?_;rintro r w2 ⟨a1,b1,rfl,uA,uB,hb2⟩;clear cS1;obtain ⟨_,_,_,_,hA2,_⟩:=wz w hb2;obtain ⟨_,_,_,_⟩:=zg hb2 w1.heap.size (w1.heap.size+1);clear hb2)
  | (go_at_call 86;refine (cT _ _ _ uA uB).mono ?_;rintro r w3 ⟨rfl,hb3⟩;have uA3:=uA.next hb3;have uB3:=uB.next hb3;clear cT uA uB;obtain ⟨_,_,_,_,hA3,_⟩:=wz w hb3;obtain ⟨_,_,_,_⟩:=zg hb3 w1.heap.size (w1.heap.size+1);clear hb3)
  | (go_at_call 85;refine (cS2 _ _ _ uA3 uB3).mono ?_;rintro r w4 ⟨a2,b2,rfl,uC,uD,hb4⟩;clear cS2 uA3 uB3;obtain ⟨_,_,_,_,hA4,_⟩:=wz w hb4;obtain ⟨_,_,_,_⟩:=zg hb4 w1.heap.size (w1.heap.size+1);clear hb4)
  | (go_at_call 87;refine (cW _ _ _ uC uD).mono ?_;rintro r w5 ⟨vc,rfl,uE,hb5⟩;clear cW uC uD;obtain ⟨_,_,_,_,hA5,_⟩:=wz w hb5;obtain ⟨_,_,_,_⟩:=zg hb5 w1.heap.size (w1.heap.size+1);clear hb5)
  | (go_at_call 25;refine (cP _).mono ?_;rintro r w6 ⟨vp,rfl,uP,hb6⟩;have uE6:=uE.next hb6;clear cP uE;obtain ⟨_,_,_,_,hA6,_⟩:=wz w hb6;obtain ⟨_,_,_,_⟩:=zg hb6 w1.heap.size (w1.heap.size+1);clear hb6)
  | (go_at_call 42;refine (cC _ _ _ uE6 uP).mono ?_;rintro r w0 ⟨rfl,rfl⟩;clear cC)
  | (go_at_call 22;refine wk w (cB _ _ uE6) ?_;intro w9 hb9 _ _ _ _ hA9 _;obtain ⟨_,_,_,_⟩:=zg hb9 w1.heap.size (w1.heap.size+1);clear hb9))
 exact bodyPost_ret (by simp only [results,Tryz.results41];go_simp) rfl ⟨rfl,bgo⟩
theorem rnd_nr (X:Bool)(P1 ML U:Nat)(x2:Int)(Fl:Int)
  (cW:∀ W a b,NT 7000 A a W->NT 7000 Z b W->Calls Tryz.prog 87 #[.int .i64 d,.bool s,a,b] W fun r w'=>∃ v,r=.returned (.tuple #[v,.bool false])/\NV 41002 C0 v w'/\Below W.heap.size W w') (hsv:¬ 0<=sgv)
  (hmo:¬ mo<q)
  (cB:∀ W v,NV 41002 C0 v W->CB 22 #[v] W (A4 C0)) (hlow:¬ E<le+pr-1) :
  CB 41 #[.int .i64 n,.int .i64 d,.bool s,.slice (some ⟨gv,0,none⟩) kv cv,vd,.int .i64 exp,.int .i64 want] w (.tuple #[DV 1 s false (q) C0,.int .i64 8]):=by
 have hsm:=zAa
 have hq2:-(-q)=q:=by omega
 (try unfold DV at *)
 (try unfold A4 at *)
 go_enter Tryz.func41,Tryz.ntmps41
 go_wp2_with (first
  | (go_at_call 19;refine wk w (cO _) ?_;intro w1 hb1 _ _ _ _ hA1 _;clear hb1;have q1a:w.heap.size<w1.heap.size+1+1:=(by omega);have q1b:w1.heap.size<w1.heap.size+1+1:=(by omega))
  | (go_at_call 85;refine (cS1 _ bgo).mono ?_;rintro r w2 ⟨a1,b1,rfl,uA,uB,hb2⟩;clear cS1;obtain ⟨_,_,_,_,hA2,_⟩:=wz w hb2;obtain ⟨_,_,_,_⟩:=zg hb2 w1.heap.size (w1.heap.size+1);clear hb2)
  | (go_at_call 86;refine (cT _ _ _ uA uB).mono ?_;rintro r w3 ⟨rfl,hb3⟩;have uA3:=uA.next hb3;have uB3:=uB.next hb3;clear cT uA uB;obtain ⟨_,_,_,_,hA3,_⟩:=wz w hb3;obtain ⟨_,_,_,_⟩:=zg hb3 w1.heap.size (w1.heap.size+1);clear hb3)
  | (go_at_call 85;refine (cS2 _ _ _ uA3 uB3).mono ?_;rintro r w4 ⟨a2,b2,rfl,uC,uD,hb4⟩;clear cS2 uA3 uB3;obtain ⟨_,_,_,_,hA4,_⟩:=wz w hb4;obtain ⟨_,_,_,_⟩:=zg hb4 w1.heap.size (w1.heap.size+1);clear hb4)
  | (go_at_call 87;refine (cW _ _ _ uC uD).mono ?_;rintro r w5 ⟨vc,rfl,uE,hb5⟩;clear cW uC uD;obtain ⟨_,_,_,_,hA5,_⟩:=wz w hb5;obtain ⟨_,_,_,_⟩:=zg hb5 w1.heap.size (w1.heap.size+1);clear hb5)
  | (go_at_call 25;refine (cP _).mono ?_;rintro r w6 ⟨vp,rfl,uP,hb6⟩;have uE6:=uE.next hb6;clear cP uE;obtain ⟨_,_,_,_,hA6,_⟩:=wz w hb6;obtain ⟨_,_,_,_⟩:=zg hb6 w1.heap.size (w1.heap.size+1);clear hb6)
  | (go_at_call 42;refine (cC _ _ _ uE6 uP).mono ?_;rintro r w0 ⟨rfl,rfl⟩;clear cC)
  | (go_at_call 22;refine wk w (cB _ _ uE6) ?_;intro w9 hb9 _ _ _ _ hA9 _;obtain ⟨_,_,_,_⟩:=zg hb9 w1.heap.size (w1.heap.size+1);clear hb9))
 exact bodyPost_ret (by simp only [results,Tryz.results41];go_simp) rfl ⟨rfl,bgo⟩
theorem rnd_ci (X:Bool)(P1 ML U:Nat)(x2:Int)(Fl:Int)
  (cW:∀ W a b,NT 7000 A a W->NT 7000 Z b W->Calls Tryz.prog 87 #[.int .i64 d,.bool s,a,b] W fun r w'=>∃ v,r=.returned (.tuple #[v,.bool X])/\NV 41002 C0 v w'/\Below W.heap.size W w') (hsv:0<=sgv)
  (cP1:∀ W,CE 25 #[.int .u64 10,.int .i64 (pr-1)] W (NT 4000 P1))
  (hmo:mo<q+1)
  (cF:∀ W,CQ 88 #[.int .i64 d,.bool s] W (.bool true)) :
  CB 41 #[.int .i64 n,.int .i64 d,.bool s,.slice (some ⟨gv,0,none⟩) kv cv,vd,.int .i64 exp,.int .i64 want] w (.tuple #[.agg #[.int .i64 2,.bool s,.bool false,.int .i64 0,.int .u64 0,.int .u64 0,.int .u64 0,.int .u64 0],.int .i64 10]):=by
 have hsm:=zAa
 have hq2:-(-q)=q:=by omega
 (try unfold DV at *)
 (try unfold A4 at *)
 go_enter Tryz.func41,Tryz.ntmps41
 go_wp2_with (first
  | (go_at_call 19;refine wk w (cO _) ?_;intro w1 hb1 _ _ _ _ hA1 _;clear hb1;have q1a:w.heap.size<w1.heap.size+1+1:=(by omega);have q1b:w1.heap.size<w1.heap.size+1+1:=(by omega))
  | (go_at_call 85;refine (cS1 _ bgo).mono ?_;rintro r w2 ⟨a1,b1,rfl,uA,uB,hb2⟩;clear cS1;obtain ⟨_,_,_,_,hA2,_⟩:=wz w hb2;obtain ⟨_,_,_,_⟩:=zg hb2 w1.heap.size (w1.heap.size+1);clear hb2)
  | (go_at_call 86;refine (cT _ _ _ uA uB).mono ?_;rintro r w3 ⟨rfl,hb3⟩;have uA3:=uA.next hb3;have uB3:=uB.next hb3;clear cT uA uB;obtain ⟨_,_,_,_,hA3,_⟩:=wz w hb3;obtain ⟨_,_,_,_⟩:=zg hb3 w1.heap.size (w1.heap.size+1);clear hb3)
  | (go_at_call 85;refine (cS2 _ _ _ uA3 uB3).mono ?_;rintro r w4 ⟨a2,b2,rfl,uC,uD,hb4⟩;clear cS2 uA3 uB3;obtain ⟨_,_,_,_,hA4,_⟩:=wz w hb4;obtain ⟨_,_,_,_⟩:=zg hb4 w1.heap.size (w1.heap.size+1);clear hb4)
  | (go_at_call 87;refine (cW _ _ _ uC uD).mono ?_;rintro r w5 ⟨vc,rfl,uE,hb5⟩;clear cW uC uD;obtain ⟨_,_,_,_,hA5,_⟩:=wz w hb5;obtain ⟨_,_,_,_⟩:=zg hb5 w1.heap.size (w1.heap.size+1);clear hb5)
  | (go_at_call 25;refine (cP _).mono ?_;rintro r w6 ⟨vp,rfl,uP,hb6⟩;have uE6:=uE.next hb6;clear cP uE;obtain ⟨_,_,_,_,hA6,_⟩:=wz w hb6;obtain ⟨_,_,_,_⟩:=zg hb6 w1.heap.size (w1.heap.size+1);clear hb6)
  | (go_at_call 42;refine (cC _ _ _ uE6 uP).mono ?_;rintro r w0 ⟨rfl,rfl⟩;clear cC)
  | (go_at_call 25;refine (cP1 _).mono ?_;rintro r w7 ⟨v1,rfl,u1,hb7⟩;have uP7:=uP.next hb7;clear cP1;obtain ⟨_,_,_,_,hA7,_⟩:=wz w hb7;obtain ⟨_,_,_,_⟩:=zg hb7 w1.heap.size (w1.heap.size+1);clear hb7)
  | (go_at_call 88;refine (cF _).mono ?_;rintro r w0 ⟨rfl,rfl⟩))
 exact bodyPost_ret (by simp only [results,Tryz.results41];go_simp) rfl ⟨rfl,bgo⟩
theorem rnd_cm (X:Bool)(P1 ML U:Nat)(x2:Int)(Fl:Int)
  (cW:∀ W a b,NT 7000 A a W->NT 7000 Z b W->Calls Tryz.prog 87 #[.int .i64 d,.bool s,a,b] W fun r w'=>∃ v,r=.returned (.tuple #[v,.bool X])/\NV 41002 C0 v w'/\Below W.heap.size W w') (hsv:0<=sgv)
  (cP1:∀ W,CE 25 #[.int .u64 10,.int .i64 (pr-1)] W (NT 4000 P1))
  (hmo:mo<q+1)
  (cF:∀ W,CQ 88 #[.int .i64 d,.bool s] W (.bool false))
  (cL:∀ W v v',NT 4000 PP v W->NV 1 1 v' W->CE 89 #[v,v'] W (NV 4000 ML))
  (cB:∀ W v,NV 4000 ML v W->CB 22 #[v] W (A4 ML)) :
  CB 41 #[.int .i64 n,.int .i64 d,.bool s,.slice (some ⟨gv,0,none⟩) kv cv,vd,.int .i64 exp,.int .i64 want] w (.tuple #[DV 1 s false mo ML,.int .i64 10]):=by
 have hsm:=zAa
 have hq2:-(-q)=q:=by omega
 (try unfold DV at *)
 (try unfold A4 at *)
 go_enter Tryz.func41,Tryz.ntmps41
 go_wp2_with (first
  | (go_at_call 19;refine wk w (cO _) ?_;intro w1 hb1 _ _ _ _ hA1 _;clear hb1;have q1a:w.heap.size<w1.heap.size+1+1:=(by omega);have q1b:w1.heap.size<w1.heap.size+1+1:=(by omega))
  | (go_at_call 85;refine (cS1 _ bgo).mono ?_;rintro r w2 ⟨a1,b1,rfl,uA,uB,hb2⟩;clear cS1;obtain ⟨_,_,_,_,hA2,_⟩:=wz w hb2;obtain ⟨_,_,_,_⟩:=zg hb2 w1.heap.size (w1.heap.size+1);clear hb2)
  | (go_at_call 86;refine (cT _ _ _ uA uB).mono ?_;rintro r w3 ⟨rfl,hb3⟩;have uA3:=uA.next hb3;have uB3:=uB.next hb3;clear cT uA uB;obtain ⟨_,_,_,_,hA3,_⟩:=wz w hb3;obtain ⟨_,_,_,_⟩:=zg hb3 w1.heap.size (w1.heap.size+1);clear hb3)
  | (go_at_call 85;refine (cS2 _ _ _ uA3 uB3).mono ?_;rintro r w4 ⟨a2,b2,rfl,uC,uD,hb4⟩;clear cS2 uA3 uB3;obtain ⟨_,_,_,_,hA4,_⟩:=wz w hb4;obtain ⟨_,_,_,_⟩:=zg hb4 w1.heap.size (w1.heap.size+1);clear hb4)
  | (go_at_call 87;refine (cW _ _ _ uC uD).mono ?_;rintro r w5 ⟨vc,rfl,uE,hb5⟩;clear cW uC uD;obtain ⟨_,_,_,_,hA5,_⟩:=wz w hb5;obtain ⟨_,_,_,_⟩:=zg hb5 w1.heap.size (w1.heap.size+1);clear hb5)
  | (go_at_call 25;refine (cP _).mono ?_;rintro r w6 ⟨vp,rfl,uP,hb6⟩;have uE6:=uE.next hb6;clear cP uE;obtain ⟨_,_,_,_,hA6,_⟩:=wz w hb6;obtain ⟨_,_,_,_⟩:=zg hb6 w1.heap.size (w1.heap.size+1);clear hb6)
  | (go_at_call 42;refine (cC _ _ _ uE6 uP).mono ?_;rintro r w0 ⟨rfl,rfl⟩;clear cC)
  | (go_at_call 25;refine (cP1 _).mono ?_;rintro r w7 ⟨v1,rfl,u1,hb7⟩;have uP7:=uP.next hb7;clear cP1;obtain ⟨_,_,_,_,hA7,_⟩:=wz w hb7;obtain ⟨_,_,_,_⟩:=zg hb7 w1.heap.size (w1.heap.size+1);clear hb7)
  | (go_at_call 88;refine (cF _).mono ?_;rintro r w0 ⟨rfl,rfl⟩))
 go_region_with (first
  | (go_at_call 89;refine (cL _ _ _ (uP7.next bgo) ((zDb (W:=w7) (g:=w7.heap.size) (V:=1) (vi:=1) rfl rfl (by decide)).next bgo)).mono ?_;rintro r w8 ⟨v8,rfl,u8,hb8⟩;replace hb8:=zTg (w0:=w7) bgo hb8;obtain ⟨_,_,_,_,hA8,_⟩:=wz w hb8;obtain ⟨_,_,_,_⟩:=zg hb8 w1.heap.size (w1.heap.size+1);clear hb8)
  | (go_at_call 22;refine wk w (cB _ _ u8) ?_;intro w9 hb9 _ _ _ _ hA9 _;obtain ⟨_,_,_,_⟩:=zg hb9 w1.heap.size (w1.heap.size+1);clear hb9))
 all_goals go_wp2
 all_goals exact bodyPost_ret (by simp only [results,Tryz.results41];go_simp) rfl ⟨rfl,bgo⟩
theorem rnd_cs (X:Bool)(P1 ML U:Nat)(x2:Int)(Fl:Int)
  (cW:∀ W a b,NT 7000 A a W->NT 7000 Z b W->Calls Tryz.prog 87 #[.int .i64 d,.bool s,a,b] W fun r w'=>∃ v,r=.returned (.tuple #[v,.bool false])/\NV 41002 C0 v w'/\Below W.heap.size W w') (hsv:0<=sgv)
  (cP1:∀ W,CE 25 #[.int .u64 10,.int .i64 (pr-1)] W (NT 4000 P1))
  (hmo:¬ mo<q+1)
  (cB:∀ W v,NT 4000 P1 v W->CB 22 #[v] W (A4 P1)) (hlow:E<le+pr-1) :
  CB 41 #[.int .i64 n,.int .i64 d,.bool s,.slice (some ⟨gv,0,none⟩) kv cv,vd,.int .i64 exp,.int .i64 want] w (.tuple #[DV 1 s false (q+1) P1,.int .i64 12]):=by
 have hsm:=zAa
 have hq2:-(-q)=q:=by omega
 (try unfold DV at *)
 (try unfold A4 at *)
 go_enter Tryz.func41,Tryz.ntmps41
 go_wp2_with (first
  | (go_at_call 19;refine wk w (cO _) ?_;intro w1 hb1 _ _ _ _ hA1 _;clear hb1;have q1a:w.heap.size<w1.heap.size+1+1:=(by omega);have q1b:w1.heap.size<w1.heap.size+1+1:=(by omega))
  | (go_at_call 85;refine (cS1 _ bgo).mono ?_;rintro r w2 ⟨a1,b1,rfl,uA,uB,hb2⟩;clear cS1;obtain ⟨_,_,_,_,hA2,_⟩:=wz w hb2;obtain ⟨_,_,_,_⟩:=zg hb2 w1.heap.size (w1.heap.size+1);clear hb2)
  | (go_at_call 86;refine (cT _ _ _ uA uB).mono ?_;rintro r w3 ⟨rfl,hb3⟩;have uA3:=uA.next hb3;have uB3:=uB.next hb3;clear cT uA uB;obtain ⟨_,_,_,_,hA3,_⟩:=wz w hb3;obtain ⟨_,_,_,_⟩:=zg hb3 w1.heap.size (w1.heap.size+1);clear hb3)
  | (go_at_call 85;refine (cS2 _ _ _ uA3 uB3).mono ?_;rintro r w4 ⟨a2,b2,rfl,uC,uD,hb4⟩;clear cS2 uA3 uB3;obtain ⟨_,_,_,_,hA4,_⟩:=wz w hb4;obtain ⟨_,_,_,_⟩:=zg hb4 w1.heap.size (w1.heap.size+1);clear hb4)
  | (go_at_call 87;refine (cW _ _ _ uC uD).mono ?_;rintro r w5 ⟨vc,rfl,uE,hb5⟩;clear cW uC uD;obtain ⟨_,_,_,_,hA5,_⟩:=wz w hb5;obtain ⟨_,_,_,_⟩:=zg hb5 w1.heap.size (w1.heap.size+1);clear hb5)
  | (go_at_call 25;refine (cP _).mono ?_;rintro r w6 ⟨vp,rfl,uP,hb6⟩;have uE6:=uE.next hb6;clear cP uE;obtain ⟨_,_,_,_,hA6,_⟩:=wz w hb6;obtain ⟨_,_,_,_⟩:=zg hb6 w1.heap.size (w1.heap.size+1);clear hb6)
  | (go_at_call 42;refine (cC _ _ _ uE6 uP).mono ?_;rintro r w0 ⟨rfl,rfl⟩;clear cC)
  | (go_at_call 25;refine (cP1 _).mono ?_;rintro r w7 ⟨v1,rfl,u1,hb7⟩;have uP7:=uP.next hb7;clear cP1;obtain ⟨_,_,_,_,hA7,_⟩:=wz w hb7;obtain ⟨_,_,_,_⟩:=zg hb7 w1.heap.size (w1.heap.size+1);clear hb7)
  | (go_at_call 22;refine wk w (cB _ _ u1) ?_;intro w9 hb9 _ _ _ _ hA9 _;obtain ⟨_,_,_,_⟩:=zg hb9 w1.heap.size (w1.heap.size+1);clear hb9))
 exact bodyPost_ret (by simp only [results,Tryz.results41];go_simp) rfl ⟨rfl,bgo⟩
theorem rnd_cr (X:Bool)(P1 ML U:Nat)(x2:Int)(Fl:Int)
  (cW:∀ W a b,NT 7000 A a W->NT 7000 Z b W->Calls Tryz.prog 87 #[.int .i64 d,.bool s,a,b] W fun r w'=>∃ v,r=.returned (.tuple #[v,.bool false])/\NV 41002 C0 v w'/\Below W.heap.size W w') (hsv:0<=sgv)
  (cP1:∀ W,CE 25 #[.int .u64 10,.int .i64 (pr-1)] W (NT 4000 P1))
  (hmo:¬ mo<q+1)
  (cB:∀ W v,NT 4000 P1 v W->CB 22 #[v] W (A4 P1)) (hlow:¬ E<le+pr-1) :
  CB 41 #[.int .i64 n,.int .i64 d,.bool s,.slice (some ⟨gv,0,none⟩) kv cv,vd,.int .i64 exp,.int .i64 want] w (.tuple #[DV 1 s false (q+1) P1,.int .i64 8]):=by
 have hsm:=zAa
 have hq2:-(-q)=q:=by omega
 (try unfold DV at *)
 (try unfold A4 at *)
 go_enter Tryz.func41,Tryz.ntmps41
 go_wp2_with (first
  | (go_at_call 19;refine wk w (cO _) ?_;intro w1 hb1 _ _ _ _ hA1 _;clear hb1;have q1a:w.heap.size<w1.heap.size+1+1:=(by omega);have q1b:w1.heap.size<w1.heap.size+1+1:=(by omega))
  | (go_at_call 85;refine (cS1 _ bgo).mono ?_;rintro r w2 ⟨a1,b1,rfl,uA,uB,hb2⟩;clear cS1;obtain ⟨_,_,_,_,hA2,_⟩:=wz w hb2;obtain ⟨_,_,_,_⟩:=zg hb2 w1.heap.size (w1.heap.size+1);clear hb2)
  | (go_at_call 86;refine (cT _ _ _ uA uB).mono ?_;rintro r w3 ⟨rfl,hb3⟩;have uA3:=uA.next hb3;have uB3:=uB.next hb3;clear cT uA uB;obtain ⟨_,_,_,_,hA3,_⟩:=wz w hb3;obtain ⟨_,_,_,_⟩:=zg hb3 w1.heap.size (w1.heap.size+1);clear hb3)
  | (go_at_call 85;refine (cS2 _ _ _ uA3 uB3).mono ?_;rintro r w4 ⟨a2,b2,rfl,uC,uD,hb4⟩;clear cS2 uA3 uB3;obtain ⟨_,_,_,_,hA4,_⟩:=wz w hb4;obtain ⟨_,_,_,_⟩:=zg hb4 w1.heap.size (w1.heap.size+1);clear hb4)
  | (go_at_call 87;refine (cW _ _ _ uC uD).mono ?_;rintro r w5 ⟨vc,rfl,uE,hb5⟩;clear cW uC uD;obtain ⟨_,_,_,_,hA5,_⟩:=wz w hb5;obtain ⟨_,_,_,_⟩:=zg hb5 w1.heap.size (w1.heap.size+1);clear hb5)
  | (go_at_call 25;refine (cP _).mono ?_;rintro r w6 ⟨vp,rfl,uP,hb6⟩;have uE6:=uE.next hb6;clear cP uE;obtain ⟨_,_,_,_,hA6,_⟩:=wz w hb6;obtain ⟨_,_,_,_⟩:=zg hb6 w1.heap.size (w1.heap.size+1);clear hb6)
  | (go_at_call 42;refine (cC _ _ _ uE6 uP).mono ?_;rintro r w0 ⟨rfl,rfl⟩;clear cC)
  | (go_at_call 25;refine (cP1 _).mono ?_;rintro r w7 ⟨v1,rfl,u1,hb7⟩;have uP7:=uP.next hb7;clear cP1;obtain ⟨_,_,_,_,hA7,_⟩:=wz w hb7;obtain ⟨_,_,_,_⟩:=zg hb7 w1.heap.size (w1.heap.size+1);clear hb7)
  | (go_at_call 22;refine wk w (cB _ _ u1) ?_;intro w9 hb9 _ _ _ _ hA9 _;obtain ⟨_,_,_,_⟩:=zg hb9 w1.heap.size (w1.heap.size+1);clear hb9))
 exact bodyPost_ret (by simp only [results,Tryz.results41];go_simp) rfl ⟨rfl,bgo⟩
end
end
end Go.Proofs.YtpabnhlfbjkmaaaGreatDoor
