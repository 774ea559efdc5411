/-
  Texts that the proof leans on.
-/
import Derived.Test.YtahfkpjhlbiamaaGreatDoorR24
import Derived.Test.YtahfkpjhlbiamaaGreatDoorR1
set_option maxHeartbeats 8000000
set_option linter.unusedVariables false
set_option linter.unusedSectionVars false
set_option linter.unusedSimpArgs false
set_option maxRecDepth 20000
namespace Go.Proofs.YtahfkpjhlbiamaaGreatDoor
open Go.RowKit
section
section
variable (D:List UInt8)(e:Int)(w:World)(hT10:Tb10 w)(he:-100000<=e/\e<=100000)
include hT10 he
theorem zV7 (hD:D.length=1):CB 46 #[.string (B D),.int .i64 e] w (.string (B (unT D e))):=by
 have hi:=zQk he
 have c53:=fun W (h:Tb10 W)=>zIr e W (by omega) h
 have htl:=zRa
 have hsz:(B D).size=1:=by rw [zGa,hD]
 have HU:Hid (unT D e=(D++[101])++Lib.itoa e):=by
  show _=_
  unfold unT
  rw [if_neg (by omega),List.append_nil,List.take_of_length_le (by omega)]
 have ht:(B D).extract 0 1=B D:=by rw [zHq,List.drop_zero,List.take_of_length_le (by omega)]
 have p0:B D++(⟨#[101]⟩:ByteArray)=B (D++[101]):=zNm D [101]
 have z0:(B (D++[101])).size=2:=by rw [zGa,List.length_append,hD];rfl
 have p1:B (D++[101])++B (Lib.itoa e)=B ((D++[101])++Lib.itoa e):=zNm _ _
 obtain ⟨il,hil⟩:∃ il,(Lib.itoa e).length=il:=⟨_,rfl⟩
 have z2:(B (Lib.itoa e)).size=il:=by rw [zGa];exact hil
 have hil2:il<=100:=by omega
 have hemp:D.isEmpty=false:=by cases D with|nil=>exact absurd hD (by decide)|cons y ys=>rfl
 clear hD hi hil
 generalize hL0:D++[101]=L0 at *
 clear hL0
 generalize Lib.itoa e=I at *
 generalize hL1:L0++I=L1 at *
 clear hL1
 go_enter Tryz.func46,Tryz.ntmps46
 go_wp2_with (go_at_call 100;refine (c53 _ (hT10.next bgo)).mono ?_;rintro r w3 ⟨rfl,hb3⟩)
 go_ret
 exact ⟨by rw [HU.out];rfl,hb3⟩
theorem zU7 (hD:1<D.length)(hD2:D.length<=4000):CB 46 #[.string (B D),.int .i64 e] w (.string (B (unT D e))):=by
 have hi:=zQk he
 have c53:=fun W (h:Tb10 W)=>zIr e W (by omega) h
 have htl:=zRa
 obtain ⟨m,hm⟩:∃ m,D.length=m+2:=⟨D.length-2,by omega⟩
 have hsz:(B D).size=m+2:=by rw [zGa,hm]
 have HU:Hid (unT D e=((D.take 1++([46]++D.drop 1))++[101])++Lib.itoa e):=by
  show _=_
  unfold unT
  rw [if_pos hD]
 have ht:(B D).extract 0 1=B (D.take 1):=by rw [zHq,List.drop_zero]
 have hd:(B D).extract 1 (m+2)=B (D.drop 1):=by have:=B_drop D 1;rw [hsz] at this;exact this
 have hm2:m<=4000:=by omega
 have q0:(⟨#[46]⟩:ByteArray)++B (D.drop 1)=B ([46]++D.drop 1):=zNm [46] _
 have y0:(B (D.drop 1)).size=m+1:=by rw [zGa,List.length_drop,hm];omega
 have y1:(B ([46]++D.drop 1)).size=m+2:=by rw [zGa,List.length_append,List.length_drop,hm];simp;omega
 have y2:(B (D.take 1)).size=1:=by rw [zGa,List.length_take,hm];omega
 have p0:B (D.take 1)++B ([46]++D.drop 1)=B (D.take 1++([46]++D.drop 1)):=zNm _ _
 have z0:(B (D.take 1++([46]++D.drop 1))).size=m+3:=by rw [zGa] at y1 y2 ⊢;rw [List.length_append,y1,y2];omega
 have p1:B (D.take 1++([46]++D.drop 1))++(⟨#[101]⟩:ByteArray)=B ((D.take 1++([46]++D.drop 1))++[101]):=zNm _ [101]
 have z1:(B ((D.take 1++([46]++D.drop 1))++[101])).size=m+4:=by rw [zGa] at z0 ⊢;rw [List.length_append,z0];rfl
 have p2:B ((D.take 1++([46]++D.drop 1))++[101])++B (Lib.itoa e)=B (((D.take 1++([46]++D.drop 1))++[101])++Lib.itoa e):=zNm _ _
 obtain ⟨il,hil⟩:∃ il,(Lib.itoa e).length=il:=⟨_,rfl⟩
 have z2:(B (Lib.itoa e)).size=il:=by rw [zGa];exact hil
 have hil2:il<=100:=by omega
 have hemp:D.isEmpty=false:=by cases D with|nil=>exact absurd hD (by decide)|cons y ys=>rfl
 clear hD hD2 hm hi hil
 generalize Lib.itoa e=I at *
 generalize hL3:((D.take 1++([46]++D.drop 1))++[101])++I=L3 at *
 generalize hL2:(D.take 1++([46]++D.drop 1))++[101]=L2 at *
 generalize hL1:D.take 1++([46]++D.drop 1)=L1 at *
 generalize hL0:[46]++D.drop 1=L0 at *
 generalize hA:D.take 1=A0 at *
 generalize hB:D.drop 1=B0 at *
 clear hL3 hL2 hL1 hL0 hA hB
 go_enter Tryz.func46,Tryz.ntmps46
 go_wp2_with (go_at_call 100;refine (c53 _ (hT10.next bgo)).mono ?_;rintro r w3 ⟨rfl,hb3⟩)
 go_ret
 exact ⟨by rw [HU.out];rfl,hb3⟩
end
theorem zT7 (D:List UInt8)(e:Int)(w:World)(hT10:Tb10 w)(he:-100000<=e/\e<=100000)(hD:1<=D.length)(hD2:D.length<=4000):CB 46 #[.string (B D),.int .i64 e] w (.string (B (unT D e))):=by
 by_cases h:D.length=1
 ·exact zV7 D e w hT10 he h
 ·exact zU7 D e w hT10 he (by omega) hD2
end
end Go.Proofs.YtahfkpjhlbiamaaGreatDoor
