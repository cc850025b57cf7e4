import Derived.Test.YtknakfpciccoaaaGreatDoorZC8
import Derived.Test.YtknakfpciccoaaaGreatDoorZC2
import Derived.Test.YtknakfpciccoaaaGreatDoorZC7
import Derived.Test.YtknakfpciccoaaaGreatDoorZC5
/- The walk of the program's parser: a value without the blanks around it. -/
set_option maxHeartbeats 4000000
set_option maxRecDepth 100000
namespace Go.Proofs.YtknakfpciccoaaaGreatDoor
open Go.RowKit
theorem MW {f:Nat->Option (T×Nat)} {s:ByteArray} {j:Nat} (h1:cB s j≠34) (h2:cB s j≠91) (h3:cB s j≠123) (h4:¬ (cB s j=45\/oW (cB s j)=true)):bY f s j=sG s j:=by
 unfold bY sG;rw [if_neg h1,if_neg h2,if_neg h3,if_neg h4]
theorem U1 {s:ByteArray} {j a:Nat} (h:cB s j=a) (ha:a<256):pk s j=a:=by rw [aaD (by omega),h]
theorem PX {s:ByteArray} {j a:Nat} (h:cB s j≠a) (ha:0<a):pk s j≠a:=by
 unfold pk;split
 ·exact h
 ·omega
theorem Rq {Tb:World->Prop} (hD:cu Tb) (n:Nat) (s:ByteArray) (c:Nat) (hS:dZ Tb c) (j:Nat) (w:World) (h:PL c s j w) (hT:Tb w) (hs:s.size<=4000) (hj:j<=s.size) (hq:cB s j=34) :
  Calls Tryz.prog 140 #[.pointer (some ⟨c,0,none⟩)] w (sF (n+1) c s (bY (bZ s n) s j) id w):=by
 have HB0:=ak (aY w (.cells #[.int .i64 0,.int .i64 0,.string ⟨#[]⟩,.slice none 0 0,.slice none 0 0] 25));have gU:Hid (aJ w.heap.size (.int .i64 0) (.int .i64 0) (.string ⟨#[]⟩) (.slice none 0 0) (.slice none 0 0) (w.alloc (.cells #[.int .i64 0,.int .i64 0,.string ⟨#[]⟩,.slice none 0 0,.slice none 0 0] 25))):=aR w _ _ _ _ _;have hlc:=h.lt;have ny:=ak (h.keep HB0.out);have HT:=ak hT;have HS:=ak hS;have HD:=ak hD;have HP:=ak (pG c s j _ ny.out hj);have hpk:=U1 hq (by omega);have HX:Hid (bY (bZ s n) s j=(jL s j).map fun p=>(dh 4 0 p.1,p.2)):=by show _=_;unfold bY;rw [if_pos hq]
 clear h hT hS hD hq;go_in;go_wp2_with fail;refine HP.out.mono ?_;rintro e w1 ⟨rfl,b1⟩;have fK:=ak (ny.out.keep b1);have HR1:=ak (gU.out.JH b1);have HW1:=ak (bq.of (c:=c) (HB0.out.trans (b1.mono HB0.out.size)));have HT1:=ak (bq.stays HS.out HT.out HW1.out (Nat.le_of_lt hlc));have HA:=ak (Gn HD.out c HS.out s j w1 fK.out HT1.out hs hj);clear b1 HP gU HB0 ny;rw [hpk];go_wp2_with fail;refine HA.out.mono ?_;rintro e w2 ⟨B2,⟨x,k,hx,rfl,L2⟩ | ⟨hx,rfl⟩⟩
 ·have kG:=wD hx;have HL2:=ak L2;have HR2:=ak (HR1.out.move B2.size (B2.block _ HR1.out.lt (by omega)));have HW2:=ak (HW1.out.trans B2);have HZ:Hid (bY (bZ s n) s j=some (dh 4 0 x,k)):=by show _=_;rw [HX.out,hx];rfl
  clear B2 L2 HA HR1 HW1 fK hx;have r0:=HR2.out.q0;have r1:=HR2.out.q1;have r2:=HR2.out.q2;have r3:=HR2.out.q3;have r4:=HR2.out.q4;have s0:=HR2.out.f0;have s1:=HR2.out.f1;have s2:=HR2.out.f2;have s3:=HR2.out.f3;have s4:=HR2.out.f4;go_wp2_with fail;refine bodyPost_ret (v:=.agg #[.int .i64 4,.int .i64 0,.string x,.slice none 0 0,.slice none 0 0]) (by simp [results,Tryz.results140,go_sem, *]) rfl ?_;exact Er 4 0 x (by omega) (by omega) (by omega) (by omega) HZ.out HW2.out hlc HL2.out
 ·have HW2:=ak (HW1.out.trans B2);have HZ:Hid (bY (bZ s n) s j=none):=by show _=_;rw [HX.out,hx];rfl
  clear B2 hx;go_wp2_with fail;exact ⟨rfl,HW2.out,Or.inr ⟨HZ.out,rfl⟩⟩
theorem Rs {Tb:World->Prop} (n:Nat) (s:ByteArray) (ih:uU Tb s n) (c:Nat) (hS:dZ Tb c) (j:Nat) (w:World) (h:PL c s j w) (hT:Tb w) (hs:s.size<=4000) (hj:j<=s.size) (hn:s.size<j+n+1) (hq:cB s j=91) :
  Calls Tryz.prog 140 #[.pointer (some ⟨c,0,none⟩)] w (sF (n+1) c s (bY (bZ s n) s j) id w):=by
 have HB0:=ak (aY w (.cells #[.int .i64 0,.int .i64 0,.string ⟨#[]⟩,.slice none 0 0,.slice none 0 0] 25));have gU:Hid (aJ w.heap.size (.int .i64 0) (.int .i64 0) (.string ⟨#[]⟩) (.slice none 0 0) (.slice none 0 0) (w.alloc (.cells #[.int .i64 0,.int .i64 0,.string ⟨#[]⟩,.slice none 0 0,.slice none 0 0] 25))):=aR w _ _ _ _ _;have hlc:=h.lt;have ny:=ak (h.keep HB0.out);have HT:=ak hT;have HS:=ak hS;have HI:=ak ih;have HP:=ak (pG c s j _ ny.out hj);have hpk:=U1 hq (by omega);have HX:Hid (bY (bZ s n) s j=(jM (bZ s n) s false (j+1)).map fun r=>(aO 5 0 ByteArray.empty r.1.2 r.1.1,r.2)):=by show _=_;unfold bY;rw [if_neg (by omega),if_pos hq]
 have Hq:=ak hq;clear h hT hS ih hq;go_in;go_wp2_with fail;refine HP.out.mono ?_;rintro e w1 ⟨rfl,b1⟩;have fK:=ak (ny.out.keep b1);have HR1:=ak (gU.out.JH b1);have HW1:=ak (bq.of (c:=c) (HB0.out.trans (b1.mono HB0.out.size)));have HT1:=ak (bq.stays HS.out HT.out HW1.out (Nat.le_of_lt hlc));have HA:=ak (UQ n s HI.out c HS.out j w1 fK.out HT1.out hs Hq.out hn);have hl1:=HR1.out.lt;clear b1 HP gU HB0 ny;rw [hpk];go_wp2_with fail;refine HA.out.mono ?_;rintro e w2 ⟨B2,⟨t,k,es,A,B,C,D,hx,rfl,hF,hSp,L2⟩ | ⟨hx,rfl⟩⟩
 ·have HL2:=ak L2;have HR2:=ak (HR1.out.move B2.size (B2.block _ HR1.out.lt (by omega)));have HW2:=ak (HW1.out.trans B2);have HZ:Hid (bY (bZ s n) s j=some (t,k)):=by show _=_;rw [HX.out,hx]
  have HF:=ak hF;have Yp:=ak hSp;clear B2 L2 HA HR1 HW1 fK hx hF hSp;have r0:=HR2.out.q0;have r1:=HR2.out.q1;have r2:=HR2.out.q2;have r3:=HR2.out.q3;have r4:=HR2.out.q4;have s0:=HR2.out.f0;have s1:=HR2.out.f1;have s2:=HR2.out.f2;have s3:=HR2.out.f3;have s4:=HR2.out.f4;unfold iR at HF ⊢;go_wp2_with fail;refine bodyPost_ret (v:=.agg #[.int .i64 (aj t),.int .i64 (av t),.string (ay t),.slice A (nL t) B,.slice C (nK t) D]) (by simp [results,Tryz.results140,go_sem, *]) rfl ?_;exact PW HZ.out HW2.out hlc hl1 HF.out Yp.out HL2.out
 ·have HW2:=ak (HW1.out.trans B2);have HZ:Hid (bY (bZ s n) s j=none):=by show _=_;rw [HX.out,hx]
  clear B2 hx;go_wp2_with fail;exact ⟨rfl,HW2.out,Or.inr ⟨HZ.out,rfl⟩⟩
theorem JJ {Tb:World->Prop} (hD:cu Tb) (n:Nat) (s:ByteArray) (ih:uU Tb s n) (c:Nat) (hS:dZ Tb c) (j:Nat) (w:World) (h:PL c s j w) (hT:Tb w) (hs:s.size<=4000) (hj:j<=s.size) (hn:s.size<j+n+1) (hq:cB s j=123) :
  Calls Tryz.prog 140 #[.pointer (some ⟨c,0,none⟩)] w (sF (n+1) c s (bY (bZ s n) s j) id w):=by
 have HB0:=ak (aY w (.cells #[.int .i64 0,.int .i64 0,.string ⟨#[]⟩,.slice none 0 0,.slice none 0 0] 25));have gU:Hid (aJ w.heap.size (.int .i64 0) (.int .i64 0) (.string ⟨#[]⟩) (.slice none 0 0) (.slice none 0 0) (w.alloc (.cells #[.int .i64 0,.int .i64 0,.string ⟨#[]⟩,.slice none 0 0,.slice none 0 0] 25))):=aR w _ _ _ _ _;have hlc:=h.lt;have ny:=ak (h.keep HB0.out);have HT:=ak hT;have HS:=ak hS;have HD:=ak hD;have HI:=ak ih;have HP:=ak (pG c s j _ ny.out hj);have hpk:=U1 hq (by omega);have HX:Hid (bY (bZ s n) s j=(jM (bZ s n) s true (j+1)).map fun r=>(aO 6 0 ByteArray.empty r.1.2 r.1.1,r.2)):=by show _=_;unfold bY;rw [if_neg (by omega),if_neg (by omega),if_pos hq]
 have Hq:=ak hq;clear h hT hS hD ih hq;go_in;go_wp2_with fail;refine HP.out.mono ?_;rintro e w1 ⟨rfl,b1⟩;have fK:=ak (ny.out.keep b1);have HR1:=ak (gU.out.JH b1);have HW1:=ak (bq.of (c:=c) (HB0.out.trans (b1.mono HB0.out.size)));have HT1:=ak (bq.stays HS.out HT.out HW1.out (Nat.le_of_lt hlc));have HA:=ak (MS HD.out n s HI.out c HS.out j w1 fK.out HT1.out hs Hq.out hn);have hl1:=HR1.out.lt;clear b1 HP gU HB0 ny;rw [hpk];go_wp2_with fail;refine HA.out.mono ?_;rintro e w2 ⟨B2,⟨t,k,es,A,B,C,D,hx,rfl,hF,hSp,L2⟩ | ⟨hx,rfl⟩⟩
 ·have HL2:=ak L2;have HR2:=ak (HR1.out.move B2.size (B2.block _ HR1.out.lt (by omega)));have HW2:=ak (HW1.out.trans B2);have HZ:Hid (bY (bZ s n) s j=some (t,k)):=by show _=_;rw [HX.out,hx]
  have HF:=ak hF;have Yp:=ak hSp;clear B2 L2 HA HR1 HW1 fK hx hF hSp;have r0:=HR2.out.q0;have r1:=HR2.out.q1;have r2:=HR2.out.q2;have r3:=HR2.out.q3;have r4:=HR2.out.q4;have s0:=HR2.out.f0;have s1:=HR2.out.f1;have s2:=HR2.out.f2;have s3:=HR2.out.f3;have s4:=HR2.out.f4;unfold iR at HF ⊢;go_wp2_with fail;refine bodyPost_ret (v:=.agg #[.int .i64 (aj t),.int .i64 (av t),.string (ay t),.slice A (nL t) B,.slice C (nK t) D]) (by simp [results,Tryz.results140,go_sem, *]) rfl ?_;exact PW HZ.out HW2.out hlc hl1 HF.out Yp.out HL2.out
 ·have HW2:=ak (HW1.out.trans B2);have HZ:Hid (bY (bZ s n) s j=none):=by show _=_;rw [HX.out,hx]
  clear B2 hx;go_wp2_with fail;exact ⟨rfl,HW2.out,Or.inr ⟨HZ.out,rfl⟩⟩
theorem U2 {Tb:World->Prop} (hN:dK Tb) (n:Nat) (s:ByteArray) (c:Nat) (hS:dZ Tb c) (j:Nat) (w:World) (h:PL c s j w) (hT:Tb w) (hs:s.size<=4000) (hj:j<=s.size) (hq:cB s j=45\/oW (cB s j)=true) :
  Calls Tryz.prog 140 #[.pointer (some ⟨c,0,none⟩)] w (sF (n+1) c s (bY (bZ s n) s j) id w):=by
 have HB0:=ak (aY w (.cells #[.int .i64 0,.int .i64 0,.string ⟨#[]⟩,.slice none 0 0,.slice none 0 0] 25));have gU:Hid (aJ w.heap.size (.int .i64 0) (.int .i64 0) (.string ⟨#[]⟩) (.slice none 0 0) (.slice none 0 0) (w.alloc (.cells #[.int .i64 0,.int .i64 0,.string ⟨#[]⟩,.slice none 0 0,.slice none 0 0] 25))):=aR w _ _ _ _ _;have hlc:=h.lt;have ny:=ak (h.keep HB0.out);have HT:=ak hT;have HS:=ak hS;have HN:=ak hN;have HP:=ak (pG c s j _ ny.out hj)
 have hrg:45<=cB s j/\cB s j<=57:=by
  rcases hq with hq | hq
  ·omega
  ·unfold oW at hq;simp at hq;omega
 have hpk:pk s j=cB s j:=aaD (by omega);have HX:Hid (bY (bZ s n) s j=(rz s j).map fun p=>(dh 3 p.1 ByteArray.empty,p.2)):=by show _=_;unfold bY;rw [if_neg (by omega),if_neg (by omega),if_neg (by omega),if_pos hq]
 have Hq:=ak hq;obtain ⟨a,ha⟩:∃ a,cB s j=a:=⟨_,rfl⟩;have HG:Hid (a=45\/oW a=true):=by rw [<- ha];exact hq
 rw [ha] at hrg hpk;have Ha:=ak ha;clear h hT hS hN hq ha;have y1:((a:Int)==34)=false:=by rw [beq_eq_false_iff_ne];omega
 have y2:((a:Int)==91)=false:=by rw [beq_eq_false_iff_ne];omega
 have y3:((a:Int)==123)=false:=by rw [beq_eq_false_iff_ne];omega
 clear hrg;go_in;go_wp2_with fail;refine HP.out.mono ?_;rintro e w1 ⟨rfl,b1⟩;have fK:=ak (ny.out.keep b1);have HR1:=ak (gU.out.JH b1);have HW1:=ak (bq.of (c:=c) (HB0.out.trans (b1.mono HB0.out.size)));have HT1:=ak (bq.stays HS.out HT.out HW1.out (Nat.le_of_lt hlc));have HA:=ak (YP HN.out c HS.out s j w1 fK.out HT1.out hs Hq.out);clear b1 HP gU HB0 ny;rw [hpk];by_cases h45:a=45
 ·have y4:((a:Int)==45)=true:=by rw [beq_iff_eq];omega
  clear h45;go_wp2_with fail;refine HA.out.mono ?_;rintro e w2 ⟨B2,⟨v,k,hx,rfl,L2⟩ | ⟨hx,rfl⟩⟩
  ·have kG:=A9 hj hx;have HL2:=ak L2;have HR2:=ak (HR1.out.move B2.size (B2.block _ HR1.out.lt (by omega)));have HW2:=ak (HW1.out.trans B2);have HZ:Hid (bY (bZ s n) s j=some (dh 3 v ByteArray.empty,k)):=by show _=_;rw [HX.out,hx];rfl
   clear B2 L2 HA HR1 HW1 fK hx;have r0:=HR2.out.q0;have r1:=HR2.out.q1;have r2:=HR2.out.q2;have r3:=HR2.out.q3;have r4:=HR2.out.q4;have s0:=HR2.out.f0;have s1:=HR2.out.f1;have s2:=HR2.out.f2;have s3:=HR2.out.f3;have s4:=HR2.out.f4;go_wp2_with fail;refine bodyPost_ret (v:=.agg #[.int .i64 3,.int .i64 v,.string ⟨#[]⟩,.slice none 0 0,.slice none 0 0]) (by simp [results,Tryz.results140,go_sem, *]) rfl ?_;exact Er 3 v ByteArray.empty (by omega) (by omega) kG.2.2 (by simp) HZ.out HW2.out hlc HL2.out
  ·have HW2:=ak (HW1.out.trans B2);have HZ:Hid (bY (bZ s n) s j=none):=by show _=_;rw [HX.out,hx];rfl
   clear B2 hx;go_wp2_with fail;exact ⟨rfl,HW2.out,Or.inr ⟨HZ.out,rfl⟩⟩
 ·have y4:((a:Int)==45)=false:=by rw [beq_eq_false_iff_ne];omega
  have hd:oW a=true:=HG.out.resolve_left h45;have HDg:=ak (nR a w1);rw [hd] at HDg;clear h45 hd;go_wp2_with fail;refine HDg.out.mono ?_;rintro e w1' ⟨rfl,rfl⟩;go_wp2_with fail;refine HA.out.mono ?_;rintro e w2 ⟨B2,⟨v,k,hx,rfl,L2⟩ | ⟨hx,rfl⟩⟩
  ·have kG:=A9 hj hx;have HL2:=ak L2;have HR2:=ak (HR1.out.move B2.size (B2.block _ HR1.out.lt (by omega)));have HW2:=ak (HW1.out.trans B2);have HZ:Hid (bY (bZ s n) s j=some (dh 3 v ByteArray.empty,k)):=by show _=_;rw [HX.out,hx];rfl
   clear B2 L2 HA HR1 HW1 fK hx;have r0:=HR2.out.q0;have r1:=HR2.out.q1;have r2:=HR2.out.q2;have r3:=HR2.out.q3;have r4:=HR2.out.q4;have s0:=HR2.out.f0;have s1:=HR2.out.f1;have s2:=HR2.out.f2;have s3:=HR2.out.f3;have s4:=HR2.out.f4;go_wp2_with fail;refine bodyPost_ret (v:=.agg #[.int .i64 3,.int .i64 v,.string ⟨#[]⟩,.slice none 0 0,.slice none 0 0]) (by simp [results,Tryz.results140,go_sem, *]) rfl ?_;exact Er 3 v ByteArray.empty (by omega) (by omega) kG.2.2 (by simp) HZ.out HW2.out hlc HL2.out
  ·have HW2:=ak (HW1.out.trans B2);have HZ:Hid (bY (bZ s n) s j=none):=by show _=_;rw [HX.out,hx];rfl
   clear B2 hx;go_wp2_with fail;exact ⟨rfl,HW2.out,Or.inr ⟨HZ.out,rfl⟩⟩
theorem Rt (n:Nat) (s:ByteArray) (c:Nat) (j:Nat) (w:World) (h:PL c s j w) (hs:s.size<=4000) (hj:j<=s.size) (h1:cB s j≠34) (h2:cB s j≠91) (h3:cB s j≠123) (h4:¬ (cB s j=45\/oW (cB s j)=true)) :
  Calls Tryz.prog 140 #[.pointer (some ⟨c,0,none⟩)] w (sF (n+1) c s (bY (bZ s n) s j) id w):=by
 have HB0:=ak (aY w (.cells #[.int .i64 0,.int .i64 0,.string ⟨#[]⟩,.slice none 0 0,.slice none 0 0] 25));have gU:Hid (aJ w.heap.size (.int .i64 0) (.int .i64 0) (.string ⟨#[]⟩) (.slice none 0 0) (.slice none 0 0) (w.alloc (.cells #[.int .i64 0,.int .i64 0,.string ⟨#[]⟩,.slice none 0 0,.slice none 0 0] 25))):=aR w _ _ _ _ _;have hlc:=h.lt;have ny:=ak (h.keep HB0.out);have HP:=ak (pG c s j _ ny.out hj);have HX:=ak (MW (f:=bZ s n) h1 h2 h3 h4);have p1:=PX h1 (by omega);have p2:=PX h2 (by omega);have p3:=PX h3 (by omega);have p4:pk s j≠45:=PX (fun e=>h4 (Or.inl e)) (by omega);have p5:oW (pk s j)=false:=by rw [UK];simpa using fun e=>h4 (Or.inr e)
 clear h h1 h2 h3 h4;obtain ⟨a,ha⟩:∃ a,pk s j=a:=⟨_,rfl⟩;rw [ha] at HP p1 p2 p3 p4 p5;clear ha;have y1:((a:Int)==34)=false:=by rw [beq_eq_false_iff_ne];omega
 have y2:((a:Int)==91)=false:=by rw [beq_eq_false_iff_ne];omega
 have y3:((a:Int)==123)=false:=by rw [beq_eq_false_iff_ne];omega
 have y4:((a:Int)==45)=false:=by rw [beq_eq_false_iff_ne];omega
 clear p1 p2 p3 p4;go_in;go_wp2_with fail;refine HP.out.mono ?_;rintro e w1 ⟨rfl,b1⟩;have fK:=ak (ny.out.keep b1);have HR1:=ak (gU.out.JH b1);have HW1:=ak (bq.of (c:=c) (HB0.out.trans (b1.mono HB0.out.size)));have HA:=ak (U0 n c s j w1 fK.out hs hj);have HDg:=ak (nR a w1);rw [p5] at HDg;have hl1:=HR1.out.lt;clear b1 HP gU HB0 ny p5;go_wp2_with fail;refine HDg.out.mono ?_;rintro e w1' ⟨rfl,rfl⟩;go_wp2_with fail;refine HA.out.mono ?_;rintro e w2 ⟨B2,⟨t,k,es,A,B,C,D,hx,rfl,hF,hSp,L2⟩ | ⟨hx,rfl⟩⟩
 ·have HL2:=ak L2;have HR2:=ak (HR1.out.move B2.size (B2.block _ HR1.out.lt (by omega)));have HW2:=ak (HW1.out.trans B2);have HZ:Hid (bY (bZ s n) s j=some (t,k)):=by show _=_;rw [HX.out,hx]
  have HF:=ak hF;have Yp:=ak hSp;clear B2 L2 HA HR1 HW1 fK hx hF hSp;have r0:=HR2.out.q0;have r1:=HR2.out.q1;have r2:=HR2.out.q2;have r3:=HR2.out.q3;have r4:=HR2.out.q4;have s0:=HR2.out.f0;have s1:=HR2.out.f1;have s2:=HR2.out.f2;have s3:=HR2.out.f3;have s4:=HR2.out.f4;unfold iR at HF ⊢;go_wp2_with fail;refine bodyPost_ret (v:=.agg #[.int .i64 (aj t),.int .i64 (av t),.string (ay t),.slice A (nL t) B,.slice C (nK t) D]) (by simp [results,Tryz.results140,go_sem, *]) rfl ?_;exact PW HZ.out HW2.out hlc hl1 HF.out Yp.out HL2.out
 ·have HW2:=ak (HW1.out.trans B2);have HZ:Hid (bY (bZ s n) s j=none):=by show _=_;rw [HX.out,hx]
  clear B2 hx;go_wp2_with fail;exact ⟨rfl,HW2.out,Or.inr ⟨HZ.out,rfl⟩⟩
theorem U3 {Tb:World->Prop} (hD:cu Tb) (hN:dK Tb) (n:Nat) (s:ByteArray) (ih:uU Tb s n) (c:Nat) (hS:dZ Tb c) (j:Nat) (w:World) (h:PL c s j w) (hT:Tb w) (hs:s.size<=4000) (hj:j<=s.size) (hn:s.size<j+n+1) :
  Calls Tryz.prog 140 #[.pointer (some ⟨c,0,none⟩)] w (sF (n+1) c s (bY (bZ s n) s j) id w):=by
 by_cases h1:cB s j=34
 ·exact Rq hD n s c hS j w h hT hs hj h1
 by_cases h2:cB s j=91
 ·exact Rs n s ih c hS j w h hT hs hj hn h2
 by_cases h3:cB s j=123
 ·exact JJ hD n s ih c hS j w h hT hs hj hn h3
 by_cases h4:cB s j=45\/oW (cB s j)=true
 ·exact U2 hN n s c hS j w h hT hs hj h4
 ·exact Rt n s c j w h hs hj h1 h2 h3 h4
theorem abM {Tb:World->Prop} (hD:cu Tb) (hN:dK Tb) (n:Nat) (s:ByteArray) (hs:s.size<=4000) (ih:uU Tb s n):uU Tb s (n+1):=by
 intro c i w hS h hT hi hn;have HB0:=ak (aY w (.cells #[.int .i64 0,.int .i64 0,.string ⟨#[]⟩,.slice none 0 0,.slice none 0 0] 25));have gU:Hid (aJ w.heap.size (.int .i64 0) (.int .i64 0) (.string ⟨#[]⟩) (.slice none 0 0) (.slice none 0 0) (w.alloc (.cells #[.int .i64 0,.int .i64 0,.string ⟨#[]⟩,.slice none 0 0,.slice none 0 0] 25))):=aR w _ _ _ _ _;have hlc:=h.lt;have ny:=ak (h.keep HB0.out);have HT:=ak hT;have HS:=ak hS;have HD:=ak hD;have HN:=ak hN;have HI:=ak ih;have HK:=ak (su c s i _ ny.out hs hi);have hge:=jy s i;have hle:=lU hi;have HX:Hid (bZ s (n+1) i=bY (bZ s n) s (sk s i)):=by show _=_;rw [bZ]
 clear h hT hS hD hN ih;go_in;go_wp2_with fail;refine HK.out.mono ?_;rintro e w1 ⟨rfl,B1,L1⟩;have fK:=ak L1;have HR1:=ak (gU.out.move B1.size (B1.block _ gU.out.lt (by omega)));have HW1:=ak ((bq.of (c:=c) HB0.out).trans B1);have HT1:=ak (bq.stays HS.out HT.out HW1.out (Nat.le_of_lt hlc));have hz1:w.heap.size<w1.heap.size:=HR1.out.lt;have HC:=ak (U3 HD.out HN.out n s HI.out c HS.out (sk s i) w1 fK.out HT1.out hs hle (by omega));clear B1 L1 HK gU HB0 ny;go_wp2_with fail;refine HC.out.mono ?_;rintro e w2 ⟨B2,⟨t,j,es,A,B,C,D,hz,rfl,hF,hSp,L2⟩ | ⟨hz,rfl⟩⟩
 ·have kG:=jc (n+1) i t j hi (HX.out.trans hz);have HL2:=ak L2;have HR2:=ak (HR1.out.move B2.size (B2.block _ HR1.out.lt (by omega)));have HW2:=ak (HW1.out.trans B2);have HZ:Hid (bZ s (n+1) i=some (t,j)):=HX.out.trans hz;have HF:=ak hF;have Yp:=ak hSp;have hz2:w.heap.size<w2.heap.size:=HR2.out.lt;have hc2:c<w2.heap.size:=HL2.out.lt;clear B2 L2 HR1 HW1 fK HT1 hz HX hF hSp HC;have HB3:=ak (aY w2 (vC t A B C D));have Mj:Hid (aJ w2.heap.size (.int .i64 (aj t)) (.int .i64 (av t)) (.string (ay t)) (.slice A (nL t) B) (.slice C (nK t) D) (w2.alloc (vC t A B C D))):=aR w2 _ _ _ _ _;have Dh:=ak (su c s j _ (HL2.out.keep HB3.out) hs kG.2);unfold iR at HF ⊢;go_wp2_with fail;refine Dh.out.mono ?_;rintro e w4 ⟨rfl,B4,L4⟩;have uI:=ak L4;have U4:=ak (Mj.out.move B4.size (B4.block _ Mj.out.lt (by omega)));have B24:=(bq.of (c:=c) HB3.out).trans B4;have HR4:=ak (HR2.out.move B24.size (B24.block _ HR2.out.lt (by omega)));have HW4:=ak (HW2.out.trans B24);have HF4:=ak (HF.out.move fun b hb=>B24.block b (Yp.out.lies b hb).2 (by have:=(Yp.out.lies b hb).1;omega));have HS4:=ak (Yp.out.keep B24.size);clear B4 L4 B24 Dh Mj HB3 HR2 HW2 HF Yp HL2;have r0:=HR4.out.q0;have r1:=HR4.out.q1;have r2:=HR4.out.q2;have r3:=HR4.out.q3;have r4:=HR4.out.q4;have s0:=HR4.out.f0;have s1:=HR4.out.f1;have s2:=HR4.out.f2;have s3:=HR4.out.f3;have s4:=HR4.out.f4;have t0:=U4.out.q0;have t1:=U4.out.q1;have t2:=U4.out.q2;have t3:=U4.out.q3;have t4:=U4.out.q4
  go_wp2_with fail;refine bodyPost_ret (v:=.agg #[.int .i64 (aj t),.int .i64 (av t),.string (ay t),.slice A (nL t) B,.slice C (nK t) D]) (by simp [results,Tryz.results100,go_sem, *]) rfl ?_;exact PW HZ.out HW4.out hlc hz1 HF4.out HS4.out uI.out
 ·have HW2:=ak (HW1.out.trans B2);have HZ:Hid (bZ s (n+1) i=none):=HX.out.trans hz;clear B2 hz;go_wp2_with fail;exact ⟨rfl,HW2.out,Or.inr ⟨HZ.out,rfl⟩⟩
theorem aaE {Tb:World->Prop} (hD:cu Tb) (hN:dK Tb) (s:ByteArray) (hs:s.size<=4000):∀ n,uU Tb s n
 | 0=>fun c i w _ _ _ hi hn=>by omega
 | n+1=>abM hD hN n s hs (aaE hD hN s hs n)
theorem Ru (f:Nat):∀ (v:Value) (t:T) (w:World),At w f v t->f<=100000 ->
  Calls Tryz.prog 101 #[v] w fun e w'=>e=.returned (.int .i64 (dY f t))/\Below w.heap.size w w':=by
 induction f with
 | zero=>intro v t w h;exact h.elim
 | succ f ih =>
  intro v t w h hm;obtain ⟨g,La,Ka,Lc,Kc,hg,rfl,hf,hl,hk⟩:=h.open;have hg2:g=f:=by omega
  subst hg2;have hlen:=hf.l1;clear h hf hk hg;by_cases h5:gL t=true
  ·have e5:((aj t) != 5)=true/\((aj t != 6))=false\/((aj t) != 5)=false:=by
    simp only [gL,Bool.or_eq_true,beq_iff_eq] at h5;rcases h5 with h5 | h5<;>simp [h5]
   have Hr:Hid (dY (g+1) t=qR (dY g) t (nL t)+1):=by show dY (g+1) t=_;simp only [dY,h5,if_true]
   clear h5;rcases e5 with ⟨e5,e6⟩ | e5
   all_goals
    go_in;go_wp2_with fail;go_loopg [3,5,17] (nL t) (fun g' n z i wr=>∃ k:Nat,g'=nL t - k/\k<=nL t/\i=.int .i64 k/\n=.int .i64 (qR (dY g) t k:Nat)/\Below (w.heap.size+1) (w.alloc (vC t La Lc Ka Kc)) wr)
    case atStart=>exact ⟨0,rfl,Nat.zero_le _,rfl,rfl,Below.refl _ _⟩
    case round =>
     obtain ⟨k,rfl,hk,rfl,rfl,hb⟩:=hrel;obtain ⟨q0,q1,q2,q3,q4,hz,hbw⟩:=dz hb;have Hb:=ak hb;clear hb;have hd0:=I9 (Ja g) t k;by_cases hlt:k<nL t
     ·obtain ⟨b,o,A,B,C,D,rfl,hbl,p0,p1,p2,p3,p4,Ha⟩:=hl.out.shape hbw k hlt;have hd1:=Ja g (elt t k);have Hs:Hid (qR (dY g) t (k+1)=max (qR (dY g) t k) (dY g (elt t k))):=rfl;have HB1:=ak (aY wr (vC (elt t k) A B C D));have HA1:=ak (Ha.out.keep (hbw.trans (HB1.out.mono hbw.size)));go_wp2_with fail;refine (ih _ _ _ HA1.out (by omega)).mono ?_;rintro e w2 ⟨rfl,hb2⟩;have hb3:=Hb.out.trans ((HB1.out.trans (hb2.mono HB1.out.size)).mono (by omega));go_wp2_with fail
      all_goals
       go_roundg (nL t - (k+1))
       case rel=>exact ⟨k+1,rfl,by omega,by go_num,by rw [Hs.out];go_num,hb3⟩
       case measure=>omega
     ·go_wp2_with fail;go_ret;have hk2:k=nL t:=by omega
      subst hk2;refine ⟨aQ ?_,hbw⟩;rw [Hr.out];go_num
  ·have e5:((aj t) != 5)=true/\((aj t != 6))=true:=by
    simp only [gL,Bool.or_eq_true,beq_iff_eq,not_or] at h5;simp [h5]
   obtain ⟨e5,e6⟩:=e5;have Hr:Hid (dY (g+1) t=0):=by show dY (g+1) t=_;simp only [dY];rw [if_neg h5]
   clear h5;go_in;go_wp2_with fail;go_ret;exact ⟨aQ (by rw [Hr.out];rfl),aY _ _⟩
theorem Dw (f:Nat):∀ (v:Value) (t:T) (w:World),At w f v t ->
  Calls Tryz.prog 102 #[v] w fun e w'=>e=.returned (.bool (dU f t))/\Below w.heap.size w w':=by
 induction f with
 | zero=>intro v t w h;exact h.elim
 | succ f ih =>
  intro v t w h;obtain ⟨g,La,Ka,Lc,Kc,hg,rfl,hf,hl,hk⟩:=h.open;obtain rfl:f=g:=by omega
  have hlen:=hf.l1;have Dq:=hf.m1;clear h hf;have HB0:=ak (aY w (vC t La Lc Ka Kc));have HD:=ak (uQ Ka Kc t _ (hk.out.keep HB0.out) Dq);have Hr:Hid (dU (f+1) t=(iP t (nK t) || dw (dU f) t (nL t))):=rfl;generalize dU (f+1) t=r at Hr ⊢;cases hd:iP t (nK t) with
  | true =>
   rw [hd] at HD Hr;go_in;go_wp2_with fail;refine HD.out.mono ?_;rintro e w1 ⟨rfl,hb1⟩;have HB1:=ak (HB0.out.trans (hb1.mono HB0.out.size));clear hb1 HD;go_wp2_with fail;go_ret;exact ⟨aB (by rw [Hr.out];rfl),HB1.out⟩
  | false =>
   rw [hd] at HD Hr;go_in;go_wp2_with fail;refine HD.out.mono ?_;rintro e w1 ⟨rfl,hb1⟩
   have HB1:Hid (Below (w.heap.size+1) (w.alloc (vC t La Lc Ka Kc)) w1):=by
    show Below _ _ _;have:(w.alloc (vC t La Lc Ka Kc)).heap.size=w.heap.size+1:=by simp
    rw [this] at hb1;exact hb1
   obtain ⟨y0,y1,y2,y3,y4,hzy,ahp⟩:=dz HB1.out;clear hb1 HD HB0;go_wp2_with fail;go_loopg [4,12] (nL t) (fun g' z i wr=>∃ k:Nat,g'=nL t - k/\k<=nL t/\i=.int .i64 k/\Hid (dw (dU f) t k=false)/\Below (w.heap.size+1) (w.alloc (vC t La Lc Ka Kc)) wr)
   case atStart=>exact ⟨0,rfl,Nat.zero_le _,rfl,rfl,HB1.out⟩
   case round =>
    clear y0 y1 y2 y3 y4 hzy ahp HB1;obtain ⟨k,rfl,hk2,rfl,hd2,hb⟩:=hrel;obtain ⟨q0,q1,q2,q3,q4,hz,hbw⟩:=dz hb;have Hb:=ak hb;clear hb;by_cases hlt:k<nL t
    ·obtain ⟨b,o,A,B,C,D,rfl,hbl,p0,p1,p2,p3,p4,Ha⟩:=hl.out.shape hbw k hlt;have HB2:=ak (aY wr (vC (elt t k) A B C D));have HA1:=ak (Ha.out.keep (hbw.trans (HB2.out.mono hbw.size)));go_wp2_with fail;refine (ih _ _ _ HA1.out).mono ?_;rintro e w2 ⟨rfl,hb2⟩;have HB3:=ak (Hb.out.trans ((HB2.out.trans (hb2.mono HB2.out.size)).mono (by omega)));have wO:=ak (hbw.trans ((HB2.out.trans (hb2.mono HB2.out.size)).mono hbw.size));clear hb2;cases ht:dU f (elt t k) with
     | true =>
      have Hy:Hid (r=true):=by
       show r=true;rw [Hr.out,Bool.false_or];cases ha:dw (dU f) t (nL t) with
       | true=>rfl
       | false=>rw [(Jd.1 ha) k hlt] at ht;cases ht
      go_wp2_with fail;go_ret;exact ⟨aB Hy.out.symm,wO.out⟩
     | false =>
      have Hy:Hid (dw (dU f) t (k+1)=false):=by
       show (dw (dU f) t k || dU f (elt t k))=false;rw [hd2.out,ht];rfl
      go_wp2_with fail;go_roundg (nL t - (k+1))
      case rel=>exact ⟨k+1,rfl,by omega,by go_num,Hy,HB3.out⟩
      case measure=>omega
    ·obtain rfl:k=nL t:=by omega
     go_wp2_with fail;go_ret;exact ⟨aB (by rw [Hr.out,hd2.out];rfl),hbw⟩
section
variable {b : Option (ByteArray -> Option (T × ByteArray))} {s : ByteArray}
end
end Go.Proofs.YtknakfpciccoaaaGreatDoor
/- The walks of parseBytes and Decode. -/
namespace Go.Proofs.YtknakfpciccoaaaGreatDoor
open Go.RowKit
theorem Bv {w wr:World} {f lo b:Nat} {v:Value} {t:T} {es:List kS} (hB:Below w.heap.size w wr) (hF:gZ wr f v t es) (hS:ql lo wr es) (hb:w.heap.size<=b) (hlo:b<lo) (u0 u1 u2 u3 u4:Value) :
  Below w.heap.size w (((((wr.setCell ⟨b,0,none⟩ u0).setCell ⟨b,1,none⟩ u1).setCell ⟨b,2,none⟩ u2).setCell ⟨b,3,none⟩ u3).setCell ⟨b,4,none⟩ u4) /\
  gZ (((((wr.setCell ⟨b,0,none⟩ u0).setCell ⟨b,1,none⟩ u1).setCell ⟨b,2,none⟩ u2).setCell ⟨b,3,none⟩ u3).setCell ⟨b,4,none⟩ u4) f v t es /\
  ql w.heap.size (((((wr.setCell ⟨b,0,none⟩ u0).setCell ⟨b,1,none⟩ u1).setCell ⟨b,2,none⟩ u2).setCell ⟨b,3,none⟩ u3).setCell ⟨b,4,none⟩ u4) es:=by
 have hset:∀ (w1:World) (o:Nat) (u:Value) (b':Nat),b'≠b->(w1.setCell ⟨b,o,none⟩ u).heap[b']?=w1.heap[b']?:=fun w1 o u b' hb=>Below.heap_setCell _ _ _ _ (by simpa using hb);refine ⟨((((hB.setCell hb _).setCell hb _).setCell hb _).setCell hb _).setCell hb _,hF.move fun b' hb'=>?_,?_⟩
 ·have h1:=hS.lies b' hb';rw [hset _ _ _ _ (by omega),hset _ _ _ _ (by omega),hset _ _ _ _ (by omega),hset _ _ _ _ (by omega),hset _ _ _ _ (by omega)]
 ·exact (hS.lower (by omega)).keep (by simp [World.setCell])
def Okj (s:ByteArray) (t:T):Prop:=eJ s=0/\tJ s=t
theorem PY {s:ByteArray} (h:4000<s.size):eJ s=1:=by unfold eJ;rw [if_pos h]
theorem Rv {s:ByteArray} (hv:bZ s (s.size+1) 0=none):nO s=none:=by unfold nO;rw [hv];rfl
theorem Rw {s:ByteArray} {t:T} {j:Nat} (hv:bZ s (s.size+1) 0=some (t,j)) (h:sk s j≠s.size):nO s=none:=by unfold nO;rw [hv];simp only [Option.bind_some];rw [if_neg h]
theorem Es {s:ByteArray} {t:T} {j:Nat} (hv:bZ s (s.size+1) 0=some (t,j)) (h:sk s j=s.size):nO s=some t:=by unfold nO;rw [hv];simp only [Option.bind_some];rw [if_pos h]
theorem PZ {s:ByteArray} (h:s.size<=4000) (hf:nO s=none):eJ s=2:=by unfold eJ;rw [if_neg (by omega),hf];rfl
theorem P5 {s:ByteArray} {t:T} (h:s.size<=4000) (hf:nO s=some t):eJ s=if 12<dY (s.size+1) t then 3 else if dU (s.size+1) t=true then 4 else 0:=by unfold eJ;rw [if_neg (by omega),hf];rfl
theorem P6 {s:ByteArray} {t:T} (h0:eJ s=0) (hf:nO s=some t):tJ s=t:=by unfold tJ;rw [if_pos h0,hf];rfl
def Rx (s:ByteArray) (w:World) (e:Ending) (w':World):Prop :=
 Below w.heap.size w w'/\((∃ t es A B C D,Okj s t/\e=.returned (iR t A B C D)/\gZ w' 13 (iR t A B C D) t es/\ql w.heap.size w' es)\/(eJ s≠0/\e=gN (eJ s)))
theorem abN (w:World) (s:ByteArray):PL w.heap.size s 0 (w.alloc (.cells #[.string s,.int .i64 0] 134)):=by
 refine ⟨?_,?_,?_,?_⟩<;>simp [go_sem]
theorem Dx {Tb:World->Prop} (hD:cu Tb) (hN:dK Tb) (hL:aV Tb) (s:ByteArray) (w:World) (hs:s.size<=140737488355328) (hT:Tb w) :
  Calls Tryz.prog 57 #[.string s] w (Rx s w):=by
 have HT:=ak hT;clear hT;by_cases hlong:4000<s.size
 ·have HZ:=ak (PY hlong);have x1:decide ((4000:Int)<(s.size:Int))=true:=decide_eq_true (by omega);go_in;go_wp2_with fail;refine ⟨rfl,aY _ _,Or.inr ⟨by rw [HZ.out];omega,?_⟩⟩;rw [HZ.out]
 ·have hle:s.size<=4000:=by omega
  have x1:decide ((4000:Int)<(s.size:Int))=false:=decide_eq_false (by omega);have HB0:Hid (Below w.heap.size w ((w.alloc (.cells #[.int .i64 0,.int .i64 0,.string ⟨#[]⟩,.slice none 0 0,.slice none 0 0] 25)).alloc (.cells #[.string s,.int .i64 0] 134))):=(aY _ _).alloc (by simp) _;have gU:Hid (aJ w.heap.size (.int .i64 0) (.int .i64 0) (.string ⟨#[]⟩) (.slice none 0 0) (.slice none 0 0) ((w.alloc (.cells #[.int .i64 0,.int .i64 0,.string ⟨#[]⟩,.slice none 0 0,.slice none 0 0] 25)).alloc (.cells #[.string s,.int .i64 0] 134))):=(aR w _ _ _ _ _).move (by simp) (Below.heap_alloc _ _ _ (by simp))
  have ny:Hid (PL (w.heap.size+1) s 0 ((w.alloc (.cells #[.int .i64 0,.int .i64 0,.string ⟨#[]⟩,.slice none 0 0,.slice none 0 0] 25)).alloc (.cells #[.string s,.int .i64 0] 134))):=by
   have:=abN (w.alloc (.cells #[.int .i64 0,.int .i64 0,.string ⟨#[]⟩,.slice none 0 0,.slice none 0 0] 25)) s;show PL _ _ _ _;simpa using this
  have hst:dZ Tb (w.heap.size+1):=fun a b h1 h2=>hL w HT.out a b h1 (h2.mono (by omega));have HN:=ak (aaE hD hN s hle (s.size+1) (w.heap.size+1) 0 _ hst ny.out (hL _ HT.out _ _ HT.out HB0.out) (by omega) (by omega));have hz0:((w.alloc (.cells #[.int .i64 0,.int .i64 0,.string ⟨#[]⟩,.slice none 0 0,.slice none 0 0] 25)).alloc (.cells #[.string s,.int .i64 0] 134)).heap.size=w.heap.size+2:=by simp
  have TV:=ak hz0;clear hz0 ny hst hlong;go_in;go_wp2_with fail;refine HN.out.mono ?_;rintro e w1 ⟨B1,⟨t,j,es,A,B,C,D,hd,rfl,hF,hS,L1⟩ | ⟨hd,rfl⟩⟩
  ·have hl1:w.heap.size+2<=w1.heap.size:=by have:=B1.size;rw [TV.out] at this;exact this
   have HW1:=ak (HB0.out.trans ((B1.below (by rw [TV.out];omega)).mono (by omega)));have HR1:=ak (gU.out.move B1.size (B1.block _ gU.out.lt (by omega)));have hcnt:=Bj _ _ _ _ (by omega) hd;have kG:=jc _ _ _ _ (by omega) hd;have aeH:=ak hcnt.2;have hF1:=hF.keep hS ((Below.refl w1.heap.size w1).alloc (Nat.le_refl _) (vC t A B C D));have HF:=ak hF1
   have HS:Hid (ql (w.heap.size+2) w1 es):=by
    have:=hS;rw [TV.out] at this;exact this
   have Hd:=ak hd;have zL:=ak (aR w1 (.int .i64 (aj t)) (.int .i64 (av t)) (.string (ay t)) (.slice A (nL t) B) (.slice C (nK t) D));have fT:=ak (aY w1 (vC t A B C D));have HLa:=ak (L1.keep fT.out);have HRa:=ak (HR1.out.move fT.out.size (fT.out.block _ HR1.out.lt));have hq:=HLa.out.q1;have v0:=zL.out.q0;have v1:=zL.out.q1;have v2:=zL.out.q2;have v3:=zL.out.q3;have v4:=zL.out.q4;have alb:=lU kG.2;clear B1 L1 hF hF1 hS hd HN gU HB0 hcnt kG;unfold iR;by_cases h0:sk s j=s.size
   ·have aaF:=ak (Es Hd.out h0);have HeJ:=ak (P5 hle aaF.out);have x2:¬ ((sk s j:Int)<(s.size:Int)):=by omega
    have HI:=ak (Ru (s.size+1) _ t _ HF.out.at (by omega));unfold iR at HI;clear h0;go_wp2_with fail;refine HI.out.mono ?_;rintro e w3 ⟨rfl,hb3⟩;have hz1:(w1.alloc (vC t A B C D)).heap.size=w1.heap.size+1:=by simp
    have HF3:=ak (HF.out.keep (HS.out.keep fT.out.size) hb3);have Et:=ak ((HS.out.keep fT.out.size).keep hb3.size);have HR3:=ak (HRa.out.move hb3.size (hb3.block _ HRa.out.lt));have Mj:=ak (zL.out.move hb3.size (hb3.block _ zL.out.lt));have HW3:=ak ((HW1.out.trans (fT.out.mono (by omega))).trans (hb3.mono (by omega)));clear hb3 hz1 hq v0 v1 v2 v3 v4 HF HS HRa zL fT HLa HI HR1 HW1;have v0:=Mj.out.q0;have v1:=Mj.out.q1;have v2:=Mj.out.q2;have v3:=Mj.out.q3;have v4:=Mj.out.q4;by_cases hdp:12<dY (s.size+1) t
    ·have HZ:Hid (eJ s=3):=by show _=_;rw [HeJ.out,if_pos hdp]
     have x3:decide ((12:Int)<(dY (s.size+1) t:Int))=true:=decide_eq_true (by omega);clear hdp;go_wp2_with fail;refine ⟨rfl,HW3.out,Or.inr ⟨by rw [HZ.out];omega,?_⟩⟩;rw [HZ.out]
    ·have x3:decide ((12:Int)<(dY (s.size+1) t:Int))=false:=decide_eq_false (by omega);have HI2:=ak (Dw (s.size+1) _ t _ HF3.out.at);have Hdp:Hid (dY (s.size+1) t<=12):=by show _<=_;omega
     unfold iR at HI2;have aeI:Hid (eJ s=if dU (s.size+1) t=true then 4 else 0):=by show _=_;rw [HeJ.out,if_neg hdp]
     clear hdp HeJ;go_wp2_with fail;refine HI2.out.mono ?_;rintro e w4 ⟨rfl,hb4⟩;have HF4:=ak (UA (HF3.out.keep Et.out hb4) aeH.out Hdp.out);have HS4:=ak (Et.out.keep hb4.size);have HR4:=ak (HR3.out.move hb4.size (hb4.block _ HR3.out.lt));have U4:=ak (Mj.out.move hb4.size (hb4.block _ Mj.out.lt));have HW4:=ak (HW3.out.trans (hb4.mono HW3.out.size));clear hb4 v0 v1 v2 v3 v4 HF3 Et HR3 Mj HI2 HW3;have v0:=U4.out.q0;have v1:=U4.out.q1;have v2:=U4.out.q2;have v3:=U4.out.q3;have v4:=U4.out.q4;have r0:=HR4.out.q0;have r1:=HR4.out.q1;have r2:=HR4.out.q2;have r3:=HR4.out.q3;have r4:=HR4.out.q4;have s0:=HR4.out.f0;have s1:=HR4.out.f1;have s2:=HR4.out.f2;have s3:=HR4.out.f3;have s4:=HR4.out.f4;by_cases htw:dU (s.size+1) t=true
     ·have HZ:Hid (eJ s=4):=by show _=_;rw [aeI.out,if_pos htw]
      go_wp2_with fail;refine ⟨rfl,HW4.out,Or.inr ⟨by rw [HZ.out];omega,?_⟩⟩;rw [HZ.out]
     ·have ald:dU (s.size+1) t=false:=by simpa using htw
      have HZ:Hid (Okj s t):=by
       have h0:eJ s=0:=by rw [aeI.out,if_neg htw]
       exact ⟨h0,P6 h0 aaF.out⟩
      clear htw;go_wp2_with fail;refine bodyPost_ret (v:=iR t A B C D) (by simp [results,Tryz.results57,go_sem,iR, *]) rfl ?_;obtain ⟨p1,p2,p3⟩:=Bv HW4.out HF4.out HS4.out (Nat.le_refl _) (by omega) (.int .i64 (aj t)) (.int .i64 (av t)) (.string (ay t)) (.slice A (nL t) B) (.slice C (nK t) D);exact ⟨p1,Or.inl ⟨t,es,A,B,C,D,HZ.out,rfl,p2,p3⟩⟩
   ·have HZ:=ak (PZ hle (Rw Hd.out h0));have x2:(sk s j:Int)<(s.size:Int):=by omega
    clear h0;go_wp2_with fail;refine ⟨rfl,HW1.out.trans (fT.out.mono (by omega)),Or.inr ⟨by rw [HZ.out];omega,?_⟩⟩;rw [HZ.out]
  ·have HW1:=ak (HB0.out.trans ((B1.below (by rw [TV.out];omega)).mono (by omega)));have HZ:=ak (PZ hle (Rv hd));clear B1 hd;go_wp2_with fail;refine ⟨rfl,HW1.out,Or.inr ⟨by rw [HZ.out];omega,?_⟩⟩;rw [HZ.out]
def aaG (s:ByteArray) (lo:Nat) (v:Value) (w':World):Prop:=∃ t es A B C D,Okj s t/\v=iR t A B C D/\gZ w' 13 (iR t A B C D) t es/\ql lo w' es
def aaH (s:ByteArray) (n:Int):Prop:=n=eJ s/\eJ s≠0
theorem MX {Tb:World->Prop} (hD:cu Tb) (hN:dK Tb) (hL:aV Tb) (s:ByteArray) (b:Nat) (w:World) (hb:w.cell? ⟨b,0,none⟩=some (.string s)) (hlb:b<w.heap.size) (hs:s.size<=140737488355328) (hT:Tb w) :
  Calls Tryz.prog 56 #[.pointer (some ⟨b,0,none⟩)] w (ael (aaH s) (aaG s w.heap.size) w):=by
 have HB0:=ak (aY w (.cells #[.int .i64 0,.int .i64 0,.string ⟨#[]⟩,.slice none 0 0,.slice none 0 0] 25));have gU:Hid (aJ w.heap.size (.int .i64 0) (.int .i64 0) (.string ⟨#[]⟩) (.slice none 0 0) (.slice none 0 0) (w.alloc (.cells #[.int .i64 0,.int .i64 0,.string ⟨#[]⟩,.slice none 0 0,.slice none 0 0] 25))):=aR w _ _ _ _ _;have HN:=ak (Dx hD hN hL s _ hs (hL _ hT _ _ hT HB0.out))
 have TV:Hid ((w.alloc (.cells #[.int .i64 0,.int .i64 0,.string ⟨#[]⟩,.slice none 0 0,.slice none 0 0] 25)).heap.size=w.heap.size+1):=by
  show _=_;simp
 have HT:=ak hT;clear hT;go_in;go_wp2_with fail;refine HN.out.mono ?_;rintro e w1 ⟨B1,⟨t,es,A,B,C,D,hr,rfl,hF,hS⟩ | ⟨hr,rfl⟩⟩
 ·have HR1:=ak (gU.out.move B1.size (B1.block _ gU.out.lt));have HW1:=ak (HB0.out.trans (B1.mono (by rw [TV.out];omega)));have HF:=ak hF
  have HS:Hid (ql (w.heap.size+1) w1 es):=by
   have:=hS;rw [TV.out] at this;exact this
  have Hr:=ak hr;clear B1 hF hS hr HN gU HB0;have r0:=HR1.out.q0;have r1:=HR1.out.q1;have r2:=HR1.out.q2;have r3:=HR1.out.q3;have r4:=HR1.out.q4;have s0:=HR1.out.f0;have s1:=HR1.out.f1;have s2:=HR1.out.f2;have s3:=HR1.out.f3;have s4:=HR1.out.f4;unfold iR;go_wp2_with fail;refine bodyPost_ret (v:=iR t A B C D) (by simp [results,Tryz.results56,go_sem,iR, *]) rfl ?_;obtain ⟨p1,p2,p3⟩:=Bv HW1.out HF.out HS.out (Nat.le_refl _) (by omega) (.int .i64 (aj t)) (.int .i64 (av t)) (.string (ay t)) (.slice A (nL t) B) (.slice C (nK t) D);exact ⟨p1,Or.inl ⟨t,A,B,C,D,rfl,t,es,A,B,C,D,Hr.out,rfl,p2,p3⟩⟩
 ·have HW1:=ak (HB0.out.trans (B1.mono (by rw [TV.out];omega)));have Hr:=ak hr;clear B1 hr;go_wp2_with fail;exact ⟨rfl,HW1.out,Or.inr ⟨eJ s,⟨rfl,Hr.out⟩,rfl⟩⟩
def Eu (s:ByteArray) (w:World) (e:Ending) (w':World):Prop :=
 Below w.heap.size w w'/\((∃ t es A B C D,Okj s t/\e=.returned (.tuple #[iR t A B C D,.int .i64 0])/\gZ w' 13 (iR t A B C D) t es/\ql w.heap.size w' es)\/(eJ s≠0/\e=.returned (.tuple #[kW,.int .i64 (eJ s)])))
theorem Ry {Tb:World->Prop} (hD:cu Tb) (hN:dK Tb) (hL:aV Tb) (s:ByteArray) (w:World) (hs:s.size<=140737488355328) (hT:Tb w) :
  Calls Tryz.prog 22 #[.string s] w (Eu s w):=by
 have Rk:∀ (fn:Fn) (first cap:Array Value) (w:World),(Instr.makeFunc fn first cap).run Tryz.prog w=.ok (.func fn first cap) w:=fun _ _ _ _=>rfl;have HB0:Hid (Below w.heap.size w ((w.alloc (.cells #[.string s] 9)).alloc (.cells #[.int .i64 0,.int .i64 0,.string ⟨#[]⟩,.slice none 0 0,.slice none 0 0] 25))):=(aY _ _).alloc (by simp) _
 have TV:Hid (((w.alloc (.cells #[.string s] 9)).alloc (.cells #[.int .i64 0,.int .i64 0,.string ⟨#[]⟩,.slice none 0 0,.slice none 0 0] 25)).heap.size=w.heap.size+2):=by
  show _=_;simp
 have gU:Hid (aJ (w.heap.size+1) (.int .i64 0) (.int .i64 0) (.string ⟨#[]⟩) (.slice none 0 0) (.slice none 0 0) ((w.alloc (.cells #[.string s] 9)).alloc (.cells #[.int .i64 0,.int .i64 0,.string ⟨#[]⟩,.slice none 0 0,.slice none 0 0] 25))):=by
  have:=aR (w.alloc (.cells #[.string s] 9)) (.int .i64 0) (.int .i64 0) (.string ⟨#[]⟩) (.slice none 0 0) (.slice none 0 0);show aJ _ _ _ _ _ _ _;simpa using this
 have HA:=ak (attempt 56 (fun _ _=>rfl) (aaH s) (aaG s (w.heap.size+4)) (.pointer (some ⟨w.heap.size,0,none⟩)) ((w.alloc (.cells #[.string s] 9)).alloc (.cells #[.int .i64 0,.int .i64 0,.string ⟨#[]⟩,.slice none 0 0,.slice none 0 0] 25)) (by
  have hb1:Below w.heap.size w ((((w.alloc (.cells #[.string s] 9)).alloc (.cells #[.int .i64 0,.int .i64 0,.string ⟨#[]⟩,.slice none 0 0,.slice none 0 0] 25)).alloc (.cells #[.int .i64 0,.int .i64 0,.string ⟨#[]⟩,.slice none 0 0,.slice none 0 0] 25)).alloc (.cells #[.int .i64 0] 28)):=(HB0.out.alloc (by simp;omega) _).alloc (by simp;omega) _;have:=MX hD hN hL s w.heap.size ((((w.alloc (.cells #[.string s] 9)).alloc (.cells #[.int .i64 0,.int .i64 0,.string ⟨#[]⟩,.slice none 0 0,.slice none 0 0] 25)).alloc (.cells #[.int .i64 0,.int .i64 0,.string ⟨#[]⟩,.slice none 0 0,.slice none 0 0] 25)).alloc (.cells #[.int .i64 0] 28)) (by simp [go_sem]) (by simp;omega) hs (hL _ hT _ _ hT hb1);have e4:((((w.alloc (.cells #[.string s] 9)).alloc (.cells #[.int .i64 0,.int .i64 0,.string ⟨#[]⟩,.slice none 0 0,.slice none 0 0] 25)).alloc (.cells #[.int .i64 0,.int .i64 0,.string ⟨#[]⟩,.slice none 0 0,.slice none 0 0] 25)).alloc (.cells #[.int .i64 0] 28)).heap.size=w.heap.size+4:=by simp
  rw [e4] at this;exact this))
 clear hT;go_in;go_wp2_with fail;refine HA.out.mono ?_;rintro e w1 ⟨B1,⟨x,w2,rfl,⟨t,es,A,B,C,D,hr,rfl,hF,hS⟩,hab⟩ | ⟨n,⟨rfl,hr⟩,rfl⟩⟩
 ·have HR1:=ak (gU.out.move B1.size (B1.block _ gU.out.lt));have HW1:=ak (HB0.out.trans (B1.mono (by rw [TV.out];omega)))
  have HS:Hid (ql (w.heap.size+4) w1 es):=by
   have:=hab.size;exact hS.keep (by omega)
  have HF:Hid (gZ w1 13 (iR t A B C D) t es):=hF.move fun b hb=>hab.block b (by have:=(hS.lies b hb).1;rw [TV.out];omega);have Hr:=ak hr;clear B1 hF hS hr hab HA gU HB0;have r0:=HR1.out.q0;have r1:=HR1.out.q1;have r2:=HR1.out.q2;have r3:=HR1.out.q3;have r4:=HR1.out.q4;have s0:=HR1.out.f0;have s1:=HR1.out.f1;have s2:=HR1.out.f2;have s3:=HR1.out.f3;have s4:=HR1.out.f4;unfold iR;go_wp2_with fail;refine bodyPost_ret (v:=.tuple #[iR t A B C D,.int .i64 0]) (by simp [results,Tryz.results22,go_sem,iR, *]) rfl ?_;obtain ⟨p1,p2,p3⟩:=Bv HW1.out HF.out HS.out (show w.heap.size<=w.heap.size+1 by omega) (by omega) (.int .i64 (aj t)) (.int .i64 (av t)) (.string (ay t)) (.slice A (nL t) B) (.slice C (nK t) D);exact ⟨p1,Or.inl ⟨t,es,A,B,C,D,Hr.out,rfl,p2,p3⟩⟩
 ·have HR1:=ak (gU.out.move B1.size (B1.block _ gU.out.lt));have HW1:=ak (HB0.out.trans (B1.mono (by rw [TV.out];omega)));have Hr:=ak hr;clear B1 hr HA gU HB0;have r0:=HR1.out.q0;have r1:=HR1.out.q1;have r2:=HR1.out.q2;have r3:=HR1.out.q3;have r4:=HR1.out.q4;have s0:=HR1.out.f0;have s1:=HR1.out.f1;have s2:=HR1.out.f2;have s3:=HR1.out.f3;have s4:=HR1.out.f4;unfold kW;go_wp2_with fail;refine bodyPost_ret (v:=.tuple #[kW,.int .i64 (eJ s)]) (by simp [results,Tryz.results22,go_sem,kW, *]) rfl ?_;have hb:w.heap.size<=w.heap.size+1:=by omega
  exact ⟨((((HW1.out.setCell hb _).setCell hb _).setCell hb _).setCell hb _).setCell hb _,Or.inr ⟨Hr.out,rfl⟩⟩
end Go.Proofs.YtknakfpciccoaaaGreatDoor
