import Derived.Test.YtknakfpciccoaabGreatDoorZL8
import Derived.Test.YtknakfpciccoaabGreatDoorZL2
import Derived.Test.YtknakfpciccoaabGreatDoorZL7
import Derived.Test.YtknakfpciccoaabGreatDoorZL5
/- The walk of the program's parser: a value without the blanks around it. -/
set_option maxHeartbeats 4000000
set_option maxRecDepth 100000
namespace Go.Proofs.YtknakfpciccoaabGreatDoor
open Go.RowKit
theorem Mr {f:Nat->Option (T×Nat)} {s:ByteArray} {j:Nat} (h1:cB s j≠34) (h2:cB s j≠91) (h3:cB s j≠123) (h4:¬ (cB s j=45\/pz (cB s j)=true)):cO f s j=rW s j:=by
 unfold cO rW;rw [if_neg h1,if_neg h2,if_neg h3,if_neg h4]
theorem Uw {s:ByteArray} {j a:Nat} (h:cB s j=a) (ha:a<256):pk s j=a:=by rw [aaM (by omega),h]
theorem Pj {s:ByteArray} {j a:Nat} (h:cB s j≠a) (ha:0<a):pk s j≠a:=by
 unfold pk;split
 ·exact h
 ·omega
theorem QW {Tb:World->Prop} (hD:dn Tb) (n:Nat) (s:ByteArray) (c:Nat) (hS:eG Tb c) (j:Nat) (w:World) (h:PL c s j w) (hT:Tb w) (hs:s.size<=4000) (hj:j<=s.size) (hq:cB s j=34) :
  Calls Tryz.prog 72 #[.pointer (some ⟨c,0,none⟩)] w (rU (n+1) c s (cO (dh s n) s j) id w):=by
 have HB0:=aj (aQ w (.cells #[.int .i64 0,.int .i64 0,.string ⟨#[]⟩,.slice none 0 0,.slice none 0 0] 36));have gZ:Hid (aH w.heap.size (.int .i64 0) (.int .i64 0) (.string ⟨#[]⟩) (.slice none 0 0) (.slice none 0 0) (w.alloc (.cells #[.int .i64 0,.int .i64 0,.string ⟨#[]⟩,.slice none 0 0,.slice none 0 0] 36))):=aJ w _ _ _ _ _;have hlc:=h.lt;have nH:=aj (h.keep HB0.out);have HT:=aj hT;have HS:=aj hS;have HD:=aj hD;have HP:=aj (pQ c s j _ nH.out hj);have hpk:=Uw hq (by omega);have HX:Hid (cO (dh s n) s j=(jK s j).map fun p=>(cK 4 0 p.1,p.2)):=by show _=_;unfold cO;rw [if_pos hq]
 clear h hT hS hD hq;go_in;go_wp2_with fail;refine HP.out.mono ?_;rintro e w1 ⟨rfl,b1⟩;have fO:=aj (nH.out.keep b1);have HR1:=aj (gZ.out.Jl b1);have HW1:=aj (bI.of (c:=c) (HB0.out.trans (b1.mono HB0.out.size)));have HT1:=aj (bI.stays HS.out HT.out HW1.out (Nat.le_of_lt hlc));have HA:=aj (F4 HD.out c HS.out s j w1 fO.out HT1.out hs hj);clear b1 HP gZ HB0 nH;rw [hpk];go_wp2_with fail;refine HA.out.mono ?_;rintro e w2 ⟨B2,⟨x,k,hx,rfl,L2⟩ | ⟨hx,rfl⟩⟩
 ·have kC:=vW hx;have HL2:=aj L2;have HR2:=aj (HR1.out.move B2.size (B2.block _ HR1.out.lt (by omega)));have HW2:=aj (HW1.out.trans B2);have HZ:Hid (cO (dh s n) s j=some (cK 4 0 x,k)):=by show _=_;rw [HX.out,hx];rfl
  clear B2 L2 HA HR1 HW1 fO hx;have r0:=HR2.out.q0;have r1:=HR2.out.q1;have r2:=HR2.out.q2;have r3:=HR2.out.q3;have r4:=HR2.out.q4;have s0:=HR2.out.f0;have s1:=HR2.out.f1;have s2:=HR2.out.f2;have s3:=HR2.out.f3;have s4:=HR2.out.f4;go_wp2_with fail;refine bodyPost_ret (v:=.agg #[.int .i64 4,.int .i64 0,.string x,.slice none 0 0,.slice none 0 0]) (by simp [results,Tryz.results72,go_sem, *]) rfl ?_;exact D5 4 0 x (by omega) (by omega) (by omega) (by omega) HZ.out HW2.out hlc HL2.out
 ·have HW2:=aj (HW1.out.trans B2);have HZ:Hid (cO (dh s n) s j=none):=by show _=_;rw [HX.out,hx];rfl
  clear B2 hx;go_wp2_with fail;exact ⟨rfl,HW2.out,Or.inr ⟨HZ.out,rfl⟩⟩
theorem QX {Tb:World->Prop} (n:Nat) (s:ByteArray) (ih:uH Tb s n) (c:Nat) (hS:eG Tb c) (j:Nat) (w:World) (h:PL c s j w) (hT:Tb w) (hs:s.size<=4000) (hj:j<=s.size) (hn:s.size<j+n+1) (hq:cB s j=91) :
  Calls Tryz.prog 72 #[.pointer (some ⟨c,0,none⟩)] w (rU (n+1) c s (cO (dh s n) s j) id w):=by
 have HB0:=aj (aQ w (.cells #[.int .i64 0,.int .i64 0,.string ⟨#[]⟩,.slice none 0 0,.slice none 0 0] 36));have gZ:Hid (aH w.heap.size (.int .i64 0) (.int .i64 0) (.string ⟨#[]⟩) (.slice none 0 0) (.slice none 0 0) (w.alloc (.cells #[.int .i64 0,.int .i64 0,.string ⟨#[]⟩,.slice none 0 0,.slice none 0 0] 36))):=aJ w _ _ _ _ _;have hlc:=h.lt;have nH:=aj (h.keep HB0.out);have HT:=aj hT;have HS:=aj hS;have HI:=aj ih;have HP:=aj (pQ c s j _ nH.out hj);have hpk:=Uw hq (by omega);have HX:Hid (cO (dh s n) s j=(jL (dh s n) s false (j+1)).map fun r=>(aX 5 0 ByteArray.empty r.1.2 r.1.1,r.2)):=by show _=_;unfold cO;rw [if_neg (by omega),if_pos hq]
 have Hq:=aj hq;clear h hT hS ih hq;go_in;go_wp2_with fail;refine HP.out.mono ?_;rintro e w1 ⟨rfl,b1⟩;have fO:=aj (nH.out.keep b1);have HR1:=aj (gZ.out.Jl b1);have HW1:=aj (bI.of (c:=c) (HB0.out.trans (b1.mono HB0.out.size)));have HT1:=aj (bI.stays HS.out HT.out HW1.out (Nat.le_of_lt hlc));have HA:=aj (Uq n s HI.out c HS.out j w1 fO.out HT1.out hs Hq.out hn);have hl1:=HR1.out.lt;clear b1 HP gZ HB0 nH;rw [hpk];go_wp2_with fail;refine HA.out.mono ?_;rintro e w2 ⟨B2,⟨t,k,es,A,B,C,D,hx,rfl,hF,hSp,L2⟩ | ⟨hx,rfl⟩⟩
 ·have HL2:=aj L2;have HR2:=aj (HR1.out.move B2.size (B2.block _ HR1.out.lt (by omega)));have HW2:=aj (HW1.out.trans B2);have HZ:Hid (cO (dh s n) s j=some (t,k)):=by show _=_;rw [HX.out,hx]
  have HF:=aj hF;have Yp:=aj hSp;clear B2 L2 HA HR1 HW1 fO hx hF hSp;have r0:=HR2.out.q0;have r1:=HR2.out.q1;have r2:=HR2.out.q2;have r3:=HR2.out.q3;have r4:=HR2.out.q4;have s0:=HR2.out.f0;have s1:=HR2.out.f1;have s2:=HR2.out.f2;have s3:=HR2.out.f3;have s4:=HR2.out.f4;unfold iU at HF ⊢;go_wp2_with fail;refine bodyPost_ret (v:=.agg #[.int .i64 (ah t),.int .i64 (au t),.string (ay t),.slice A (nL t) B,.slice C (nK t) D]) (by simp [results,Tryz.results72,go_sem, *]) rfl ?_;exact Ph HZ.out HW2.out hlc hl1 HF.out Yp.out HL2.out
 ·have HW2:=aj (HW1.out.trans B2);have HZ:Hid (cO (dh s n) s j=none):=by show _=_;rw [HX.out,hx]
  clear B2 hx;go_wp2_with fail;exact ⟨rfl,HW2.out,Or.inr ⟨HZ.out,rfl⟩⟩
theorem Jm {Tb:World->Prop} (hD:dn Tb) (n:Nat) (s:ByteArray) (ih:uH Tb s n) (c:Nat) (hS:eG Tb c) (j:Nat) (w:World) (h:PL c s j w) (hT:Tb w) (hs:s.size<=4000) (hj:j<=s.size) (hn:s.size<j+n+1) (hq:cB s j=123) :
  Calls Tryz.prog 72 #[.pointer (some ⟨c,0,none⟩)] w (rU (n+1) c s (cO (dh s n) s j) id w):=by
 have HB0:=aj (aQ w (.cells #[.int .i64 0,.int .i64 0,.string ⟨#[]⟩,.slice none 0 0,.slice none 0 0] 36));have gZ:Hid (aH w.heap.size (.int .i64 0) (.int .i64 0) (.string ⟨#[]⟩) (.slice none 0 0) (.slice none 0 0) (w.alloc (.cells #[.int .i64 0,.int .i64 0,.string ⟨#[]⟩,.slice none 0 0,.slice none 0 0] 36))):=aJ w _ _ _ _ _;have hlc:=h.lt;have nH:=aj (h.keep HB0.out);have HT:=aj hT;have HS:=aj hS;have HD:=aj hD;have HI:=aj ih;have HP:=aj (pQ c s j _ nH.out hj);have hpk:=Uw hq (by omega);have HX:Hid (cO (dh s n) s j=(jL (dh s n) s true (j+1)).map fun r=>(aX 6 0 ByteArray.empty r.1.2 r.1.1,r.2)):=by show _=_;unfold cO;rw [if_neg (by omega),if_neg (by omega),if_pos hq]
 have Hq:=aj hq;clear h hT hS hD ih hq;go_in;go_wp2_with fail;refine HP.out.mono ?_;rintro e w1 ⟨rfl,b1⟩;have fO:=aj (nH.out.keep b1);have HR1:=aj (gZ.out.Jl b1);have HW1:=aj (bI.of (c:=c) (HB0.out.trans (b1.mono HB0.out.size)));have HT1:=aj (bI.stays HS.out HT.out HW1.out (Nat.le_of_lt hlc));have HA:=aj (Mj HD.out n s HI.out c HS.out j w1 fO.out HT1.out hs Hq.out hn);have hl1:=HR1.out.lt;clear b1 HP gZ HB0 nH;rw [hpk];go_wp2_with fail;refine HA.out.mono ?_;rintro e w2 ⟨B2,⟨t,k,es,A,B,C,D,hx,rfl,hF,hSp,L2⟩ | ⟨hx,rfl⟩⟩
 ·have HL2:=aj L2;have HR2:=aj (HR1.out.move B2.size (B2.block _ HR1.out.lt (by omega)));have HW2:=aj (HW1.out.trans B2);have HZ:Hid (cO (dh s n) s j=some (t,k)):=by show _=_;rw [HX.out,hx]
  have HF:=aj hF;have Yp:=aj hSp;clear B2 L2 HA HR1 HW1 fO hx hF hSp;have r0:=HR2.out.q0;have r1:=HR2.out.q1;have r2:=HR2.out.q2;have r3:=HR2.out.q3;have r4:=HR2.out.q4;have s0:=HR2.out.f0;have s1:=HR2.out.f1;have s2:=HR2.out.f2;have s3:=HR2.out.f3;have s4:=HR2.out.f4;unfold iU at HF ⊢;go_wp2_with fail;refine bodyPost_ret (v:=.agg #[.int .i64 (ah t),.int .i64 (au t),.string (ay t),.slice A (nL t) B,.slice C (nK t) D]) (by simp [results,Tryz.results72,go_sem, *]) rfl ?_;exact Ph HZ.out HW2.out hlc hl1 HF.out Yp.out HL2.out
 ·have HW2:=aj (HW1.out.trans B2);have HZ:Hid (cO (dh s n) s j=none):=by show _=_;rw [HX.out,hx]
  clear B2 hx;go_wp2_with fail;exact ⟨rfl,HW2.out,Or.inr ⟨HZ.out,rfl⟩⟩
theorem Ux {Tb:World->Prop} (hN:dO Tb) (n:Nat) (s:ByteArray) (c:Nat) (hS:eG Tb c) (j:Nat) (w:World) (h:PL c s j w) (hT:Tb w) (hs:s.size<=4000) (hj:j<=s.size) (hq:cB s j=45\/pz (cB s j)=true) :
  Calls Tryz.prog 72 #[.pointer (some ⟨c,0,none⟩)] w (rU (n+1) c s (cO (dh s n) s j) id w):=by
 have HB0:=aj (aQ w (.cells #[.int .i64 0,.int .i64 0,.string ⟨#[]⟩,.slice none 0 0,.slice none 0 0] 36));have gZ:Hid (aH w.heap.size (.int .i64 0) (.int .i64 0) (.string ⟨#[]⟩) (.slice none 0 0) (.slice none 0 0) (w.alloc (.cells #[.int .i64 0,.int .i64 0,.string ⟨#[]⟩,.slice none 0 0,.slice none 0 0] 36))):=aJ w _ _ _ _ _;have hlc:=h.lt;have nH:=aj (h.keep HB0.out);have HT:=aj hT;have HS:=aj hS;have HN:=aj hN;have HP:=aj (pQ c s j _ nH.out hj)
 have hrg:45<=cB s j/\cB s j<=57:=by
  rcases hq with hq | hq
  ·omega
  ·unfold pz at hq;simp at hq;omega
 have hpk:pk s j=cB s j:=aaM (by omega);have HX:Hid (cO (dh s n) s j=(qY s j).map fun p=>(cK 3 p.1 ByteArray.empty,p.2)):=by show _=_;unfold cO;rw [if_neg (by omega),if_neg (by omega),if_neg (by omega),if_pos hq]
 have Hq:=aj hq;obtain ⟨a,ha⟩:∃ a,cB s j=a:=⟨_,rfl⟩;have HG:Hid (a=45\/pz a=true):=by rw [<- ha];exact hq
 rw [ha] at hrg hpk;have Ha:=aj ha;clear h hT hS hN hq ha;have y1:((a:Int)==34)=false:=by rw [beq_eq_false_iff_ne];omega
 have y2:((a:Int)==91)=false:=by rw [beq_eq_false_iff_ne];omega
 have y3:((a:Int)==123)=false:=by rw [beq_eq_false_iff_ne];omega
 clear hrg;go_in;go_wp2_with fail;refine HP.out.mono ?_;rintro e w1 ⟨rfl,b1⟩;have fO:=aj (nH.out.keep b1);have HR1:=aj (gZ.out.Jl b1);have HW1:=aj (bI.of (c:=c) (HB0.out.trans (b1.mono HB0.out.size)));have HT1:=aj (bI.stays HS.out HT.out HW1.out (Nat.le_of_lt hlc));have HA:=aj (YQ HN.out c HS.out s j w1 fO.out HT1.out hs Hq.out);clear b1 HP gZ HB0 nH;rw [hpk];by_cases h45:a=45
 ·have y4:((a:Int)==45)=true:=by rw [beq_iff_eq];omega
  clear h45;go_wp2_with fail;refine HA.out.mono ?_;rintro e w2 ⟨B2,⟨v,k,hx,rfl,L2⟩ | ⟨hx,rfl⟩⟩
  ·have kC:=Ao hj hx;have HL2:=aj L2;have HR2:=aj (HR1.out.move B2.size (B2.block _ HR1.out.lt (by omega)));have HW2:=aj (HW1.out.trans B2);have HZ:Hid (cO (dh s n) s j=some (cK 3 v ByteArray.empty,k)):=by show _=_;rw [HX.out,hx];rfl
   clear B2 L2 HA HR1 HW1 fO hx;have r0:=HR2.out.q0;have r1:=HR2.out.q1;have r2:=HR2.out.q2;have r3:=HR2.out.q3;have r4:=HR2.out.q4;have s0:=HR2.out.f0;have s1:=HR2.out.f1;have s2:=HR2.out.f2;have s3:=HR2.out.f3;have s4:=HR2.out.f4;go_wp2_with fail;refine bodyPost_ret (v:=.agg #[.int .i64 3,.int .i64 v,.string ⟨#[]⟩,.slice none 0 0,.slice none 0 0]) (by simp [results,Tryz.results72,go_sem, *]) rfl ?_;exact D5 3 v ByteArray.empty (by omega) (by omega) kC.2.2 (by simp) HZ.out HW2.out hlc HL2.out
  ·have HW2:=aj (HW1.out.trans B2);have HZ:Hid (cO (dh s n) s j=none):=by show _=_;rw [HX.out,hx];rfl
   clear B2 hx;go_wp2_with fail;exact ⟨rfl,HW2.out,Or.inr ⟨HZ.out,rfl⟩⟩
 ·have y4:((a:Int)==45)=false:=by rw [beq_eq_false_iff_ne];omega
  have hd:pz a=true:=HG.out.resolve_left h45;have HDg:=aj (om a w1);rw [hd] at HDg;clear h45 hd;go_wp2_with fail;refine HDg.out.mono ?_;rintro e w1' ⟨rfl,rfl⟩;go_wp2_with fail;refine HA.out.mono ?_;rintro e w2 ⟨B2,⟨v,k,hx,rfl,L2⟩ | ⟨hx,rfl⟩⟩
  ·have kC:=Ao hj hx;have HL2:=aj L2;have HR2:=aj (HR1.out.move B2.size (B2.block _ HR1.out.lt (by omega)));have HW2:=aj (HW1.out.trans B2);have HZ:Hid (cO (dh s n) s j=some (cK 3 v ByteArray.empty,k)):=by show _=_;rw [HX.out,hx];rfl
   clear B2 L2 HA HR1 HW1 fO hx;have r0:=HR2.out.q0;have r1:=HR2.out.q1;have r2:=HR2.out.q2;have r3:=HR2.out.q3;have r4:=HR2.out.q4;have s0:=HR2.out.f0;have s1:=HR2.out.f1;have s2:=HR2.out.f2;have s3:=HR2.out.f3;have s4:=HR2.out.f4;go_wp2_with fail;refine bodyPost_ret (v:=.agg #[.int .i64 3,.int .i64 v,.string ⟨#[]⟩,.slice none 0 0,.slice none 0 0]) (by simp [results,Tryz.results72,go_sem, *]) rfl ?_;exact D5 3 v ByteArray.empty (by omega) (by omega) kC.2.2 (by simp) HZ.out HW2.out hlc HL2.out
  ·have HW2:=aj (HW1.out.trans B2);have HZ:Hid (cO (dh s n) s j=none):=by show _=_;rw [HX.out,hx];rfl
   clear B2 hx;go_wp2_with fail;exact ⟨rfl,HW2.out,Or.inr ⟨HZ.out,rfl⟩⟩
theorem QY (n:Nat) (s:ByteArray) (c:Nat) (j:Nat) (w:World) (h:PL c s j w) (hs:s.size<=4000) (hj:j<=s.size) (h1:cB s j≠34) (h2:cB s j≠91) (h3:cB s j≠123) (h4:¬ (cB s j=45\/pz (cB s j)=true)) :
  Calls Tryz.prog 72 #[.pointer (some ⟨c,0,none⟩)] w (rU (n+1) c s (cO (dh s n) s j) id w):=by
 have HB0:=aj (aQ w (.cells #[.int .i64 0,.int .i64 0,.string ⟨#[]⟩,.slice none 0 0,.slice none 0 0] 36));have gZ:Hid (aH w.heap.size (.int .i64 0) (.int .i64 0) (.string ⟨#[]⟩) (.slice none 0 0) (.slice none 0 0) (w.alloc (.cells #[.int .i64 0,.int .i64 0,.string ⟨#[]⟩,.slice none 0 0,.slice none 0 0] 36))):=aJ w _ _ _ _ _;have hlc:=h.lt;have nH:=aj (h.keep HB0.out);have HP:=aj (pQ c s j _ nH.out hj);have HX:=aj (Mr (f:=dh s n) h1 h2 h3 h4);have p1:=Pj h1 (by omega);have p2:=Pj h2 (by omega);have p3:=Pj h3 (by omega);have p4:pk s j≠45:=Pj (fun e=>h4 (Or.inl e)) (by omega);have p5:pz (pk s j)=false:=by rw [Uk];simpa using fun e=>h4 (Or.inr e)
 clear h h1 h2 h3 h4;obtain ⟨a,ha⟩:∃ a,pk s j=a:=⟨_,rfl⟩;rw [ha] at HP p1 p2 p3 p4 p5;clear ha;have y1:((a:Int)==34)=false:=by rw [beq_eq_false_iff_ne];omega
 have y2:((a:Int)==91)=false:=by rw [beq_eq_false_iff_ne];omega
 have y3:((a:Int)==123)=false:=by rw [beq_eq_false_iff_ne];omega
 have y4:((a:Int)==45)=false:=by rw [beq_eq_false_iff_ne];omega
 clear p1 p2 p3 p4;go_in;go_wp2_with fail;refine HP.out.mono ?_;rintro e w1 ⟨rfl,b1⟩;have fO:=aj (nH.out.keep b1);have HR1:=aj (gZ.out.Jl b1);have HW1:=aj (bI.of (c:=c) (HB0.out.trans (b1.mono HB0.out.size)));have HA:=aj (Uv n c s j w1 fO.out hs hj);have HDg:=aj (om a w1);rw [p5] at HDg;have hl1:=HR1.out.lt;clear b1 HP gZ HB0 nH p5;go_wp2_with fail;refine HDg.out.mono ?_;rintro e w1' ⟨rfl,rfl⟩;go_wp2_with fail;refine HA.out.mono ?_;rintro e w2 ⟨B2,⟨t,k,es,A,B,C,D,hx,rfl,hF,hSp,L2⟩ | ⟨hx,rfl⟩⟩
 ·have HL2:=aj L2;have HR2:=aj (HR1.out.move B2.size (B2.block _ HR1.out.lt (by omega)));have HW2:=aj (HW1.out.trans B2);have HZ:Hid (cO (dh s n) s j=some (t,k)):=by show _=_;rw [HX.out,hx]
  have HF:=aj hF;have Yp:=aj hSp;clear B2 L2 HA HR1 HW1 fO hx hF hSp;have r0:=HR2.out.q0;have r1:=HR2.out.q1;have r2:=HR2.out.q2;have r3:=HR2.out.q3;have r4:=HR2.out.q4;have s0:=HR2.out.f0;have s1:=HR2.out.f1;have s2:=HR2.out.f2;have s3:=HR2.out.f3;have s4:=HR2.out.f4;unfold iU at HF ⊢;go_wp2_with fail;refine bodyPost_ret (v:=.agg #[.int .i64 (ah t),.int .i64 (au t),.string (ay t),.slice A (nL t) B,.slice C (nK t) D]) (by simp [results,Tryz.results72,go_sem, *]) rfl ?_;exact Ph HZ.out HW2.out hlc hl1 HF.out Yp.out HL2.out
 ·have HW2:=aj (HW1.out.trans B2);have HZ:Hid (cO (dh s n) s j=none):=by show _=_;rw [HX.out,hx]
  clear B2 hx;go_wp2_with fail;exact ⟨rfl,HW2.out,Or.inr ⟨HZ.out,rfl⟩⟩
theorem Uy {Tb:World->Prop} (hD:dn Tb) (hN:dO Tb) (n:Nat) (s:ByteArray) (ih:uH Tb s n) (c:Nat) (hS:eG Tb c) (j:Nat) (w:World) (h:PL c s j w) (hT:Tb w) (hs:s.size<=4000) (hj:j<=s.size) (hn:s.size<j+n+1) :
  Calls Tryz.prog 72 #[.pointer (some ⟨c,0,none⟩)] w (rU (n+1) c s (cO (dh s n) s j) id w):=by
 by_cases h1:cB s j=34
 ·exact QW hD n s c hS j w h hT hs hj h1
 by_cases h2:cB s j=91
 ·exact QX n s ih c hS j w h hT hs hj hn h2
 by_cases h3:cB s j=123
 ·exact Jm hD n s ih c hS j w h hT hs hj hn h3
 by_cases h4:cB s j=45\/pz (cB s j)=true
 ·exact Ux hN n s c hS j w h hT hs hj h4
 ·exact QY n s c j w h hs hj h1 h2 h3 h4
theorem abS {Tb:World->Prop} (hD:dn Tb) (hN:dO Tb) (n:Nat) (s:ByteArray) (hs:s.size<=4000) (ih:uH Tb s n):uH Tb s (n+1):=by
 intro c i w hS h hT hi hn;have HB0:=aj (aQ w (.cells #[.int .i64 0,.int .i64 0,.string ⟨#[]⟩,.slice none 0 0,.slice none 0 0] 36));have gZ:Hid (aH w.heap.size (.int .i64 0) (.int .i64 0) (.string ⟨#[]⟩) (.slice none 0 0) (.slice none 0 0) (w.alloc (.cells #[.int .i64 0,.int .i64 0,.string ⟨#[]⟩,.slice none 0 0,.slice none 0 0] 36))):=aJ w _ _ _ _ _;have hlc:=h.lt;have nH:=aj (h.keep HB0.out);have HT:=aj hT;have HS:=aj hS;have HD:=aj hD;have HN:=aj hN;have HI:=aj ih;have HK:=aj (rR c s i _ nH.out hs hi);have hge:=jy s i;have hle:=lX hi;have HX:Hid (dh s (n+1) i=cO (dh s n) s (sk s i)):=by show _=_;rw [dh]
 clear h hT hS hD hN ih;go_in;go_wp2_with fail;refine HK.out.mono ?_;rintro e w1 ⟨rfl,B1,L1⟩;have fO:=aj L1;have HR1:=aj (gZ.out.move B1.size (B1.block _ gZ.out.lt (by omega)));have HW1:=aj ((bI.of (c:=c) HB0.out).trans B1);have HT1:=aj (bI.stays HS.out HT.out HW1.out (Nat.le_of_lt hlc));have hz1:w.heap.size<w1.heap.size:=HR1.out.lt;have HC:=aj (Uy HD.out HN.out n s HI.out c HS.out (sk s i) w1 fO.out HT1.out hs hle (by omega));clear B1 L1 HK gZ HB0 nH;go_wp2_with fail;refine HC.out.mono ?_;rintro e w2 ⟨B2,⟨t,j,es,A,B,C,D,hz,rfl,hF,hSp,L2⟩ | ⟨hz,rfl⟩⟩
 ·have kC:=iZ (n+1) i t j hi (HX.out.trans hz);have HL2:=aj L2;have HR2:=aj (HR1.out.move B2.size (B2.block _ HR1.out.lt (by omega)));have HW2:=aj (HW1.out.trans B2);have HZ:Hid (dh s (n+1) i=some (t,j)):=HX.out.trans hz;have HF:=aj hF;have Yp:=aj hSp;have hz2:w.heap.size<w2.heap.size:=HR2.out.lt;have hc2:c<w2.heap.size:=HL2.out.lt;clear B2 L2 HR1 HW1 fO HT1 hz HX hF hSp HC;have HB3:=aj (aQ w2 (vC t A B C D));have LG:Hid (aH w2.heap.size (.int .i64 (ah t)) (.int .i64 (au t)) (.string (ay t)) (.slice A (nL t) B) (.slice C (nK t) D) (w2.alloc (vC t A B C D))):=aJ w2 _ _ _ _ _;have Cw:=aj (rR c s j _ (HL2.out.keep HB3.out) hs kC.2);unfold iU at HF ⊢;go_wp2_with fail;refine Cw.out.mono ?_;rintro e w4 ⟨rfl,B4,L4⟩;have rH:=aj L4;have QZ:=aj (LG.out.move B4.size (B4.block _ LG.out.lt (by omega)));have B24:=(bI.of (c:=c) HB3.out).trans B4;have HR4:=aj (HR2.out.move B24.size (B24.block _ HR2.out.lt (by omega)));have HW4:=aj (HW2.out.trans B24);have HF4:=aj (HF.out.move fun b hb=>B24.block b (Yp.out.lies b hb).2 (by have:=(Yp.out.lies b hb).1;omega));have HS4:=aj (Yp.out.keep B24.size);clear B4 L4 B24 Cw LG HB3 HR2 HW2 HF Yp HL2;have r0:=HR4.out.q0;have r1:=HR4.out.q1;have r2:=HR4.out.q2;have r3:=HR4.out.q3;have r4:=HR4.out.q4;have s0:=HR4.out.f0;have s1:=HR4.out.f1;have s2:=HR4.out.f2;have s3:=HR4.out.f3;have s4:=HR4.out.f4;have t0:=QZ.out.q0;have t1:=QZ.out.q1;have t2:=QZ.out.q2;have t3:=QZ.out.q3;have t4:=QZ.out.q4
  go_wp2_with fail;refine bodyPost_ret (v:=.agg #[.int .i64 (ah t),.int .i64 (au t),.string (ay t),.slice A (nL t) B,.slice C (nK t) D]) (by simp [results,Tryz.results44,go_sem, *]) rfl ?_;exact Ph HZ.out HW4.out hlc hz1 HF4.out HS4.out rH.out
 ·have HW2:=aj (HW1.out.trans B2);have HZ:Hid (dh s (n+1) i=none):=HX.out.trans hz;clear B2 hz;go_wp2_with fail;exact ⟨rfl,HW2.out,Or.inr ⟨HZ.out,rfl⟩⟩
theorem aaN {Tb:World->Prop} (hD:dn Tb) (hN:dO Tb) (s:ByteArray) (hs:s.size<=4000):∀ n,uH Tb s n
 | 0=>fun c i w _ _ _ hi hn=>by omega
 | n+1=>abS hD hN n s hs (aaN hD hN s hs n)
theorem Q0 (f:Nat):∀ (v:Value) (t:T) (w:World),At w f v t->f<=100000 ->
  Calls Tryz.prog 45 #[v] w fun e w'=>e=.returned (.int .i64 (eF f t))/\Below w.heap.size w w':=by
 induction f with
 | zero=>intro v t w h;exact h.elim
 | succ f ih =>
  intro v t w h hm;obtain ⟨g,La,Ka,Lc,Kc,hg,rfl,hf,hl,hk⟩:=h.open;have hg2:g=f:=by omega
  subst hg2;have hlen:=hf.l1;clear h hf hk hg;by_cases h5:gL t=true
  ·have e5:((ah t) != 5)=true/\((ah t != 6))=false\/((ah t) != 5)=false:=by
    simp only [gL,Bool.or_eq_true,beq_iff_eq] at h5;rcases h5 with h5 | h5<;>simp [h5]
   have Hr:Hid (eF (g+1) t=qQ (eF g) t (nL t)+1):=by show eF (g+1) t=_;simp only [eF,h5,if_true]
   clear h5;rcases e5 with ⟨e5,e6⟩ | e5
   all_goals
    go_in;go_wp2_with fail;go_loopg [3,5,17] (nL t) (fun g' n z i wr=>∃ k:Nat,g'=nL t - k/\k<=nL t/\i=.int .i64 k/\n=.int .i64 (qQ (eF g) t k:Nat)/\Below (w.heap.size+1) (w.alloc (vC t La Lc Ka Kc)) wr)
    case atStart=>exact ⟨0,rfl,Nat.zero_le _,rfl,rfl,Below.refl _ _⟩
    case round =>
     obtain ⟨k,rfl,hk,rfl,rfl,hb⟩:=hrel;obtain ⟨q0,q1,q2,q3,q4,hz,hbw⟩:=dB hb;have Hb:=aj hb;clear hb;have hd0:=II (IJ g) t k;by_cases hlt:k<nL t
     ·obtain ⟨b,o,A,B,C,D,rfl,hbl,p0,p1,p2,p3,p4,Ha⟩:=hl.out.shape hbw k hlt;have hd1:=IJ g (elt t k);have Hs:Hid (qQ (eF g) t (k+1)=max (qQ (eF g) t k) (eF g (elt t k))):=rfl;have HB1:=aj (aQ wr (vC (elt t k) A B C D));have HA1:=aj (Ha.out.keep (hbw.trans (HB1.out.mono hbw.size)));go_wp2_with fail;refine (ih _ _ _ HA1.out (by omega)).mono ?_;rintro e w2 ⟨rfl,hb2⟩;have hb3:=Hb.out.trans ((HB1.out.trans (hb2.mono HB1.out.size)).mono (by omega));go_wp2_with fail
      all_goals
       go_roundg (nL t - (k+1))
       case rel=>exact ⟨k+1,rfl,by omega,by go_num,by rw [Hs.out];go_num,hb3⟩
       case measure=>omega
     ·go_wp2_with fail;go_ret;have hk2:k=nL t:=by omega
      subst hk2;refine ⟨aR ?_,hbw⟩;rw [Hr.out];go_num
  ·have e5:((ah t) != 5)=true/\((ah t != 6))=true:=by
    simp only [gL,Bool.or_eq_true,beq_iff_eq,not_or] at h5;simp [h5]
   obtain ⟨e5,e6⟩:=e5;have Hr:Hid (eF (g+1) t=0):=by show eF (g+1) t=_;simp only [eF];rw [if_neg h5]
   clear h5;go_in;go_wp2_with fail;go_ret;exact ⟨aR (by rw [Hr.out];rfl),aQ _ _⟩
theorem CP (f:Nat):∀ (v:Value) (t:T) (w:World),At w f v t ->
  Calls Tryz.prog 46 #[v] w fun e w'=>e=.returned (.bool (dZ f t))/\Below w.heap.size w w':=by
 induction f with
 | zero=>intro v t w h;exact h.elim
 | succ f ih =>
  intro v t w h;obtain ⟨g,La,Ka,Lc,Kc,hg,rfl,hf,hl,hk⟩:=h.open;obtain rfl:f=g:=by omega
  have hlen:=hf.l1;have CF:=hf.m1;clear h hf;have HB0:=aj (aQ w (vC t La Lc Ka Kc));have HD:=aj (uD Ka Kc t _ (hk.out.keep HB0.out) CF);have Hr:Hid (dZ (f+1) t=(iP t (nK t) || cZ (dZ f) t (nL t))):=rfl;generalize dZ (f+1) t=r at Hr ⊢;cases hd:iP t (nK t) with
  | true =>
   rw [hd] at HD Hr;go_in;go_wp2_with fail;refine HD.out.mono ?_;rintro e w1 ⟨rfl,hb1⟩;have HB1:=aj (HB0.out.trans (hb1.mono HB0.out.size));clear hb1 HD;go_wp2_with fail;go_ret;exact ⟨aA (by rw [Hr.out];rfl),HB1.out⟩
  | false =>
   rw [hd] at HD Hr;go_in;go_wp2_with fail;refine HD.out.mono ?_;rintro e w1 ⟨rfl,hb1⟩
   have HB1:Hid (Below (w.heap.size+1) (w.alloc (vC t La Lc Ka Kc)) w1):=by
    show Below _ _ _;have:(w.alloc (vC t La Lc Ka Kc)).heap.size=w.heap.size+1:=by simp
    rw [this] at hb1;exact hb1
   obtain ⟨y0,y1,y2,y3,y4,hzy,ahF⟩:=dB HB1.out;clear hb1 HD HB0;go_wp2_with fail;go_loopg [4,12] (nL t) (fun g' z i wr=>∃ k:Nat,g'=nL t - k/\k<=nL t/\i=.int .i64 k/\Hid (cZ (dZ f) t k=false)/\Below (w.heap.size+1) (w.alloc (vC t La Lc Ka Kc)) wr)
   case atStart=>exact ⟨0,rfl,Nat.zero_le _,rfl,rfl,HB1.out⟩
   case round =>
    clear y0 y1 y2 y3 y4 hzy ahF HB1;obtain ⟨k,rfl,hk2,rfl,hd2,hb⟩:=hrel;obtain ⟨q0,q1,q2,q3,q4,hz,hbw⟩:=dB hb;have Hb:=aj hb;clear hb;by_cases hlt:k<nL t
    ·obtain ⟨b,o,A,B,C,D,rfl,hbl,p0,p1,p2,p3,p4,Ha⟩:=hl.out.shape hbw k hlt;have HB2:=aj (aQ wr (vC (elt t k) A B C D));have HA1:=aj (Ha.out.keep (hbw.trans (HB2.out.mono hbw.size)));go_wp2_with fail;refine (ih _ _ _ HA1.out).mono ?_;rintro e w2 ⟨rfl,hb2⟩;have HB3:=aj (Hb.out.trans ((HB2.out.trans (hb2.mono HB2.out.size)).mono (by omega)));have xL:=aj (hbw.trans ((HB2.out.trans (hb2.mono HB2.out.size)).mono hbw.size));clear hb2;cases ht:dZ f (elt t k) with
     | true =>
      have Hy:Hid (r=true):=by
       show r=true;rw [Hr.out,Bool.false_or];cases ha:cZ (dZ f) t (nL t) with
       | true=>rfl
       | false=>rw [(IU.1 ha) k hlt] at ht;cases ht
      go_wp2_with fail;go_ret;exact ⟨aA Hy.out.symm,xL.out⟩
     | false =>
      have Hy:Hid (cZ (dZ f) t (k+1)=false):=by
       show (cZ (dZ f) t k || dZ f (elt t k))=false;rw [hd2.out,ht];rfl
      go_wp2_with fail;go_roundg (nL t - (k+1))
      case rel=>exact ⟨k+1,rfl,by omega,by go_num,Hy,HB3.out⟩
      case measure=>omega
    ·obtain rfl:k=nL t:=by omega
     go_wp2_with fail;go_ret;exact ⟨aA (by rw [Hr.out,hd2.out];rfl),hbw⟩
section
variable {b : Option (ByteArray -> Option (T × ByteArray))} {s : ByteArray}
end
end Go.Proofs.YtknakfpciccoaabGreatDoor
/- The walks of parseBytes and Decode. -/
namespace Go.Proofs.YtknakfpciccoaabGreatDoor
open Go.RowKit
theorem AU {w wr:World} {f lo b:Nat} {v:Value} {t:T} {es:List kV} (hB:Below w.heap.size w wr) (hF:iy wr f v t es) (hS:qm lo wr es) (hb:w.heap.size<=b) (hlo:b<lo) (u0 u1 u2 u3 u4:Value) :
  Below w.heap.size w (((((wr.setCell ⟨b,0,none⟩ u0).setCell ⟨b,1,none⟩ u1).setCell ⟨b,2,none⟩ u2).setCell ⟨b,3,none⟩ u3).setCell ⟨b,4,none⟩ u4) /\
  iy (((((wr.setCell ⟨b,0,none⟩ u0).setCell ⟨b,1,none⟩ u1).setCell ⟨b,2,none⟩ u2).setCell ⟨b,3,none⟩ u3).setCell ⟨b,4,none⟩ u4) f v t es /\
  qm w.heap.size (((((wr.setCell ⟨b,0,none⟩ u0).setCell ⟨b,1,none⟩ u1).setCell ⟨b,2,none⟩ u2).setCell ⟨b,3,none⟩ u3).setCell ⟨b,4,none⟩ u4) es:=by
 have hset:∀ (w1:World) (o:Nat) (u:Value) (b':Nat),b'≠b->(w1.setCell ⟨b,o,none⟩ u).heap[b']?=w1.heap[b']?:=fun w1 o u b' hb=>Below.heap_setCell _ _ _ _ (by simpa using hb);refine ⟨((((hB.setCell hb _).setCell hb _).setCell hb _).setCell hb _).setCell hb _,hF.move fun b' hb'=>?_,?_⟩
 ·have h1:=hS.lies b' hb';rw [hset _ _ _ _ (by omega),hset _ _ _ _ (by omega),hset _ _ _ _ (by omega),hset _ _ _ _ (by omega),hset _ _ _ _ (by omega)]
 ·exact (hS.lower (by omega)).keep (by simp [World.setCell])
def Okj (s:ByteArray) (t:T):Prop:=eJ s=0/\tJ s=t
theorem Pk {s:ByteArray} (h:4000<s.size):eJ s=1:=by unfold eJ;rw [if_pos h]
theorem Q5 {s:ByteArray} (hv:dh s (s.size+1) 0=none):nZ s=none:=by unfold nZ;rw [hv];rfl
theorem Q6 {s:ByteArray} {t:T} {j:Nat} (hv:dh s (s.size+1) 0=some (t,j)) (h:sk s j≠s.size):nZ s=none:=by unfold nZ;rw [hv];simp only [Option.bind_some];rw [if_neg h]
theorem D6 {s:ByteArray} {t:T} {j:Nat} (hv:dh s (s.size+1) 0=some (t,j)) (h:sk s j=s.size):nZ s=some t:=by unfold nZ;rw [hv];simp only [Option.bind_some];rw [if_pos h]
theorem Pm {s:ByteArray} (h:s.size<=4000) (hf:nZ s=none):eJ s=2:=by unfold eJ;rw [if_neg (by omega),hf];rfl
theorem Pn {s:ByteArray} {t:T} (h:s.size<=4000) (hf:nZ s=some t):eJ s=if 12<eF (s.size+1) t then 3 else if dZ (s.size+1) t=true then 4 else 0:=by unfold eJ;rw [if_neg (by omega),hf];rfl
theorem Po {s:ByteArray} {t:T} (h0:eJ s=0) (hf:nZ s=some t):tJ s=t:=by unfold tJ;rw [if_pos h0,hf];rfl
def Q7 (s:ByteArray) (w:World) (e:Ending) (w':World):Prop :=
 Below w.heap.size w w'/\((∃ t es A B C D,Okj s t/\e=.returned (iU t A B C D)/\iy w' 13 (iU t A B C D) t es/\qm w.heap.size w' es)\/(eJ s≠0/\e=gP (eJ s)))
theorem abT (w:World) (s:ByteArray):PL w.heap.size s 0 (w.alloc (.cells #[.string s,.int .i64 0] 90)):=by
 refine ⟨?_,?_,?_,?_⟩<;>simp [go_sem]
theorem CQ {Tb:World->Prop} (hD:dn Tb) (hN:dO Tb) (hL:aS Tb) (s:ByteArray) (w:World) (hs:s.size<=140737488355328) (hT:Tb w) :
  Calls Tryz.prog 28 #[.string s] w (Q7 s w):=by
 have HT:=aj hT;clear hT;by_cases hlong:4000<s.size
 ·have HZ:=aj (Pk hlong);have x1:decide ((4000:Int)<(s.size:Int))=true:=decide_eq_true (by omega);go_in;go_wp2_with fail;refine ⟨rfl,aQ _ _,Or.inr ⟨by rw [HZ.out];omega,?_⟩⟩;rw [HZ.out]
 ·have hle:s.size<=4000:=by omega
  have x1:decide ((4000:Int)<(s.size:Int))=false:=decide_eq_false (by omega);have HB0:Hid (Below w.heap.size w ((w.alloc (.cells #[.int .i64 0,.int .i64 0,.string ⟨#[]⟩,.slice none 0 0,.slice none 0 0] 36)).alloc (.cells #[.string s,.int .i64 0] 90))):=(aQ _ _).alloc (by simp) _;have gZ:Hid (aH w.heap.size (.int .i64 0) (.int .i64 0) (.string ⟨#[]⟩) (.slice none 0 0) (.slice none 0 0) ((w.alloc (.cells #[.int .i64 0,.int .i64 0,.string ⟨#[]⟩,.slice none 0 0,.slice none 0 0] 36)).alloc (.cells #[.string s,.int .i64 0] 90))):=(aJ w _ _ _ _ _).move (by simp) (Below.heap_alloc _ _ _ (by simp))
  have nH:Hid (PL (w.heap.size+1) s 0 ((w.alloc (.cells #[.int .i64 0,.int .i64 0,.string ⟨#[]⟩,.slice none 0 0,.slice none 0 0] 36)).alloc (.cells #[.string s,.int .i64 0] 90))):=by
   have:=abT (w.alloc (.cells #[.int .i64 0,.int .i64 0,.string ⟨#[]⟩,.slice none 0 0,.slice none 0 0] 36)) s;show PL _ _ _ _;simpa using this
  have hst:eG Tb (w.heap.size+1):=fun a b h1 h2=>hL w HT.out a b h1 (h2.mono (by omega));have HN:=aj (aaN hD hN s hle (s.size+1) (w.heap.size+1) 0 _ hst nH.out (hL _ HT.out _ _ HT.out HB0.out) (by omega) (by omega));have hz0:((w.alloc (.cells #[.int .i64 0,.int .i64 0,.string ⟨#[]⟩,.slice none 0 0,.slice none 0 0] 36)).alloc (.cells #[.string s,.int .i64 0] 90)).heap.size=w.heap.size+2:=by simp
  have Tq:=aj hz0;clear hz0 nH hst hlong;go_in;go_wp2_with fail;refine HN.out.mono ?_;rintro e w1 ⟨B1,⟨t,j,es,A,B,C,D,hd,rfl,hF,hS,L1⟩ | ⟨hd,rfl⟩⟩
  ·have hl1:w.heap.size+2<=w1.heap.size:=by have:=B1.size;rw [Tq.out] at this;exact this
   have HW1:=aj (HB0.out.trans ((B1.below (by rw [Tq.out];omega)).mono (by omega)));have HR1:=aj (gZ.out.move B1.size (B1.block _ gZ.out.lt (by omega)));have hcnt:=Ay _ _ _ _ (by omega) hd;have kC:=iZ _ _ _ _ (by omega) hd;have ae1:=aj hcnt.2;have hF1:=hF.keep hS ((Below.refl w1.heap.size w1).alloc (Nat.le_refl _) (vC t A B C D));have HF:=aj hF1
   have HS:Hid (qm (w.heap.size+2) w1 es):=by
    have:=hS;rw [Tq.out] at this;exact this
   have Hd:=aj hd;have zo:=aj (aJ w1 (.int .i64 (ah t)) (.int .i64 (au t)) (.string (ay t)) (.slice A (nL t) B) (.slice C (nK t) D));have fF:=aj (aQ w1 (vC t A B C D));have HLa:=aj (L1.keep fF.out);have HRa:=aj (HR1.out.move fF.out.size (fF.out.block _ HR1.out.lt));have hq:=HLa.out.q1;have v0:=zo.out.q0;have v1:=zo.out.q1;have v2:=zo.out.q2;have v3:=zo.out.q3;have v4:=zo.out.q4;have alx:=lX kC.2;clear B1 L1 hF hF1 hS hd HN gZ HB0 hcnt kC;unfold iU;by_cases h0:sk s j=s.size
   ·have aaO:=aj (D6 Hd.out h0);have HeJ:=aj (Pn hle aaO.out);have x2:¬ ((sk s j:Int)<(s.size:Int)):=by omega
    have HI:=aj (Q0 (s.size+1) _ t _ HF.out.at (by omega));unfold iU at HI;clear h0;go_wp2_with fail;refine HI.out.mono ?_;rintro e w3 ⟨rfl,hb3⟩;have hz1:(w1.alloc (vC t A B C D)).heap.size=w1.heap.size+1:=by simp
    have HF3:=aj (HF.out.keep (HS.out.keep fF.out.size) hb3);have D7:=aj ((HS.out.keep fF.out.size).keep hb3.size);have HR3:=aj (HRa.out.move hb3.size (hb3.block _ HRa.out.lt));have LG:=aj (zo.out.move hb3.size (hb3.block _ zo.out.lt));have HW3:=aj ((HW1.out.trans (fF.out.mono (by omega))).trans (hb3.mono (by omega)));clear hb3 hz1 hq v0 v1 v2 v3 v4 HF HS HRa zo fF HLa HI HR1 HW1;have v0:=LG.out.q0;have v1:=LG.out.q1;have v2:=LG.out.q2;have v3:=LG.out.q3;have v4:=LG.out.q4;by_cases hdp:12<eF (s.size+1) t
    ·have HZ:Hid (eJ s=3):=by show _=_;rw [HeJ.out,if_pos hdp]
     have x3:decide ((12:Int)<(eF (s.size+1) t:Int))=true:=decide_eq_true (by omega);clear hdp;go_wp2_with fail;refine ⟨rfl,HW3.out,Or.inr ⟨by rw [HZ.out];omega,?_⟩⟩;rw [HZ.out]
    ·have x3:decide ((12:Int)<(eF (s.size+1) t:Int))=false:=decide_eq_false (by omega);have HI2:=aj (CP (s.size+1) _ t _ HF3.out.at);have Hdp:Hid (eF (s.size+1) t<=12):=by show _<=_;omega
     unfold iU at HI2;have ae2:Hid (eJ s=if dZ (s.size+1) t=true then 4 else 0):=by show _=_;rw [HeJ.out,if_neg hdp]
     clear hdp HeJ;go_wp2_with fail;refine HI2.out.mono ?_;rintro e w4 ⟨rfl,hb4⟩;have HF4:=aj (Uc (HF3.out.keep D7.out hb4) ae1.out Hdp.out);have HS4:=aj (D7.out.keep hb4.size);have HR4:=aj (HR3.out.move hb4.size (hb4.block _ HR3.out.lt));have QZ:=aj (LG.out.move hb4.size (hb4.block _ LG.out.lt));have HW4:=aj (HW3.out.trans (hb4.mono HW3.out.size));clear hb4 v0 v1 v2 v3 v4 HF3 D7 HR3 LG HI2 HW3;have v0:=QZ.out.q0;have v1:=QZ.out.q1;have v2:=QZ.out.q2;have v3:=QZ.out.q3;have v4:=QZ.out.q4;have r0:=HR4.out.q0;have r1:=HR4.out.q1;have r2:=HR4.out.q2;have r3:=HR4.out.q3;have r4:=HR4.out.q4;have s0:=HR4.out.f0;have s1:=HR4.out.f1;have s2:=HR4.out.f2;have s3:=HR4.out.f3;have s4:=HR4.out.f4;by_cases htw:dZ (s.size+1) t=true
     ·have HZ:Hid (eJ s=4):=by show _=_;rw [ae2.out,if_pos htw]
      go_wp2_with fail;refine ⟨rfl,HW4.out,Or.inr ⟨by rw [HZ.out];omega,?_⟩⟩;rw [HZ.out]
     ·have alz:dZ (s.size+1) t=false:=by simpa using htw
      have HZ:Hid (Okj s t):=by
       have h0:eJ s=0:=by rw [ae2.out,if_neg htw]
       exact ⟨h0,Po h0 aaO.out⟩
      clear htw;go_wp2_with fail;refine bodyPost_ret (v:=iU t A B C D) (by simp [results,Tryz.results28,go_sem,iU, *]) rfl ?_;obtain ⟨p1,p2,p3⟩:=AU HW4.out HF4.out HS4.out (Nat.le_refl _) (by omega) (.int .i64 (ah t)) (.int .i64 (au t)) (.string (ay t)) (.slice A (nL t) B) (.slice C (nK t) D);exact ⟨p1,Or.inl ⟨t,es,A,B,C,D,HZ.out,rfl,p2,p3⟩⟩
   ·have HZ:=aj (Pm hle (Q6 Hd.out h0));have x2:(sk s j:Int)<(s.size:Int):=by omega
    clear h0;go_wp2_with fail;refine ⟨rfl,HW1.out.trans (fF.out.mono (by omega)),Or.inr ⟨by rw [HZ.out];omega,?_⟩⟩;rw [HZ.out]
  ·have HW1:=aj (HB0.out.trans ((B1.below (by rw [Tq.out];omega)).mono (by omega)));have HZ:=aj (Pm hle (Q5 hd));clear B1 hd;go_wp2_with fail;refine ⟨rfl,HW1.out,Or.inr ⟨by rw [HZ.out];omega,?_⟩⟩;rw [HZ.out]
def aaP (s:ByteArray) (lo:Nat) (v:Value) (w':World):Prop:=∃ t es A B C D,Okj s t/\v=iU t A B C D/\iy w' 13 (iU t A B C D) t es/\qm lo w' es
def aaQ (s:ByteArray) (n:Int):Prop:=n=eJ s/\eJ s≠0
theorem Ms {Tb:World->Prop} (hD:dn Tb) (hN:dO Tb) (hL:aS Tb) (s:ByteArray) (b:Nat) (w:World) (hb:w.cell? ⟨b,0,none⟩=some (.string s)) (hlb:b<w.heap.size) (hs:s.size<=140737488355328) (hT:Tb w) :
  Calls Tryz.prog 27 #[.pointer (some ⟨b,0,none⟩)] w (aeI (aaQ s) (aaP s w.heap.size) w):=by
 have HB0:=aj (aQ w (.cells #[.int .i64 0,.int .i64 0,.string ⟨#[]⟩,.slice none 0 0,.slice none 0 0] 36));have gZ:Hid (aH w.heap.size (.int .i64 0) (.int .i64 0) (.string ⟨#[]⟩) (.slice none 0 0) (.slice none 0 0) (w.alloc (.cells #[.int .i64 0,.int .i64 0,.string ⟨#[]⟩,.slice none 0 0,.slice none 0 0] 36))):=aJ w _ _ _ _ _;have HN:=aj (CQ hD hN hL s _ hs (hL _ hT _ _ hT HB0.out))
 have Tq:Hid ((w.alloc (.cells #[.int .i64 0,.int .i64 0,.string ⟨#[]⟩,.slice none 0 0,.slice none 0 0] 36)).heap.size=w.heap.size+1):=by
  show _=_;simp
 have HT:=aj hT;clear hT;go_in;go_wp2_with fail;refine HN.out.mono ?_;rintro e w1 ⟨B1,⟨t,es,A,B,C,D,hr,rfl,hF,hS⟩ | ⟨hr,rfl⟩⟩
 ·have HR1:=aj (gZ.out.move B1.size (B1.block _ gZ.out.lt));have HW1:=aj (HB0.out.trans (B1.mono (by rw [Tq.out];omega)));have HF:=aj hF
  have HS:Hid (qm (w.heap.size+1) w1 es):=by
   have:=hS;rw [Tq.out] at this;exact this
  have Hr:=aj hr;clear B1 hF hS hr HN gZ HB0;have r0:=HR1.out.q0;have r1:=HR1.out.q1;have r2:=HR1.out.q2;have r3:=HR1.out.q3;have r4:=HR1.out.q4;have s0:=HR1.out.f0;have s1:=HR1.out.f1;have s2:=HR1.out.f2;have s3:=HR1.out.f3;have s4:=HR1.out.f4;unfold iU;go_wp2_with fail;refine bodyPost_ret (v:=iU t A B C D) (by simp [results,Tryz.results27,go_sem,iU, *]) rfl ?_;obtain ⟨p1,p2,p3⟩:=AU HW1.out HF.out HS.out (Nat.le_refl _) (by omega) (.int .i64 (ah t)) (.int .i64 (au t)) (.string (ay t)) (.slice A (nL t) B) (.slice C (nK t) D);exact ⟨p1,Or.inl ⟨t,A,B,C,D,rfl,t,es,A,B,C,D,Hr.out,rfl,p2,p3⟩⟩
 ·have HW1:=aj (HB0.out.trans (B1.mono (by rw [Tq.out];omega)));have Hr:=aj hr;clear B1 hr;go_wp2_with fail;exact ⟨rfl,HW1.out,Or.inr ⟨eJ s,⟨rfl,Hr.out⟩,rfl⟩⟩
def D8 (s:ByteArray) (w:World) (e:Ending) (w':World):Prop :=
 Below w.heap.size w w'/\((∃ t es A B C D,Okj s t/\e=.returned (.tuple #[iU t A B C D,.int .i64 0])/\iy w' 13 (iU t A B C D) t es/\qm w.heap.size w' es)\/(eJ s≠0/\e=.returned (.tuple #[kZ,.int .i64 (eJ s)])))
theorem Q8 {Tb:World->Prop} (hD:dn Tb) (hN:dO Tb) (hL:aS Tb) (s:ByteArray) (w:World) (hs:s.size<=140737488355328) (hT:Tb w) :
  Calls Tryz.prog 14 #[.string s] w (D8 s w):=by
 have QM:∀ (fn:Fn) (first cap:Array Value) (w:World),(Instr.makeFunc fn first cap).run Tryz.prog w=.ok (.func fn first cap) w:=fun _ _ _ _=>rfl;have HB0:Hid (Below w.heap.size w ((w.alloc (.cells #[.string s] 9)).alloc (.cells #[.int .i64 0,.int .i64 0,.string ⟨#[]⟩,.slice none 0 0,.slice none 0 0] 36))):=(aQ _ _).alloc (by simp) _
 have Tq:Hid (((w.alloc (.cells #[.string s] 9)).alloc (.cells #[.int .i64 0,.int .i64 0,.string ⟨#[]⟩,.slice none 0 0,.slice none 0 0] 36)).heap.size=w.heap.size+2):=by
  show _=_;simp
 have gZ:Hid (aH (w.heap.size+1) (.int .i64 0) (.int .i64 0) (.string ⟨#[]⟩) (.slice none 0 0) (.slice none 0 0) ((w.alloc (.cells #[.string s] 9)).alloc (.cells #[.int .i64 0,.int .i64 0,.string ⟨#[]⟩,.slice none 0 0,.slice none 0 0] 36))):=by
  have:=aJ (w.alloc (.cells #[.string s] 9)) (.int .i64 0) (.int .i64 0) (.string ⟨#[]⟩) (.slice none 0 0) (.slice none 0 0);show aH _ _ _ _ _ _ _;simpa using this
 have HA:=aj (attempt 27 (fun _ _=>rfl) (aaQ s) (aaP s (w.heap.size+4)) (.pointer (some ⟨w.heap.size,0,none⟩)) ((w.alloc (.cells #[.string s] 9)).alloc (.cells #[.int .i64 0,.int .i64 0,.string ⟨#[]⟩,.slice none 0 0,.slice none 0 0] 36)) (by
  have hb1:Below w.heap.size w ((((w.alloc (.cells #[.string s] 9)).alloc (.cells #[.int .i64 0,.int .i64 0,.string ⟨#[]⟩,.slice none 0 0,.slice none 0 0] 36)).alloc (.cells #[.int .i64 0,.int .i64 0,.string ⟨#[]⟩,.slice none 0 0,.slice none 0 0] 36)).alloc (.cells #[.int .i64 0] 29)):=(HB0.out.alloc (by simp;omega) _).alloc (by simp;omega) _;have:=Ms hD hN hL s w.heap.size ((((w.alloc (.cells #[.string s] 9)).alloc (.cells #[.int .i64 0,.int .i64 0,.string ⟨#[]⟩,.slice none 0 0,.slice none 0 0] 36)).alloc (.cells #[.int .i64 0,.int .i64 0,.string ⟨#[]⟩,.slice none 0 0,.slice none 0 0] 36)).alloc (.cells #[.int .i64 0] 29)) (by simp [go_sem]) (by simp;omega) hs (hL _ hT _ _ hT hb1);have e4:((((w.alloc (.cells #[.string s] 9)).alloc (.cells #[.int .i64 0,.int .i64 0,.string ⟨#[]⟩,.slice none 0 0,.slice none 0 0] 36)).alloc (.cells #[.int .i64 0,.int .i64 0,.string ⟨#[]⟩,.slice none 0 0,.slice none 0 0] 36)).alloc (.cells #[.int .i64 0] 29)).heap.size=w.heap.size+4:=by simp
  rw [e4] at this;exact this))
 clear hT;go_in;go_wp2_with fail;refine HA.out.mono ?_;rintro e w1 ⟨B1,⟨x,w2,rfl,⟨t,es,A,B,C,D,hr,rfl,hF,hS⟩,hab⟩ | ⟨n,⟨rfl,hr⟩,rfl⟩⟩
 ·have HR1:=aj (gZ.out.move B1.size (B1.block _ gZ.out.lt));have HW1:=aj (HB0.out.trans (B1.mono (by rw [Tq.out];omega)))
  have HS:Hid (qm (w.heap.size+4) w1 es):=by
   have:=hab.size;exact hS.keep (by omega)
  have HF:Hid (iy w1 13 (iU t A B C D) t es):=hF.move fun b hb=>hab.block b (by have:=(hS.lies b hb).1;rw [Tq.out];omega);have Hr:=aj hr;clear B1 hF hS hr hab HA gZ HB0;have r0:=HR1.out.q0;have r1:=HR1.out.q1;have r2:=HR1.out.q2;have r3:=HR1.out.q3;have r4:=HR1.out.q4;have s0:=HR1.out.f0;have s1:=HR1.out.f1;have s2:=HR1.out.f2;have s3:=HR1.out.f3;have s4:=HR1.out.f4;unfold iU;go_wp2_with fail;refine bodyPost_ret (v:=.tuple #[iU t A B C D,.int .i64 0]) (by simp [results,Tryz.results14,go_sem,iU, *]) rfl ?_;obtain ⟨p1,p2,p3⟩:=AU HW1.out HF.out HS.out (show w.heap.size<=w.heap.size+1 by omega) (by omega) (.int .i64 (ah t)) (.int .i64 (au t)) (.string (ay t)) (.slice A (nL t) B) (.slice C (nK t) D);exact ⟨p1,Or.inl ⟨t,es,A,B,C,D,Hr.out,rfl,p2,p3⟩⟩
 ·have HR1:=aj (gZ.out.move B1.size (B1.block _ gZ.out.lt));have HW1:=aj (HB0.out.trans (B1.mono (by rw [Tq.out];omega)));have Hr:=aj hr;clear B1 hr HA gZ HB0;have r0:=HR1.out.q0;have r1:=HR1.out.q1;have r2:=HR1.out.q2;have r3:=HR1.out.q3;have r4:=HR1.out.q4;have s0:=HR1.out.f0;have s1:=HR1.out.f1;have s2:=HR1.out.f2;have s3:=HR1.out.f3;have s4:=HR1.out.f4;unfold kZ;go_wp2_with fail;refine bodyPost_ret (v:=.tuple #[kZ,.int .i64 (eJ s)]) (by simp [results,Tryz.results14,go_sem,kZ, *]) rfl ?_;have hb:w.heap.size<=w.heap.size+1:=by omega
  exact ⟨((((HW1.out.setCell hb _).setCell hb _).setCell hb _).setCell hb _).setCell hb _,Or.inr ⟨Hr.out,rfl⟩⟩
end Go.Proofs.YtknakfpciccoaabGreatDoor
