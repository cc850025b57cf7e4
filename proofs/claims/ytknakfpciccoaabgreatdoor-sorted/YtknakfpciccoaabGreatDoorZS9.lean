import Derived.Test.YtknakfpciccoaabGreatDoorZS8
import Derived.Test.YtknakfpciccoaabGreatDoorZS2
import Derived.Test.YtknakfpciccoaabGreatDoorZS7
import Derived.Test.YtknakfpciccoaabGreatDoorZS3
/- The walk of the program's parser: words. -/
namespace Go.Proofs.YtknakfpciccoaabGreatDoor
open Go.RowKit
theorem pk_eq {s:ByteArray} {i:Nat} (h:cB s i<256):pk s i=cB s i:=by
 unfold pk
 rw [if_pos (cB_in h)]
theorem BoxAt.keepB {b:Nat} {c0 c1 c2 c3 c4:Value} {w w':World} (h:BoxAt b c0 c1 c2 c3 c4 w) (hb:Below w.heap.size w w'):BoxAt b c0 c1 c2 c3 c4 w':=h.move hb.size (hb.block _ h.lt)
theorem fin_v {n c lo:Nat} {s:ByteArray} {w w4:World} {x:Option (T×Nat)} {f:Nat→Nat} {t:T} {j:Nat} {es:List Ent} {A C:Option Addr} {B D:Nat} (hx:x=some (t,j)) (hB:But c w w4) (hc:c<w.heap.size) (hz:w.heap.size<lo) (hF:Flat w4 n (.agg #[.int .i64 (kindOf t),.int .i64 (nOf t),.string (sOf t),.slice A (nL t) B,.slice C (nK t) D]) t es) (hS:Sep lo w4 es) (hL:PL c s (f j) w4) :
  VPost n c s x f w (.returned (.agg #[.int .i64 (kindOf t),.int .i64 (nOf t),.string (sOf t),.slice A (nL t) B,.slice C (nK t) D])) (((((w4.setCell ⟨w.heap.size,0,none⟩ (.int .i64 (kindOf t))).setCell ⟨w.heap.size,1,none⟩ (.int .i64 (nOf t))).setCell ⟨w.heap.size,2,none⟩ (.string (sOf t))).setCell ⟨w.heap.size,3,none⟩ (.slice A (nL t) B)).setCell ⟨w.heap.size,4,none⟩ (.slice C (nK t) D)):=by
 have hp:=put_five (rb:=w.heap.size) hB hc hF hS (Nat.le_refl _) hz (.int .i64 (kindOf t)) (.int .i64 (nOf t)) (.string (sOf t)) (.slice A (nL t) B) (.slice C (nK t) D)
 exact ⟨hp.1,Or.inl ⟨t,j,es,A,B,C,D,hx,rfl,hp.2.1,hp.2.2.1,hL.same hp.2.2.2.1 (by rw [hp.2.2.2.2];exact Nat.le_refl _)⟩⟩
theorem fin_w {n c:Nat} {s:ByteArray} {w wr:World} {x:Option (T×Nat)} {j:Nat} (k m:Int) (y:ByteArray) (hk0:0≤k) (hk1:k≤100) (hm:-9223372036854775808≤m∧m≤9223372036854775807) (hy:y.size≤140737488355328) (hx:x=some (leafT k m y,j)) (hB:But c w wr) (hc:c<w.heap.size) (hL:PL c s j wr) :
  VPost (n+1) c s x id w (.returned (.agg #[.int .i64 k,.int .i64 m,.string y,.slice none 0 0,.slice none 0 0])) (((((wr.setCell ⟨w.heap.size,0,none⟩ (.int .i64 k)).setCell ⟨w.heap.size,1,none⟩ (.int .i64 m)).setCell ⟨w.heap.size,2,none⟩ (.string y)).setCell ⟨w.heap.size,3,none⟩ (.slice none 0 0)).setCell ⟨w.heap.size,4,none⟩ (.slice none 0 0)):=by
 have hp:=put_five (rb:=w.heap.size) hB hc (flat_leaf wr n k m y hk0 hk1 hm.1 hm.2 hy) (sep_leaf (w.heap.size+1) wr) (Nat.le_refl _) (by omega) (.int .i64 k) (.int .i64 m) (.string y) (.slice none 0 0) (.slice none 0 0)
 exact ⟨hp.1,Or.inl ⟨leafT k m y,j,_,none,0,none,0,hx,rfl,hp.2.1,hp.2.2.1,hL.same hp.2.2.2.1 (by rw [hp.2.2.2.2];exact Nat.le_refl _)⟩⟩
def wordO (s:ByteArray) (j:Nat):Option (T×Nat) :=
 if pfx s j wNull=true then some (leafT 1 0 ByteArray.empty,j+4)
 else if pfx s j wTrue=true then some (leafT 2 1 ByteArray.empty,j+4)
 else if pfx s j wFalse=true then some (leafT 2 0 ByteArray.empty,j+5)
 else none
set_option maxHeartbeats 4000000 in
set_option maxRecDepth 100000 in
theorem word_any (n c:Nat) (s:ByteArray) (j:Nat) (w:World) (h:PL c s j w) (hs:s.size≤4000) (hj:j≤s.size) :
  Calls Tryz.prog 113 #[.pointer (some ⟨c,0,none⟩)] w (VPost (n+1) c s (wordO s j) id w):=by
 have HB0:Hid (Below w.heap.size w (w.alloc (.cells #[.int .i64 0,.int .i64 0,.string ⟨#[]⟩,.slice none 0 0,.slice none 0 0] 36))):=(Below.refl _ _).alloc (Nat.le_refl _) _
 have HR0:Hid (BoxAt w.heap.size (.int .i64 0) (.int .i64 0) (.string ⟨#[]⟩) (.slice none 0 0) (.slice none 0 0) (w.alloc (.cells #[.int .i64 0,.int .i64 0,.string ⟨#[]⟩,.slice none 0 0,.slice none 0 0] 36))):=box_new w _ _ _ _ _
 have hlc:=h.lt
 have HL0:=hid (h.keep HB0.out)
 clear h
 cases hp1:pfx s j wNull with
 | true =>
  have HA:=hid (word_yes c s j wNull _ HL0.out hs hp1)
  have HX:Hid (wordO s j=some (leafT 1 0 ByteArray.empty,j+4)):=by show _=_;unfold wordO;rw [if_pos hp1]
  clear hp1
  go_enter Tryz.func113,Tryz.ntmps113
  go_wp2_with fail
  refine HA.out.mono ?_
  rintro e w1 ⟨rfl,B1,L1⟩
  have HL1:=hid L1
  have HR1:=hid (HR0.out.move B1.size (B1.block _ HR0.out.lt (by omega)))
  have HW1:=hid ((But.of (c:=c) HB0.out).trans B1)
  clear B1 L1 HA HR0 HB0 HL0
  have r0:=HR1.out.q0
  have r1:=HR1.out.q1
  have r2:=HR1.out.q2
  have r3:=HR1.out.q3
  have r4:=HR1.out.q4
  have s0:=HR1.out.f0
  have s1:=HR1.out.f1
  have s2:=HR1.out.f2
  have s3:=HR1.out.f3
  have s4:=HR1.out.f4
  go_wp2_with fail
  refine bodyPost_ret (v:=.agg #[.int .i64 1,.int .i64 0,.string ⟨#[]⟩,.slice none 0 0,.slice none 0 0]) (by simp [results,Tryz.results113,go_sem, *]) rfl ?_
  exact fin_w 1 0 ByteArray.empty (by omega) (by omega) (by omega) (by simp) HX.out HW1.out hlc HL1.out
 | false =>
  have HA:=hid (word_no c s j wNull _ HL0.out hj hp1)
  have HX0:Hid (wordO s j=if pfx s j wTrue=true then some (leafT 2 1 ByteArray.empty,j+4) else if pfx s j wFalse=true then some (leafT 2 0 ByteArray.empty,j+5) else none):=by show _=_;unfold wordO;rw [if_neg (by rw [hp1];simp)]
  clear hp1
  go_enter Tryz.func113,Tryz.ntmps113
  go_wp2_with fail
  refine HA.out.mono ?_
  rintro e w1 ⟨rfl,B1,L1⟩
  have HL1:=hid L1
  have HR1:=hid (HR0.out.move B1.size (B1.block _ HR0.out.lt (by omega)))
  have HW1:=hid ((But.of (c:=c) HB0.out).trans B1)
  clear B1 L1 HA HR0 HB0 HL0
  cases hp2:pfx s j wTrue with
  | true =>
   have HA2:=hid (word_yes c s j wTrue _ HL1.out hs hp2)
   have HX:Hid (wordO s j=some (leafT 2 1 ByteArray.empty,j+4)):=by show _=_;rw [HX0.out,if_pos hp2]
   clear hp2
   go_wp2_with fail
   refine HA2.out.mono ?_
   rintro e w2 ⟨rfl,B2,L2⟩
   have HL2:=hid L2
   have HR2:=hid (HR1.out.move B2.size (B2.block _ HR1.out.lt (by omega)))
   have HW2:=hid (HW1.out.trans B2)
   clear B2 L2 HA2 HR1 HW1 HL1
   have r0:=HR2.out.q0
   have r1:=HR2.out.q1
   have r2:=HR2.out.q2
   have r3:=HR2.out.q3
   have r4:=HR2.out.q4
   have s0:=HR2.out.f0
   have s1:=HR2.out.f1
   have s2:=HR2.out.f2
   have s3:=HR2.out.f3
   have s4:=HR2.out.f4
   go_wp2_with fail
   refine bodyPost_ret (v:=.agg #[.int .i64 2,.int .i64 1,.string ⟨#[]⟩,.slice none 0 0,.slice none 0 0]) (by simp [results,Tryz.results113,go_sem, *]) rfl ?_
   exact fin_w 2 1 ByteArray.empty (by omega) (by omega) (by omega) (by simp) HX.out HW2.out hlc HL2.out
  | false =>
   have HA2:=hid (word_no c s j wTrue _ HL1.out hj hp2)
   have HX1:Hid (wordO s j=if pfx s j wFalse=true then some (leafT 2 0 ByteArray.empty,j+5) else none):=by show _=_;rw [HX0.out,if_neg (by rw [hp2];simp)]
   clear hp2
   go_wp2_with fail
   refine HA2.out.mono ?_
   rintro e w2 ⟨rfl,B2,L2⟩
   have HL2:=hid L2
   have HR2:=hid (HR1.out.move B2.size (B2.block _ HR1.out.lt (by omega)))
   have HW2:=hid (HW1.out.trans B2)
   clear B2 L2 HA2 HR1 HW1 HL1
   cases hp3:pfx s j wFalse with
   | true =>
    have HA3:=hid (word_yes c s j wFalse _ HL2.out hs hp3)
    have HX:Hid (wordO s j=some (leafT 2 0 ByteArray.empty,j+5)):=by show _=_;rw [HX1.out,if_pos hp3]
    clear hp3
    go_wp2_with fail
    refine HA3.out.mono ?_
    rintro e w3 ⟨rfl,B3,L3⟩
    have HL3:=hid L3
    have HR3:=hid (HR2.out.move B3.size (B3.block _ HR2.out.lt (by omega)))
    have HW3:=hid (HW2.out.trans B3)
    clear B3 L3 HA3 HR2 HW2 HL2
    have r0:=HR3.out.q0
    have r1:=HR3.out.q1
    have r2:=HR3.out.q2
    have r3:=HR3.out.q3
    have r4:=HR3.out.q4
    have s0:=HR3.out.f0
    have s1:=HR3.out.f1
    have s2:=HR3.out.f2
    have s3:=HR3.out.f3
    have s4:=HR3.out.f4
    go_wp2_with fail
    refine bodyPost_ret (v:=.agg #[.int .i64 2,.int .i64 0,.string ⟨#[]⟩,.slice none 0 0,.slice none 0 0]) (by simp [results,Tryz.results113,go_sem, *]) rfl ?_
    exact fin_w 2 0 ByteArray.empty (by omega) (by omega) (by omega) (by simp) HX.out HW3.out hlc HL3.out
   | false =>
    have HA3:=hid (word_no c s j wFalse _ HL2.out hj hp3)
    have HX:Hid (wordO s j=none):=by show _=_;rw [HX1.out,if_neg (by rw [hp3];simp)]
    clear hp3
    go_wp2_with fail
    refine HA3.out.mono ?_
    rintro e w3 ⟨rfl,B3,L3⟩
    have HW3:=hid (HW2.out.trans B3)
    clear B3 L3 HA3 HR2 HW2 HL2
    go_wp2_with fail
    exact ⟨rfl,HW3.out,Or.inr ⟨HX.out,rfl⟩⟩
end Go.Proofs.YtknakfpciccoaabGreatDoor
/- The walk of the program's parser: a value without the blanks around it. -/
namespace Go.Proofs.YtknakfpciccoaabGreatDoor
open Go.RowKit
theorem bareV_word {f:Nat→Option (T×Nat)} {s:ByteArray} {j:Nat} (h1:cB s j≠34) (h2:cB s j≠91) (h3:cB s j≠123) (h4:¬ (cB s j=45∨isD (cB s j)=true)):bareV f s j=wordO s j:=by
 unfold bareV wordO
 rw [if_neg h1,if_neg h2,if_neg h3,if_neg h4]
theorem pk_of {s:ByteArray} {j a:Nat} (h:cB s j=a) (ha:a<256):pk s j=a:=by rw [pk_eq (by omega),h]
theorem pk_ne {s:ByteArray} {j a:Nat} (h:cB s j≠a) (ha:0<a):pk s j≠a:=by
 unfold pk
 split
 ·exact h
 ·omega
set_option maxHeartbeats 4000000 in
set_option maxRecDepth 100000 in
theorem bare_text {Tb:World→Prop} (hD:DecSaid Tb) (n:Nat) (s:ByteArray) (c:Nat) (hS:Stays Tb c) (j:Nat) (w:World) (h:PL c s j w) (hT:Tb w) (hs:s.size≤4000) (hj:j≤s.size) (hq:cB s j=34) :
  Calls Tryz.prog 72 #[.pointer (some ⟨c,0,none⟩)] w (VPost (n+1) c s (bareV (valN s n) s j) id w):=by
 have HB0:Hid (Below w.heap.size w (w.alloc (.cells #[.int .i64 0,.int .i64 0,.string ⟨#[]⟩,.slice none 0 0,.slice none 0 0] 36))):=(Below.refl _ _).alloc (Nat.le_refl _) _
 have HR0:Hid (BoxAt w.heap.size (.int .i64 0) (.int .i64 0) (.string ⟨#[]⟩) (.slice none 0 0) (.slice none 0 0) (w.alloc (.cells #[.int .i64 0,.int .i64 0,.string ⟨#[]⟩,.slice none 0 0,.slice none 0 0] 36))):=box_new w _ _ _ _ _
 have hlc:=h.lt
 have HL0:=hid (h.keep HB0.out)
 have HT:=hid hT
 have HS:=hid hS
 have HD:=hid hD
 have HP:=hid (peek_any c s j _ HL0.out hj)
 have hpk:=pk_of hq (by omega)
 have HX:Hid (bareV (valN s n) s j=(txtS s j).map fun p=>(leafT 4 0 p.1,p.2)):=by show _=_;unfold bareV;rw [if_pos hq]
 clear h hT hS hD hq
 go_enter Tryz.func72,Tryz.ntmps72
 go_wp2_with fail
 refine HP.out.mono ?_
 rintro e w1 ⟨rfl,b1⟩
 have HL1:=hid (HL0.out.keep b1)
 have HR1:=hid (HR0.out.keepB b1)
 have HW1:=hid (But.of (c:=c) (HB0.out.trans (b1.mono HB0.out.size)))
 have HT1:=hid (But.stays HS.out HT.out HW1.out (Nat.le_of_lt hlc))
 have HA:=hid (str_any HD.out c HS.out s j w1 HL1.out HT1.out hs hj)
 clear b1 HP HR0 HB0 HL0
 rw [hpk]
 go_wp2_with fail
 refine HA.out.mono ?_
 rintro e w2 ⟨B2,⟨x,k,hx,rfl,L2⟩ | ⟨hx,rfl⟩⟩
 ·have hadv:=txtS_adv hx
  have HL2:=hid L2
  have HR2:=hid (HR1.out.move B2.size (B2.block _ HR1.out.lt (by omega)))
  have HW2:=hid (HW1.out.trans B2)
  have HZ:Hid (bareV (valN s n) s j=some (leafT 4 0 x,k)):=by show _=_;rw [HX.out,hx];rfl
  clear B2 L2 HA HR1 HW1 HL1 hx
  have r0:=HR2.out.q0
  have r1:=HR2.out.q1
  have r2:=HR2.out.q2
  have r3:=HR2.out.q3
  have r4:=HR2.out.q4
  have s0:=HR2.out.f0
  have s1:=HR2.out.f1
  have s2:=HR2.out.f2
  have s3:=HR2.out.f3
  have s4:=HR2.out.f4
  go_wp2_with fail
  refine bodyPost_ret (v:=.agg #[.int .i64 4,.int .i64 0,.string x,.slice none 0 0,.slice none 0 0]) (by simp [results,Tryz.results72,go_sem, *]) rfl ?_
  exact fin_w 4 0 x (by omega) (by omega) (by omega) (by omega) HZ.out HW2.out hlc HL2.out
 ·have HW2:=hid (HW1.out.trans B2)
  have HZ:Hid (bareV (valN s n) s j=none):=by show _=_;rw [HX.out,hx];rfl
  clear B2 hx
  go_wp2_with fail
  exact ⟨rfl,HW2.out,Or.inr ⟨HZ.out,rfl⟩⟩
set_option maxHeartbeats 4000000 in
set_option maxRecDepth 100000 in
theorem bare_list {Tb:World→Prop} (n:Nat) (s:ByteArray) (ih:VSaid Tb s n) (c:Nat) (hS:Stays Tb c) (j:Nat) (w:World) (h:PL c s j w) (hT:Tb w) (hs:s.size≤4000) (hj:j≤s.size) (hn:s.size<j+n+1) (hq:cB s j=91) :
  Calls Tryz.prog 72 #[.pointer (some ⟨c,0,none⟩)] w (VPost (n+1) c s (bareV (valN s n) s j) id w):=by
 have HB0:Hid (Below w.heap.size w (w.alloc (.cells #[.int .i64 0,.int .i64 0,.string ⟨#[]⟩,.slice none 0 0,.slice none 0 0] 36))):=(Below.refl _ _).alloc (Nat.le_refl _) _
 have HR0:Hid (BoxAt w.heap.size (.int .i64 0) (.int .i64 0) (.string ⟨#[]⟩) (.slice none 0 0) (.slice none 0 0) (w.alloc (.cells #[.int .i64 0,.int .i64 0,.string ⟨#[]⟩,.slice none 0 0,.slice none 0 0] 36))):=box_new w _ _ _ _ _
 have hlc:=h.lt
 have HL0:=hid (h.keep HB0.out)
 have HT:=hid hT
 have HS:=hid hS
 have HI:=hid ih
 have HP:=hid (peek_any c s j _ HL0.out hj)
 have hpk:=pk_of hq (by omega)
 have HX:Hid (bareV (valN s n) s j=(boxS (valN s n) s false (j+1)).map fun r=>(mkT 5 0 ByteArray.empty r.1.2 r.1.1,r.2)):=by show _=_;unfold bareV;rw [if_neg (by omega),if_pos hq]
 have Hq:=hid hq
 clear h hT hS ih hq
 go_enter Tryz.func72,Tryz.ntmps72
 go_wp2_with fail
 refine HP.out.mono ?_
 rintro e w1 ⟨rfl,b1⟩
 have HL1:=hid (HL0.out.keep b1)
 have HR1:=hid (HR0.out.keepB b1)
 have HW1:=hid (But.of (c:=c) (HB0.out.trans (b1.mono HB0.out.size)))
 have HT1:=hid (But.stays HS.out HT.out HW1.out (Nat.le_of_lt hlc))
 have HA:=hid (list_any n s HI.out c HS.out j w1 HL1.out HT1.out hs Hq.out hn)
 have hl1:=HR1.out.lt
 clear b1 HP HR0 HB0 HL0
 rw [hpk]
 go_wp2_with fail
 refine HA.out.mono ?_
 rintro e w2 ⟨B2,⟨t,k,es,A,B,C,D,hx,rfl,hF,hSp,L2⟩ | ⟨hx,rfl⟩⟩
 ·have HL2:=hid L2
  have HR2:=hid (HR1.out.move B2.size (B2.block _ HR1.out.lt (by omega)))
  have HW2:=hid (HW1.out.trans B2)
  have HZ:Hid (bareV (valN s n) s j=some (t,k)):=by show _=_;rw [HX.out,hx]
  have HF:=hid hF
  have HSp:=hid hSp
  clear B2 L2 HA HR1 HW1 HL1 hx hF hSp
  have r0:=HR2.out.q0
  have r1:=HR2.out.q1
  have r2:=HR2.out.q2
  have r3:=HR2.out.q3
  have r4:=HR2.out.q4
  have s0:=HR2.out.f0
  have s1:=HR2.out.f1
  have s2:=HR2.out.f2
  have s3:=HR2.out.f3
  have s4:=HR2.out.f4
  unfold five at HF ⊢
  go_wp2_with fail
  refine bodyPost_ret (v:=.agg #[.int .i64 (kindOf t),.int .i64 (nOf t),.string (sOf t),.slice A (nL t) B,.slice C (nK t) D]) (by simp [results,Tryz.results72,go_sem, *]) rfl ?_
  exact fin_v HZ.out HW2.out hlc hl1 HF.out HSp.out HL2.out
 ·have HW2:=hid (HW1.out.trans B2)
  have HZ:Hid (bareV (valN s n) s j=none):=by show _=_;rw [HX.out,hx]
  clear B2 hx
  go_wp2_with fail
  exact ⟨rfl,HW2.out,Or.inr ⟨HZ.out,rfl⟩⟩
set_option maxHeartbeats 4000000 in
set_option maxRecDepth 100000 in
theorem bare_object {Tb:World→Prop} (hD:DecSaid Tb) (n:Nat) (s:ByteArray) (ih:VSaid Tb s n) (c:Nat) (hS:Stays Tb c) (j:Nat) (w:World) (h:PL c s j w) (hT:Tb w) (hs:s.size≤4000) (hj:j≤s.size) (hn:s.size<j+n+1) (hq:cB s j=123) :
  Calls Tryz.prog 72 #[.pointer (some ⟨c,0,none⟩)] w (VPost (n+1) c s (bareV (valN s n) s j) id w):=by
 have HB0:Hid (Below w.heap.size w (w.alloc (.cells #[.int .i64 0,.int .i64 0,.string ⟨#[]⟩,.slice none 0 0,.slice none 0 0] 36))):=(Below.refl _ _).alloc (Nat.le_refl _) _
 have HR0:Hid (BoxAt w.heap.size (.int .i64 0) (.int .i64 0) (.string ⟨#[]⟩) (.slice none 0 0) (.slice none 0 0) (w.alloc (.cells #[.int .i64 0,.int .i64 0,.string ⟨#[]⟩,.slice none 0 0,.slice none 0 0] 36))):=box_new w _ _ _ _ _
 have hlc:=h.lt
 have HL0:=hid (h.keep HB0.out)
 have HT:=hid hT
 have HS:=hid hS
 have HD:=hid hD
 have HI:=hid ih
 have HP:=hid (peek_any c s j _ HL0.out hj)
 have hpk:=pk_of hq (by omega)
 have HX:Hid (bareV (valN s n) s j=(boxS (valN s n) s true (j+1)).map fun r=>(mkT 6 0 ByteArray.empty r.1.2 r.1.1,r.2)):=by show _=_;unfold bareV;rw [if_neg (by omega),if_neg (by omega),if_pos hq]
 have Hq:=hid hq
 clear h hT hS hD ih hq
 go_enter Tryz.func72,Tryz.ntmps72
 go_wp2_with fail
 refine HP.out.mono ?_
 rintro e w1 ⟨rfl,b1⟩
 have HL1:=hid (HL0.out.keep b1)
 have HR1:=hid (HR0.out.keepB b1)
 have HW1:=hid (But.of (c:=c) (HB0.out.trans (b1.mono HB0.out.size)))
 have HT1:=hid (But.stays HS.out HT.out HW1.out (Nat.le_of_lt hlc))
 have HA:=hid (object_any HD.out n s HI.out c HS.out j w1 HL1.out HT1.out hs Hq.out hn)
 have hl1:=HR1.out.lt
 clear b1 HP HR0 HB0 HL0
 rw [hpk]
 go_wp2_with fail
 refine HA.out.mono ?_
 rintro e w2 ⟨B2,⟨t,k,es,A,B,C,D,hx,rfl,hF,hSp,L2⟩ | ⟨hx,rfl⟩⟩
 ·have HL2:=hid L2
  have HR2:=hid (HR1.out.move B2.size (B2.block _ HR1.out.lt (by omega)))
  have HW2:=hid (HW1.out.trans B2)
  have HZ:Hid (bareV (valN s n) s j=some (t,k)):=by show _=_;rw [HX.out,hx]
  have HF:=hid hF
  have HSp:=hid hSp
  clear B2 L2 HA HR1 HW1 HL1 hx hF hSp
  have r0:=HR2.out.q0
  have r1:=HR2.out.q1
  have r2:=HR2.out.q2
  have r3:=HR2.out.q3
  have r4:=HR2.out.q4
  have s0:=HR2.out.f0
  have s1:=HR2.out.f1
  have s2:=HR2.out.f2
  have s3:=HR2.out.f3
  have s4:=HR2.out.f4
  unfold five at HF ⊢
  go_wp2_with fail
  refine bodyPost_ret (v:=.agg #[.int .i64 (kindOf t),.int .i64 (nOf t),.string (sOf t),.slice A (nL t) B,.slice C (nK t) D]) (by simp [results,Tryz.results72,go_sem, *]) rfl ?_
  exact fin_v HZ.out HW2.out hlc hl1 HF.out HSp.out HL2.out
 ·have HW2:=hid (HW1.out.trans B2)
  have HZ:Hid (bareV (valN s n) s j=none):=by show _=_;rw [HX.out,hx]
  clear B2 hx
  go_wp2_with fail
  exact ⟨rfl,HW2.out,Or.inr ⟨HZ.out,rfl⟩⟩
set_option maxHeartbeats 4000000 in
set_option maxRecDepth 100000 in
theorem bare_num {Tb:World→Prop} (hN:IntSaid Tb) (n:Nat) (s:ByteArray) (c:Nat) (hS:Stays Tb c) (j:Nat) (w:World) (h:PL c s j w) (hT:Tb w) (hs:s.size≤4000) (hj:j≤s.size) (hq:cB s j=45∨isD (cB s j)=true) :
  Calls Tryz.prog 72 #[.pointer (some ⟨c,0,none⟩)] w (VPost (n+1) c s (bareV (valN s n) s j) id w):=by
 have HB0:Hid (Below w.heap.size w (w.alloc (.cells #[.int .i64 0,.int .i64 0,.string ⟨#[]⟩,.slice none 0 0,.slice none 0 0] 36))):=(Below.refl _ _).alloc (Nat.le_refl _) _
 have HR0:Hid (BoxAt w.heap.size (.int .i64 0) (.int .i64 0) (.string ⟨#[]⟩) (.slice none 0 0) (.slice none 0 0) (w.alloc (.cells #[.int .i64 0,.int .i64 0,.string ⟨#[]⟩,.slice none 0 0,.slice none 0 0] 36))):=box_new w _ _ _ _ _
 have hlc:=h.lt
 have HL0:=hid (h.keep HB0.out)
 have HT:=hid hT
 have HS:=hid hS
 have HN:=hid hN
 have HP:=hid (peek_any c s j _ HL0.out hj)
 have hrg:45≤cB s j∧cB s j≤57:=by
  rcases hq with hq | hq
  ·omega
  ·unfold isD at hq;simp at hq;omega
 have hpk:pk s j=cB s j:=pk_eq (by omega)
 have HX:Hid (bareV (valN s n) s j=(numS s j).map fun p=>(leafT 3 p.1 ByteArray.empty,p.2)):=by show _=_;unfold bareV;rw [if_neg (by omega),if_neg (by omega),if_neg (by omega),if_pos hq]
 have Hq:=hid hq
 obtain ⟨a,ha⟩:∃ a,cB s j=a:=⟨_,rfl⟩
 have HG:Hid (a=45∨isD a=true):=by rw [← ha];exact hq
 rw [ha] at hrg hpk
 have Ha:=hid ha
 clear h hT hS hN hq ha
 have y1:((a:Int)==34)=false:=by rw [beq_eq_false_iff_ne];omega
 have y2:((a:Int)==91)=false:=by rw [beq_eq_false_iff_ne];omega
 have y3:((a:Int)==123)=false:=by rw [beq_eq_false_iff_ne];omega
 clear hrg
 go_enter Tryz.func72,Tryz.ntmps72
 go_wp2_with fail
 refine HP.out.mono ?_
 rintro e w1 ⟨rfl,b1⟩
 have HL1:=hid (HL0.out.keep b1)
 have HR1:=hid (HR0.out.keepB b1)
 have HW1:=hid (But.of (c:=c) (HB0.out.trans (b1.mono HB0.out.size)))
 have HT1:=hid (But.stays HS.out HT.out HW1.out (Nat.le_of_lt hlc))
 have HA:=hid (int_any HN.out c HS.out s j w1 HL1.out HT1.out hs Hq.out)
 clear b1 HP HR0 HB0 HL0
 rw [hpk]
 by_cases h45:a=45
 ·have y4:((a:Int)==45)=true:=by rw [beq_iff_eq];omega
  clear h45
  go_wp2_with fail
  refine HA.out.mono ?_
  rintro e w2 ⟨B2,⟨v,k,hx,rfl,L2⟩ | ⟨hx,rfl⟩⟩
  ·have hadv:=numS_adv hj hx
   have HL2:=hid L2
   have HR2:=hid (HR1.out.move B2.size (B2.block _ HR1.out.lt (by omega)))
   have HW2:=hid (HW1.out.trans B2)
   have HZ:Hid (bareV (valN s n) s j=some (leafT 3 v ByteArray.empty,k)):=by show _=_;rw [HX.out,hx];rfl
   clear B2 L2 HA HR1 HW1 HL1 hx
   have r0:=HR2.out.q0
   have r1:=HR2.out.q1
   have r2:=HR2.out.q2
   have r3:=HR2.out.q3
   have r4:=HR2.out.q4
   have s0:=HR2.out.f0
   have s1:=HR2.out.f1
   have s2:=HR2.out.f2
   have s3:=HR2.out.f3
   have s4:=HR2.out.f4
   go_wp2_with fail
   refine bodyPost_ret (v:=.agg #[.int .i64 3,.int .i64 v,.string ⟨#[]⟩,.slice none 0 0,.slice none 0 0]) (by simp [results,Tryz.results72,go_sem, *]) rfl ?_
   exact fin_w 3 v ByteArray.empty (by omega) (by omega) hadv.2.2 (by simp) HZ.out HW2.out hlc HL2.out
  ·have HW2:=hid (HW1.out.trans B2)
   have HZ:Hid (bareV (valN s n) s j=none):=by show _=_;rw [HX.out,hx];rfl
   clear B2 hx
   go_wp2_with fail
   exact ⟨rfl,HW2.out,Or.inr ⟨HZ.out,rfl⟩⟩
 ·have y4:((a:Int)==45)=false:=by rw [beq_eq_false_iff_ne];omega
  have hd:isD a=true:=HG.out.resolve_left h45
  have HDg:=hid (isDigit_nat a w1)
  rw [hd] at HDg
  clear h45 hd
  go_wp2_with fail
  refine HDg.out.mono ?_
  rintro e w1' ⟨rfl,rfl⟩
  go_wp2_with fail
  refine HA.out.mono ?_
  rintro e w2 ⟨B2,⟨v,k,hx,rfl,L2⟩ | ⟨hx,rfl⟩⟩
  ·have hadv:=numS_adv hj hx
   have HL2:=hid L2
   have HR2:=hid (HR1.out.move B2.size (B2.block _ HR1.out.lt (by omega)))
   have HW2:=hid (HW1.out.trans B2)
   have HZ:Hid (bareV (valN s n) s j=some (leafT 3 v ByteArray.empty,k)):=by show _=_;rw [HX.out,hx];rfl
   clear B2 L2 HA HR1 HW1 HL1 hx
   have r0:=HR2.out.q0
   have r1:=HR2.out.q1
   have r2:=HR2.out.q2
   have r3:=HR2.out.q3
   have r4:=HR2.out.q4
   have s0:=HR2.out.f0
   have s1:=HR2.out.f1
   have s2:=HR2.out.f2
   have s3:=HR2.out.f3
   have s4:=HR2.out.f4
   go_wp2_with fail
   refine bodyPost_ret (v:=.agg #[.int .i64 3,.int .i64 v,.string ⟨#[]⟩,.slice none 0 0,.slice none 0 0]) (by simp [results,Tryz.results72,go_sem, *]) rfl ?_
   exact fin_w 3 v ByteArray.empty (by omega) (by omega) hadv.2.2 (by simp) HZ.out HW2.out hlc HL2.out
  ·have HW2:=hid (HW1.out.trans B2)
   have HZ:Hid (bareV (valN s n) s j=none):=by show _=_;rw [HX.out,hx];rfl
   clear B2 hx
   go_wp2_with fail
   exact ⟨rfl,HW2.out,Or.inr ⟨HZ.out,rfl⟩⟩
set_option maxHeartbeats 4000000 in
set_option maxRecDepth 100000 in
theorem bare_word (n:Nat) (s:ByteArray) (c:Nat) (j:Nat) (w:World) (h:PL c s j w) (hs:s.size≤4000) (hj:j≤s.size) (h1:cB s j≠34) (h2:cB s j≠91) (h3:cB s j≠123) (h4:¬ (cB s j=45∨isD (cB s j)=true)) :
  Calls Tryz.prog 72 #[.pointer (some ⟨c,0,none⟩)] w (VPost (n+1) c s (bareV (valN s n) s j) id w):=by
 have HB0:Hid (Below w.heap.size w (w.alloc (.cells #[.int .i64 0,.int .i64 0,.string ⟨#[]⟩,.slice none 0 0,.slice none 0 0] 36))):=(Below.refl _ _).alloc (Nat.le_refl _) _
 have HR0:Hid (BoxAt w.heap.size (.int .i64 0) (.int .i64 0) (.string ⟨#[]⟩) (.slice none 0 0) (.slice none 0 0) (w.alloc (.cells #[.int .i64 0,.int .i64 0,.string ⟨#[]⟩,.slice none 0 0,.slice none 0 0] 36))):=box_new w _ _ _ _ _
 have hlc:=h.lt
 have HL0:=hid (h.keep HB0.out)
 have HP:=hid (peek_any c s j _ HL0.out hj)
 have HX:=hid (bareV_word (f:=valN s n) h1 h2 h3 h4)
 have p1:=pk_ne h1 (by omega)
 have p2:=pk_ne h2 (by omega)
 have p3:=pk_ne h3 (by omega)
 have p4:pk s j≠45:=pk_ne (fun e=>h4 (Or.inl e)) (by omega)
 have p5:isD (pk s j)=false:=by rw [isD_pk];simpa using fun e=>h4 (Or.inr e)
 clear h h1 h2 h3 h4
 obtain ⟨a,ha⟩:∃ a,pk s j=a:=⟨_,rfl⟩
 rw [ha] at HP p1 p2 p3 p4 p5
 clear ha
 have y1:((a:Int)==34)=false:=by rw [beq_eq_false_iff_ne];omega
 have y2:((a:Int)==91)=false:=by rw [beq_eq_false_iff_ne];omega
 have y3:((a:Int)==123)=false:=by rw [beq_eq_false_iff_ne];omega
 have y4:((a:Int)==45)=false:=by rw [beq_eq_false_iff_ne];omega
 clear p1 p2 p3 p4
 go_enter Tryz.func72,Tryz.ntmps72
 go_wp2_with fail
 refine HP.out.mono ?_
 rintro e w1 ⟨rfl,b1⟩
 have HL1:=hid (HL0.out.keep b1)
 have HR1:=hid (HR0.out.keepB b1)
 have HW1:=hid (But.of (c:=c) (HB0.out.trans (b1.mono HB0.out.size)))
 have HA:=hid (word_any n c s j w1 HL1.out hs hj)
 have HDg:=hid (isDigit_nat a w1)
 rw [p5] at HDg
 have hl1:=HR1.out.lt
 clear b1 HP HR0 HB0 HL0 p5
 go_wp2_with fail
 refine HDg.out.mono ?_
 rintro e w1' ⟨rfl,rfl⟩
 go_wp2_with fail
 refine HA.out.mono ?_
 rintro e w2 ⟨B2,⟨t,k,es,A,B,C,D,hx,rfl,hF,hSp,L2⟩ | ⟨hx,rfl⟩⟩
 ·have HL2:=hid L2
  have HR2:=hid (HR1.out.move B2.size (B2.block _ HR1.out.lt (by omega)))
  have HW2:=hid (HW1.out.trans B2)
  have HZ:Hid (bareV (valN s n) s j=some (t,k)):=by show _=_;rw [HX.out,hx]
  have HF:=hid hF
  have HSp:=hid hSp
  clear B2 L2 HA HR1 HW1 HL1 hx hF hSp
  have r0:=HR2.out.q0
  have r1:=HR2.out.q1
  have r2:=HR2.out.q2
  have r3:=HR2.out.q3
  have r4:=HR2.out.q4
  have s0:=HR2.out.f0
  have s1:=HR2.out.f1
  have s2:=HR2.out.f2
  have s3:=HR2.out.f3
  have s4:=HR2.out.f4
  unfold five at HF ⊢
  go_wp2_with fail
  refine bodyPost_ret (v:=.agg #[.int .i64 (kindOf t),.int .i64 (nOf t),.string (sOf t),.slice A (nL t) B,.slice C (nK t) D]) (by simp [results,Tryz.results72,go_sem, *]) rfl ?_
  exact fin_v HZ.out HW2.out hlc hl1 HF.out HSp.out HL2.out
 ·have HW2:=hid (HW1.out.trans B2)
  have HZ:Hid (bareV (valN s n) s j=none):=by show _=_;rw [HX.out,hx]
  clear B2 hx
  go_wp2_with fail
  exact ⟨rfl,HW2.out,Or.inr ⟨HZ.out,rfl⟩⟩
theorem bare_any {Tb:World→Prop} (hD:DecSaid Tb) (hN:IntSaid Tb) (n:Nat) (s:ByteArray) (ih:VSaid Tb s n) (c:Nat) (hS:Stays Tb c) (j:Nat) (w:World) (h:PL c s j w) (hT:Tb w) (hs:s.size≤4000) (hj:j≤s.size) (hn:s.size<j+n+1) :
  Calls Tryz.prog 72 #[.pointer (some ⟨c,0,none⟩)] w (VPost (n+1) c s (bareV (valN s n) s j) id w):=by
 by_cases h1:cB s j=34
 ·exact bare_text hD n s c hS j w h hT hs hj h1
 by_cases h2:cB s j=91
 ·exact bare_list n s ih c hS j w h hT hs hj hn h2
 by_cases h3:cB s j=123
 ·exact bare_object hD n s ih c hS j w h hT hs hj hn h3
 by_cases h4:cB s j=45∨isD (cB s j)=true
 ·exact bare_num hN n s c hS j w h hT hs hj h4
 ·exact bare_word n s c j w h hs hj h1 h2 h3 h4
end Go.Proofs.YtknakfpciccoaabGreatDoor
/- The walks of the program's parser: value, depth, names that are there twice. -/
namespace Go.Proofs.YtknakfpciccoaabGreatDoor
open Go.RowKit
set_option maxHeartbeats 4000000 in
set_option maxRecDepth 100000 in
theorem v_step {Tb:World→Prop} (hD:DecSaid Tb) (hN:IntSaid Tb) (n:Nat) (s:ByteArray) (hs:s.size≤4000) (ih:VSaid Tb s n):VSaid Tb s (n+1):=by
 intro c i w hS h hT hi hn
 have HB0:Hid (Below w.heap.size w (w.alloc (.cells #[.int .i64 0,.int .i64 0,.string ⟨#[]⟩,.slice none 0 0,.slice none 0 0] 36))):=(Below.refl _ _).alloc (Nat.le_refl _) _
 have HR0:Hid (BoxAt w.heap.size (.int .i64 0) (.int .i64 0) (.string ⟨#[]⟩) (.slice none 0 0) (.slice none 0 0) (w.alloc (.cells #[.int .i64 0,.int .i64 0,.string ⟨#[]⟩,.slice none 0 0,.slice none 0 0] 36))):=box_new w _ _ _ _ _
 have hlc:=h.lt
 have HL0:=hid (h.keep HB0.out)
 have HT:=hid hT
 have HS:=hid hS
 have HD:=hid hD
 have HN:=hid hN
 have HI:=hid ih
 have HK:=hid (skip_any c s i _ HL0.out hs hi)
 have hge:=sk_ge s i
 have hle:=sk_le hi
 have HX:Hid (valN s (n+1) i=bareV (valN s n) s (sk s i)):=by show _=_;rw [valN]
 clear h hT hS hD hN ih
 go_enter Tryz.func44,Tryz.ntmps44
 go_wp2_with fail
 refine HK.out.mono ?_
 rintro e w1 ⟨rfl,B1,L1⟩
 have HL1:=hid L1
 have HR1:=hid (HR0.out.move B1.size (B1.block _ HR0.out.lt (by omega)))
 have HW1:=hid ((But.of (c:=c) HB0.out).trans B1)
 have HT1:=hid (But.stays HS.out HT.out HW1.out (Nat.le_of_lt hlc))
 have hz1:w.heap.size<w1.heap.size:=HR1.out.lt
 have HC:=hid (bare_any HD.out HN.out n s HI.out c HS.out (sk s i) w1 HL1.out HT1.out hs hle (by omega))
 clear B1 L1 HK HR0 HB0 HL0
 go_wp2_with fail
 refine HC.out.mono ?_
 rintro e w2 ⟨B2,⟨t,j,es,A,B,C,D,hz,rfl,hF,hSp,L2⟩ | ⟨hz,rfl⟩⟩
 ·have hadv:=valN_adv (n+1) i t j hi (HX.out.trans hz)
  have HL2:=hid L2
  have HR2:=hid (HR1.out.move B2.size (B2.block _ HR1.out.lt (by omega)))
  have HW2:=hid (HW1.out.trans B2)
  have HZ:Hid (valN s (n+1) i=some (t,j)):=HX.out.trans hz
  have HF:=hid hF
  have HSp:=hid hSp
  have hz2:w.heap.size<w2.heap.size:=HR2.out.lt
  have hc2:c<w2.heap.size:=HL2.out.lt
  clear B2 L2 HR1 HW1 HL1 HT1 hz HX hF hSp HC
  have HB3:Hid (Below w2.heap.size w2 (w2.alloc (.cells #[.int .i64 (kindOf t),.int .i64 (nOf t),.string (sOf t),.slice A (nL t) B,.slice C (nK t) D] 36))):=(Below.refl _ _).alloc (Nat.le_refl _) _
  have HV3:Hid (BoxAt w2.heap.size (.int .i64 (kindOf t)) (.int .i64 (nOf t)) (.string (sOf t)) (.slice A (nL t) B) (.slice C (nK t) D) (w2.alloc (.cells #[.int .i64 (kindOf t),.int .i64 (nOf t),.string (sOf t),.slice A (nL t) B,.slice C (nK t) D] 36))):=box_new w2 _ _ _ _ _
  have HK3:=hid (skip_any c s j _ (HL2.out.keep HB3.out) hs hadv.2)
  unfold five at HF ⊢
  go_wp2_with fail
  refine HK3.out.mono ?_
  rintro e w4 ⟨rfl,B4,L4⟩
  have HL4:=hid L4
  have HV4:=hid (HV3.out.move B4.size (B4.block _ HV3.out.lt (by omega)))
  have B24:=(But.of (c:=c) HB3.out).trans B4
  have HR4:=hid (HR2.out.move B24.size (B24.block _ HR2.out.lt (by omega)))
  have HW4:=hid (HW2.out.trans B24)
  have HF4:=hid (HF.out.move fun b hb=>B24.block b (HSp.out.lies b hb).2 (by have:=(HSp.out.lies b hb).1;omega))
  have HS4:=hid (HSp.out.keep B24.size)
  clear B4 L4 B24 HK3 HV3 HB3 HR2 HW2 HF HSp HL2
  have r0:=HR4.out.q0
  have r1:=HR4.out.q1
  have r2:=HR4.out.q2
  have r3:=HR4.out.q3
  have r4:=HR4.out.q4
  have s0:=HR4.out.f0
  have s1:=HR4.out.f1
  have s2:=HR4.out.f2
  have s3:=HR4.out.f3
  have s4:=HR4.out.f4
  have t0:=HV4.out.q0
  have t1:=HV4.out.q1
  have t2:=HV4.out.q2
  have t3:=HV4.out.q3
  have t4:=HV4.out.q4
  go_wp2_with fail
  refine bodyPost_ret (v:=.agg #[.int .i64 (kindOf t),.int .i64 (nOf t),.string (sOf t),.slice A (nL t) B,.slice C (nK t) D]) (by simp [results,Tryz.results44,go_sem, *]) rfl ?_
  exact fin_v HZ.out HW4.out hlc hz1 HF4.out HS4.out HL4.out
 ·have HW2:=hid (HW1.out.trans B2)
  have HZ:Hid (valN s (n+1) i=none):=HX.out.trans hz
  clear B2 hz
  go_wp2_with fail
  exact ⟨rfl,HW2.out,Or.inr ⟨HZ.out,rfl⟩⟩
theorem v_any {Tb:World→Prop} (hD:DecSaid Tb) (hN:IntSaid Tb) (s:ByteArray) (hs:s.size≤4000):∀ n,VSaid Tb s n
 | 0=>fun c i w _ _ _ hi hn=>by omega
 | n+1=>v_step hD hN n s hs (v_any hD hN s hs n)
set_option maxHeartbeats 1000000 in
set_option maxRecDepth 100000 in
theorem depth_any (f:Nat):∀ (v:Value) (t:T) (w:World),At w f v t→f≤100000 →
  Calls Tryz.prog 45 #[v] w fun e w'=>e=.returned (.int .i64 (deepT f t))∧Below w.heap.size w w':=by
 induction f with
 | zero=>intro v t w h;exact h.elim
 | succ f ih =>
  intro v t w h hm
  obtain ⟨g,La,Ka,Lc,Kc,hg,rfl,hf,hl,hk⟩:=h.open
  have hg2:g=f:=by omega
  subst hg2
  have hlen:=hf.l1
  clear h hf hk hg
  by_cases h5:isBox t=true
  ·have e5:((kindOf t) != 5)=true∧((kindOf t != 6))=false∨((kindOf t) != 5)=false:=by
    simp only [isBox,Bool.or_eq_true,beq_iff_eq] at h5
    rcases h5 with h5 | h5<;>simp [h5]
   have Hr:Hid (deepT (g+1) t=deepL (deepT g) t (nL t)+1):=by show deepT (g+1) t=_;simp only [deepT,h5,if_true]
   clear h5
   rcases e5 with ⟨e5,e6⟩ | e5
   all_goals
    go_enter Tryz.func45,Tryz.ntmps45
    go_wp2_with fail
    go_loopg [3,5,17] (nL t) (fun g' n z i wr=>∃ k:Nat,g'=nL t - k∧k≤nL t∧i=.int .i64 k∧n=.int .i64 (deepL (deepT g) t k:Nat)∧Below (w.heap.size+1) (w.alloc (.cells #[.int .i64 (kindOf t),.int .i64 (nOf t),.string (sOf t),.slice La (nL t) Lc,.slice Ka (nK t) Kc] 36)) wr)
    case atStart=>exact ⟨0,rfl,Nat.zero_le _,rfl,rfl,Below.refl _ _⟩
    case round =>
     obtain ⟨k,rfl,hk,rfl,rfl,hb⟩:=hrel
     obtain ⟨q0,q1,q2,q3,q4,hz,hbw⟩:=box_facts hb
     have Hb:=hid hb
     clear hb
     have hd0:=deepL_le (deepT_le g) t k
     by_cases hlt:k<nL t
     ·obtain ⟨b,o,A,B,C,D,rfl,hbl,p0,p1,p2,p3,p4,Ha⟩:=hl.out.shape hbw k hlt
      have hd1:=deepT_le g (elt t k)
      have Hs:Hid (deepL (deepT g) t (k+1)=max (deepL (deepT g) t k) (deepT g (elt t k))):=rfl
      have HB1:Hid (Below wr.heap.size wr (wr.alloc (.cells #[.int .i64 (kindOf (elt t k)),.int .i64 (nOf (elt t k)),.string (sOf (elt t k)),.slice A (nL (elt t k)) B,.slice C (nK (elt t k)) D] 36))):=(Below.refl _ _).alloc (Nat.le_refl _) _
      have HA1:=hid (Ha.out.keep (hbw.trans (HB1.out.mono hbw.size)))
      go_wp2_with fail
      refine (ih _ _ _ HA1.out (by omega)).mono ?_
      rintro e w2 ⟨rfl,hb2⟩
      have hb3:=Hb.out.trans ((HB1.out.trans (hb2.mono HB1.out.size)).mono (by omega))
      go_wp2_with fail
      all_goals
       go_roundg (nL t - (k+1))
       case rel=>exact ⟨k+1,rfl,by omega,by go_num,by rw [Hs.out];go_num,hb3⟩
       case measure=>omega
     ·go_wp2_with fail
      go_ret
      have hk2:k=nL t:=by omega
      subst hk2
      refine ⟨ret_int ?_,hbw⟩
      rw [Hr.out]
      go_num
  ·have e5:((kindOf t) != 5)=true∧((kindOf t != 6))=true:=by
    simp only [isBox,Bool.or_eq_true,beq_iff_eq,not_or] at h5
    simp [h5]
   obtain ⟨e5,e6⟩:=e5
   have Hr:Hid (deepT (g+1) t=0):=by show deepT (g+1) t=_;simp only [deepT];rw [if_neg h5]
   clear h5
   go_enter Tryz.func45,Tryz.ntmps45
   go_wp2_with fail
   go_ret
   exact ⟨ret_int (by rw [Hr.out];rfl),(Below.refl _ _).alloc (Nat.le_refl _) _⟩
set_option maxHeartbeats 1000000 in
set_option maxRecDepth 100000 in
theorem nameTwice_any (f:Nat):∀ (v:Value) (t:T) (w:World),At w f v t →
  Calls Tryz.prog 46 #[v] w fun e w'=>e=.returned (.bool (twiceT f t))∧Below w.heap.size w w':=by
 induction f with
 | zero=>intro v t w h;exact h.elim
 | succ f ih =>
  intro v t w h
  obtain ⟨g,La,Ka,Lc,Kc,hg,rfl,hf,hl,hk⟩:=h.open
  obtain rfl:f=g:=by omega
  have hlen:=hf.l1
  have klen:=hf.m1
  clear h hf
  have HB0:Hid (Below w.heap.size w (w.alloc (.cells #[.int .i64 (kindOf t),.int .i64 (nOf t),.string (sOf t),.slice La (nL t) Lc,.slice Ka (nK t) Kc] 36))):=(Below.refl _ _).alloc (Nat.le_refl _) _
  have HD:=hid (different_any Ka Kc t _ (hk.out.keep HB0.out) klen)
  have Hr:Hid (twiceT (f+1) t=(dupTo t (nK t) || anyL (twiceT f) t (nL t))):=rfl
  generalize twiceT (f+1) t=r at Hr ⊢
  cases hd:dupTo t (nK t) with
  | true =>
   rw [hd] at HD Hr
   go_enter Tryz.func46,Tryz.ntmps46
   go_wp2_with fail
   refine HD.out.mono ?_
   rintro e w1 ⟨rfl,hb1⟩
   have HB1:=hid (HB0.out.trans (hb1.mono HB0.out.size))
   clear hb1 HD
   go_wp2_with fail
   go_ret
   exact ⟨ret_bool (by rw [Hr.out];rfl),HB1.out⟩
  | false =>
   rw [hd] at HD Hr
   go_enter Tryz.func46,Tryz.ntmps46
   go_wp2_with fail
   refine HD.out.mono ?_
   rintro e w1 ⟨rfl,hb1⟩
   have HB1:Hid (Below (w.heap.size+1) (w.alloc (.cells #[.int .i64 (kindOf t),.int .i64 (nOf t),.string (sOf t),.slice La (nL t) Lc,.slice Ka (nK t) Kc] 36)) w1):=by
    show Below _ _ _
    have:(w.alloc (.cells #[.int .i64 (kindOf t),.int .i64 (nOf t),.string (sOf t),.slice La (nL t) Lc,.slice Ka (nK t) Kc] 36)).heap.size=w.heap.size+1:=by simp
    rw [this] at hb1
    exact hb1
   obtain ⟨y0,y1,y2,y3,y4,hzy,hbyw⟩:=box_facts HB1.out
   clear hb1 HD HB0
   go_wp2_with fail
   go_loopg [4,12] (nL t) (fun g' z i wr=>∃ k:Nat,g'=nL t - k∧k≤nL t∧i=.int .i64 k∧Hid (anyL (twiceT f) t k=false)∧Below (w.heap.size+1) (w.alloc (.cells #[.int .i64 (kindOf t),.int .i64 (nOf t),.string (sOf t),.slice La (nL t) Lc,.slice Ka (nK t) Kc] 36)) wr)
   case atStart=>exact ⟨0,rfl,Nat.zero_le _,rfl,rfl,HB1.out⟩
   case round =>
    clear y0 y1 y2 y3 y4 hzy hbyw HB1
    obtain ⟨k,rfl,hk2,rfl,hd2,hb⟩:=hrel
    obtain ⟨q0,q1,q2,q3,q4,hz,hbw⟩:=box_facts hb
    have Hb:=hid hb
    clear hb
    by_cases hlt:k<nL t
    ·obtain ⟨b,o,A,B,C,D,rfl,hbl,p0,p1,p2,p3,p4,Ha⟩:=hl.out.shape hbw k hlt
     have HB2:Hid (Below wr.heap.size wr (wr.alloc (.cells #[.int .i64 (kindOf (elt t k)),.int .i64 (nOf (elt t k)),.string (sOf (elt t k)),.slice A (nL (elt t k)) B,.slice C (nK (elt t k)) D] 36))):=(Below.refl _ _).alloc (Nat.le_refl _) _
     have HA1:=hid (Ha.out.keep (hbw.trans (HB2.out.mono hbw.size)))
     go_wp2_with fail
     refine (ih _ _ _ HA1.out).mono ?_
     rintro e w2 ⟨rfl,hb2⟩
     have HB3:=hid (Hb.out.trans ((HB2.out.trans (hb2.mono HB2.out.size)).mono (by omega)))
     have HBw:=hid (hbw.trans ((HB2.out.trans (hb2.mono HB2.out.size)).mono hbw.size))
     clear hb2
     cases ht:twiceT f (elt t k) with
     | true =>
      have Hy:Hid (r=true):=by
       show r=true
       rw [Hr.out,Bool.false_or]
       cases ha:anyL (twiceT f) t (nL t) with
       | true=>rfl
       | false=>rw [(anyL_iff.1 ha) k hlt] at ht;cases ht
      go_wp2_with fail
      go_ret
      exact ⟨ret_bool Hy.out.symm,HBw.out⟩
     | false =>
      have Hy:Hid (anyL (twiceT f) t (k+1)=false):=by
       show (anyL (twiceT f) t k || twiceT f (elt t k))=false
       rw [hd2.out,ht]
       rfl
      go_wp2_with fail
      go_roundg (nL t - (k+1))
      case rel=>exact ⟨k+1,rfl,by omega,by go_num,Hy,HB3.out⟩
      case measure=>omega
    ·obtain rfl:k=nL t:=by omega
     go_wp2_with fail
     go_ret
     exact ⟨ret_bool (by rw [Hr.out,hd2.out];rfl),hbw⟩
end Go.Proofs.YtknakfpciccoaabGreatDoor
/- The walks of the program's reader: value, parseBytes, Decode. -/
namespace Go.Proofs.YtknakfpciccoaabGreatDoor
open Go.RowKit
section
variable {b : Option (ByteArray → Option (T × ByteArray))} {s : ByteArray}
end
end Go.Proofs.YtknakfpciccoaabGreatDoor
/- The walk of the program's reader: value, of numbers; and all. -/
namespace Go.Proofs.YtknakfpciccoaabGreatDoor
open Go.RowKit
end Go.Proofs.YtknakfpciccoaabGreatDoor
/- The walks of parseBytes and Decode. -/
namespace Go.Proofs.YtknakfpciccoaabGreatDoor
open Go.RowKit
theorem put_res2 {w wr:World} {f lo b:Nat} {v:Value} {t:T} {es:List Ent} (hB:Below w.heap.size w wr) (hF:Flat wr f v t es) (hS:Sep lo wr es) (hb:w.heap.size≤b) (hlo:b<lo) (u0 u1 u2 u3 u4:Value) :
  Below w.heap.size w (((((wr.setCell ⟨b,0,none⟩ u0).setCell ⟨b,1,none⟩ u1).setCell ⟨b,2,none⟩ u2).setCell ⟨b,3,none⟩ u3).setCell ⟨b,4,none⟩ u4) ∧
  Flat (((((wr.setCell ⟨b,0,none⟩ u0).setCell ⟨b,1,none⟩ u1).setCell ⟨b,2,none⟩ u2).setCell ⟨b,3,none⟩ u3).setCell ⟨b,4,none⟩ u4) f v t es ∧
  Sep w.heap.size (((((wr.setCell ⟨b,0,none⟩ u0).setCell ⟨b,1,none⟩ u1).setCell ⟨b,2,none⟩ u2).setCell ⟨b,3,none⟩ u3).setCell ⟨b,4,none⟩ u4) es:=by
 have hset:∀ (w1:World) (o:Nat) (u:Value) (b':Nat),b'≠b→(w1.setCell ⟨b,o,none⟩ u).heap[b']?=w1.heap[b']?:=fun w1 o u b' hb=>Below.heap_setCell _ _ _ _ (by simpa using hb)
 refine ⟨((((hB.setCell hb _).setCell hb _).setCell hb _).setCell hb _).setCell hb _,hF.move fun b' hb'=>?_,?_⟩
 ·have h1:=hS.lies b' hb'
  rw [hset _ _ _ _ (by omega),hset _ _ _ _ (by omega),hset _ _ _ _ (by omega),hset _ _ _ _ (by omega),hset _ _ _ _ (by omega)]
 ·exact (hS.lower (by omega)).keep (by simp [World.setCell])
end Go.Proofs.YtknakfpciccoaabGreatDoor
