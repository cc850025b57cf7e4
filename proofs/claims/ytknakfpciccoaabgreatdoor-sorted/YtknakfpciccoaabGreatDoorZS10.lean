import Derived.Test.YtknakfpciccoaabGreatDoorZS9
import Derived.Test.YtknakfpciccoaabGreatDoorZS5
import Derived.Shelf.LaysM
import Derived.Shelf.Strconv.Itoa3
import Derived.Test.YtknakfpciccoaabGreatDoorProg
import Derived.Test.YtknakfpciccoaabGreatDoorZS2
import Derived.Test.YtknakfpciccoaabGreatDoorZS3
import Derived.Test.YtknakfpciccoaabGreatDoorZS1
/- The walks of parseText and Parse. -/
namespace Go.Proofs.YtknakfpciccoaabGreatDoor
open Go.RowKit
def Okj (s:ByteArray) (t:T):Prop:=eJ s=0∧tJ s=t
theorem eJ_long {s:ByteArray} (h:4000<s.size):eJ s=1:=by unfold eJ;rw [if_pos h]
theorem full_none {s:ByteArray} (hv:valN s (s.size+1) 0=none):fullJ s=none:=by unfold fullJ;rw [hv];rfl
theorem full_rest {s:ByteArray} {t:T} {j:Nat} (hv:valN s (s.size+1) 0=some (t,j)) (h:sk s j≠s.size):fullJ s=none:=by unfold fullJ;rw [hv];simp only [Option.bind_some];rw [if_neg h]
theorem full_some {s:ByteArray} {t:T} {j:Nat} (hv:valN s (s.size+1) 0=some (t,j)) (h:sk s j=s.size):fullJ s=some t:=by unfold fullJ;rw [hv];simp only [Option.bind_some];rw [if_pos h]
theorem eJ_none {s:ByteArray} (h:s.size≤4000) (hf:fullJ s=none):eJ s=2:=by unfold eJ;rw [if_neg (by omega),hf];rfl
theorem eJ_some {s:ByteArray} {t:T} (h:s.size≤4000) (hf:fullJ s=some t):eJ s=if 12<deepT (s.size+1) t then 3 else if twiceT (s.size+1) t=true then 4 else 0:=by unfold eJ;rw [if_neg (by omega),hf];rfl
theorem tJ_some {s:ByteArray} {t:T} (h0:eJ s=0) (hf:fullJ s=some t):tJ s=t:=by unfold tJ;rw [if_pos h0,hf];rfl
def TextPostJ (s:ByteArray) (w:World) (e:Ending) (w':World):Prop :=
 Below w.heap.size w w'∧((∃ t es A B C D,Okj s t∧e=.returned (five t A B C D)∧Flat w' 13 (five t A B C D) t es∧Sep w.heap.size w' es)∨(eJ s≠0∧e=refusedT (eJ s)))
theorem pl_new (w:World) (s:ByteArray):PL w.heap.size s 0 (w.alloc (.cells #[.string s,.int .i64 0] 90)):=by
 refine ⟨?_,?_,?_,?_⟩<;>simp [go_sem]
set_option maxHeartbeats 4000000 in
set_option maxRecDepth 100000 in
theorem parseText_any {Tb:World→Prop} (hD:DecSaid Tb) (hN:IntSaid Tb) (hL:Lies Tb) (s:ByteArray) (w:World) (hs:s.size≤140737488355328) (hT:Tb w) :
  Calls Tryz.prog 28 #[.string s] w (TextPostJ s w):=by
 have HT:=hid hT
 clear hT
 by_cases hlong:4000<s.size
 ·have HZ:=hid (eJ_long hlong)
  have x1:decide ((4000:Int)<(s.size:Int))=true:=decide_eq_true (by omega)
  go_enter Tryz.func28,Tryz.ntmps28
  go_wp2_with fail
  refine ⟨rfl,(Below.refl _ _).alloc (Nat.le_refl _) _,Or.inr ⟨by rw [HZ.out];omega,?_⟩⟩
  rw [HZ.out]
 ·have hle:s.size≤4000:=by omega
  have x1:decide ((4000:Int)<(s.size:Int))=false:=decide_eq_false (by omega)
  have HB0:Hid (Below w.heap.size w ((w.alloc (.cells #[.int .i64 0,.int .i64 0,.string ⟨#[]⟩,.slice none 0 0,.slice none 0 0] 36)).alloc (.cells #[.string s,.int .i64 0] 90))):=((Below.refl _ _).alloc (Nat.le_refl _) _).alloc (by simp) _
  have HR0:Hid (BoxAt w.heap.size (.int .i64 0) (.int .i64 0) (.string ⟨#[]⟩) (.slice none 0 0) (.slice none 0 0) ((w.alloc (.cells #[.int .i64 0,.int .i64 0,.string ⟨#[]⟩,.slice none 0 0,.slice none 0 0] 36)).alloc (.cells #[.string s,.int .i64 0] 90))):=(box_new w _ _ _ _ _).move (by simp) (Below.heap_alloc _ _ _ (by simp))
  have HL0:Hid (PL (w.heap.size+1) s 0 ((w.alloc (.cells #[.int .i64 0,.int .i64 0,.string ⟨#[]⟩,.slice none 0 0,.slice none 0 0] 36)).alloc (.cells #[.string s,.int .i64 0] 90))):=by
   have:=pl_new (w.alloc (.cells #[.int .i64 0,.int .i64 0,.string ⟨#[]⟩,.slice none 0 0,.slice none 0 0] 36)) s
   show PL _ _ _ _
   simpa using this
  have hst:Stays Tb (w.heap.size+1):=fun a b h1 h2=>hL w HT.out a b h1 (h2.mono (by omega))
  have HN:=hid (v_any hD hN s hle (s.size+1) (w.heap.size+1) 0 _ hst HL0.out (hL _ HT.out _ _ HT.out HB0.out) (by omega) (by omega))
  have hz0:((w.alloc (.cells #[.int .i64 0,.int .i64 0,.string ⟨#[]⟩,.slice none 0 0,.slice none 0 0] 36)).alloc (.cells #[.string s,.int .i64 0] 90)).heap.size=w.heap.size+2:=by simp
  have Hz0:=hid hz0
  clear hz0 HL0 hst hlong
  go_enter Tryz.func28,Tryz.ntmps28
  go_wp2_with fail
  refine HN.out.mono ?_
  rintro e w1 ⟨B1,⟨t,j,es,A,B,C,D,hd,rfl,hF,hS,L1⟩ | ⟨hd,rfl⟩⟩
  ·have hl1:w.heap.size+2≤w1.heap.size:=by have:=B1.size;rw [Hz0.out] at this;exact this
   have HW1:=hid (HB0.out.trans ((B1.below (by rw [Hz0.out];omega)).mono (by omega)))
   have HR1:=hid (HR0.out.move B1.size (B1.block _ HR0.out.lt (by omega)))
   have hcnt:=valN_cnt _ _ _ _ (by omega) hd
   have hadv:=valN_adv _ _ _ _ (by omega) hd
   have Htame:=hid hcnt.2
   have hF1:=hF.keep hS ((Below.refl w1.heap.size w1).alloc (Nat.le_refl _) (.cells #[.int .i64 (kindOf t),.int .i64 (nOf t),.string (sOf t),.slice A (nL t) B,.slice C (nK t) D] 36))
   have HF:=hid hF1
   have HS:Hid (Sep (w.heap.size+2) w1 es):=by
    have:=hS
    rw [Hz0.out] at this
    exact this
   have Hd:=hid hd
   have HV1:=hid (box_new w1 (.int .i64 (kindOf t)) (.int .i64 (nOf t)) (.string (sOf t)) (.slice A (nL t) B) (.slice C (nK t) D))
   have HBa:Hid (Below w1.heap.size w1 (w1.alloc (.cells #[.int .i64 (kindOf t),.int .i64 (nOf t),.string (sOf t),.slice A (nL t) B,.slice C (nK t) D] 36))):=(Below.refl _ _).alloc (Nat.le_refl _) _
   have HLa:=hid (L1.keep HBa.out)
   have HRa:=hid (HR1.out.move HBa.out.size (HBa.out.block _ HR1.out.lt))
   have hq:=HLa.out.q1
   have v0:=HV1.out.q0
   have v1:=HV1.out.q1
   have v2:=HV1.out.q2
   have v3:=HV1.out.q3
   have v4:=HV1.out.q4
   have hskl:=sk_le hadv.2
   clear B1 L1 hF hF1 hS hd HN HR0 HB0 hcnt hadv
   unfold five
   by_cases h0:sk s j=s.size
   ·have Hfull:=hid (full_some Hd.out h0)
    have HeJ:=hid (eJ_some hle Hfull.out)
    have x2:¬ ((sk s j:Int)<(s.size:Int)):=by omega
    have HI:=hid (depth_any (s.size+1) _ t _ HF.out.at (by omega))
    unfold five at HI
    clear h0
    go_wp2_with fail
    refine HI.out.mono ?_
    rintro e w3 ⟨rfl,hb3⟩
    have hz1:(w1.alloc (.cells #[.int .i64 (kindOf t),.int .i64 (nOf t),.string (sOf t),.slice A (nL t) B,.slice C (nK t) D] 36)).heap.size=w1.heap.size+1:=by simp
    have HF3:=hid (HF.out.keep (HS.out.keep HBa.out.size) hb3)
    have HS3:=hid ((HS.out.keep HBa.out.size).keep hb3.size)
    have HR3:=hid (HRa.out.move hb3.size (hb3.block _ HRa.out.lt))
    have HV3:=hid (HV1.out.move hb3.size (hb3.block _ HV1.out.lt))
    have HW3:=hid ((HW1.out.trans (HBa.out.mono (by omega))).trans (hb3.mono (by omega)))
    clear hb3 hz1 hq v0 v1 v2 v3 v4 HF HS HRa HV1 HBa HLa HI HR1 HW1
    have v0:=HV3.out.q0
    have v1:=HV3.out.q1
    have v2:=HV3.out.q2
    have v3:=HV3.out.q3
    have v4:=HV3.out.q4
    by_cases hdp:12<deepT (s.size+1) t
    ·have HZ:Hid (eJ s=3):=by show _=_;rw [HeJ.out,if_pos hdp]
     have x3:decide ((12:Int)<(deepT (s.size+1) t:Int))=true:=decide_eq_true (by omega)
     clear hdp
     go_wp2_with fail
     refine ⟨rfl,HW3.out,Or.inr ⟨by rw [HZ.out];omega,?_⟩⟩
     rw [HZ.out]
    ·have x3:decide ((12:Int)<(deepT (s.size+1) t:Int))=false:=decide_eq_false (by omega)
     have HI2:=hid (nameTwice_any (s.size+1) _ t _ HF3.out.at)
     have Hdp:Hid (deepT (s.size+1) t≤12):=by show _≤_;omega
     unfold five at HI2
     have HeJ2:Hid (eJ s=if twiceT (s.size+1) t=true then 4 else 0):=by show _=_;rw [HeJ.out,if_neg hdp]
     clear hdp HeJ
     go_wp2_with fail
     refine HI2.out.mono ?_
     rintro e w4 ⟨rfl,hb4⟩
     have HF4:=hid (flat_cut (HF3.out.keep HS3.out hb4) Htame.out Hdp.out)
     have HS4:=hid (HS3.out.keep hb4.size)
     have HR4:=hid (HR3.out.move hb4.size (hb4.block _ HR3.out.lt))
     have HV4:=hid (HV3.out.move hb4.size (hb4.block _ HV3.out.lt))
     have HW4:=hid (HW3.out.trans (hb4.mono HW3.out.size))
     clear hb4 v0 v1 v2 v3 v4 HF3 HS3 HR3 HV3 HI2 HW3
     have v0:=HV4.out.q0
     have v1:=HV4.out.q1
     have v2:=HV4.out.q2
     have v3:=HV4.out.q3
     have v4:=HV4.out.q4
     have r0:=HR4.out.q0
     have r1:=HR4.out.q1
     have r2:=HR4.out.q2
     have r3:=HR4.out.q3
     have r4:=HR4.out.q4
     have s0:=HR4.out.f0
     have s1:=HR4.out.f1
     have s2:=HR4.out.f2
     have s3:=HR4.out.f3
     have s4:=HR4.out.f4
     by_cases htw:twiceT (s.size+1) t=true
     ·have HZ:Hid (eJ s=4):=by show _=_;rw [HeJ2.out,if_pos htw]
      go_wp2_with fail
      refine ⟨rfl,HW4.out,Or.inr ⟨by rw [HZ.out];omega,?_⟩⟩
      rw [HZ.out]
     ·have htw2:twiceT (s.size+1) t=false:=by simpa using htw
      have HZ:Hid (Okj s t):=by
       have h0:eJ s=0:=by rw [HeJ2.out,if_neg htw]
       exact ⟨h0,tJ_some h0 Hfull.out⟩
      clear htw
      go_wp2_with fail
      refine bodyPost_ret (v:=five t A B C D) (by simp [results,Tryz.results28,go_sem,five, *]) rfl ?_
      obtain ⟨p1,p2,p3⟩:=put_res2 HW4.out HF4.out HS4.out (Nat.le_refl _) (by omega) (.int .i64 (kindOf t)) (.int .i64 (nOf t)) (.string (sOf t)) (.slice A (nL t) B) (.slice C (nK t) D)
      exact ⟨p1,Or.inl ⟨t,es,A,B,C,D,HZ.out,rfl,p2,p3⟩⟩
   ·have HZ:=hid (eJ_none hle (full_rest Hd.out h0))
    have x2:(sk s j:Int)<(s.size:Int):=by omega
    clear h0
    go_wp2_with fail
    refine ⟨rfl,HW1.out.trans (HBa.out.mono (by omega)),Or.inr ⟨by rw [HZ.out];omega,?_⟩⟩
    rw [HZ.out]
  ·have HW1:=hid (HB0.out.trans ((B1.below (by rw [Hz0.out];omega)).mono (by omega)))
   have HZ:=hid (eJ_none hle (full_none hd))
   clear B1 hd
   go_wp2_with fail
   refine ⟨rfl,HW1.out,Or.inr ⟨by rw [HZ.out];omega,?_⟩⟩
   rw [HZ.out]
def parR1 (s:ByteArray) (lo:Nat) (v:Value) (w':World):Prop:=∃ t es A B C D,Okj s t∧v=five t A B C D∧Flat w' 13 (five t A B C D) t es∧Sep lo w' es
def parQ1 (s:ByteArray) (n:Int):Prop:=n=eJ s∧eJ s≠0
set_option maxHeartbeats 1000000 in
set_option maxRecDepth 100000 in
theorem parse1_any {Tb:World→Prop} (hD:DecSaid Tb) (hN:IntSaid Tb) (hL:Lies Tb) (s:ByteArray) (b:Nat) (w:World) (hb:w.cell? ⟨b,0,none⟩=some (.string s)) (hlb:b<w.heap.size) (hs:s.size≤140737488355328) (hT:Tb w) :
  Calls Tryz.prog 27 #[.pointer (some ⟨b,0,none⟩)] w (Ends (parQ1 s) (parR1 s w.heap.size) w):=by
 have HB0:Hid (Below w.heap.size w (w.alloc (.cells #[.int .i64 0,.int .i64 0,.string ⟨#[]⟩,.slice none 0 0,.slice none 0 0] 36))):=(Below.refl _ _).alloc (Nat.le_refl _) _
 have HR0:Hid (BoxAt w.heap.size (.int .i64 0) (.int .i64 0) (.string ⟨#[]⟩) (.slice none 0 0) (.slice none 0 0) (w.alloc (.cells #[.int .i64 0,.int .i64 0,.string ⟨#[]⟩,.slice none 0 0,.slice none 0 0] 36))):=box_new w _ _ _ _ _
 have HN:=hid (parseText_any hD hN hL s _ hs (hL _ hT _ _ hT HB0.out))
 have Hz0:Hid ((w.alloc (.cells #[.int .i64 0,.int .i64 0,.string ⟨#[]⟩,.slice none 0 0,.slice none 0 0] 36)).heap.size=w.heap.size+1):=by
  show _=_
  simp
 have HT:=hid hT
 clear hT
 go_enter Tryz.func27,Tryz.ntmps27
 go_wp2_with fail
 refine HN.out.mono ?_
 rintro e w1 ⟨B1,⟨t,es,A,B,C,D,hr,rfl,hF,hS⟩ | ⟨hr,rfl⟩⟩
 ·have HR1:=hid (HR0.out.move B1.size (B1.block _ HR0.out.lt))
  have HW1:=hid (HB0.out.trans (B1.mono (by rw [Hz0.out];omega)))
  have HF:=hid hF
  have HS:Hid (Sep (w.heap.size+1) w1 es):=by
   have:=hS
   rw [Hz0.out] at this
   exact this
  have Hr:=hid hr
  clear B1 hF hS hr HN HR0 HB0
  have r0:=HR1.out.q0
  have r1:=HR1.out.q1
  have r2:=HR1.out.q2
  have r3:=HR1.out.q3
  have r4:=HR1.out.q4
  have s0:=HR1.out.f0
  have s1:=HR1.out.f1
  have s2:=HR1.out.f2
  have s3:=HR1.out.f3
  have s4:=HR1.out.f4
  unfold five
  go_wp2_with fail
  refine bodyPost_ret (v:=five t A B C D) (by simp [results,Tryz.results27,go_sem,five, *]) rfl ?_
  obtain ⟨p1,p2,p3⟩:=put_res2 HW1.out HF.out HS.out (Nat.le_refl _) (by omega) (.int .i64 (kindOf t)) (.int .i64 (nOf t)) (.string (sOf t)) (.slice A (nL t) B) (.slice C (nK t) D)
  exact ⟨p1,Or.inl ⟨t,A,B,C,D,rfl,t,es,A,B,C,D,Hr.out,rfl,p2,p3⟩⟩
 ·have HW1:=hid (HB0.out.trans (B1.mono (by rw [Hz0.out];omega)))
  have Hr:=hid hr
  clear B1 hr
  go_wp2_with fail
  exact ⟨rfl,HW1.out,Or.inr ⟨eJ s,⟨rfl,Hr.out⟩,rfl⟩⟩
def ParsePost (s:ByteArray) (w:World) (e:Ending) (w':World):Prop :=
 Below w.heap.size w w'∧((∃ t es A B C D,Okj s t∧e=.returned (.tuple #[five t A B C D,.int .i64 0])∧Flat w' 13 (five t A B C D) t es∧Sep w.heap.size w' es)∨(eJ s≠0∧e=.returned (.tuple #[zeroV,.int .i64 (eJ s)])))
set_option maxHeartbeats 1000000 in
set_option maxRecDepth 100000 in
theorem parse_any {Tb:World→Prop} (hD:DecSaid Tb) (hN:IntSaid Tb) (hL:Lies Tb) (s:ByteArray) (w:World) (hs:s.size≤140737488355328) (hT:Tb w) :
  Calls Tryz.prog 14 #[.string s] w (ParsePost s w):=by
 have hmf:∀ (fn:Fn) (first cap:Array Value) (w:World),(Instr.makeFunc fn first cap).run Tryz.prog w=.ok (.func fn first cap) w:=fun _ _ _ _=>rfl
 have HB0:Hid (Below w.heap.size w ((w.alloc (.cells #[.string s] 9)).alloc (.cells #[.int .i64 0,.int .i64 0,.string ⟨#[]⟩,.slice none 0 0,.slice none 0 0] 36))):=((Below.refl _ _).alloc (Nat.le_refl _) _).alloc (by simp) _
 have Hz0:Hid (((w.alloc (.cells #[.string s] 9)).alloc (.cells #[.int .i64 0,.int .i64 0,.string ⟨#[]⟩,.slice none 0 0,.slice none 0 0] 36)).heap.size=w.heap.size+2):=by
  show _=_
  simp
 have HR0:Hid (BoxAt (w.heap.size+1) (.int .i64 0) (.int .i64 0) (.string ⟨#[]⟩) (.slice none 0 0) (.slice none 0 0) ((w.alloc (.cells #[.string s] 9)).alloc (.cells #[.int .i64 0,.int .i64 0,.string ⟨#[]⟩,.slice none 0 0,.slice none 0 0] 36))):=by
  have:=box_new (w.alloc (.cells #[.string s] 9)) (.int .i64 0) (.int .i64 0) (.string ⟨#[]⟩) (.slice none 0 0) (.slice none 0 0)
  show BoxAt _ _ _ _ _ _ _
  simpa using this
 have HA:=hid (attempt 27 (fun _ _=>rfl) (parQ1 s) (parR1 s (w.heap.size+4)) (.pointer (some ⟨w.heap.size,0,none⟩)) ((w.alloc (.cells #[.string s] 9)).alloc (.cells #[.int .i64 0,.int .i64 0,.string ⟨#[]⟩,.slice none 0 0,.slice none 0 0] 36)) (by
  have hb1:Below w.heap.size w ((((w.alloc (.cells #[.string s] 9)).alloc (.cells #[.int .i64 0,.int .i64 0,.string ⟨#[]⟩,.slice none 0 0,.slice none 0 0] 36)).alloc (.cells #[.int .i64 0,.int .i64 0,.string ⟨#[]⟩,.slice none 0 0,.slice none 0 0] 36)).alloc (.cells #[.int .i64 0] 29)):=(HB0.out.alloc (by simp;omega) _).alloc (by simp;omega) _
  have:=parse1_any hD hN hL s w.heap.size ((((w.alloc (.cells #[.string s] 9)).alloc (.cells #[.int .i64 0,.int .i64 0,.string ⟨#[]⟩,.slice none 0 0,.slice none 0 0] 36)).alloc (.cells #[.int .i64 0,.int .i64 0,.string ⟨#[]⟩,.slice none 0 0,.slice none 0 0] 36)).alloc (.cells #[.int .i64 0] 29)) (by simp [go_sem]) (by simp;omega) hs (hL _ hT _ _ hT hb1)
  have e4:((((w.alloc (.cells #[.string s] 9)).alloc (.cells #[.int .i64 0,.int .i64 0,.string ⟨#[]⟩,.slice none 0 0,.slice none 0 0] 36)).alloc (.cells #[.int .i64 0,.int .i64 0,.string ⟨#[]⟩,.slice none 0 0,.slice none 0 0] 36)).alloc (.cells #[.int .i64 0] 29)).heap.size=w.heap.size+4:=by simp
  rw [e4] at this
  exact this))
 clear hT
 go_enter Tryz.func14,Tryz.ntmps14
 go_wp2_with fail
 refine HA.out.mono ?_
 rintro e w1 ⟨B1,⟨x,w2,rfl,⟨t,es,A,B,C,D,hr,rfl,hF,hS⟩,hab⟩ | ⟨n,⟨rfl,hr⟩,rfl⟩⟩
 ·have HR1:=hid (HR0.out.move B1.size (B1.block _ HR0.out.lt))
  have HW1:=hid (HB0.out.trans (B1.mono (by rw [Hz0.out];omega)))
  have HS:Hid (Sep (w.heap.size+4) w1 es):=by
   have:=hab.size
   exact hS.keep (by omega)
  have HF:Hid (Flat w1 13 (five t A B C D) t es):=hF.move fun b hb=>hab.block b (by have:=(hS.lies b hb).1;rw [Hz0.out];omega)
  have Hr:=hid hr
  clear B1 hF hS hr hab HA HR0 HB0
  have r0:=HR1.out.q0
  have r1:=HR1.out.q1
  have r2:=HR1.out.q2
  have r3:=HR1.out.q3
  have r4:=HR1.out.q4
  have s0:=HR1.out.f0
  have s1:=HR1.out.f1
  have s2:=HR1.out.f2
  have s3:=HR1.out.f3
  have s4:=HR1.out.f4
  unfold five
  go_wp2_with fail
  refine bodyPost_ret (v:=.tuple #[five t A B C D,.int .i64 0]) (by simp [results,Tryz.results14,go_sem,five, *]) rfl ?_
  obtain ⟨p1,p2,p3⟩:=put_res2 HW1.out HF.out HS.out (show w.heap.size≤w.heap.size+1 by omega) (by omega) (.int .i64 (kindOf t)) (.int .i64 (nOf t)) (.string (sOf t)) (.slice A (nL t) B) (.slice C (nK t) D)
  exact ⟨p1,Or.inl ⟨t,es,A,B,C,D,Hr.out,rfl,p2,p3⟩⟩
 ·have HR1:=hid (HR0.out.move B1.size (B1.block _ HR0.out.lt))
  have HW1:=hid (HB0.out.trans (B1.mono (by rw [Hz0.out];omega)))
  have Hr:=hid hr
  clear B1 hr HA HR0 HB0
  have r0:=HR1.out.q0
  have r1:=HR1.out.q1
  have r2:=HR1.out.q2
  have r3:=HR1.out.q3
  have r4:=HR1.out.q4
  have s0:=HR1.out.f0
  have s1:=HR1.out.f1
  have s2:=HR1.out.f2
  have s3:=HR1.out.f3
  have s4:=HR1.out.f4
  unfold zeroV
  go_wp2_with fail
  refine bodyPost_ret (v:=.tuple #[zeroV,.int .i64 (eJ s)]) (by simp [results,Tryz.results14,go_sem,zeroV, *]) rfl ?_
  have hb:w.heap.size≤w.heap.size+1:=by omega
  exact ⟨((((HW1.out.setCell hb _).setCell hb _).setCell hb _).setCell hb _).setCell hb _,Or.inr ⟨Hr.out,rfl⟩⟩
end Go.Proofs.YtknakfpciccoaabGreatDoor
/- One byte as a text. -/
namespace Go.Proofs.YtknakfpciccoaabGreatDoor
open Go.RowKit
def byteZ (a:Int):UInt8:=a.toNat.toUInt8
theorem byteZ_nat {a:Int} (h0:0≤a) (h1:a<256):((byteZ a).toNat:Int)=a:=by
 unfold byteZ
 rw [Nat.toUInt8,UInt8.toNat_ofNat']
 omega
theorem conv1 (w:World) (a:Int) (ha:0≤a∧a<256):(convert 98 9 (.slice (some ⟨w.heap.size,0,none⟩) 1 1)).run Tryz.prog (w.alloc (.cells #[.int .u8 a] 5))=.ok (.string ⟨#[byteZ a]⟩) (w.alloc (.cells #[.int .u8 a] 5)):=by
 refine run_convert_bytes_back (P:=Tryz.prog) (w.alloc (.cells #[.int .u8 a] 5)) 98 9 5 ⟨w.heap.size,0,none⟩ 1 [byteZ a] Tryz.underlying98 Tryz.underlying5 Tryz.underlying9 (fun j hj=>?_)
 have hx:=byteZ_nat ha.1 ha.2
 match j,hj with
 | 0,_=>simp [go_sem,Addr.add,hx]
end Go.Proofs.YtknakfpciccoaabGreatDoor
/- The contract of strconv.Itoa, of the library's shelf, laid at this dump. -/
namespace Go.Proofs
open Go.Shelf
def Tryz.laysItoa_ren:Go.Shelf.Ren:=⟨fun | 171=>12 | 243=>25 | 246=>42 | 283=>67 | 284=>68 | 285=>69 | 286=>70 | 129=>102 | 317=>101 | 318=>103 | 319=>104 | 320=>105 | 337=>131 | 338=>132 | n=>n,fun | 3=>3 | 9=>9 | 2=>2 | 4=>4 | 171=>111 | 0=>0 | 53=>112 | 37=>98 | 5=>5 | 173=>115 | 212=>145 | 51=>146 | 20=>20 | 213=>147 | 46=>148 | 232=>224 | 233=>225 | n=>n,fun | 17=>0 | 18=>3 | 19=>4 | n=>n⟩
theorem Tryz.laysItoa:Go.Proofs.LaysM.n171 Tryz.prog Tryz.laysItoa_ren:={
 mixed:=by kernel_rfl
 f129:=Tryz.func102.trans (congrArg some (by kernel_rfl))
 f171:=Tryz.func12.trans (congrArg some (by kernel_rfl))
 f243:=Tryz.func25.trans (congrArg some (by kernel_rfl))
 f246:=Tryz.func42.trans (congrArg some (by kernel_rfl))
 f283:=Tryz.func67.trans (congrArg some (by kernel_rfl))
 f284:=Tryz.func68.trans (congrArg some (by kernel_rfl))
 f285:=Tryz.func69.trans (congrArg some (by kernel_rfl))
 f286:=Tryz.func70.trans (congrArg some (by kernel_rfl))
 f317:=Tryz.func101.trans (congrArg some (by kernel_rfl))
 f318:=Tryz.func103.trans (congrArg some (by kernel_rfl))
 f319:=Tryz.func104.trans (congrArg some (by kernel_rfl))
 f320:=Tryz.func105.trans (congrArg some (by kernel_rfl))
 f337:=Tryz.func131.trans (congrArg some (by kernel_rfl))
 f338:=Tryz.func132.trans (congrArg some (by kernel_rfl))
 t0:=Tryz.underlying0
 a0:=Tryz.isAgg0
 z0:=Tryz.sizeOf0
 v0:=Tryz.zeroValue0
 t2:=Tryz.underlying2
 a2:=Tryz.isAgg2
 z2:=Tryz.sizeOf2
 v2:=Tryz.zeroValue2
 t3:=Tryz.underlying3
 a3:=Tryz.isAgg3
 z3:=Tryz.sizeOf3
 v3:=Tryz.zeroValue3
 t4:=Tryz.underlying4
 a4:=Tryz.isAgg4
 z4:=Tryz.sizeOf4
 v4:=Tryz.zeroValue4
 t5:=Tryz.underlying5
 a5:=Tryz.isAgg5
 z5:=Tryz.sizeOf5
 v5:=Tryz.zeroValue5
 t9:=Tryz.underlying9
 a9:=Tryz.isAgg9
 z9:=Tryz.sizeOf9
 v9:=Tryz.zeroValue9
 t20:=Tryz.underlying20
 a20:=Tryz.isAgg20
 z20:=Tryz.sizeOf20
 v20:=Tryz.zeroValue20
 t37:=Tryz.underlying98
 a37:=Tryz.isAgg98
 z37:=Tryz.sizeOf98
 v37:=Tryz.zeroValue98
 t46:=Tryz.underlying148
 a46:=Tryz.isAgg148
 z46:=Tryz.sizeOf148
 v46:=Tryz.zeroValue148
 t51:=Tryz.underlying146
 a51:=Tryz.isAgg146
 z51:=Tryz.sizeOf146
 v51:=Tryz.zeroValue146
 t53:=Tryz.underlying112
 a53:=Tryz.isAgg112
 z53:=Tryz.sizeOf112
 v53:=Tryz.zeroValue112
 t171:=Tryz.underlying111
 a171:=Tryz.isAgg111
 z171:=Tryz.sizeOf111
 v171:=Tryz.zeroValue111
 t173:=Tryz.underlying115
 a173:=Tryz.isAgg115
 z173:=Tryz.sizeOf115
 v173:=Tryz.zeroValue115
 t212:=Tryz.underlying145
 a212:=Tryz.isAgg145
 z212:=Tryz.sizeOf145
 v212:=Tryz.zeroValue145
 t213:=Tryz.underlying147
 a213:=Tryz.isAgg147
 z213:=Tryz.sizeOf147
 t232:=Tryz.underlying224
 a232:=Tryz.isAgg224
 z232:=Tryz.sizeOf224
 v232:=Tryz.zeroValue224
 t233:=Tryz.underlying225
 a233:=Tryz.isAgg225
 z233:=Tryz.sizeOf225
 v233:=Tryz.zeroValue225
 g17:=by kernel_rfl
 g18:=by kernel_rfl
 g19:=by kernel_rfl
 i0:=by kernel_rfl
 i2:=by kernel_rfl
 i3:=by kernel_rfl
 i4:=by kernel_rfl
 i5:=by kernel_rfl
 i9:=by kernel_rfl
 i20:=by kernel_rfl
 i37:=by kernel_rfl
 i46:=by kernel_rfl
 i51:=by kernel_rfl
 i53:=by kernel_rfl
 i171:=by kernel_rfl
 i173:=by kernel_rfl
 i212:=by kernel_rfl
 i232:=by kernel_rfl
 i233:=by kernel_rfl
 m17:=by kernel_rfl
 m18:=by kernel_rfl
 m19:=by kernel_rfl }
end Go.Proofs
/- The walks of pick and value. -/
namespace Go.Proofs.YtknakfpciccoaabGreatDoor
open Go.RowKit
def ItoaSaid (Tb:World→Prop):Prop:=∀ (n:Int) (w:World),-9223372036854775808≤n→n≤9223372036854775807→Tb w→Calls Tryz.prog 12 #[.int .i64 n] w fun e w'=>e=.returned (.string (baL (Lib.itoa n)))∧Below w.heap.size w w'
def absZ (c:Int):Int:=if c<0 then -(c+1) else c
theorem absZ_bd {c:Int} (h0:-9223372036854775808≤c) (h1:c≤9223372036854775807):0≤absZ c∧absZ c≤9223372036854775807:=by unfold absZ;split<;>omega
set_option maxHeartbeats 4000000 in
set_option maxRecDepth 100000 in
theorem pick_any (c n:Int) (w:World) (h0:-9223372036854775808≤c) (h1:c≤9223372036854775807) (hn:0<n) (hn2:n≤1099511627776) :
  Calls Tryz.prog 11 #[.int .i64 c,.int .i64 n] w fun e w'=>e=.returned (.int .i64 (absZ c % n))∧w'=w:=by
 have hz:(n==0)=false:=by rw [beq_eq_false_iff_ne];omega
 have hz2:n≠0:=by omega
 by_cases hc:c<0
 ·have HX:Hid (absZ c=-(c+1)):=by show _=_;unfold absZ;rw [if_pos hc]
  have hx:0≤-(c+1):=by omega
  go_enter Tryz.func11,Tryz.ntmps11
  go_wp2_with fail
  go_ret
  exact ⟨ret_int (by rw [HX.out,← Int.neg_tmod,Int.tmod_eq_emod_of_nonneg hx]),rfl⟩
 ·have HX:Hid (absZ c=c):=by show _=_;unfold absZ;rw [if_neg hc]
  have hx:0≤c:=by omega
  go_enter Tryz.func11,Tryz.ntmps11
  go_wp2_with fail
  go_ret
  exact ⟨ret_int (by rw [HX.out]),rfl⟩
theorem itoa_small {n:Int} (h0:0≤n) (h1:n<4):∃ k:Nat,k<4∧(k:Int)=n∧Lib.itoa n=[(k+48).toUInt8]:=by
 refine ⟨n.toNat,by omega,by omega,?_⟩
 have:=itoa_pos n.toNat (by omega)
 rw [Int.toNat_of_nonneg h0] at this
 exact this
theorem isV_list {x y:Int} (hx:0≤x) (hx4:x<4) (hy:0≤y) (hy4:y<4):IsV ((((⟨#[91]⟩++baL (Lib.itoa x))++⟨#[44]⟩)++baL (Lib.itoa y))++⟨#[93]⟩):=by
 obtain ⟨a,ha,_,ea⟩:=itoa_small hx hx4
 obtain ⟨b,hb,_,eb⟩:=itoa_small hy hy4
 rw [ea,eb]
 refine ⟨16+4*a+b,by omega,?_⟩
 obtain rfl | rfl | rfl | rfl:a=0∨a=1∨a=2∨a=3:=by omega
 all_goals
  obtain rfl | rfl | rfl | rfl:b=0∨b=1∨b=2∨b=3:=by omega
  all_goals kernel_rfl
theorem isV_obj {x:Int} (hx:0≤x) (hx4:x<4):IsV ((⟨#[123,34,98,34,58]⟩++baL (Lib.itoa x))++⟨#[125]⟩):=by
 obtain ⟨a,ha,_,ea⟩:=itoa_small hx hx4
 rw [ea]
 refine ⟨32+a,by omega,?_⟩
 obtain rfl | rfl | rfl | rfl:a=0∨a=1∨a=2∨a=3:=by omega
 all_goals kernel_rfl
theorem isV_txt {x:Int} (hx:0≤x) (hx3:x<3):IsV ((⟨#[34]⟩++⟨#[byteZ (97+x)]⟩)++⟨#[34]⟩):=by
 obtain rfl | rfl | rfl:x=0∨x=1∨x=2:=by omega
 ·exact ⟨12,by omega,by kernel_rfl⟩
 ·exact ⟨13,by omega,by kernel_rfl⟩
 ·exact ⟨14,by omega,by kernel_rfl⟩
theorem cat_run (a b:ByteArray) (n m:Nat) (ha:a.size=n) (hb:b.size=m) (h:n+m≤1000000):∃ c:ByteArray,c=a++b∧c.size=n+m∧∀ w:World,(Op.stringOp .add a b).run Tryz.prog w=.ok (.string c) w :=
 ⟨a++b,rfl,by rw [ByteArray.size_append];omega,fun w=>run_string_add_sum w a b (by omega)⟩
theorem itoa_size {n:Int} (h0:0≤n) (h1:n<4):(baL (Lib.itoa n)).size=1:=by
 obtain ⟨k,_,_,e⟩:=itoa_small h0 h1
 rw [e]
 rfl
def ValPostV (w:World) (e:Ending) (w':World):Prop:=∃ s,IsV s∧e=.returned (.string s)∧Below w.heap.size w w'
set_option maxHeartbeats 8000000 in
set_option maxRecDepth 100000 in
theorem value_any' {Tb:World→Prop} (hI:ItoaSaid Tb) (hL:Lies Tb) (c:Int) (w:World) (h0:-9223372036854775808≤c) (h1:c≤9223372036854775807) (hT:Tb w) :
  Calls Tryz.prog 32 #[.int .i64 c] w (ValPostV w):=by
 have HP1:=hid (pick_any c 1099511627776 w h0 h1 (by omega) (by omega))
 have HP2:=hid (pick_any c 8 w h0 h1 (by omega) (by omega))
 have hb:=absZ_bd h0 h1
 obtain ⟨P,hP⟩:∃ P,absZ c % 1099511627776=P:=⟨_,rfl⟩
 obtain ⟨k,hk⟩:∃ k,absZ c % 8=k:=⟨_,rfl⟩
 have p0:0≤P:=by omega
 have p1:P≤1099511627776:=by omega
 have k8:k=0∨k=1∨k=2∨k=3∨k=4∨k=5∨k=6∨k=7:=by omega
 rw [hP] at HP1
 rw [hk] at HP2
 clear hP hk hb h0 h1
 have HT:=hid hT
 have HI:=hid hI
 clear hT hI
 rcases k8 with rfl | rfl | rfl | rfl | rfl | rfl | rfl | rfl
 ·go_enter Tryz.func32,Tryz.ntmps32
  go_wp2_with fail
  refine HP1.out.mono ?_
  rintro e w ⟨rfl,rfl⟩
  go_wp2_with fail
  refine HP2.out.mono ?_
  rintro e w ⟨rfl,rfl⟩
  have HC:=hid (HI.out (P / 8 % 9 - 4) w (by omega) (by omega) HT.out)
  go_wp2_with fail
  refine HC.out.mono ?_
  rintro e w1 ⟨rfl,b1⟩
  have HB:=hid b1
  clear b1
  go_wp2_with fail
  go_ret
  exact ⟨_,isV_num (P / 8),rfl,HB.out⟩
 ·go_enter Tryz.func32,Tryz.ntmps32
  go_wp2_with fail
  refine HP1.out.mono ?_
  rintro e w ⟨rfl,rfl⟩
  go_wp2_with fail
  refine HP2.out.mono ?_
  rintro e w ⟨rfl,rfl⟩
  have HC:=hid (HI.out (P / 8 % 9 - 4) w (by omega) (by omega) HT.out)
  go_wp2_with fail
  refine HC.out.mono ?_
  rintro e w1 ⟨rfl,b1⟩
  have HB:=hid b1
  clear b1
  go_wp2_with fail
  go_ret
  exact ⟨_,isV_num (P / 8),rfl,HB.out⟩
 ·go_enter Tryz.func32,Tryz.ntmps32
  go_wp2_with fail
  refine HP1.out.mono ?_
  rintro e w ⟨rfl,rfl⟩
  go_wp2_with fail
  refine HP2.out.mono ?_
  rintro e w ⟨rfl,rfl⟩
  have HC:=hid (HI.out (P / 8 % 9 - 4) w (by omega) (by omega) HT.out)
  go_wp2_with fail
  refine HC.out.mono ?_
  rintro e w1 ⟨rfl,b1⟩
  have HB:=hid b1
  clear b1
  go_wp2_with fail
  go_ret
  exact ⟨_,isV_num (P / 8),rfl,HB.out⟩
 ·have hcv:=conv1 w (97+P / 8 % 3) (by omega)
  have e1:IntKind.u8.wrap (97+P / 8 % 3)=97+P / 8 % 3:=by rw [IntKind.wrap_u8];omega
  go_enter Tryz.func32,Tryz.ntmps32
  go_wp2_with fail
  refine HP1.out.mono ?_
  rintro e w ⟨rfl,rfl⟩
  go_wp2_with fail
  refine HP2.out.mono ?_
  rintro e w ⟨rfl,rfl⟩
  go_wp2_with fail
  go_ret
  exact ⟨_,isV_txt (x:=P / 8 % 3) (by omega) (by omega),rfl,(Below.refl _ _).alloc (Nat.le_refl _) _⟩
 ·go_enter Tryz.func32,Tryz.ntmps32
  go_wp2_with fail
  refine HP1.out.mono ?_
  rintro e w ⟨rfl,rfl⟩
  go_wp2_with fail
  refine HP2.out.mono ?_
  rintro e w ⟨rfl,rfl⟩
  have HC:=hid (HI.out (P / 8 % 4) w (by omega) (by omega) HT.out)
  have HV:=hid (isV_list (x:=P / 8 % 4) (y:=P / 8 / 4 % 4) (by omega) (by omega) (by omega) (by omega))
  have z1:=itoa_size (n:=P / 8 % 4) (by omega) (by omega)
  have z2:=itoa_size (n:=P / 8 / 4 % 4) (by omega) (by omega)
  have HC2:=hid (fun w1 b1=>HI.out (P / 8 / 4 % 4) w1 (by omega) (by omega) (hL w HT.out w w1 HT.out b1))
  generalize baL (Lib.itoa (P / 8 % 4))=s1 at HC HV z1
  generalize baL (Lib.itoa (P / 8 / 4 % 4))=s2 at HC2 HV z2
  obtain ⟨a1,e1,y1,g1⟩:=cat_run ⟨#[91]⟩ s1 1 1 rfl z1 (by omega)
  obtain ⟨a2,e2,y2,g2⟩:=cat_run a1 ⟨#[44]⟩ 2 1 y1 rfl (by omega)
  obtain ⟨a3,e3,y3,g3⟩:=cat_run a2 s2 3 1 y2 z2 (by omega)
  obtain ⟨a4,e4,y4,g4⟩:=cat_run a3 ⟨#[93]⟩ 4 1 y3 rfl (by omega)
  rw [← e1,← e2,← e3,← e4] at HV
  clear e1 e2 e3 e4 y1 y2 y3 y4 z1 z2
  go_wp2_with fail
  refine HC.out.mono ?_
  rintro e w1 ⟨rfl,b1⟩
  have HB:=hid b1
  have HC3:=hid (HC2.out w1 b1)
  clear b1
  go_wp2_with fail
  refine HC3.out.mono ?_
  rintro e w2 ⟨rfl,b2⟩
  have HB2:=hid (HB.out.trans (b2.mono HB.out.size))
  clear b2
  go_wp2_with fail
  go_ret
  exact ⟨_,HV.out,rfl,HB2.out⟩
 ·go_enter Tryz.func32,Tryz.ntmps32
  go_wp2_with fail
  refine HP1.out.mono ?_
  rintro e w ⟨rfl,rfl⟩
  go_wp2_with fail
  refine HP2.out.mono ?_
  rintro e w ⟨rfl,rfl⟩
  have HC:=hid (HI.out (P / 8 % 4) w (by omega) (by omega) HT.out)
  have HV:=hid (isV_obj (x:=P / 8 % 4) (by omega) (by omega))
  have z1:=itoa_size (n:=P / 8 % 4) (by omega) (by omega)
  generalize baL (Lib.itoa (P / 8 % 4))=s1 at HC HV z1
  obtain ⟨a1,e1,y1,g1⟩:=cat_run ⟨#[123,34,98,34,58]⟩ s1 5 1 rfl z1 (by omega)
  obtain ⟨a2,e2,y2,g2⟩:=cat_run a1 ⟨#[125]⟩ 6 1 y1 rfl (by omega)
  rw [← e1,← e2] at HV
  clear e1 e2 y1 y2 z1
  go_wp2_with fail
  refine HC.out.mono ?_
  rintro e w1 ⟨rfl,b1⟩
  have HB:=hid b1
  clear b1
  go_wp2_with fail
  go_ret
  exact ⟨_,HV.out,rfl,HB.out⟩
 ·obtain ⟨m,hm⟩:∃ m,P / 8 % 3=m:=⟨_,rfl⟩
  obtain h | h | h:m=0∨m=1∨m=2:=by omega
  all_goals
   subst h
   go_enter Tryz.func32,Tryz.ntmps32
   go_wp2_with fail
   refine HP1.out.mono ?_
   rintro e w ⟨rfl,rfl⟩
   go_wp2_with fail
   refine HP2.out.mono ?_
   rintro e w ⟨rfl,rfl⟩
   go_wp2_with fail
   go_ret
  ·exact ⟨_,⟨0,by omega,rfl⟩,rfl,(Below.refl _ _).alloc (Nat.le_refl _) _⟩
  ·exact ⟨_,⟨2,by omega,rfl⟩,rfl,(Below.refl _ _).alloc (Nat.le_refl _) _⟩
  ·exact ⟨_,⟨1,by omega,rfl⟩,rfl,(Below.refl _ _).alloc (Nat.le_refl _) _⟩
 ·go_enter Tryz.func32,Tryz.ntmps32
  go_wp2_with fail
  refine HP1.out.mono ?_
  rintro e w ⟨rfl,rfl⟩
  go_wp2_with fail
  refine HP2.out.mono ?_
  rintro e w ⟨rfl,rfl⟩
  go_wp2_with fail
  go_ret
  exact ⟨_,⟨15,by omega,rfl⟩,rfl,Below.refl _ _⟩
end Go.Proofs.YtknakfpciccoaabGreatDoor
/- Places in values: slices.Index of names, elementOf, placeOf; order.Equal. -/
namespace Go.Proofs.YtknakfpciccoaabGreatDoor
open Go.RowKit
def smK:Nat→T→Prop
 | 0,_=>True
 | f+1,t=>nK t≤1048576∧nL t≤1048576∧(∀ i,i<nK t→(nam t i).size≤4000)∧∀ i,i<nL t→smK f (elt t i)
def okA (t:T):Prop:=(∀ f,okK f t)∧∀ f,smK f t
theorem okA.elt {t:T} (h:okA t) {i:Nat} (hi:i<nL t):okA (elt t i):=⟨fun f=>(h.1 (f+1)).2 i hi,fun f=>(h.2 (f+1)).2.2.2 i hi⟩
theorem okA.names {t:T} (h:okA t) (k:kindOf t=6):nK t=nL t:=(h.1 1).1 k
theorem okA.small {t:T} (h:okA t):nK t≤1048576∧nL t≤1048576:=⟨(h.2 1).1,(h.2 1).2.1⟩
theorem okA.nam {t:T} (h:okA t) {i:Nat} (hi:i<nK t):(nam t i).size≤4000:=(h.2 1).2.2.1 i hi
theorem nam_leA {t:T}:∀ k,namesF t k=true→∀ i,i<k→(nam t i).size≤4000
 | 0,_,i,hi=>absurd hi (by omega)
 | k+1,h,i,hi=>by
  simp only [namesF,Bool.and_eq_true,decide_eq_true_eq] at h
  by_cases e:i=k
  ·subst e;exact h.2.2
  ·exact nam_leA k h.1 i (by omega)
theorem bytes_posA:∀ (m:Nat) (t:T),1≤bytesT m t:=by
 have hl:∀ t,1≤leafBytes t:=fun t=>by
  unfold leafBytes
  split
  ·exact Nat.le_refl _
  ·split
   ·omega
   ·split<;>omega
 intro m t
 cases m with
 | zero=>exact hl t
 | succ m =>
  unfold bytesT
  split
  ·omega
  ·split
   ·omega
   ·exact hl t
theorem sumL_geA {g:T→Nat} {t:T} (hg:∀ x,1≤g x):∀ k,k≤sumL g t k
 | 0=>Nat.zero_le _
 | k+1=>by have:=sumL_geA hg (t:=t) k;have:=hg (elt t k);rw [sumL];omega
theorem sumL_oneA {g:T→Nat} {t:T} {i:Nat}:∀ k,i<k→g (elt t i)≤sumL g t k
 | 0,h=>by omega
 | k+1,h=>by
  rw [sumL]
  by_cases e:i=k
  ·subst e;omega
  ·have:=sumL_oneA (g:=g) (t:=t) k (show i<k by omega);omega
theorem good_smK:∀ (f m:Nat) (t:T),Good m t→bytesT m t≤1048576→smK f t
 | 0,_,_,_,_=>trivial
 | f+1,0,t,h,_=>⟨by rw [h.2.1];omega,by rw [h.1];omega,fun i hi=>by rw [h.2.1] at hi;omega,fun i hi=>by rw [h.1] at hi;omega⟩
 | f+1,m+1,t,h,hb=>by
  rcases h with h | ⟨_,_,he,hk⟩
  ·exact ⟨by rw [h.2.1];omega,by rw [h.1];omega,fun i hi=>by rw [h.2.1] at hi;omega,fun i hi=>by rw [h.1] at hi;omega⟩
  ·have hs:=sumL_geA (g:=bytesT m) (t:=t) (bytes_posA m) (nL t)
   have hsum:sumL (bytesT m) t (nL t)≤1048576:=by
    unfold bytesT at hb
    rcases hk with ⟨hk,_⟩ | ⟨hk,_⟩
    ·rw [if_pos hk] at hb;omega
    ·rw [if_neg (by omega),if_pos hk] at hb;omega
   refine ⟨?_,by omega,fun i hi=>?_,fun i hi=>good_smK f m _ (he i hi) ?_⟩
   ·rcases hk with ⟨_,hk⟩ | ⟨_,hk,_⟩<;>omega
   ·rcases hk with ⟨_,hk⟩ | ⟨_,_,hk,_⟩
    ·omega
    ·exact nam_leA _ hk i hi
   ·have:=sumL_oneA (g:=bytesT m) (t:=t) (nL t) hi;omega
theorem good_okA {m:Nat} {t:T} (h:Good m t) (hb:bytesT m t≤1048576):okA t:=⟨fun f=>good_okK f m t h,fun f=>good_smK f m t h hb⟩
def StrsAt (w:World) (v:Value) (l:List ByteArray):Prop :=
 ∃ (A:Option Addr) (c:Nat),v=.slice A l.length c∧l.length≤8796093022208∧∀ i,i<l.length→∃ b o,A=some ⟨b,o,none⟩∧b<w.heap.size∧(l.getD i ByteArray.empty).size≤140737488355328∧w.cell? ⟨b,o+i,none⟩=some (.string (l.getD i ByteArray.empty))
theorem StrsAt.keep {w w':World} {v:Value} {l:List ByteArray} (h:StrsAt w v l) (hb:Below w.heap.size w w'):StrsAt w' v l:=by
 obtain ⟨A,c,hv,hl,h⟩:=h
 refine ⟨A,c,hv,hl,fun i hi=>?_⟩
 obtain ⟨b,o,h0,h1,h2,h3⟩:=h i hi
 exact ⟨b,o,h0,Nat.lt_of_lt_of_le h1 hb.size,h2,(hb.cell (p:=⟨b,o+i,none⟩) h1).trans h3⟩
theorem names_strs {w:World} {Ka:Option Addr} {t:T} {Kc:Nat} (h:NamesAt w Ka t) (hn:nK t≤8796093022208):StrsAt w (.slice Ka (nK t) Kc) (kOf t):=⟨Ka,Kc,rfl,hn,h⟩
def idxL (x:ByteArray):List ByteArray→Option Nat
 | []=>none
 | y::l=>if x=y then some 0 else (idxL x l).map (·+1)
def idxI (o:Option Nat):Int:=match o with | some k=>(k:Int) | none=>-1
theorem idxL_lt {x:ByteArray}:∀ {l:List ByteArray} {k:Nat},idxL x l=some k→k<l.length
 | [],k,h=>by cases h
 | y::l,k,h=>by
  rw [idxL] at h
  split at h
  ·simp only [Option.some.injEq] at h;subst h;simp
  ·cases hi:idxL x l with
   | none=>rw [hi] at h;cases h
   | some j =>
    rw [hi] at h
    simp only [Option.map_some,Option.some.injEq] at h
    have:=idxL_lt hi
    simp only [List.length_cons]
    omega
theorem idxL_drop_eq {x:ByteArray} {l:List ByteArray} {k:Nat} (h:k<l.length) (e:x=l.getD k ByteArray.empty):idxL x (l.drop k)=some 0:=by
 rw [List.drop_eq_getElem_cons h,idxL,if_pos (by rw [e];simp [List.getD_eq_getElem?_getD,h])]
theorem idxL_drop_ne {x:ByteArray} {l:List ByteArray} {k:Nat} (h:k<l.length) (e:x≠l.getD k ByteArray.empty):idxL x (l.drop k)=(idxL x (l.drop (k+1))).map (·+1):=by
 rw [List.drop_eq_getElem_cons h,idxL,if_neg (by intro e2;apply e;rw [e2];simp [List.getD_eq_getElem?_getD,h])]
theorem str_beq (a b:ByteArray):(a.toList==b.toList)=decide (a=b):=by
 by_cases h:a=b
 ·subst h;simp
 ·rw [decide_eq_false h,beq_eq_false_iff_ne]
  exact fun e=>h ((toList_eq_iff a b).1 e)
set_option maxHeartbeats 4000000 in
set_option maxRecDepth 100000 in
theorem index_any (v:Value) (l:List ByteArray) (x:ByteArray) (w:World) (h:StrsAt w v l) :
  Calls Tryz.prog 91 #[v,.string x] w fun e w'=>e=.returned (.int .i64 (idxI (idxL x l)))∧w'=w:=by
 obtain ⟨A,c,rfl,hl,h⟩:=h
 have H:=hid h
 clear h
 go_enter Tryz.func91,Tryz.ntmps91
 go_wp2_with fail
 go_loopg [8] (l.length) (fun g i wr=>∃ k:Nat,g=l.length - k∧k≤l.length∧i=.int .i64 k∧wr=w∧Hid (idxL x l=(idxL x (l.drop k)).map (·+k)))
 case atStart=>exact ⟨0,rfl,Nat.zero_le _,rfl,rfl,by show _=_;simp⟩
 case round =>
  obtain ⟨k,rfl,hk,rfl,rfl,HE⟩:=hrel
  by_cases hlt:k<l.length
  ·obtain ⟨b,o,rfl,hb,hs,hc⟩:=H.out k hlt
   by_cases he:x=l.getD k ByteArray.empty
   ·have HD:=hid (idxL_drop_eq hlt he)
    have HR:Hid (idxL x l=some k):=by show _=_;rw [HE.out,HD.out];simp
    rw [← he] at hc
    clear he hs
    go_wp2_with fail
    go_ret
    exact ⟨ret_int (by rw [HR.out];rfl),rfl⟩
   ·have HD:=hid (idxL_drop_ne hlt he)
    have e0:(x.toList==(l.getD k ByteArray.empty).toList)=false:=by rw [str_beq];exact decide_eq_false he
    generalize l.getD k ByteArray.empty=y at hc e0
    clear he hs
    go_wp2_with fail
    go_roundg (l.length - (k+1))
    case rel=>exact ⟨k+1,rfl,by omega,by go_num,rfl,by show _=_;rw [HE.out,HD.out,Option.map_map];congr 1;funext j;show j+1+k=j+(k+1);omega⟩
    case measure=>omega
  ·obtain rfl:k=l.length:=by omega
   have HR:Hid (idxL x l=none):=by show _=_;rw [HE.out,List.drop_length];rfl
   go_wp2_with fail
   go_ret
   exact ⟨ret_int (by rw [HR.out];rfl),rfl⟩
def AtoiSaid (Tb:World→Prop):Prop:=∀ (s:ByteArray) (w:World),s.size≤140737488355328→Tb w→Calls Tryz.prog 236 #[.string s] w fun e w'=>Below w.heap.size w w'∧((∃ v:Int,Lib.atoiAll s.data.toList=.ok v∧e=.returned (.tuple #[.int .i64 v,.nilIface]))∨((∀ v,Lib.atoiAll s.data.toList≠.ok v)∧∃ n te pe,e=.returned (.tuple #[.int .i64 n,.iface te pe])))
def elN (x:ByteArray) (n:Nat):Option Nat:=match Lib.atoiAll x.data.toList with
 | .ok v=>if 0≤v∧v<n∧baL (Lib.itoa v)=x then some v.toNat else none
 | _=>none
theorem elN_ok {x:ByteArray} {n:Nat} {v:Int} (h:Lib.atoiAll x.data.toList=.ok v):elN x n=if 0≤v∧v<n∧baL (Lib.itoa v)=x then some v.toNat else none:=by unfold elN;rw [h]
theorem elN_no {x:ByteArray} {n:Nat} (h:∀ v,Lib.atoiAll x.data.toList≠.ok v):elN x n=none:=by
 unfold elN
 cases ha:Lib.atoiAll x.data.toList with
 | ok v=>exact absurd ha (h v)
 | «syntax»=>rfl
 | range=>rfl
theorem elN_lt {x:ByteArray} {n k:Nat} (h:elN x n=some k):k<n:=by
 unfold elN at h
 split at h
 ·split at h
  ·simp only [Option.some.injEq] at h;omega
  ·cases h
 ·cases h
set_option maxHeartbeats 4000000 in
set_option maxRecDepth 100000 in
theorem elementOf_any {Tb:World→Prop} (hA:AtoiSaid Tb) (hI:ItoaSaid Tb) (hL:Lies Tb) (x:ByteArray) (n:Nat) (w:World) (hx:x.size≤140737488355328) (hn:n≤1759218604442) (hT:Tb w) :
  Calls Tryz.prog 235 #[.string x,.int .i64 n] w fun e w'=>e=.returned (.int .i64 (idxI (elN x n)))∧Below w.heap.size w w':=by
 have HA:=hid (hA x w hx hT)
 have HI:=hid hI
 have HT:=hid hT
 have HL:=hid hL
 clear hA hI hT hL
 go_enter Tryz.func235,Tryz.ntmps235
 go_wp2_with fail
 refine HA.out.mono ?_
 rintro e w1 ⟨b1,⟨v,hv,rfl⟩ | ⟨hv,m,te,pe,rfl⟩⟩
 ·have HB:=hid b1
  have HE:=hid (elN_ok (n:=n) hv)
  clear b1 HA hv
  by_cases h0:v<0
  ·have HR:Hid (elN x n=none):=by show _=_;rw [HE.out,if_neg (by omega)]
   go_wp2_with fail
   go_ret
   exact ⟨ret_int (by rw [HR.out];rfl),HB.out⟩
  ·by_cases h1:(n:Int)≤v
   ·have HR:Hid (elN x n=none):=by show _=_;rw [HE.out,if_neg (by omega)]
    have h0':(0:Int)≤v:=by omega
    clear h0
    go_wp2_with fail
    go_ret
    exact ⟨ret_int (by rw [HR.out];rfl),HB.out⟩
   ·have h0':(0:Int)≤v:=by omega
    have h1':v<(n:Int):=by omega
    have HC:=hid (HI.out v w1 (by omega) (by omega) (HL.out w HT.out _ _ HT.out HB.out))
    clear h0 h1
    by_cases h2:baL (Lib.itoa v)=x
    ·have HR:Hid (elN x n=some v.toNat):=by show _=_;rw [HE.out,if_pos ⟨h0',h1',h2⟩]
     rw [h2] at HC
     clear h2
     go_wp2_with fail
     refine HC.out.mono ?_
     rintro e w2 ⟨rfl,b2⟩
     have HB2:=hid (HB.out.trans (b2.mono HB.out.size))
     clear b2
     go_wp2_with fail
     go_ret
     exact ⟨ret_int (by rw [HR.out];show v=(v.toNat:Int);omega),HB2.out⟩
    ·have HR:Hid (elN x n=none):=by show _=_;rw [HE.out,if_neg (fun h=>h2 h.2.2)]
     have e2:((baL (Lib.itoa v)).toList==x.toList)=false:=by rw [str_beq];exact decide_eq_false h2
     generalize baL (Lib.itoa v)=y at HC e2 h2
     clear h2
     go_wp2_with fail
     refine HC.out.mono ?_
     rintro e w2 ⟨rfl,b2⟩
     have HB2:=hid (HB.out.trans (b2.mono HB.out.size))
     clear b2
     go_wp2_with fail
     go_ret
     exact ⟨ret_int (by rw [HR.out];rfl),HB2.out⟩
 ·have HB:=hid b1
  have HR:=hid (elN_no (n:=n) hv)
  clear b1 HA hv
  go_wp2_with fail
  go_ret
  exact ⟨ret_int (by rw [HR.out];rfl),HB.out⟩
def plc (x:ByteArray) (t:T):Option Nat:=if kindOf t=6 then idxL x (kOf t) else if kindOf t=5 then elN x (nL t) else none
set_option maxHeartbeats 4000000 in
set_option maxRecDepth 100000 in
theorem placeOf_any {Tb:World→Prop} (hA:AtoiSaid Tb) (hI:ItoaSaid Tb) (hL:Lies Tb) (x:ByteArray) (f:Nat) (v:Value) (t:T) (w:World) (hx:x.size≤140737488355328) (h:At w f v t) (hT:Tb w) :
  Calls Tryz.prog 233 #[.string x,v] w fun e w'=>e=.returned (.int .i64 (idxI (plc x t)))∧Below w.heap.size w w':=by
 obtain ⟨g,La,Ka,Lc,Kc,rfl,rfl,hf,hl,hk⟩:=h.open
 have HB1:Hid (Below w.heap.size w (w.alloc (.cells #[.int .i64 (kindOf t),.int .i64 (nOf t),.string (sOf t),.slice La (nL t) Lc,.slice Ka (nK t) Kc] 36))):=(Below.refl _ _).alloc (Nat.le_refl _) _
 have HS:=hid ((names_strs (Kc:=Kc) hk.out hf.m1).keep HB1.out)
 have HE:=hid (elementOf_any hA hI hL x (nL t) _ hx hf.l1 (hL w hT _ _ hT HB1.out))
 clear h hf hl hk hT hA hI hL
 by_cases k6:kindOf t=6
 ·have e6:(kindOf t==6)=true:=by simpa using k6
  have HP:Hid (plc x t=idxL x (kOf t)):=by show _=_;unfold plc;rw [if_pos k6]
  clear k6
  go_enter Tryz.func233,Tryz.ntmps233
  go_wp2_with fail
  refine (index_any _ _ x _ HS.out).mono ?_
  rintro e w2 ⟨rfl,rfl⟩
  go_wp2_with fail
  go_ret
  exact ⟨ret_int (by rw [HP.out]),HB1.out⟩
 ·have e6:(kindOf t==6)=false:=by simpa using k6
  by_cases k5:kindOf t=5
  ·have e5:(kindOf t==5)=true:=by simpa using k5
   have HP:Hid (plc x t=elN x (nL t)):=by show _=_;unfold plc;rw [if_neg k6,if_pos k5]
   clear k5 k6
   go_enter Tryz.func233,Tryz.ntmps233
   go_wp2_with fail
   refine HE.out.mono ?_
   rintro e w2 ⟨rfl,b2⟩
   have HB2:=hid (HB1.out.trans (b2.mono HB1.out.size))
   clear b2
   go_wp2_with fail
   go_ret
   exact ⟨ret_int (by rw [HP.out]),HB2.out⟩
  ·have e5:(kindOf t==5)=false:=by simpa using k5
   have HP:Hid (plc x t=none):=by show _=_;unfold plc;rw [if_neg k6,if_neg k5]
   clear k5 k6
   go_enter Tryz.func233,Tryz.ntmps233
   go_wp2_with fail
   go_ret
   exact ⟨ret_int (by rw [HP.out];rfl),HB1.out⟩
set_option maxHeartbeats 4000000 in
set_option maxRecDepth 100000 in
theorem equal_any (f g:Nat) (va vb:Value) (a b:T) (w:World) (h:At w f va a) (h':At w g vb b) (ka:okK f a) (kb:okK f b) :
  Calls Tryz.prog 90 #[va,vb] w fun e w'=>e=.returned (.bool (cmpT f a b==0))∧Below w.heap.size w w':=by
 have HA:=hid h
 have HA':=hid h'
 have HK:=hid ka
 have HK':=hid kb
 obtain ⟨f1,La,Ka,Lc,Kc,hf1,rfl,hf,hl,hk⟩:=h.open
 obtain ⟨g1,Ma,Na,Mc,Nc,hg1,rfl,hf',hl',hk'⟩:=h'.open
 clear h h' hf hf' hf1 hg1 hl hk hl' hk' ka kb
 have HB1:Hid (Below w.heap.size w ((w.alloc (.cells #[.int .i64 (kindOf a),.int .i64 (nOf a),.string (sOf a),.slice La (nL a) Lc,.slice Ka (nK a) Kc] 36)).alloc (.cells #[.int .i64 (kindOf b),.int .i64 (nOf b),.string (sOf b),.slice Ma (nL b) Mc,.slice Na (nK b) Nc] 36))):=((Below.refl _ _).alloc (Nat.le_refl _) _).alloc (by simp) _
 have HC:=hid (compare_any f g _ _ a b _ (HA.out.keep HB1.out) (HA'.out.keep HB1.out) HK.out HK'.out)
 generalize cmpT f a b=n at HC
 go_enter Tryz.func90,Tryz.ntmps90
 go_wp2_with fail
 refine HC.out.mono ?_
 rintro e w2 ⟨rfl,b2⟩
 have HB2:=hid (HB1.out.trans (b2.mono HB1.out.size))
 clear b2
 go_wp2_with fail
 go_ret
 exact ⟨rfl,HB2.out⟩
end Go.Proofs.YtknakfpciccoaabGreatDoor
/- The walks of cells, vast and room. -/
namespace Go.Proofs.YtknakfpciccoaabGreatDoor
open Go.RowKit
end Go.Proofs.YtknakfpciccoaabGreatDoor
/- A box of a value in memory. -/
namespace Go.Proofs.YtknakfpciccoaabGreatDoor
open Go.RowKit
end Go.Proofs.YtknakfpciccoaabGreatDoor
