import Derived.Test.YtknakfpciccoaaaGreatDoorZF10
import Derived.Test.YtknakfpciccoaaaGreatDoorZF3
/- The walk of the checker's value, of the kinds that hold others, and of a text. -/
set_option maxHeartbeats 4000000
set_option maxRecDepth 100000
namespace Go.Proofs.YtknakfpciccoaaaGreatDoor
open Go.RowKit
theorem Rz {Tb:World->Prop} (hV:dL Tb) (c:Nat) (hS:dB Tb c) (w0:World) (hN:w0.heap.size<=c) (m:Nat)  (f:Nat) (v:Value) (t:T) (l:Int) (w:World)
  (h:At w0 f v t) (hb0:Below w0.heap.size w0 w) (hH:fT c l w) (hT:Tb w) (l0:0<=l) (l1:l<=1048576) (hk0:ah t=4) :
  Calls Tryz.prog 73 #[.pointer (some ⟨c,0,none⟩),v,.int .i64 (12 - (m:Int))] w fun e w'=>ig c w (aM m t l) e w':=by
 obtain ⟨f,La,Ka,Lc,Kc,rfl,rfl,hf,hl,hk⟩:=h.open;have hlen:=hf.l1;have AZ:=hf.m1;have KD:=hf.s1;have hcw:=hH.lt;have HB1:=aj (bG w (vC t La Lc Ka Kc));have iE:=aj (hH.keep HB1.out);have HT0:=aj hT;have Hb0:=aj hb0;have HA:=aj (h.keep (hb0.trans (HB1.out.mono (Nat.le_trans hN (Nat.le_of_lt hH.lt)))));clear h hb0 hH hT hf
 have dA:Hid (aM m t l=if aB t=0/\dX t=true then (aV 5 l).bind (mH (aF t)) else none):=by
  show aM m t l=_;cases m<;>simp [aM,oz,hk0]
 have g1:(ah t==1)=false:=by first | (rw [hk0];rfl) | (simp;omega)
 have g2:(ah t==2)=false:=by first | (rw [hk0];rfl) | (simp;omega)
 have g3:(ah t==3)=false:=by first | (rw [hk0];rfl) | (simp;omega)
 have g4:(ah t==4)=true:=by rw [hk0];rfl
 clear hk0 hlen AZ hl hk;by_cases n0:aB t=0
 ·have en:(aB t==0)=true:=by rw [n0];rfl
  have N0:=aj n0;clear n0;go_in;go_wp2_with fail;refine (jA _ _ _ _ HA.out).mono ?_;rintro e w2 ⟨rfl,B2⟩;have HB2:=aj B2;clear B2;cases hn:dX t with
  | false =>
   have HR:Hid (aM m t l=none):=by show aM m t l=none;rw [dA.out,if_neg (by rw [hn];simp)]
   clear hn;go_wp2_with fail;go_ret;exact ⟨(aG.of HB1.out).trans (aG.of HB2.out),l,iE.out.keep HB2.out,Or.inr ⟨HR.out,rfl⟩⟩
  | true =>
   have HR:Hid (aM m t l=(aV 5 l).bind (mH (aF t))):=by show aM m t l=_;rw [dA.out,if_pos ⟨N0.out,hn⟩]
   clear hn;go_wp2_with fail;refine (iy c l 5 w2 (iE.out.keep HB2.out) l0 l1 (by omega) (by omega)).mono ?_;rintro e w3 ⟨rfl,K3,B3⟩;have Cr:=aj K3;have HB3:=aj ((aG.of HB2.out).trans B3);clear K3 B3;by_cases h9:5<=l
   ·have HR2:Hid (aV 5 l=some (l - 5)):=by show aV 5 l=_;unfold aV;rw [if_pos h9]
    obtain ⟨q0,q1,q2,q3,q4,hz⟩:=zn hcw HB3.out;have bO:=aj ((aG.of HB1.out).trans HB3.out);go_wp2_with fail;refine (GR hV c hS (aF t) (l - 5) w3 Cr.out (hS _ _ HT0.out (bO.out.below (Nat.le_of_lt hcw))) (by omega) (by omega) KD).mono ?_;rintro e w4 ⟨B4,l',K4,hr⟩;have jW:=aj (bO.out.trans B4);have WG:=aj K4;clear B4 K4;have HRR:Hid (aM m t l=mH (aF t) (l - 5)):=by show aM m t l=_;rw [HR.out,HR2.out];rfl
    rcases hr with ⟨hr,y0,y1,rfl⟩ | ⟨hr,rfl⟩
    ·have Hr:=aj hr;clear hr;go_wp2_with fail;go_ret;exact ⟨jW.out,l',WG.out,Or.inl ⟨HRR.out.trans Hr.out,y0,y1,rfl⟩⟩
    ·have Hr:=aj hr;clear hr;go_wp2_with fail;go_ret;exact ⟨jW.out,l',WG.out,Or.inr ⟨HRR.out.trans Hr.out,rfl⟩⟩
   ·have HR2:Hid (aV 5 l=none):=by show aV 5 l=_;unfold aV;rw [if_neg h9]
    have hd:decide ((5:Int)<=l)=false:=decide_eq_false h9;clear h9;go_wp2_with fail;go_ret;exact ⟨(aG.of HB1.out).trans HB3.out,l - 5,Cr.out,Or.inr ⟨by rw [HR.out,HR2.out];rfl,rfl⟩⟩
 ·have en:(aB t==0)=false:=by simpa using n0
  have HR:Hid (aM m t l=none):=by show aM m t l=none;rw [dA.out,if_neg (fun h=>n0 h.1)]
  clear n0;go_in;go_wp2_with fail;go_ret;exact ⟨aG.of HB1.out,l,iE.out,Or.inr ⟨HR.out,rfl⟩⟩
theorem XE {Tb:World->Prop} (c:Nat) (w0:World) (hN:w0.heap.size<=c)   (f:Nat) (v:Value) (t:T) (l:Int) (w:World)
  (h:At w0 f v t) (hb0:Below w0.heap.size w0 w) (hH:fT c l w) (hT:Tb w) (_l0:0<=l) (_l1:l<=1048576) (hk0:ah t=5) :
  Calls Tryz.prog 73 #[.pointer (some ⟨c,0,none⟩),v,.int .i64 (12 - ((0:Nat):Int))] w fun e w'=>ig c w (aM 0 t l) e w':=by
 obtain ⟨f,La,Ka,Lc,Kc,rfl,rfl,hf,hl,hk⟩:=h.open;have hlen:=hf.l1;have AZ:=hf.m1;have KD:=hf.s1;have hcw:=hH.lt;have HB1:=aj (bG w (vC t La Lc Ka Kc));have iE:=aj (hH.keep HB1.out);have HT0:=aj hT;have Hb0:=aj hb0;have HA:=aj (h.keep (hb0.trans (HB1.out.mono (Nat.le_trans hN (Nat.le_of_lt hH.lt)))));clear h hb0 hH hT hf
 have HR:Hid (aM 0 t l=none):=by
  show aM 0 t l=_;simp [aM,oz,hk0]
 have g1:(ah t==1)=false:=by first | (rw [hk0];rfl) | (simp;omega)
 have g2:(ah t==2)=false:=by first | (rw [hk0];rfl) | (simp;omega)
 have g3:(ah t==3)=false:=by first | (rw [hk0];rfl) | (simp;omega)
 have g4:(ah t==4)=false:=by first | (rw [hk0];rfl) | (simp;omega)
 have g5:(ah t==5)=true:=by rw [hk0];rfl
 clear hk0 HA hlen AZ KD hcw hl hk HT0 Hb0;by_cases n0:aB t=0
 ·have en:(aB t==0)=true:=by rw [n0];rfl
  clear n0;by_cases s0:aY t=true
  ·have es:(aF t).toList.isEmpty=true:=s0;clear s0;by_cases k0:nK t=0
   ·have ek:((nK t:Int)==0)=true:=by simp [k0]
    clear k0;go_in;go_wp2_with fail;go_ret;exact ⟨aG.of HB1.out,l,iE.out,Or.inr ⟨HR.out,rfl⟩⟩
   ·have ek:((nK t:Int)==0)=false:=by simp;omega
    clear k0;go_in;go_wp2_with fail;go_ret;exact ⟨aG.of HB1.out,l,iE.out,Or.inr ⟨HR.out,rfl⟩⟩
  ·have es:(aF t).toList.isEmpty=false:=by simpa [aY] using s0
   clear s0;go_in;go_wp2_with fail;go_ret;exact ⟨aG.of HB1.out,l,iE.out,Or.inr ⟨HR.out,rfl⟩⟩
 ·have en:(aB t==0)=false:=by simpa using n0
  clear n0;go_in;go_wp2_with fail;go_ret;exact ⟨aG.of HB1.out,l,iE.out,Or.inr ⟨HR.out,rfl⟩⟩
theorem XF {Tb:World->Prop} (c:Nat) (w0:World) (hN:w0.heap.size<=c)   (f:Nat) (v:Value) (t:T) (l:Int) (w:World)
  (h:At w0 f v t) (hb0:Below w0.heap.size w0 w) (hH:fT c l w) (hT:Tb w) (_l0:0<=l) (_l1:l<=1048576) (hk0:ah t=6) :
  Calls Tryz.prog 73 #[.pointer (some ⟨c,0,none⟩),v,.int .i64 (12 - ((0:Nat):Int))] w fun e w'=>ig c w (aM 0 t l) e w':=by
 obtain ⟨f,La,Ka,Lc,Kc,rfl,rfl,hf,hl,hk⟩:=h.open;have hlen:=hf.l1;have AZ:=hf.m1;have KD:=hf.s1;have hcw:=hH.lt;have HB1:=aj (bG w (vC t La Lc Ka Kc));have iE:=aj (hH.keep HB1.out);have HT0:=aj hT;have Hb0:=aj hb0;have HA:=aj (h.keep (hb0.trans (HB1.out.mono (Nat.le_trans hN (Nat.le_of_lt hH.lt)))));clear h hb0 hH hT hf
 have HR:Hid (aM 0 t l=none):=by
  show aM 0 t l=_;simp [aM,oz,hk0]
 have g1:(ah t==1)=false:=by first | (rw [hk0];rfl) | (simp;omega)
 have g2:(ah t==2)=false:=by first | (rw [hk0];rfl) | (simp;omega)
 have g3:(ah t==3)=false:=by first | (rw [hk0];rfl) | (simp;omega)
 have g4:(ah t==4)=false:=by first | (rw [hk0];rfl) | (simp;omega)
 have g5:(ah t==5)=false:=by first | (rw [hk0];rfl) | (simp;omega)
 have g6:(ah t==6)=true:=by rw [hk0];rfl
 clear hk0 HA hlen AZ KD hcw hl hk HT0 Hb0;by_cases n0:aB t=0
 ·have en:(aB t==0)=true:=by rw [n0];rfl
  clear n0;by_cases s0:aY t=true
  ·have es:(aF t).toList.isEmpty=true:=s0;clear s0;by_cases k0:nK t=nL t
   ·have ek:((nK t:Int)==(nL t:Int))=true:=by simp [k0]
    clear k0;go_in;go_wp2_with fail;go_ret;exact ⟨aG.of HB1.out,l,iE.out,Or.inr ⟨HR.out,rfl⟩⟩
   ·have ek:((nK t:Int)==(nL t:Int))=false:=by simp;omega
    clear k0;go_in;go_wp2_with fail;go_ret;exact ⟨aG.of HB1.out,l,iE.out,Or.inr ⟨HR.out,rfl⟩⟩
  ·have es:(aF t).toList.isEmpty=false:=by simpa [aY] using s0
   clear s0;go_in;go_wp2_with fail;go_ret;exact ⟨aG.of HB1.out,l,iE.out,Or.inr ⟨HR.out,rfl⟩⟩
 ·have en:(aB t==0)=false:=by simpa using n0
  clear n0;go_in;go_wp2_with fail;go_ret;exact ⟨aG.of HB1.out,l,iE.out,Or.inr ⟨HR.out,rfl⟩⟩
theorem XG {Tb:World->Prop} (c:Nat) (hS:dB Tb c) (w0:World) (hN:w0.heap.size<=c) (m:Nat)  (ih:zB Tb c w0 m) (hm:m<12) (f:Nat) (v:Value) (t:T) (l:Int) (w:World)
  (h:At w0 f v t) (hb0:Below w0.heap.size w0 w) (hH:fT c l w) (hT:Tb w) (l0:0<=l) (l1:l<=1048576) (hk0:ah t=5) :
  Calls Tryz.prog 73 #[.pointer (some ⟨c,0,none⟩),v,.int .i64 (12 - ((m+1:Nat):Int))] w fun e w'=>ig c w (aM (m+1) t l) e w':=by
 obtain ⟨f,La,Ka,Lc,Kc,rfl,rfl,hf,hl,hk⟩:=h.open;have hlen:=hf.l1;have AZ:=hf.m1;have KD:=hf.s1;have hcw:=hH.lt;have HB1:=aj (bG w (vC t La Lc Ka Kc));have iE:=aj (hH.keep HB1.out);have HT0:=aj hT;have Hb0:=aj hb0;have HA:=aj (h.keep (hb0.trans (HB1.out.mono (Nat.le_trans hN (Nat.le_of_lt hH.lt)))));clear h hb0 hH hT hf
 have dA:Hid (aM (m+1) t l=if aB t=0/\aY t=true/\nK t=0 then (aV 5 l).bind (bU (aM m) t (nL t)) else none):=by
  show aM (m+1) t l=_;simp [aM,hk0]
 have g1:(ah t==1)=false:=by first | (rw [hk0];rfl) | (simp;omega)
 have g2:(ah t==2)=false:=by first | (rw [hk0];rfl) | (simp;omega)
 have g3:(ah t==3)=false:=by first | (rw [hk0];rfl) | (simp;omega)
 have g4:(ah t==4)=false:=by first | (rw [hk0];rfl) | (simp;omega)
 have g5:(ah t==5)=true:=by rw [hk0];rfl
 have em:(12:Int) - ((m+1:Nat):Int)=11 - m:=by omega
 rw [em];have em2:(11:Int) - m+1=12 - m:=by omega
 have hm2:(11:Int) - m<12:=by omega
 clear hk0 HA em;by_cases n0:aB t=0
 ·have en:(aB t==0)=true:=by rw [n0];rfl
  by_cases s0:aY t=true
  ·have es:(aF t).toList.isEmpty=true:=s0;by_cases k0:nK t=0
   ·have ek:((nK t:Int)==0)=true:=by simp [k0]
    have HR:Hid (aM (m+1) t l=(aV 5 l).bind (bU (aM m) t (nL t))):=by show aM (m+1) t l=_;rw [dA.out,if_pos ⟨n0,s0,k0⟩]
    clear n0 s0 k0;go_in;go_wp2_with fail;refine (iy c l 5 _ iE.out l0 l1 (by omega) (by omega)).mono ?_;rintro e w3 ⟨rfl,K3,B3⟩;have Cr:=aj K3;have HB3:=aj B3;clear K3 B3;by_cases h9:5<=l
    ·have HR2:Hid (aV 5 l=some (l - 5)):=by show aV 5 l=_;unfold aV;rw [if_pos h9]
     obtain ⟨q0,q1,q2,q3,q4,hz⟩:=zn hcw HB3.out;have bO:=aj ((aG.of HB1.out).trans HB3.out);go_wp2_with fail;have HRR:Hid (aM (m+1) t l=bU (aM m) t (nL t) (l - 5)):=by show aM (m+1) t l=_;rw [HR.out,HR2.out];rfl
     refine (A8 c hS w0 hN m ih f La Lc t (l - 5) w3 (hl.out) hlen (Hb0.out.trans ((bO.out.below (Nat.le_of_lt hcw)).mono hN)) Cr.out (hS _ _ HT0.out (bO.out.below (Nat.le_of_lt hcw))) (by omega) (by omega)).mono ?_;rintro e w4 ⟨B4,l',K4,hr⟩;have jW:=aj (bO.out.trans B4);have WG:=aj K4;clear B4 K4;rcases hr with ⟨hr,y0,y1,rfl⟩ | ⟨hr,rfl⟩
     ·have Hr:=aj hr;clear hr;go_wp2_with fail;go_ret;exact ⟨jW.out,l',WG.out,Or.inl ⟨HRR.out.trans Hr.out,y0,y1,rfl⟩⟩
     ·have Hr:=aj hr;clear hr;go_wp2_with fail;go_ret;exact ⟨jW.out,l',WG.out,Or.inr ⟨HRR.out.trans Hr.out,rfl⟩⟩
    ·have HR2:Hid (aV 5 l=none):=by show aV 5 l=_;unfold aV;rw [if_neg h9]
     have hd:decide ((5:Int)<=l)=false:=decide_eq_false h9;clear h9;go_wp2_with fail;go_ret;exact ⟨(aG.of HB1.out).trans HB3.out,l - 5,Cr.out,Or.inr ⟨by rw [HR.out,HR2.out];rfl,rfl⟩⟩
   ·have ek:((nK t:Int)==0)=false:=by simp;omega
    have HR:Hid (aM (m+1) t l=none):=by show aM (m+1) t l=none;rw [dA.out,if_neg (fun h=>k0 h.2.2)]
    clear n0 s0 k0;go_in;go_wp2_with fail;go_ret;exact ⟨aG.of HB1.out,l,iE.out,Or.inr ⟨HR.out,rfl⟩⟩
  ·have es:(aF t).toList.isEmpty=false:=by simpa [aY] using s0
   have HR:Hid (aM (m+1) t l=none):=by show aM (m+1) t l=none;rw [dA.out,if_neg (fun h=>s0 h.2.1)]
   clear n0 s0;go_in;go_wp2_with fail;go_ret;exact ⟨aG.of HB1.out,l,iE.out,Or.inr ⟨HR.out,rfl⟩⟩
 ·have en:(aB t==0)=false:=by simpa using n0
  have HR:Hid (aM (m+1) t l=none):=by show aM (m+1) t l=none;rw [dA.out,if_neg (fun h=>n0 h.1)]
  clear n0;go_in;go_wp2_with fail;go_ret;exact ⟨aG.of HB1.out,l,iE.out,Or.inr ⟨HR.out,rfl⟩⟩
theorem XH {Tb:World->Prop} (hV:dL Tb) (c:Nat) (hS:dB Tb c) (w0:World) (hN:w0.heap.size<=c) (m:Nat)  (ih:zB Tb c w0 m) (hm:m<12) (f:Nat) (v:Value) (t:T) (l:Int) (w:World)
  (h:At w0 f v t) (hb0:Below w0.heap.size w0 w) (hH:fT c l w) (hT:Tb w) (l0:0<=l) (l1:l<=1048576) (hk0:ah t=6) :
  Calls Tryz.prog 73 #[.pointer (some ⟨c,0,none⟩),v,.int .i64 (12 - ((m+1:Nat):Int))] w fun e w'=>ig c w (aM (m+1) t l) e w':=by
 obtain ⟨f,La,Ka,Lc,Kc,rfl,rfl,hf,hl,hk⟩:=h.open;have hlen:=hf.l1;have AZ:=hf.m1;have KD:=hf.s1;have hcw:=hH.lt;have HB1:=aj (bG w (vC t La Lc Ka Kc));have iE:=aj (hH.keep HB1.out);have HT0:=aj hT;have Hb0:=aj hb0;have HA:=aj (h.keep (hb0.trans (HB1.out.mono (Nat.le_trans hN (Nat.le_of_lt hH.lt)))));clear h hb0 hH hT hf
 have dA:Hid (aM (m+1) t l=if aB t=0/\aY t=true/\nK t=nL t then ((aV 5 l).bind (lH t)).bind (bU (aM m) t (nL t)) else none):=by
  show aM (m+1) t l=_;simp [aM,hk0]
 have g1:(ah t==1)=false:=by first | (rw [hk0];rfl) | (simp;omega)
 have g2:(ah t==2)=false:=by first | (rw [hk0];rfl) | (simp;omega)
 have g3:(ah t==3)=false:=by first | (rw [hk0];rfl) | (simp;omega)
 have g4:(ah t==4)=false:=by first | (rw [hk0];rfl) | (simp;omega)
 have g5:(ah t==5)=false:=by first | (rw [hk0];rfl) | (simp;omega)
 have g6:(ah t==6)=true:=by rw [hk0];rfl
 have em:(12:Int) - ((m+1:Nat):Int)=11 - m:=by omega
 rw [em];have em2:(11:Int) - m+1=12 - m:=by omega
 have hm2:(11:Int) - m<12:=by omega
 clear hk0 HA em;by_cases n0:aB t=0
 ·have en:(aB t==0)=true:=by rw [n0];rfl
  by_cases s0:aY t=true
  ·have es:(aF t).toList.isEmpty=true:=s0;by_cases k0:nK t=nL t
   ·have ek:((nK t:Int)==(nL t:Int))=true:=by simp [k0]
    have HR:Hid (aM (m+1) t l=((aV 5 l).bind (lH t)).bind (bU (aM m) t (nL t))):=by show aM (m+1) t l=_;rw [dA.out,if_pos ⟨n0,s0,k0⟩]
    clear n0 s0 k0;go_in;go_wp2_with fail;refine (iy c l 5 _ iE.out l0 l1 (by omega) (by omega)).mono ?_;rintro e w3 ⟨rfl,K3,B3⟩;have Cr:=aj K3;have HB3:=aj B3;clear K3 B3;by_cases h9:5<=l
    ·have HR2:Hid (aV 5 l=some (l - 5)):=by show aV 5 l=_;unfold aV;rw [if_pos h9]
     obtain ⟨q0,q1,q2,q3,q4,hz⟩:=zn hcw HB3.out;have bO:=aj ((aG.of HB1.out).trans HB3.out);go_wp2_with fail;refine (Ov hV c hS w0 hN Ka Kc t (l - 5) w3 hk.out AZ (Hb0.out.trans ((bO.out.below (Nat.le_of_lt hcw)).mono hN)) Cr.out (hS _ _ HT0.out (bO.out.below (Nat.le_of_lt hcw))) (by omega) (by omega)).mono ?_;rintro e w5 ⟨B5,x,K5,hx⟩;have pX:=aj (HB3.out.trans B5);have rE:=aj (bO.out.trans B5);have XI:=aj K5;clear B5 K5 q0 q1 q2 q3 q4 hz;obtain ⟨q0,q1,q2,q3,q4,hz⟩:=zn hcw pX.out;rcases hx with ⟨hx,x0,x1,rfl⟩ | ⟨hx,rfl⟩
     ·have HRR:Hid (aM (m+1) t l=bU (aM m) t (nL t) x):=by show aM (m+1) t l=_;rw [HR.out,HR2.out];show ((lH t (l - 5)).bind _)=_;rw [hx];rfl
      clear hx;go_wp2_with fail;refine (A8 c hS w0 hN m ih f La Lc t x w5 (hl.out) hlen (Hb0.out.trans ((rE.out.below (Nat.le_of_lt hcw)).mono hN)) XI.out (hS _ _ HT0.out (rE.out.below (Nat.le_of_lt hcw))) (by omega) (by omega)).mono ?_;rintro e w4 ⟨B4,l',K4,hr⟩;have jW:=aj (rE.out.trans B4);have WG:=aj K4;clear B4 K4;rcases hr with ⟨hr,y0,y1,rfl⟩ | ⟨hr,rfl⟩
      ·have Hr:=aj hr;clear hr;go_wp2_with fail;go_ret;exact ⟨jW.out,l',WG.out,Or.inl ⟨HRR.out.trans Hr.out,y0,y1,rfl⟩⟩
      ·have Hr:=aj hr;clear hr;go_wp2_with fail;go_ret;exact ⟨jW.out,l',WG.out,Or.inr ⟨HRR.out.trans Hr.out,rfl⟩⟩
     ·have HRR:Hid (aM (m+1) t l=none):=by show aM (m+1) t l=_;rw [HR.out,HR2.out];show ((lH t (l - 5)).bind _)=_;rw [hx];rfl
      clear hx;go_wp2_with fail;go_ret;exact ⟨rE.out,x,XI.out,Or.inr ⟨HRR.out,rfl⟩⟩
    ·have HR2:Hid (aV 5 l=none):=by show aV 5 l=_;unfold aV;rw [if_neg h9]
     have hd:decide ((5:Int)<=l)=false:=decide_eq_false h9;clear h9;go_wp2_with fail;go_ret;exact ⟨(aG.of HB1.out).trans HB3.out,l - 5,Cr.out,Or.inr ⟨by rw [HR.out,HR2.out];rfl,rfl⟩⟩
   ·have ek:((nK t:Int)==(nL t:Int))=false:=by simp;omega
    have HR:Hid (aM (m+1) t l=none):=by show aM (m+1) t l=none;rw [dA.out,if_neg (fun h=>k0 h.2.2)]
    clear n0 s0 k0;go_in;go_wp2_with fail;go_ret;exact ⟨aG.of HB1.out,l,iE.out,Or.inr ⟨HR.out,rfl⟩⟩
  ·have es:(aF t).toList.isEmpty=false:=by simpa [aY] using s0
   have HR:Hid (aM (m+1) t l=none):=by show aM (m+1) t l=none;rw [dA.out,if_neg (fun h=>s0 h.2.1)]
   clear n0 s0;go_in;go_wp2_with fail;go_ret;exact ⟨aG.of HB1.out,l,iE.out,Or.inr ⟨HR.out,rfl⟩⟩
 ·have en:(aB t==0)=false:=by simpa using n0
  have HR:Hid (aM (m+1) t l=none):=by show aM (m+1) t l=none;rw [dA.out,if_neg (fun h=>n0 h.1)]
  clear n0;go_in;go_wp2_with fail;go_ret;exact ⟨aG.of HB1.out,l,iE.out,Or.inr ⟨HR.out,rfl⟩⟩
theorem Vh {Tb:World->Prop} (hV:dL Tb) (c:Nat) (hS:dB Tb c) (w0:World) (hN:w0.heap.size<=c) (m:Nat) (hm:m<=12):zB Tb c w0 m:=by
 induction m with
 | zero =>
  intro f v t l w h hb0 hH hT l0 l1;by_cases h1:ah t=1
  ·exact Rw c hS w0 hN 0 f v t l w h hb0 hH hT l0 l1 h1
  by_cases h2:ah t=2
  ·exact Rx c hS w0 hN 0 f v t l w h hb0 hH hT l0 l1 h2
  by_cases h3:ah t=3
  ·exact Ry c hS w0 hN 0 f v t l w h hb0 hH hT l0 l1 h3
  by_cases h4:ah t=4
  ·exact Rz hV c hS w0 hN 0 f v t l w h hb0 hH hT l0 l1 h4
  by_cases h5:ah t=5
  ·exact XE c w0 hN f v t l w h hb0 hH hT l0 l1 h5
  by_cases h6:ah t=6
  ·exact XF c w0 hN f v t l w h hb0 hH hT l0 l1 h6
  exact DL c hS w0 hN 0 f v t l w h hb0 hH hT l0 l1 ⟨h1,h2,h3,h4,h5,h6⟩
 | succ m ih =>
  have ih:=ih (by omega);intro f v t l w h hb0 hH hT l0 l1;by_cases h1:ah t=1
  ·exact Rw c hS w0 hN (m+1) f v t l w h hb0 hH hT l0 l1 h1
  by_cases h2:ah t=2
  ·exact Rx c hS w0 hN (m+1) f v t l w h hb0 hH hT l0 l1 h2
  by_cases h3:ah t=3
  ·exact Ry c hS w0 hN (m+1) f v t l w h hb0 hH hT l0 l1 h3
  by_cases h4:ah t=4
  ·exact Rz hV c hS w0 hN (m+1) f v t l w h hb0 hH hT l0 l1 h4
  by_cases h5:ah t=5
  ·exact XG c hS w0 hN m ih (by omega) f v t l w h hb0 hH hT l0 l1 h5
  by_cases h6:ah t=6
  ·exact XH hV c hS w0 hN m ih (by omega) f v t l w h hb0 hH hT l0 l1 h6
  exact DL c hS w0 hN (m+1) f v t l w h hb0 hH hT l0 l1 ⟨h1,h2,h3,h4,h5,h6⟩
def DN (t:T):Bool:=(aM 12 t 1048576).isSome
def fG (Tb:World->Prop):Prop:=∀ w:World,Tb w->dB Tb w.heap.size
theorem yj {Tb:World->Prop} (hV:dL Tb) (hL:fG Tb) (f:Nat) (v:Value) (t:T) (w:World) (h:At w f v t) (hT:Tb w) :
  Calls Tryz.prog 40 #[v] w fun e w'=>e=.returned (.bool (DN t))/\Below w.heap.size w w':=by
 obtain ⟨f,La,Ka,Lc,Kc,rfl,rfl,hf,hl,hk⟩:=h.open;have HA:=aj h;have HT:=aj hT;clear h hT hf hl hk;go_in;go_wp2_with fail;have HB1:Hid (Below w.heap.size w ((w.alloc (vC t La Lc Ka Kc)).alloc (.cells #[.int .i64 1048576] 114))):=(bG _ _).alloc (by simp) _;have hS:dB Tb (w.heap.size+1):=fun w1 w2 h1 h2=>hL w HT.out w1 w2 h1 (h2.mono (by omega));have HH:Hid (fT (w.heap.size+1) 1048576 ((w.alloc (vC t La Lc Ka Kc)).alloc (.cells #[.int .i64 1048576] 114))):=⟨by simp [go_sem],by simp [go_sem],by simp⟩;have e12:(Value.int .i64 0)=.int .i64 (12 - ((12:Nat):Int)):=rfl;rw [e12];clear e12;refine (Vh hV (w.heap.size+1) hS w (by omega) 12 (by omega) _ _ t 1048576 _ HA.out HB1.out HH.out (hL w HT.out _ _ HT.out HB1.out) (by omega) (by omega)).mono ?_;rintro e w2 ⟨B2,l',K2,hr⟩;have HB2:=aj (HB1.out.trans ((B2.below (by simp)).mono (by omega)));clear B2 K2;rcases hr with ⟨hr,y0,y1,rfl⟩ | ⟨hr,rfl⟩
 ·have Hr:=aj hr;clear hr;go_wp2_with fail;go_ret;exact ⟨av (by unfold DN;rw [Hr.out];rfl),HB2.out⟩
 ·have Hr:=aj hr;clear hr;go_wp2_with fail;go_ret;exact ⟨av (by unfold DN;rw [Hr.out];rfl),HB2.out⟩
theorem vG {w wr:World} {f lo b:Nat} {v:Value} {t:T} {es:List jh} (hB:Below w.heap.size w wr) (hF:fC wr f v t es) (hS:mD lo wr es) (hb:w.heap.size<=b) (hlo:b<lo) (u0 u1 u2 u3 u4:Value) :
  Below w.heap.size w (((((wr.setCell ⟨b,0,none⟩ u0).setCell ⟨b,1,none⟩ u1).setCell ⟨b,2,none⟩ u2).setCell ⟨b,3,none⟩ u3).setCell ⟨b,4,none⟩ u4) /\
  fC (((((wr.setCell ⟨b,0,none⟩ u0).setCell ⟨b,1,none⟩ u1).setCell ⟨b,2,none⟩ u2).setCell ⟨b,3,none⟩ u3).setCell ⟨b,4,none⟩ u4) f v t es /\
  mD w.heap.size (((((wr.setCell ⟨b,0,none⟩ u0).setCell ⟨b,1,none⟩ u1).setCell ⟨b,2,none⟩ u2).setCell ⟨b,3,none⟩ u3).setCell ⟨b,4,none⟩ u4) es:=by
 have hset:∀ (w1:World) (o:Nat) (u:Value) (b':Nat),b'≠b->(w1.setCell ⟨b,o,none⟩ u).heap[b']?=w1.heap[b']?:=fun w1 o u b' hb=>Below.heap_setCell _ _ _ _ (by simpa using hb);refine ⟨((((hB.setCell hb _).setCell hb _).setCell hb _).setCell hb _).setCell hb _,hF.move fun b' hb'=>?_,?_⟩
 ·have h1:=hS.lies b' hb';rw [hset _ _ _ _ (by omega),hset _ _ _ _ (by omega),hset _ _ _ _ (by omega),hset _ _ _ _ (by omega),hset _ _ _ _ (by omega)]
 ·exact (hS.lower (by omega)).keep (by simp [World.setCell])
def ZF (s:ByteArray) (t:T):Prop:=eJ s=0/\tJ s=t
theorem Nj {s:ByteArray} (h:4000<s.size):eJ s=1:=by unfold eJ;rw [if_pos h]
theorem DR {s:ByteArray} (hv:aS s (s.size+1) 0=none):oH s=none:=by unfold oH;rw [hv];rfl
theorem DT {s:ByteArray} {t:T} {j:Nat} (hv:aS s (s.size+1) 0=some (t,j)) (h:sk s j≠s.size):oH s=none:=by unfold oH;rw [hv];simp only [Option.bind_some];rw [if_neg h]
theorem DU {s:ByteArray} {t:T} {j:Nat} (hv:aS s (s.size+1) 0=some (t,j)) (h:sk s j=s.size):oH s=some t:=by unfold oH;rw [hv];simp only [Option.bind_some];rw [if_pos h]
theorem zD {s:ByteArray} (h:s.size<=4000) (hf:oH s=none):eJ s=2:=by unfold eJ;rw [if_neg (by omega),hf];rfl
theorem Nk {s:ByteArray} {t:T} (h:s.size<=4000) (hf:oH s=some t):eJ s=if 12<bn (s.size+1) t then 3 else if bN (s.size+1) t=true then 4 else 0:=by unfold eJ;rw [if_neg (by omega),hf];rfl
theorem Nl {s:ByteArray} {t:T} (h0:eJ s=0) (hf:oH s=some t):tJ s=t:=by unfold tJ;rw [if_pos h0,hf];rfl
def OJ (s:ByteArray) (w:World) (e:Ending) (w':World):Prop :=
 Below w.heap.size w w'/\((∃ t es A B C D,ZF s t/\e=.returned (fB t A B C D)/\fC w' 13 (fB t A B C D) t es/\mD w.heap.size w' es)\/(eJ s≠0/\e=fU (eJ s)))
theorem XJ (w:World) (s:ByteArray):PL w.heap.size s 0 (w.alloc (.cells #[.string s,.int .i64 0] 134)):=by
 refine ⟨?_,?_,?_,?_⟩<;>simp [go_sem]
theorem CG {Tb:World->Prop} (hD:bS Tb) (hN:dz Tb) (hL:fG Tb) (s:ByteArray) (w:World) (hs:s.size<=140737488355328) (hT:Tb w) :
  Calls Tryz.prog 57 #[.string s] w (OJ s w):=by
 have HT:=aj hT;clear hT;by_cases hlong:4000<s.size
 ·have HZ:=aj (Nj hlong);have x1:decide ((4000:Int)<(s.size:Int))=true:=decide_eq_true (by omega);go_in;go_wp2_with fail;refine ⟨rfl,bG _ _,Or.inr ⟨by rw [HZ.out];omega,?_⟩⟩;rw [HZ.out]
 ·have hle:s.size<=4000:=by omega
  have x1:decide ((4000:Int)<(s.size:Int))=false:=decide_eq_false (by omega);have HB0:Hid (Below w.heap.size w ((w.alloc (.cells #[.int .i64 0,.int .i64 0,.string ⟨#[]⟩,.slice none 0 0,.slice none 0 0] 25)).alloc (.cells #[.string s,.int .i64 0] 134))):=(bG _ _).alloc (by simp) _;have dA:Hid (aK w.heap.size (.int .i64 0) (.int .i64 0) (.string ⟨#[]⟩) (.slice none 0 0) (.slice none 0 0) ((w.alloc (.cells #[.int .i64 0,.int .i64 0,.string ⟨#[]⟩,.slice none 0 0,.slice none 0 0] 25)).alloc (.cells #[.string s,.int .i64 0] 134))):=(bD w _ _ _ _ _).move (by simp) (Below.heap_alloc _ _ _ (by simp))
  have iL:Hid (PL (w.heap.size+1) s 0 ((w.alloc (.cells #[.int .i64 0,.int .i64 0,.string ⟨#[]⟩,.slice none 0 0,.slice none 0 0] 25)).alloc (.cells #[.string s,.int .i64 0] 134))):=by
   have:=XJ (w.alloc (.cells #[.int .i64 0,.int .i64 0,.string ⟨#[]⟩,.slice none 0 0,.slice none 0 0] 25)) s;show PL _ _ _ _;simpa using this
  have hst:dB Tb (w.heap.size+1):=fun a b h1 h2=>hL w HT.out a b h1 (h2.mono (by omega));have HN:=aj (WE hD hN s hle (s.size+1) (w.heap.size+1) 0 _ hst iL.out (hL _ HT.out _ _ HT.out HB0.out) (by omega) (by omega));have hz0:((w.alloc (.cells #[.int .i64 0,.int .i64 0,.string ⟨#[]⟩,.slice none 0 0,.slice none 0 0] 25)).alloc (.cells #[.string s,.int .i64 0] 134)).heap.size=w.heap.size+2:=by simp
  have Qv:=aj hz0;clear hz0 iL hst hlong;go_in;go_wp2_with fail;refine HN.out.mono ?_;rintro e w1 ⟨B1,⟨t,j,es,A,B,C,D,hd,rfl,hF,hS,L1⟩ | ⟨hd,rfl⟩⟩
  ·have hl1:w.heap.size+2<=w1.heap.size:=by have:=B1.size;rw [Qv.out] at this;exact this
   have HW1:=aj (HB0.out.trans ((B1.below (by rw [Qv.out];omega)).mono (by omega)));have HR1:=aj (dA.out.move B1.size (B1.block _ dA.out.lt (by omega)));have hcnt:=vF _ _ _ _ (by omega) hd;have gG:=dV _ _ _ _ (by omega) hd;have RD:=aj hcnt.2;have hF1:=hF.keep hS ((Below.refl w1.heap.size w1).alloc (Nat.le_refl _) (vC t A B C D));have HF:=aj hF1
   have HS:Hid (mD (w.heap.size+2) w1 es):=by
    have:=hS;rw [Qv.out] at this;exact this
   have Hd:=aj hd;have Qw:=aj (bD w1 (.int .i64 (ah t)) (.int .i64 (aB t)) (.string (aF t)) (.slice A (nL t) B) (.slice C (nK t) D));have jQ:=aj (bG w1 (vC t A B C D));have M6:=aj (L1.keep jQ.out);have RF:=aj (HR1.out.move jQ.out.size (jQ.out.block _ HR1.out.lt));have hq:=M6.out.q1;have v0:=Qw.out.q0;have v1:=Qw.out.q1;have v2:=Qw.out.q2;have v3:=Qw.out.q3;have v4:=Qw.out.q4;have acf:=fu gG.2;clear B1 L1 hF hF1 hS hd HN dA HB0 hcnt gG;unfold fB;by_cases h0:sk s j=s.size
   ·have Ih:=aj (DU Hd.out h0);have XK:=aj (Nk hle Ih.out);have x2:¬ ((sk s j:Int)<(s.size:Int)):=by omega
    have HI:=aj (OG (s.size+1) _ t _ HF.out.at (by omega));unfold fB at HI;clear h0;go_wp2_with fail;refine HI.out.mono ?_;rintro e w3 ⟨rfl,hb3⟩;have hz1:(w1.alloc (vC t A B C D)).heap.size=w1.heap.size+1:=by simp
    have vg:=aj (HF.out.keep (HS.out.keep jQ.out.size) hb3);have JV:=aj ((HS.out.keep jQ.out.size).keep hb3.size);have HR3:=aj (RF.out.move hb3.size (hb3.block _ RF.out.lt));have DK:=aj (Qw.out.move hb3.size (hb3.block _ Qw.out.lt));have HW3:=aj ((HW1.out.trans (jQ.out.mono (by omega))).trans (hb3.mono (by omega)));clear hb3 hz1 hq v0 v1 v2 v3 v4 HF HS RF Qw jQ M6 HI HR1 HW1;have v0:=DK.out.q0;have v1:=DK.out.q1;have v2:=DK.out.q2;have v3:=DK.out.q3;have v4:=DK.out.q4;by_cases hdp:12<bn (s.size+1) t
    ·have HZ:Hid (eJ s=3):=by show _=_;rw [XK.out,if_pos hdp]
     have x3:decide ((12:Int)<(bn (s.size+1) t:Int))=true:=decide_eq_true (by omega);clear hdp;go_wp2_with fail;refine ⟨rfl,HW3.out,Or.inr ⟨by rw [HZ.out];omega,?_⟩⟩;rw [HZ.out]
    ·have x3:decide ((12:Int)<(bn (s.size+1) t:Int))=false:=decide_eq_false (by omega);have HI2:=aj (CF (s.size+1) _ t _ vg.out.at);have Hdp:Hid (bn (s.size+1) t<=12):=by show _<=_;omega
     unfold fB at HI2;have RG:Hid (eJ s=if bN (s.size+1) t=true then 4 else 0):=by show _=_;rw [XK.out,if_neg hdp]
     clear hdp XK;go_wp2_with fail;refine HI2.out.mono ?_;rintro e w4 ⟨rfl,hb4⟩;have Xt:=aj (Ig (vg.out.keep JV.out hb4) RD.out Hdp.out);have ZE:=aj (JV.out.keep hb4.size);have HR4:=aj (HR3.out.move hb4.size (hb4.block _ HR3.out.lt));have Ic:=aj (DK.out.move hb4.size (hb4.block _ DK.out.lt));have XC:=aj (HW3.out.trans (hb4.mono HW3.out.size));clear hb4 v0 v1 v2 v3 v4 vg JV HR3 DK HI2 HW3;have v0:=Ic.out.q0;have v1:=Ic.out.q1;have v2:=Ic.out.q2;have v3:=Ic.out.q3;have v4:=Ic.out.q4;have r0:=HR4.out.q0;have r1:=HR4.out.q1;have r2:=HR4.out.q2;have r3:=HR4.out.q3;have r4:=HR4.out.q4;have s0:=HR4.out.f0;have s1:=HR4.out.f1;have s2:=HR4.out.f2;have s3:=HR4.out.f3;have s4:=HR4.out.f4;by_cases Qx:bN (s.size+1) t=true
     ·have HZ:Hid (eJ s=4):=by show _=_;rw [RG.out,if_pos Qx]
      go_wp2_with fail;refine ⟨rfl,XC.out,Or.inr ⟨by rw [HZ.out];omega,?_⟩⟩;rw [HZ.out]
     ·have XL:bN (s.size+1) t=false:=by simpa using Qx
      have HZ:Hid (ZF s t):=by
       have h0:eJ s=0:=by rw [RG.out,if_neg Qx]
       exact ⟨h0,Nl h0 Ih.out⟩
      clear Qx;go_wp2_with fail;refine bodyPost_ret (v:=fB t A B C D) (by simp [results,Tryz.results57,go_sem,fB, *]) rfl ?_;obtain ⟨p1,p2,p3⟩:=vG XC.out Xt.out ZE.out (Nat.le_refl _) (by omega) (.int .i64 (ah t)) (.int .i64 (aB t)) (.string (aF t)) (.slice A (nL t) B) (.slice C (nK t) D);exact ⟨p1,Or.inl ⟨t,es,A,B,C,D,HZ.out,rfl,p2,p3⟩⟩
   ·have HZ:=aj (zD hle (DT Hd.out h0));have x2:(sk s j:Int)<(s.size:Int):=by omega
    clear h0;go_wp2_with fail;refine ⟨rfl,HW1.out.trans (jQ.out.mono (by omega)),Or.inr ⟨by rw [HZ.out];omega,?_⟩⟩;rw [HZ.out]
  ·have HW1:=aj (HB0.out.trans ((B1.below (by rw [Qv.out];omega)).mono (by omega)));have HZ:=aj (zD hle (DR hd));clear B1 hd;go_wp2_with fail;refine ⟨rfl,HW1.out,Or.inr ⟨by rw [HZ.out];omega,?_⟩⟩;rw [HZ.out]
def WH (s:ByteArray) (lo:Nat) (v:Value) (w':World):Prop:=∃ t es A B C D,ZF s t/\v=fB t A B C D/\fC w' 13 (fB t A B C D) t es/\mD lo w' es
def WJ (s:ByteArray) (n:Int):Prop:=n=eJ s/\eJ s≠0
theorem KE {Tb:World->Prop} (hD:bS Tb) (hN:dz Tb) (hL:fG Tb) (s:ByteArray) (b:Nat) (w:World) (hb:w.cell? ⟨b,0,none⟩=some (.string s)) (hlb:b<w.heap.size) (hs:s.size<=140737488355328) (hT:Tb w) :
  Calls Tryz.prog 56 #[.pointer (some ⟨b,0,none⟩)] w (Zl (WJ s) (WH s w.heap.size) w):=by
 have HB0:=aj (bG w (.cells #[.int .i64 0,.int .i64 0,.string ⟨#[]⟩,.slice none 0 0,.slice none 0 0] 25));have dA:Hid (aK w.heap.size (.int .i64 0) (.int .i64 0) (.string ⟨#[]⟩) (.slice none 0 0) (.slice none 0 0) (w.alloc (.cells #[.int .i64 0,.int .i64 0,.string ⟨#[]⟩,.slice none 0 0,.slice none 0 0] 25))):=bD w _ _ _ _ _;have HN:=aj (CG hD hN hL s _ hs (hL _ hT _ _ hT HB0.out))
 have Qv:Hid ((w.alloc (.cells #[.int .i64 0,.int .i64 0,.string ⟨#[]⟩,.slice none 0 0,.slice none 0 0] 25)).heap.size=w.heap.size+1):=by
  show _=_;simp
 have HT:=aj hT;clear hT;go_in;go_wp2_with fail;refine HN.out.mono ?_;rintro e w1 ⟨B1,⟨t,es,A,B,C,D,hr,rfl,hF,hS⟩ | ⟨hr,rfl⟩⟩
 ·have HR1:=aj (dA.out.move B1.size (B1.block _ dA.out.lt));have HW1:=aj (HB0.out.trans (B1.mono (by rw [Qv.out];omega)));have HF:=aj hF
  have HS:Hid (mD (w.heap.size+1) w1 es):=by
   have:=hS;rw [Qv.out] at this;exact this
  have Hr:=aj hr;clear B1 hF hS hr HN dA HB0;have r0:=HR1.out.q0;have r1:=HR1.out.q1;have r2:=HR1.out.q2;have r3:=HR1.out.q3;have r4:=HR1.out.q4;have s0:=HR1.out.f0;have s1:=HR1.out.f1;have s2:=HR1.out.f2;have s3:=HR1.out.f3;have s4:=HR1.out.f4;unfold fB;go_wp2_with fail;refine bodyPost_ret (v:=fB t A B C D) (by simp [results,Tryz.results56,go_sem,fB, *]) rfl ?_;obtain ⟨p1,p2,p3⟩:=vG HW1.out HF.out HS.out (Nat.le_refl _) (by omega) (.int .i64 (ah t)) (.int .i64 (aB t)) (.string (aF t)) (.slice A (nL t) B) (.slice C (nK t) D);exact ⟨p1,Or.inl ⟨t,A,B,C,D,rfl,t,es,A,B,C,D,Hr.out,rfl,p2,p3⟩⟩
 ·have HW1:=aj (HB0.out.trans (B1.mono (by rw [Qv.out];omega)));have Hr:=aj hr;clear B1 hr;go_wp2_with fail;exact ⟨rfl,HW1.out,Or.inr ⟨eJ s,⟨rfl,Hr.out⟩,rfl⟩⟩
def sF (s:ByteArray) (w:World) (e:Ending) (w':World):Prop :=
 Below w.heap.size w w'/\((∃ t es A B C D,ZF s t/\e=.returned (.tuple #[fB t A B C D,.int .i64 0])/\fC w' 13 (fB t A B C D) t es/\mD w.heap.size w' es)\/(eJ s≠0/\e=.returned (.tuple #[kT,.int .i64 (eJ s)])))
theorem OL {Tb:World->Prop} (hD:bS Tb) (hN:dz Tb) (hL:fG Tb) (s:ByteArray) (w:World) (hs:s.size<=140737488355328) (hT:Tb w) :
  Calls Tryz.prog 22 #[.string s] w (sF s w):=by
 have Zm:∀ (fn:Fn) (first cap:Array Value) (w:World),(Instr.makeFunc fn first cap).run Tryz.prog w=.ok (.func fn first cap) w:=fun _ _ _ _=>rfl;have HB0:Hid (Below w.heap.size w ((w.alloc (.cells #[.string s] 9)).alloc (.cells #[.int .i64 0,.int .i64 0,.string ⟨#[]⟩,.slice none 0 0,.slice none 0 0] 25))):=(bG _ _).alloc (by simp) _
 have Qv:Hid (((w.alloc (.cells #[.string s] 9)).alloc (.cells #[.int .i64 0,.int .i64 0,.string ⟨#[]⟩,.slice none 0 0,.slice none 0 0] 25)).heap.size=w.heap.size+2):=by
  show _=_;simp
 have dA:Hid (aK (w.heap.size+1) (.int .i64 0) (.int .i64 0) (.string ⟨#[]⟩) (.slice none 0 0) (.slice none 0 0) ((w.alloc (.cells #[.string s] 9)).alloc (.cells #[.int .i64 0,.int .i64 0,.string ⟨#[]⟩,.slice none 0 0,.slice none 0 0] 25))):=by
  have:=bD (w.alloc (.cells #[.string s] 9)) (.int .i64 0) (.int .i64 0) (.string ⟨#[]⟩) (.slice none 0 0) (.slice none 0 0);show aK _ _ _ _ _ _ _;simpa using this
 have HA:=aj (U3 56 (fun _ _=>rfl) (WJ s) (WH s (w.heap.size+4)) (.pointer (some ⟨w.heap.size,0,none⟩)) ((w.alloc (.cells #[.string s] 9)).alloc (.cells #[.int .i64 0,.int .i64 0,.string ⟨#[]⟩,.slice none 0 0,.slice none 0 0] 25)) (by
  have hb1:Below w.heap.size w ((((w.alloc (.cells #[.string s] 9)).alloc (.cells #[.int .i64 0,.int .i64 0,.string ⟨#[]⟩,.slice none 0 0,.slice none 0 0] 25)).alloc (.cells #[.int .i64 0,.int .i64 0,.string ⟨#[]⟩,.slice none 0 0,.slice none 0 0] 25)).alloc (.cells #[.int .i64 0] 28)):=(HB0.out.alloc (by simp;omega) _).alloc (by simp;omega) _;have:=KE hD hN hL s w.heap.size ((((w.alloc (.cells #[.string s] 9)).alloc (.cells #[.int .i64 0,.int .i64 0,.string ⟨#[]⟩,.slice none 0 0,.slice none 0 0] 25)).alloc (.cells #[.int .i64 0,.int .i64 0,.string ⟨#[]⟩,.slice none 0 0,.slice none 0 0] 25)).alloc (.cells #[.int .i64 0] 28)) (by simp [go_sem]) (by simp;omega) hs (hL _ hT _ _ hT hb1);have e4:((((w.alloc (.cells #[.string s] 9)).alloc (.cells #[.int .i64 0,.int .i64 0,.string ⟨#[]⟩,.slice none 0 0,.slice none 0 0] 25)).alloc (.cells #[.int .i64 0,.int .i64 0,.string ⟨#[]⟩,.slice none 0 0,.slice none 0 0] 25)).alloc (.cells #[.int .i64 0] 28)).heap.size=w.heap.size+4:=by simp
  rw [e4] at this;exact this))
 clear hT;go_in;go_wp2_with fail;refine HA.out.mono ?_;rintro e w1 ⟨B1,⟨x,w2,rfl,⟨t,es,A,B,C,D,hr,rfl,hF,hS⟩,hab⟩ | ⟨n,⟨rfl,hr⟩,rfl⟩⟩
 ·have HR1:=aj (dA.out.move B1.size (B1.block _ dA.out.lt));have HW1:=aj (HB0.out.trans (B1.mono (by rw [Qv.out];omega)))
  have HS:Hid (mD (w.heap.size+4) w1 es):=by
   have:=hab.size;exact hS.keep (by omega)
  have HF:Hid (fC w1 13 (fB t A B C D) t es):=hF.move fun b hb=>hab.block b (by have:=(hS.lies b hb).1;rw [Qv.out];omega);have Hr:=aj hr;clear B1 hF hS hr hab HA dA HB0;have r0:=HR1.out.q0;have r1:=HR1.out.q1;have r2:=HR1.out.q2;have r3:=HR1.out.q3;have r4:=HR1.out.q4;have s0:=HR1.out.f0;have s1:=HR1.out.f1;have s2:=HR1.out.f2;have s3:=HR1.out.f3;have s4:=HR1.out.f4;unfold fB;go_wp2_with fail;refine bodyPost_ret (v:=.tuple #[fB t A B C D,.int .i64 0]) (by simp [results,Tryz.results22,go_sem,fB, *]) rfl ?_;obtain ⟨p1,p2,p3⟩:=vG HW1.out HF.out HS.out (show w.heap.size<=w.heap.size+1 by omega) (by omega) (.int .i64 (ah t)) (.int .i64 (aB t)) (.string (aF t)) (.slice A (nL t) B) (.slice C (nK t) D);exact ⟨p1,Or.inl ⟨t,es,A,B,C,D,Hr.out,rfl,p2,p3⟩⟩
 ·have HR1:=aj (dA.out.move B1.size (B1.block _ dA.out.lt));have HW1:=aj (HB0.out.trans (B1.mono (by rw [Qv.out];omega)));have Hr:=aj hr;clear B1 hr HA dA HB0;have r0:=HR1.out.q0;have r1:=HR1.out.q1;have r2:=HR1.out.q2;have r3:=HR1.out.q3;have r4:=HR1.out.q4;have s0:=HR1.out.f0;have s1:=HR1.out.f1;have s2:=HR1.out.f2;have s3:=HR1.out.f3;have s4:=HR1.out.f4;unfold kT;go_wp2_with fail;refine bodyPost_ret (v:=.tuple #[kT,.int .i64 (eJ s)]) (by simp [results,Tryz.results22,go_sem,kT, *]) rfl ?_;have hb:w.heap.size<=w.heap.size+1:=by omega
  exact ⟨((((HW1.out.setCell hb _).setCell hb _).setCell hb _).setCell hb _).setCell hb _,Or.inr ⟨Hr.out,rfl⟩⟩
theorem Nn {k n:Int} {s:ByteArray} {l:List T} {ks:List ByteArray} {i:Nat} (hi:i<nL (dU k n s l ks)):elt (dU k n s l ks) i ∈ l:=by
 unfold elt;unfold nL at hi;rw [zY] at hi ⊢;have e:l.getD i DataW.nil=l[i]:=by simp [List.getD,List.getElem?_eq_getElem hi]
 rw [e];exact List.getElem_mem hi
theorem Fg {f:Nat} {k n:Int} {s:ByteArray} {l:List T} {ks:List ByteArray} (hl:∀ x ∈ l,uP f x):uP (f+1) (dU k n s l ks):=fun _ hi=>hl _ (Nn hi)
theorem KF {f:Nat->Option (T×Nat)} {s:ByteArray} {n:Nat} (hf:∀ i t e,i<=s.size->f i=some (t,e)->i<e/\e<=s.size) (hg:∀ i t e,i<=s.size->f i=some (t,e)->uP n t) {j:Nat} {t:T} {e:Nat} (h:bH f s j=some (t,e)):uP (n+1) t:=by
 have kV:∀ k m x,t=aR k m x->uP (n+1) t:=by
  intro k m x hx;subst hx;exact Fg (by simp)
 have kS:∀ (o:Bool) (k:Int),cB s j<256->(fM f s o (j+1)).map (fun r=>(dU k 0 ByteArray.empty r.1.2 r.1.1,r.2))=some (t,e)->uP (n+1) t:=by
  intro o k hc hh;have hj1:=aZ hc;have h5:=fu (s:=s) (i:=j+1) (by omega);cases hb:fM f s o (j+1) with
  | none=>rw [hb] at hh;cases hh
  | some r =>
   rw [hb] at hh;simp only [Option.map_some,Option.some.injEq,Prod.mk.injEq] at hh;obtain ⟨rfl,rfl⟩:=hh;unfold fM at hb;split at hb
   ·simp only [Option.some.injEq] at hb;subst hb;exact Fg (by simp)
   ·exact Fg (Fe (g:=fun _=>0) (P:=uP n) hf (fun i t e hi h=>⟨Nat.zero_le _,hg i t e hi h⟩) o _ _ r h5 hb).2.1
 unfold bH at h;split at h
 ·cases ht:fF s j with
  | none=>rw [ht] at h;cases h
  | some q =>
   rw [ht] at h;simp only [Option.map_some,Option.some.injEq,Prod.mk.injEq] at h;exact kV _ _ _ h.1.symm
 ·split at h
  ·exact kS _ _ (by omega) h
  ·split at h
   ·exact kS _ _ (by omega) h
   ·split at h
    ·cases ht:eY s j with
     | none=>rw [ht] at h;cases h
     | some q =>
      rw [ht] at h;simp only [Option.map_some,Option.some.injEq,Prod.mk.injEq] at h;exact kV _ _ _ h.1.symm
    ·split at h
     ·simp only [Option.some.injEq,Prod.mk.injEq] at h;exact kV _ _ _ h.1.symm
     ·split at h
      ·simp only [Option.some.injEq,Prod.mk.injEq] at h;exact kV _ _ _ h.1.symm
      ·split at h
       ·simp only [Option.some.injEq,Prod.mk.injEq] at h;exact kV _ _ _ h.1.symm
       ·cases h
theorem DV {s:ByteArray}:∀ (n i:Nat) (t:T) (e:Nat),i<=s.size->aS s n i=some (t,e)->uP n t
 | 0,_,_,_,_,h=>by cases h
 | n+1,i,t,e,_,h=>by
  rw [aS] at h;exact KF (fun i t e=>dV n i t e) (fun i t e=>DV n i t e) h
theorem DW:∀ (f m:Nat) (t:T),uP f t->vE f t->vE m t
 | 0,_,_,h,_=>h.elim
 | _+1,0,_,_,_=>trivial
 | f+1,m+1,_,h,ht=>⟨ht.1,ht.2.1,fun i hi=>DW f m _ (h i hi) (ht.2.2 i hi)⟩
theorem Np {g g':T->Nat} {t:T}:∀ k,(∀ i,i<k->g (elt t i)<=g' (elt t i))->dY g t k<=dY g' t k
 | 0,_=>Nat.le_refl _
 | k+1,h=>by
  have h1:=Np (g:=g) (g':=g') (t:=t) k (fun i hi=>h i (by omega));have h2:=h k (by omega);simp only [dY];omega
theorem Ii:∀ (f m:Nat) (t:T),uP f t->kU m t<=kU f t
 | 0,_,_,h=>h.elim
 | f+1,0,_,_=>by simp only [kU];omega
 | f+1,m+1,t,h=>by
  have:=Np (g:=kU m) (g':=kU f) (t:=t) (nL t) (fun i hi=>Ii f m _ (h i hi));simp only [kU];omega
theorem Nq {s:ByteArray} (h:eJ s=0):s.size<=4000/\∃ j,aS s (s.size+1) 0=some (tJ s,j)/\sk s j=s.size/\bn (s.size+1) (tJ s)<=12/\bN (s.size+1) (tJ s)=false:=by
 have hs:s.size<=4000:=by
  rcases Nat.lt_or_ge 4000 s.size with hl | hl
  ·unfold eJ at h;rw [if_pos hl] at h;omega
  ·exact hl
 refine ⟨hs,?_⟩;cases hf:oH s with
 | none=>unfold eJ at h;rw [if_neg (by omega),hf] at h;cases h
 | some t =>
  have ht:tJ s=t:=by unfold tJ;rw [if_pos h,hf];rfl
  unfold eJ at h;rw [if_neg (by omega),hf] at h;simp only [Option.map_some,Option.getD_some] at h;unfold oH at hf;cases hv:aS s (s.size+1) 0 with
  | none=>rw [hv] at hf;cases hf
  | some p =>
   rw [hv] at hf;simp only [Option.bind_some] at hf;split at hf
   ·rename_i hsk;simp only [Option.some.injEq] at hf;subst hf;rw [ht];refine ⟨p.2,rfl,hsk,?_,?_⟩
    ·rcases Nat.lt_or_ge 12 (bn (s.size+1) p.1) with hl | hl
     ·rw [if_pos hl] at h;omega
     ·exact hl
    ·by_cases hd:12<bn (s.size+1) p.1
     ·rw [if_pos hd] at h;omega
     ·rw [if_neg hd] at h;cases Qx:bN (s.size+1) p.1 with
      | false=>rfl
      | true=>rw [Qx] at h;simp at h
   ·cases hf
theorem XM {s:ByteArray} (h:eJ s=0) (m:Nat):kU m (tJ s)<=4000/\vE m (tJ s):=by
 obtain ⟨hs,j,hv,hj,_⟩:=Nq h;have h1:=vF _ _ _ _ (by omega) hv;have h2:=DV _ _ _ _ (by omega) hv;have h3:=Ii _ m _ h2;have h4:=dV _ _ _ _ (by omega) hv;exact ⟨by omega,DW _ m _ h2 h1.2⟩
end Go.Proofs.YtknakfpciccoaaaGreatDoor
