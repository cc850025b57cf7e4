import Derived.Test.YtknakfpciccoaabGreatDoorZS2
import Derived.Test.YtknakfpciccoaabGreatDoorZS1
/- The walk of the checker's value, of the kinds that hold others, and of a text. -/
namespace Go.Proofs.YtknakfpciccoaabGreatDoor
open Go.RowKit
set_option maxHeartbeats 1000000 in
theorem chk_k4 {Tb:World→Prop} (hV:ValidSaid Tb) (c:Nat) (hS:Stays Tb c) (w0:World) (hN:w0.heap.size≤c) (m:Nat)  (f:Nat) (v:Value) (t:T) (l:Int) (w:World)
  (h:At w0 f v t) (hb0:Below w0.heap.size w0 w) (hH:Holds c l w) (hT:Tb w) (l0:0≤l) (l1:l≤1048576) (hk0:kindOf t=4) :
  Calls Tryz.prog 47 #[.pointer (some ⟨c,0,none⟩),v,.int .i64 (12 - (m:Int))] w fun e w'=>ChkPost c w (chkT m t l) e w':=by
 obtain ⟨f,La,Ka,Lc,Kc,rfl,rfl,hf,hl,hk⟩:=h.open
 have hlen:=hf.l1
 have klen:=hf.m1
 have slen:=hf.s1
 have hcw:=hH.lt
 have HB1:Hid (Below w.heap.size w (w.alloc (.cells #[.int .i64 (kindOf t),.int .i64 (nOf t),.string (sOf t),.slice La (nL t) Lc,.slice Ka (nK t) Kc] 36))):=(Below.refl _ _).alloc (Nat.le_refl _) _
 have HK1:=hid (hH.keep HB1.out)
 have HT0:=hid hT
 have Hb0:=hid hb0
 have HA:=hid (h.keep (hb0.trans (HB1.out.mono (Nat.le_trans hN (Nat.le_of_lt hH.lt)))))
 clear h hb0 hH hT hf
 have HR0:Hid (chkT m t l=if nOf t=0∧noLists t=true then (takeO 5 l).bind (textO (sOf t)) else none):=by
  show chkT m t l=_
  cases m<;>simp [chkT,leafO,hk0]
 have g1:(kindOf t==1)=false:=by first | (rw [hk0];rfl) | (simp;omega)
 have g2:(kindOf t==2)=false:=by first | (rw [hk0];rfl) | (simp;omega)
 have g3:(kindOf t==3)=false:=by first | (rw [hk0];rfl) | (simp;omega)
 have g4:(kindOf t==4)=true:=by rw [hk0];rfl
 clear hk0 hlen klen hl hk
 by_cases n0:nOf t=0
 ·have en:(nOf t==0)=true:=by rw [n0];rfl
  have N0:=hid n0
  clear n0
  go_enter Tryz.func47,Tryz.ntmps47
  go_wp2_with fail
  refine (hasNoLists_any _ _ _ _ HA.out).mono ?_
  rintro e w2 ⟨rfl,B2⟩
  have HB2:=hid B2
  clear B2
  cases hn:noLists t with
  | false =>
   have HR:Hid (chkT m t l=none):=by show chkT m t l=none;rw [HR0.out,if_neg (by rw [hn];simp)]
   clear hn
   go_wp2_with fail
   go_ret
   exact ⟨(But.of HB1.out).trans (But.of HB2.out),l,HK1.out.keep HB2.out,Or.inr ⟨HR.out,rfl⟩⟩
  | true =>
   have HR:Hid (chkT m t l=(takeO 5 l).bind (textO (sOf t))):=by show chkT m t l=_;rw [HR0.out,if_pos ⟨N0.out,hn⟩]
   clear hn
   go_wp2_with fail
   refine (take2_any c l 5 w2 (HK1.out.keep HB2.out) l0 l1 (by omega) (by omega)).mono ?_
   rintro e w3 ⟨rfl,K3,B3⟩
   have HK3:=hid K3
   have HB3:=hid ((But.of HB2.out).trans B3)
   clear K3 B3
   by_cases h9:5≤l
   ·have HR2:Hid (takeO 5 l=some (l - 5)):=by show takeO 5 l=_;unfold takeO;rw [if_pos h9]
    obtain ⟨q0,q1,q2,q3,q4,hz⟩:=box_but hcw HB3.out
    have HB4:=hid ((But.of HB1.out).trans HB3.out)
    go_wp2_with fail
    refine (text_any hV c hS (sOf t) (l - 5) w3 HK3.out (hS _ _ HT0.out (HB4.out.below (Nat.le_of_lt hcw))) (by omega) (by omega) slen).mono ?_
    rintro e w4 ⟨B4,l',K4,hr⟩
    have HB5:=hid (HB4.out.trans B4)
    have HK4:=hid K4
    clear B4 K4
    have HRR:Hid (chkT m t l=textO (sOf t) (l - 5)):=by show chkT m t l=_;rw [HR.out,HR2.out];rfl
    rcases hr with ⟨hr,y0,y1,rfl⟩ | ⟨hr,rfl⟩
    ·have Hr:=hid hr
     clear hr
     go_wp2_with fail
     go_ret
     exact ⟨HB5.out,l',HK4.out,Or.inl ⟨HRR.out.trans Hr.out,y0,y1,rfl⟩⟩
    ·have Hr:=hid hr
     clear hr
     go_wp2_with fail
     go_ret
     exact ⟨HB5.out,l',HK4.out,Or.inr ⟨HRR.out.trans Hr.out,rfl⟩⟩
   ·have HR2:Hid (takeO 5 l=none):=by show takeO 5 l=_;unfold takeO;rw [if_neg h9]
    have hd:decide ((5:Int)≤l)=false:=decide_eq_false h9
    clear h9
    go_wp2_with fail
    go_ret
    exact ⟨(But.of HB1.out).trans HB3.out,l - 5,HK3.out,Or.inr ⟨by rw [HR.out,HR2.out];rfl,rfl⟩⟩
 ·have en:(nOf t==0)=false:=by simpa using n0
  have HR:Hid (chkT m t l=none):=by show chkT m t l=none;rw [HR0.out,if_neg (fun h=>n0 h.1)]
  clear n0
  go_enter Tryz.func47,Tryz.ntmps47
  go_wp2_with fail
  go_ret
  exact ⟨But.of HB1.out,l,HK1.out,Or.inr ⟨HR.out,rfl⟩⟩
set_option maxHeartbeats 1000000 in
theorem chk_z5 {Tb:World→Prop} (c:Nat) (w0:World) (hN:w0.heap.size≤c)   (f:Nat) (v:Value) (t:T) (l:Int) (w:World)
  (h:At w0 f v t) (hb0:Below w0.heap.size w0 w) (hH:Holds c l w) (hT:Tb w) (_l0:0≤l) (_l1:l≤1048576) (hk0:kindOf t=5) :
  Calls Tryz.prog 47 #[.pointer (some ⟨c,0,none⟩),v,.int .i64 (12 - ((0:Nat):Int))] w fun e w'=>ChkPost c w (chkT 0 t l) e w':=by
 obtain ⟨f,La,Ka,Lc,Kc,rfl,rfl,hf,hl,hk⟩:=h.open
 have hlen:=hf.l1
 have klen:=hf.m1
 have slen:=hf.s1
 have hcw:=hH.lt
 have HB1:Hid (Below w.heap.size w (w.alloc (.cells #[.int .i64 (kindOf t),.int .i64 (nOf t),.string (sOf t),.slice La (nL t) Lc,.slice Ka (nK t) Kc] 36))):=(Below.refl _ _).alloc (Nat.le_refl _) _
 have HK1:=hid (hH.keep HB1.out)
 have HT0:=hid hT
 have Hb0:=hid hb0
 have HA:=hid (h.keep (hb0.trans (HB1.out.mono (Nat.le_trans hN (Nat.le_of_lt hH.lt)))))
 clear h hb0 hH hT hf
 have HR:Hid (chkT 0 t l=none):=by
  show chkT 0 t l=_
  simp [chkT,leafO,hk0]
 have g1:(kindOf t==1)=false:=by first | (rw [hk0];rfl) | (simp;omega)
 have g2:(kindOf t==2)=false:=by first | (rw [hk0];rfl) | (simp;omega)
 have g3:(kindOf t==3)=false:=by first | (rw [hk0];rfl) | (simp;omega)
 have g4:(kindOf t==4)=false:=by first | (rw [hk0];rfl) | (simp;omega)
 have g5:(kindOf t==5)=true:=by rw [hk0];rfl
 clear hk0 HA hlen klen slen hcw hl hk HT0 Hb0
 by_cases n0:nOf t=0
 ·have en:(nOf t==0)=true:=by rw [n0];rfl
  clear n0
  by_cases s0:noText t=true
  ·have es:(sOf t).toList.isEmpty=true:=s0
   clear s0
   by_cases k0:nK t=0
   ·have ek:((nK t:Int)==0)=true:=by simp [k0]
    clear k0
    go_enter Tryz.func47,Tryz.ntmps47
    go_wp2_with fail
    go_ret
    exact ⟨But.of HB1.out,l,HK1.out,Or.inr ⟨HR.out,rfl⟩⟩
   ·have ek:((nK t:Int)==0)=false:=by simp;omega
    clear k0
    go_enter Tryz.func47,Tryz.ntmps47
    go_wp2_with fail
    go_ret
    exact ⟨But.of HB1.out,l,HK1.out,Or.inr ⟨HR.out,rfl⟩⟩
  ·have es:(sOf t).toList.isEmpty=false:=by simpa [noText] using s0
   clear s0
   go_enter Tryz.func47,Tryz.ntmps47
   go_wp2_with fail
   go_ret
   exact ⟨But.of HB1.out,l,HK1.out,Or.inr ⟨HR.out,rfl⟩⟩
 ·have en:(nOf t==0)=false:=by simpa using n0
  clear n0
  go_enter Tryz.func47,Tryz.ntmps47
  go_wp2_with fail
  go_ret
  exact ⟨But.of HB1.out,l,HK1.out,Or.inr ⟨HR.out,rfl⟩⟩
set_option maxHeartbeats 1000000 in
theorem chk_z6 {Tb:World→Prop} (c:Nat) (w0:World) (hN:w0.heap.size≤c)   (f:Nat) (v:Value) (t:T) (l:Int) (w:World)
  (h:At w0 f v t) (hb0:Below w0.heap.size w0 w) (hH:Holds c l w) (hT:Tb w) (_l0:0≤l) (_l1:l≤1048576) (hk0:kindOf t=6) :
  Calls Tryz.prog 47 #[.pointer (some ⟨c,0,none⟩),v,.int .i64 (12 - ((0:Nat):Int))] w fun e w'=>ChkPost c w (chkT 0 t l) e w':=by
 obtain ⟨f,La,Ka,Lc,Kc,rfl,rfl,hf,hl,hk⟩:=h.open
 have hlen:=hf.l1
 have klen:=hf.m1
 have slen:=hf.s1
 have hcw:=hH.lt
 have HB1:Hid (Below w.heap.size w (w.alloc (.cells #[.int .i64 (kindOf t),.int .i64 (nOf t),.string (sOf t),.slice La (nL t) Lc,.slice Ka (nK t) Kc] 36))):=(Below.refl _ _).alloc (Nat.le_refl _) _
 have HK1:=hid (hH.keep HB1.out)
 have HT0:=hid hT
 have Hb0:=hid hb0
 have HA:=hid (h.keep (hb0.trans (HB1.out.mono (Nat.le_trans hN (Nat.le_of_lt hH.lt)))))
 clear h hb0 hH hT hf
 have HR:Hid (chkT 0 t l=none):=by
  show chkT 0 t l=_
  simp [chkT,leafO,hk0]
 have g1:(kindOf t==1)=false:=by first | (rw [hk0];rfl) | (simp;omega)
 have g2:(kindOf t==2)=false:=by first | (rw [hk0];rfl) | (simp;omega)
 have g3:(kindOf t==3)=false:=by first | (rw [hk0];rfl) | (simp;omega)
 have g4:(kindOf t==4)=false:=by first | (rw [hk0];rfl) | (simp;omega)
 have g5:(kindOf t==5)=false:=by first | (rw [hk0];rfl) | (simp;omega)
 have g6:(kindOf t==6)=true:=by rw [hk0];rfl
 clear hk0 HA hlen klen slen hcw hl hk HT0 Hb0
 by_cases n0:nOf t=0
 ·have en:(nOf t==0)=true:=by rw [n0];rfl
  clear n0
  by_cases s0:noText t=true
  ·have es:(sOf t).toList.isEmpty=true:=s0
   clear s0
   by_cases k0:nK t=nL t
   ·have ek:((nK t:Int)==(nL t:Int))=true:=by simp [k0]
    clear k0
    go_enter Tryz.func47,Tryz.ntmps47
    go_wp2_with fail
    go_ret
    exact ⟨But.of HB1.out,l,HK1.out,Or.inr ⟨HR.out,rfl⟩⟩
   ·have ek:((nK t:Int)==(nL t:Int))=false:=by simp;omega
    clear k0
    go_enter Tryz.func47,Tryz.ntmps47
    go_wp2_with fail
    go_ret
    exact ⟨But.of HB1.out,l,HK1.out,Or.inr ⟨HR.out,rfl⟩⟩
  ·have es:(sOf t).toList.isEmpty=false:=by simpa [noText] using s0
   clear s0
   go_enter Tryz.func47,Tryz.ntmps47
   go_wp2_with fail
   go_ret
   exact ⟨But.of HB1.out,l,HK1.out,Or.inr ⟨HR.out,rfl⟩⟩
 ·have en:(nOf t==0)=false:=by simpa using n0
  clear n0
  go_enter Tryz.func47,Tryz.ntmps47
  go_wp2_with fail
  go_ret
  exact ⟨But.of HB1.out,l,HK1.out,Or.inr ⟨HR.out,rfl⟩⟩
set_option maxHeartbeats 1000000 in
theorem chk_k5 {Tb:World→Prop} (c:Nat) (hS:Stays Tb c) (w0:World) (hN:w0.heap.size≤c) (m:Nat)  (ih:ChkSaid Tb c w0 m) (hm:m<12) (f:Nat) (v:Value) (t:T) (l:Int) (w:World)
  (h:At w0 f v t) (hb0:Below w0.heap.size w0 w) (hH:Holds c l w) (hT:Tb w) (l0:0≤l) (l1:l≤1048576) (hk0:kindOf t=5) :
  Calls Tryz.prog 47 #[.pointer (some ⟨c,0,none⟩),v,.int .i64 (12 - ((m+1:Nat):Int))] w fun e w'=>ChkPost c w (chkT (m+1) t l) e w':=by
 obtain ⟨f,La,Ka,Lc,Kc,rfl,rfl,hf,hl,hk⟩:=h.open
 have hlen:=hf.l1
 have klen:=hf.m1
 have slen:=hf.s1
 have hcw:=hH.lt
 have HB1:Hid (Below w.heap.size w (w.alloc (.cells #[.int .i64 (kindOf t),.int .i64 (nOf t),.string (sOf t),.slice La (nL t) Lc,.slice Ka (nK t) Kc] 36))):=(Below.refl _ _).alloc (Nat.le_refl _) _
 have HK1:=hid (hH.keep HB1.out)
 have HT0:=hid hT
 have Hb0:=hid hb0
 have HA:=hid (h.keep (hb0.trans (HB1.out.mono (Nat.le_trans hN (Nat.le_of_lt hH.lt)))))
 clear h hb0 hH hT hf
 have HR0:Hid (chkT (m+1) t l=if nOf t=0∧noText t=true∧nK t=0 then (takeO 5 l).bind (valuesL (chkT m) t (nL t)) else none):=by
  show chkT (m+1) t l=_
  simp [chkT,hk0]
 have g1:(kindOf t==1)=false:=by first | (rw [hk0];rfl) | (simp;omega)
 have g2:(kindOf t==2)=false:=by first | (rw [hk0];rfl) | (simp;omega)
 have g3:(kindOf t==3)=false:=by first | (rw [hk0];rfl) | (simp;omega)
 have g4:(kindOf t==4)=false:=by first | (rw [hk0];rfl) | (simp;omega)
 have g5:(kindOf t==5)=true:=by rw [hk0];rfl
 have em:(12:Int) - ((m+1:Nat):Int)=11 - m:=by omega
 rw [em]
 have em2:(11:Int) - m+1=12 - m:=by omega
 have hm2:(11:Int) - m<12:=by omega
 clear hk0 HA em
 by_cases n0:nOf t=0
 ·have en:(nOf t==0)=true:=by rw [n0];rfl
  by_cases s0:noText t=true
  ·have es:(sOf t).toList.isEmpty=true:=s0
   by_cases k0:nK t=0
   ·have ek:((nK t:Int)==0)=true:=by simp [k0]
    have HR:Hid (chkT (m+1) t l=(takeO 5 l).bind (valuesL (chkT m) t (nL t))):=by show chkT (m+1) t l=_;rw [HR0.out,if_pos ⟨n0,s0,k0⟩]
    clear n0 s0 k0
    go_enter Tryz.func47,Tryz.ntmps47
    go_wp2_with fail
    refine (take2_any c l 5 _ HK1.out l0 l1 (by omega) (by omega)).mono ?_
    rintro e w3 ⟨rfl,K3,B3⟩
    have HK3:=hid K3
    have HB3:=hid B3
    clear K3 B3
    by_cases h9:5≤l
    ·have HR2:Hid (takeO 5 l=some (l - 5)):=by show takeO 5 l=_;unfold takeO;rw [if_pos h9]
     obtain ⟨q0,q1,q2,q3,q4,hz⟩:=box_but hcw HB3.out
     have HB4:=hid ((But.of HB1.out).trans HB3.out)
     go_wp2_with fail
     have HRR:Hid (chkT (m+1) t l=valuesL (chkT m) t (nL t) (l - 5)):=by show chkT (m+1) t l=_;rw [HR.out,HR2.out];rfl
     refine (values_any c hS w0 hN m ih f La Lc t (l - 5) w3 (hl.out) hlen (Hb0.out.trans ((HB4.out.below (Nat.le_of_lt hcw)).mono hN)) HK3.out (hS _ _ HT0.out (HB4.out.below (Nat.le_of_lt hcw))) (by omega) (by omega)).mono ?_
     rintro e w4 ⟨B4,l',K4,hr⟩
     have HB5:=hid (HB4.out.trans B4)
     have HK4:=hid K4
     clear B4 K4
     rcases hr with ⟨hr,y0,y1,rfl⟩ | ⟨hr,rfl⟩
     ·have Hr:=hid hr
      clear hr
      go_wp2_with fail
      go_ret
      exact ⟨HB5.out,l',HK4.out,Or.inl ⟨HRR.out.trans Hr.out,y0,y1,rfl⟩⟩
     ·have Hr:=hid hr
      clear hr
      go_wp2_with fail
      go_ret
      exact ⟨HB5.out,l',HK4.out,Or.inr ⟨HRR.out.trans Hr.out,rfl⟩⟩
    ·have HR2:Hid (takeO 5 l=none):=by show takeO 5 l=_;unfold takeO;rw [if_neg h9]
     have hd:decide ((5:Int)≤l)=false:=decide_eq_false h9
     clear h9
     go_wp2_with fail
     go_ret
     exact ⟨(But.of HB1.out).trans HB3.out,l - 5,HK3.out,Or.inr ⟨by rw [HR.out,HR2.out];rfl,rfl⟩⟩
   ·have ek:((nK t:Int)==0)=false:=by simp;omega
    have HR:Hid (chkT (m+1) t l=none):=by show chkT (m+1) t l=none;rw [HR0.out,if_neg (fun h=>k0 h.2.2)]
    clear n0 s0 k0
    go_enter Tryz.func47,Tryz.ntmps47
    go_wp2_with fail
    go_ret
    exact ⟨But.of HB1.out,l,HK1.out,Or.inr ⟨HR.out,rfl⟩⟩
  ·have es:(sOf t).toList.isEmpty=false:=by simpa [noText] using s0
   have HR:Hid (chkT (m+1) t l=none):=by show chkT (m+1) t l=none;rw [HR0.out,if_neg (fun h=>s0 h.2.1)]
   clear n0 s0
   go_enter Tryz.func47,Tryz.ntmps47
   go_wp2_with fail
   go_ret
   exact ⟨But.of HB1.out,l,HK1.out,Or.inr ⟨HR.out,rfl⟩⟩
 ·have en:(nOf t==0)=false:=by simpa using n0
  have HR:Hid (chkT (m+1) t l=none):=by show chkT (m+1) t l=none;rw [HR0.out,if_neg (fun h=>n0 h.1)]
  clear n0
  go_enter Tryz.func47,Tryz.ntmps47
  go_wp2_with fail
  go_ret
  exact ⟨But.of HB1.out,l,HK1.out,Or.inr ⟨HR.out,rfl⟩⟩
set_option maxHeartbeats 1000000 in
theorem chk_k6 {Tb:World→Prop} (hV:ValidSaid Tb) (c:Nat) (hS:Stays Tb c) (w0:World) (hN:w0.heap.size≤c) (m:Nat)  (ih:ChkSaid Tb c w0 m) (hm:m<12) (f:Nat) (v:Value) (t:T) (l:Int) (w:World)
  (h:At w0 f v t) (hb0:Below w0.heap.size w0 w) (hH:Holds c l w) (hT:Tb w) (l0:0≤l) (l1:l≤1048576) (hk0:kindOf t=6) :
  Calls Tryz.prog 47 #[.pointer (some ⟨c,0,none⟩),v,.int .i64 (12 - ((m+1:Nat):Int))] w fun e w'=>ChkPost c w (chkT (m+1) t l) e w':=by
 obtain ⟨f,La,Ka,Lc,Kc,rfl,rfl,hf,hl,hk⟩:=h.open
 have hlen:=hf.l1
 have klen:=hf.m1
 have slen:=hf.s1
 have hcw:=hH.lt
 have HB1:Hid (Below w.heap.size w (w.alloc (.cells #[.int .i64 (kindOf t),.int .i64 (nOf t),.string (sOf t),.slice La (nL t) Lc,.slice Ka (nK t) Kc] 36))):=(Below.refl _ _).alloc (Nat.le_refl _) _
 have HK1:=hid (hH.keep HB1.out)
 have HT0:=hid hT
 have Hb0:=hid hb0
 have HA:=hid (h.keep (hb0.trans (HB1.out.mono (Nat.le_trans hN (Nat.le_of_lt hH.lt)))))
 clear h hb0 hH hT hf
 have HR0:Hid (chkT (m+1) t l=if nOf t=0∧noText t=true∧nK t=nL t then ((takeO 5 l).bind (namesO t)).bind (valuesL (chkT m) t (nL t)) else none):=by
  show chkT (m+1) t l=_
  simp [chkT,hk0]
 have g1:(kindOf t==1)=false:=by first | (rw [hk0];rfl) | (simp;omega)
 have g2:(kindOf t==2)=false:=by first | (rw [hk0];rfl) | (simp;omega)
 have g3:(kindOf t==3)=false:=by first | (rw [hk0];rfl) | (simp;omega)
 have g4:(kindOf t==4)=false:=by first | (rw [hk0];rfl) | (simp;omega)
 have g5:(kindOf t==5)=false:=by first | (rw [hk0];rfl) | (simp;omega)
 have g6:(kindOf t==6)=true:=by rw [hk0];rfl
 have em:(12:Int) - ((m+1:Nat):Int)=11 - m:=by omega
 rw [em]
 have em2:(11:Int) - m+1=12 - m:=by omega
 have hm2:(11:Int) - m<12:=by omega
 clear hk0 HA em
 by_cases n0:nOf t=0
 ·have en:(nOf t==0)=true:=by rw [n0];rfl
  by_cases s0:noText t=true
  ·have es:(sOf t).toList.isEmpty=true:=s0
   by_cases k0:nK t=nL t
   ·have ek:((nK t:Int)==(nL t:Int))=true:=by simp [k0]
    have HR:Hid (chkT (m+1) t l=((takeO 5 l).bind (namesO t)).bind (valuesL (chkT m) t (nL t))):=by show chkT (m+1) t l=_;rw [HR0.out,if_pos ⟨n0,s0,k0⟩]
    clear n0 s0 k0
    go_enter Tryz.func47,Tryz.ntmps47
    go_wp2_with fail
    refine (take2_any c l 5 _ HK1.out l0 l1 (by omega) (by omega)).mono ?_
    rintro e w3 ⟨rfl,K3,B3⟩
    have HK3:=hid K3
    have HB3:=hid B3
    clear K3 B3
    by_cases h9:5≤l
    ·have HR2:Hid (takeO 5 l=some (l - 5)):=by show takeO 5 l=_;unfold takeO;rw [if_pos h9]
     obtain ⟨q0,q1,q2,q3,q4,hz⟩:=box_but hcw HB3.out
     have HB4:=hid ((But.of HB1.out).trans HB3.out)
     go_wp2_with fail
     refine (names_any hV c hS w0 hN Ka Kc t (l - 5) w3 hk.out klen (Hb0.out.trans ((HB4.out.below (Nat.le_of_lt hcw)).mono hN)) HK3.out (hS _ _ HT0.out (HB4.out.below (Nat.le_of_lt hcw))) (by omega) (by omega)).mono ?_
     rintro e w5 ⟨B5,x,K5,hx⟩
     have HB6:=hid (HB3.out.trans B5)
     have HB7:=hid (HB4.out.trans B5)
     have HK5:=hid K5
     clear B5 K5 q0 q1 q2 q3 q4 hz
     obtain ⟨q0,q1,q2,q3,q4,hz⟩:=box_but hcw HB6.out
     rcases hx with ⟨hx,x0,x1,rfl⟩ | ⟨hx,rfl⟩
     ·have HRR:Hid (chkT (m+1) t l=valuesL (chkT m) t (nL t) x):=by show chkT (m+1) t l=_;rw [HR.out,HR2.out];show ((namesO t (l - 5)).bind _)=_;rw [hx];rfl
      clear hx
      go_wp2_with fail
      refine (values_any c hS w0 hN m ih f La Lc t x w5 (hl.out) hlen (Hb0.out.trans ((HB7.out.below (Nat.le_of_lt hcw)).mono hN)) HK5.out (hS _ _ HT0.out (HB7.out.below (Nat.le_of_lt hcw))) (by omega) (by omega)).mono ?_
      rintro e w4 ⟨B4,l',K4,hr⟩
      have HB5:=hid (HB7.out.trans B4)
      have HK4:=hid K4
      clear B4 K4
      rcases hr with ⟨hr,y0,y1,rfl⟩ | ⟨hr,rfl⟩
      ·have Hr:=hid hr
       clear hr
       go_wp2_with fail
       go_ret
       exact ⟨HB5.out,l',HK4.out,Or.inl ⟨HRR.out.trans Hr.out,y0,y1,rfl⟩⟩
      ·have Hr:=hid hr
       clear hr
       go_wp2_with fail
       go_ret
       exact ⟨HB5.out,l',HK4.out,Or.inr ⟨HRR.out.trans Hr.out,rfl⟩⟩
     ·have HRR:Hid (chkT (m+1) t l=none):=by show chkT (m+1) t l=_;rw [HR.out,HR2.out];show ((namesO t (l - 5)).bind _)=_;rw [hx];rfl
      clear hx
      go_wp2_with fail
      go_ret
      exact ⟨HB7.out,x,HK5.out,Or.inr ⟨HRR.out,rfl⟩⟩
    ·have HR2:Hid (takeO 5 l=none):=by show takeO 5 l=_;unfold takeO;rw [if_neg h9]
     have hd:decide ((5:Int)≤l)=false:=decide_eq_false h9
     clear h9
     go_wp2_with fail
     go_ret
     exact ⟨(But.of HB1.out).trans HB3.out,l - 5,HK3.out,Or.inr ⟨by rw [HR.out,HR2.out];rfl,rfl⟩⟩
   ·have ek:((nK t:Int)==(nL t:Int))=false:=by simp;omega
    have HR:Hid (chkT (m+1) t l=none):=by show chkT (m+1) t l=none;rw [HR0.out,if_neg (fun h=>k0 h.2.2)]
    clear n0 s0 k0
    go_enter Tryz.func47,Tryz.ntmps47
    go_wp2_with fail
    go_ret
    exact ⟨But.of HB1.out,l,HK1.out,Or.inr ⟨HR.out,rfl⟩⟩
  ·have es:(sOf t).toList.isEmpty=false:=by simpa [noText] using s0
   have HR:Hid (chkT (m+1) t l=none):=by show chkT (m+1) t l=none;rw [HR0.out,if_neg (fun h=>s0 h.2.1)]
   clear n0 s0
   go_enter Tryz.func47,Tryz.ntmps47
   go_wp2_with fail
   go_ret
   exact ⟨But.of HB1.out,l,HK1.out,Or.inr ⟨HR.out,rfl⟩⟩
 ·have en:(nOf t==0)=false:=by simpa using n0
  have HR:Hid (chkT (m+1) t l=none):=by show chkT (m+1) t l=none;rw [HR0.out,if_neg (fun h=>n0 h.1)]
  clear n0
  go_enter Tryz.func47,Tryz.ntmps47
  go_wp2_with fail
  go_ret
  exact ⟨But.of HB1.out,l,HK1.out,Or.inr ⟨HR.out,rfl⟩⟩
end Go.Proofs.YtknakfpciccoaabGreatDoor
/- The checker whole, and isValue. -/
namespace Go.Proofs.YtknakfpciccoaabGreatDoor
open Go.RowKit
theorem chk_any {Tb:World→Prop} (hV:ValidSaid Tb) (c:Nat) (hS:Stays Tb c) (w0:World) (hN:w0.heap.size≤c) (m:Nat) (hm:m≤12):ChkSaid Tb c w0 m:=by
 induction m with
 | zero =>
  intro f v t l w h hb0 hH hT l0 l1
  by_cases h1:kindOf t=1
  ·exact chk_k1 c hS w0 hN 0 f v t l w h hb0 hH hT l0 l1 h1
  by_cases h2:kindOf t=2
  ·exact chk_k2 c hS w0 hN 0 f v t l w h hb0 hH hT l0 l1 h2
  by_cases h3:kindOf t=3
  ·exact chk_k3 c hS w0 hN 0 f v t l w h hb0 hH hT l0 l1 h3
  by_cases h4:kindOf t=4
  ·exact chk_k4 hV c hS w0 hN 0 f v t l w h hb0 hH hT l0 l1 h4
  by_cases h5:kindOf t=5
  ·exact chk_z5 c w0 hN f v t l w h hb0 hH hT l0 l1 h5
  by_cases h6:kindOf t=6
  ·exact chk_z6 c w0 hN f v t l w h hb0 hH hT l0 l1 h6
  exact chk_other c hS w0 hN 0 f v t l w h hb0 hH hT l0 l1 ⟨h1,h2,h3,h4,h5,h6⟩
 | succ m ih =>
  have ih:=ih (by omega)
  intro f v t l w h hb0 hH hT l0 l1
  by_cases h1:kindOf t=1
  ·exact chk_k1 c hS w0 hN (m+1) f v t l w h hb0 hH hT l0 l1 h1
  by_cases h2:kindOf t=2
  ·exact chk_k2 c hS w0 hN (m+1) f v t l w h hb0 hH hT l0 l1 h2
  by_cases h3:kindOf t=3
  ·exact chk_k3 c hS w0 hN (m+1) f v t l w h hb0 hH hT l0 l1 h3
  by_cases h4:kindOf t=4
  ·exact chk_k4 hV c hS w0 hN (m+1) f v t l w h hb0 hH hT l0 l1 h4
  by_cases h5:kindOf t=5
  ·exact chk_k5 c hS w0 hN m ih (by omega) f v t l w h hb0 hH hT l0 l1 h5
  by_cases h6:kindOf t=6
  ·exact chk_k6 hV c hS w0 hN m ih (by omega) f v t l w h hb0 hH hT l0 l1 h6
  exact chk_other c hS w0 hN (m+1) f v t l w h hb0 hH hT l0 l1 ⟨h1,h2,h3,h4,h5,h6⟩
def isV (t:T):Bool:=(chkT 12 t 1048576).isSome
def Lies (Tb:World→Prop):Prop:=∀ w:World,Tb w→Stays Tb w.heap.size
set_option maxHeartbeats 1000000 in
theorem isValue_any {Tb:World→Prop} (hV:ValidSaid Tb) (hL:Lies Tb) (f:Nat) (v:Value) (t:T) (w:World) (h:At w f v t) (hT:Tb w) :
  Calls Tryz.prog 29 #[v] w fun e w'=>e=.returned (.bool (isV t))∧Below w.heap.size w w':=by
 obtain ⟨f,La,Ka,Lc,Kc,rfl,rfl,hf,hl,hk⟩:=h.open
 have HA:=hid h
 have HT:=hid hT
 clear h hT hf hl hk
 go_enter Tryz.func29,Tryz.ntmps29
 go_wp2_with fail
 have HB1:Hid (Below w.heap.size w ((w.alloc (.cells #[.int .i64 (kindOf t),.int .i64 (nOf t),.string (sOf t),.slice La (nL t) Lc,.slice Ka (nK t) Kc] 36)).alloc (.cells #[.int .i64 1048576] 93))):=((Below.refl _ _).alloc (Nat.le_refl _) _).alloc (by simp) _
 have hS:Stays Tb (w.heap.size+1):=fun w1 w2 h1 h2=>hL w HT.out w1 w2 h1 (h2.mono (by omega))
 have HH:Hid (Holds (w.heap.size+1) 1048576 ((w.alloc (.cells #[.int .i64 (kindOf t),.int .i64 (nOf t),.string (sOf t),.slice La (nL t) Lc,.slice Ka (nK t) Kc] 36)).alloc (.cells #[.int .i64 1048576] 93))):=⟨by simp [go_sem],by simp [go_sem],by simp⟩
 have e12:(Value.int .i64 0)=.int .i64 (12 - ((12:Nat):Int)):=rfl
 rw [e12]
 clear e12
 refine (chk_any hV (w.heap.size+1) hS w (by omega) 12 (by omega) _ _ t 1048576 _ HA.out HB1.out HH.out (hL w HT.out _ _ HT.out HB1.out) (by omega) (by omega)).mono ?_
 rintro e w2 ⟨B2,l',K2,hr⟩
 have HB2:=hid (HB1.out.trans ((B2.below (by simp)).mono (by omega)))
 clear B2 K2
 rcases hr with ⟨hr,y0,y1,rfl⟩ | ⟨hr,rfl⟩
 ·have Hr:=hid hr
  clear hr
  go_wp2_with fail
  go_ret
  exact ⟨ret_bool (by unfold isV;rw [Hr.out];rfl),HB2.out⟩
 ·have Hr:=hid hr
  clear hr
  go_wp2_with fail
  go_ret
  exact ⟨ret_bool (by unfold isV;rw [Hr.out];rfl),HB2.out⟩
end Go.Proofs.YtknakfpciccoaabGreatDoor
/- What a value is: the program's check and the reference's say the same; so do their orders. -/
namespace Go.Proofs.YtknakfpciccoaabGreatDoor
open Go.RowKit
def sumL (g:T→Nat) (t:T):Nat→Nat
 | 0=>0
 | k+1=>sumL g t k+g (elt t k)
def sumK (t:T):Nat→Nat
 | 0=>0
 | k+1=>sumK t k+(2+(nam t k).size)
def leafBytes (t:T):Nat:=if kindOf t=1 then 1 else if kindOf t=2 then 2 else if kindOf t=3 then 9 else 5+(sOf t).size
def bytesT:Nat→T→Nat
 | 0,t=>leafBytes t
 | m+1,t=>if kindOf t=5 then 5+sumL (bytesT m) t (nL t) else if kindOf t=6 then 5+sumK t (nK t)+sumL (bytesT m) t (nL t) else leafBytes t
def leafGood (t:T):Prop :=
 nL t=0∧nK t=0∧((kindOf t=1∧nOf t=0∧noText t=true)∨(kindOf t=2∧(nOf t=0∨nOf t=1)∧noText t=true)∨(kindOf t=3∧noText t=true)∨(kindOf t=4∧nOf t=0∧(sOf t).size≤4000∧okS (sOf t)=true))
def Good:Nat→T→Prop
 | 0,t=>leafGood t
 | m+1,t=>leafGood t∨(nOf t=0∧noText t=true∧(∀ i,i<nL t→Good m (elt t i))∧((kindOf t=5∧nK t=0)∨(kindOf t=6∧nK t=nL t∧namesF t (nK t)=true∧dupTo t (nK t)=false)))
theorem noLists_iff (t:T):noLists t=true ↔ nL t=0∧nK t=0:=by simp [noLists]
theorem takeO_eq (n l:Int):takeO n l=if n≤l then some (l - n) else none:=rfl
theorem leafO_eq (t:T) (l:Int) (_h:0≤l):leafO t l=some (l - leafBytes t)∧leafGood t∧(leafBytes t:Int)≤l∨leafO t l=none∧¬ (leafGood t∧(leafBytes t:Int)≤l):=by
 unfold leafO leafGood leafBytes
 by_cases k1:kindOf t=1
 ·simp only [k1,if_true,noLists_iff,takeO_eq]
  by_cases c:nOf t=0∧noText t=true∧nL t=0∧nK t=0
  ·rw [if_pos c]
   obtain ⟨c1,c2,c3,c4⟩:=c
   by_cases d:(1:Int)≤l
   ·left;simp [d,c1,c2,c3,c4]
   ·right;simp [d,c1,c2,c3,c4]
  ·rw [if_neg c]
   right
   refine ⟨rfl,fun h=>c ?_⟩
   obtain ⟨⟨a,b,h⟩,_⟩:=h
   rcases h with ⟨_,h1,h2⟩ | ⟨h,_⟩ | ⟨h,_⟩ | ⟨h,_⟩
   ·exact ⟨h1,h2,a,b⟩
   ·omega
   ·omega
   ·omega
 by_cases k2:kindOf t=2
 ·rw [if_neg k1,if_pos k2,if_neg k1,if_pos k2]
  simp only [noLists_iff,takeO_eq]
  by_cases c:(nOf t=0∨nOf t=1)∧noText t=true∧nL t=0∧nK t=0
  ·rw [if_pos c]
   obtain ⟨c1,c2,c3,c4⟩:=c
   by_cases d:(2:Int)≤l
   ·left;exact ⟨by rw [if_pos d];rfl,⟨c3,c4,Or.inr (Or.inl ⟨k2,c1,c2⟩)⟩,d⟩
   ·right;exact ⟨if_neg d,fun h=>d h.2⟩
  ·rw [if_neg c]
   right
   refine ⟨rfl,fun h=>c ?_⟩
   obtain ⟨⟨a,b,h⟩,_⟩:=h
   rcases h with ⟨h,_⟩ | ⟨_,h1,h2⟩ | ⟨h,_⟩ | ⟨h,_⟩
   ·omega
   ·exact ⟨h1,h2,a,b⟩
   ·omega
   ·omega
 by_cases k3:kindOf t=3
 ·rw [if_neg k1,if_neg k2,if_pos k3,if_neg k1,if_neg k2,if_pos k3]
  simp only [noLists_iff,takeO_eq]
  by_cases c:noText t=true∧nL t=0∧nK t=0
  ·rw [if_pos c]
   obtain ⟨c2,c3,c4⟩:=c
   by_cases d:(9:Int)≤l
   ·left;exact ⟨by rw [if_pos d];rfl,⟨c3,c4,Or.inr (Or.inr (Or.inl ⟨k3,c2⟩))⟩,d⟩
   ·right;exact ⟨if_neg d,fun h=>d h.2⟩
  ·rw [if_neg c]
   right
   refine ⟨rfl,fun h=>c ?_⟩
   obtain ⟨⟨a,b,h⟩,_⟩:=h
   rcases h with ⟨h,_⟩ | ⟨h,_⟩ | ⟨_,h2⟩ | ⟨h,_⟩
   ·omega
   ·omega
   ·exact ⟨h2,a,b⟩
   ·omega
 by_cases k4:kindOf t=4
 ·rw [if_neg k1,if_neg k2,if_neg k3,if_pos k4,if_neg k1,if_neg k2,if_neg k3]
  simp only [noLists_iff,takeO_eq]
  by_cases c:nOf t=0∧nL t=0∧nK t=0
  ·rw [if_pos c]
   obtain ⟨c2,c3,c4⟩:=c
   by_cases d:(5:Int)≤l
   ·rw [if_pos d]
    show (if (sOf t).size≤4000∧((sOf t).size:Int)≤l - 5∧okS (sOf t)=true then some (l - 5 - ((sOf t).size:Int)) else none)=_∧_∨_
    by_cases e:(sOf t).size≤4000∧((sOf t).size:Int)≤l - 5∧okS (sOf t)=true
    ·left
     refine ⟨?_,⟨c3,c4,Or.inr (Or.inr (Or.inr ⟨k4,c2,e.1,e.2.2⟩))⟩,by omega⟩
     rw [if_pos e]
     congr 1
     omega
    ·right
     refine ⟨if_neg e,fun h=>e ?_⟩
     obtain ⟨⟨a,b,h⟩,hb⟩:=h
     rcases h with ⟨h,_⟩ | ⟨h,_⟩ | ⟨h,_⟩ | ⟨_,h1,h2,h3⟩
     ·omega
     ·omega
     ·omega
     ·exact ⟨h2,by omega,h3⟩
   ·right
    rw [if_neg d]
    exact ⟨rfl,fun h=>d (by have:=h.2;omega)⟩
  ·rw [if_neg c]
   right
   refine ⟨rfl,fun h=>c ?_⟩
   obtain ⟨⟨a,b,h⟩,_⟩:=h
   rcases h with ⟨h,_⟩ | ⟨h,_⟩ | ⟨h,_⟩ | ⟨_,h2,_⟩
   ·omega
   ·omega
   ·omega
   ·exact ⟨h2,a,b⟩
 ·rw [if_neg k1,if_neg k2,if_neg k3,if_neg k4]
  right
  refine ⟨rfl,fun h=>?_⟩
  obtain ⟨⟨a,b,h⟩,_⟩:=h
  rcases h with ⟨h,_⟩ | ⟨h,_⟩ | ⟨h,_⟩ | ⟨h,_⟩<;>omega
def Says (r:Option Int) (good:Prop) (n:Nat) (l:Int):Prop:=r=some (l - n)∧good∧(n:Int)≤l∨r=none∧¬ (good∧(n:Int)≤l)
theorem names_says (t:T) (l:Int) (h:0≤l):∀ k,Says (namesL t k l) (namesF t k=true) (sumK t k) l
 | 0=>Or.inl ⟨by simp [namesL,sumK],rfl,by simpa [sumK] using h⟩
 | k+1=>by
  rcases names_says t l h k with ⟨h1,h2,h3⟩ | ⟨h1,h2⟩
  ·by_cases c:(okS (nam t k)=true∧(nam t k).size≤4000)∧((sumK t k+(2+(nam t k).size):Nat):Int)≤l
   ·left
    refine ⟨?_,by simp [namesF,h2,c.1.1,c.1.2],c.2⟩
    simp only [namesL,h1,Option.bind_some,takeO_eq]
    rw [if_pos (by omega)]
    simp only [Option.bind_some,textO]
    rw [if_pos ⟨c.1.2,by omega,c.1.1⟩]
    simp only [sumK]
    congr 1
    omega
   ·right
    refine ⟨?_,fun hh=>c ?_⟩
    ·simp only [namesL,h1,Option.bind_some,takeO_eq]
     by_cases d:(2:Int)≤l - sumK t k
     ·rw [if_pos d]
      simp only [Option.bind_some,textO]
      rw [if_neg (fun e=>c ⟨⟨e.2.2,e.1⟩,by omega⟩)]
     ·rw [if_neg d];rfl
    ·have:=hh.1
     simp only [namesF,Bool.and_eq_true,decide_eq_true_eq] at this
     exact ⟨this.2,hh.2⟩
  ·right
   refine ⟨by simp [namesL,h1],fun hh=>h2 ⟨?_,?_⟩⟩
   ·have:=hh.1
    simp only [namesF,Bool.and_eq_true] at this
    exact this.1
   ·have:=hh.2
    simp only [sumK] at this
    omega
theorem values_says {m:Nat} (ih:∀ (t:T) (l:Int),0≤l→Says (chkT m t l) (Good m t) (bytesT m t) l) (t:T) (l:Int) (h:0≤l):∀ k,Says (valuesL (chkT m) t k l) (∀ i,i<k→Good m (elt t i)) (sumL (bytesT m) t k) l
 | 0=>Or.inl ⟨by simp [valuesL,sumL],fun i hi=>absurd hi (Nat.not_lt_zero _),by simpa [sumL] using h⟩
 | k+1=>by
  rcases values_says ih t l h k with ⟨h1,h2,h3⟩ | ⟨h1,h2⟩
  ·rcases ih (elt t k) (l - sumL (bytesT m) t k) (by omega) with ⟨g1,g2,g3⟩ | ⟨g1,g2⟩
   ·left
    refine ⟨?_,fun i hi=>?_,by simp only [sumL];omega⟩
    ·simp only [valuesL,h1,Option.bind_some,g1,sumL]
     congr 1
     omega
    ·by_cases e:i=k
     ·subst e;exact g2
     ·exact h2 i (by omega)
   ·right
    refine ⟨by simp [valuesL,h1,g1],fun hh=>g2 ⟨hh.1 k (by omega),?_⟩⟩
    have:=hh.2
    simp only [sumL] at this
    omega
  ·right
   refine ⟨by simp [valuesL,h1],fun hh=>h2 ⟨fun i hi=>hh.1 i (by omega),?_⟩⟩
   have:=hh.2
   simp only [sumL] at this
   omega
theorem leaf_not_box {t:T} (h:leafGood t):kindOf t≠5∧kindOf t≠6:=by
 obtain ⟨_,_,h⟩:=h
 rcases h with ⟨h,_⟩ | ⟨h,_⟩ | ⟨h,_⟩ | ⟨h,_⟩<;>omega
theorem chk_says:∀ (m:Nat) (t:T) (l:Int),0≤l→Says (chkT m t l) (Good m t) (bytesT m t) l
 | 0,t,l,h=>leafO_eq t l h
 | m+1,t,l,h=>by
  by_cases k5:kindOf t=5
  ·have ng:¬ leafGood t:=fun hh=>(leaf_not_box hh).1 k5
   have eg:Good (m+1) t ↔ nOf t=0∧noText t=true∧nK t=0∧(∀ i,i<nL t→Good m (elt t i)):=by
    simp only [Good]
    constructor
    ·rintro (hh | ⟨a,b,c,d⟩)
     ·exact absurd hh ng
     ·rcases d with ⟨_,d⟩ | ⟨d,_⟩
      ·exact ⟨a,b,d,c⟩
      ·omega
    ·rintro ⟨a,b,c,d⟩
     exact Or.inr ⟨a,b,d,Or.inl ⟨k5,c⟩⟩
   have eb:bytesT (m+1) t=5+sumL (bytesT m) t (nL t):=by simp [bytesT,k5]
   have ec:chkT (m+1) t l=if nOf t=0∧noText t=true∧nK t=0 then (takeO 5 l).bind (valuesL (chkT m) t (nL t)) else none:=by simp [chkT,k5]
   unfold Says
   rw [eg,eb,ec]
   by_cases c:nOf t=0∧noText t=true∧nK t=0
   ·rw [if_pos c,takeO_eq]
    by_cases d:(5:Int)≤l
    ·rw [if_pos d,Option.bind_some]
     rcases values_says (chk_says m) t (l - 5) (by omega) (nL t) with ⟨h1,h2,h3⟩ | ⟨h1,h2⟩
     ·left
      refine ⟨?_,⟨c.1,c.2.1,c.2.2,h2⟩,by omega⟩
      rw [h1]
      congr 1
      omega
     ·right
      exact ⟨h1,fun hh=>h2 ⟨hh.1.2.2.2,by have:=hh.2;omega⟩⟩
    ·right
     rw [if_neg d]
     exact ⟨rfl,fun hh=>d (by have:=hh.2;omega)⟩
   ·rw [if_neg c]
    exact Or.inr ⟨rfl,fun hh=>c ⟨hh.1.1,hh.1.2.1,hh.1.2.2.1⟩⟩
  by_cases k6:kindOf t=6
  ·have ng:¬ leafGood t:=fun hh=>(leaf_not_box hh).2 k6
   have eg:Good (m+1) t ↔ nOf t=0∧noText t=true∧nK t=nL t∧(namesF t (nK t)=true∧dupTo t (nK t)=false)∧(∀ i,i<nL t→Good m (elt t i)):=by
    simp only [Good]
    constructor
    ·rintro (hh | ⟨a,b,c,d⟩)
     ·exact absurd hh ng
     ·rcases d with ⟨d,_⟩ | ⟨_,d,e,f⟩
      ·omega
      ·exact ⟨a,b,d,⟨e,f⟩,c⟩
    ·rintro ⟨a,b,c,⟨d,e⟩,f⟩
     exact Or.inr ⟨a,b,f,Or.inr ⟨k6,c,d,e⟩⟩
   have eb:bytesT (m+1) t=5+sumK t (nK t)+sumL (bytesT m) t (nL t):=by simp [bytesT,k6]
   have ec:chkT (m+1) t l=if nOf t=0∧noText t=true∧nK t=nL t then ((takeO 5 l).bind (namesO t)).bind (valuesL (chkT m) t (nL t)) else none:=by simp [chkT,k6]
   unfold Says
   rw [eg,eb,ec]
   by_cases c:nOf t=0∧noText t=true∧nK t=nL t
   ·rw [if_pos c,takeO_eq]
    by_cases d:(5:Int)≤l
    ·rw [if_pos d,Option.bind_some]
     unfold namesO
     rcases names_says t (l - 5) (by omega) (nK t) with ⟨h1,h2,h3⟩ | ⟨h1,h2⟩
     ·rw [h1,Option.bind_some]
      cases hd:dupTo t (nK t) with
      | true =>
       right
       refine ⟨by simp,fun hh=>?_⟩
       have:=hh.1.2.2.2.1.2
       cases this
      | false =>
       simp only [Bool.false_eq_true,if_false,Option.bind_some]
       rcases values_says (chk_says m) t (l - 5 - sumK t (nK t)) (by omega) (nL t) with ⟨g1,g2,g3⟩ | ⟨g1,g2⟩
       ·left
        refine ⟨?_,⟨c.1,c.2.1,c.2.2,⟨h2,by trivial⟩,g2⟩,by omega⟩
        rw [g1]
        congr 1
        omega
       ·right
        exact ⟨g1,fun hh=>g2 ⟨hh.1.2.2.2.2,by have:=hh.2;omega⟩⟩
     ·right
      rw [h1]
      exact ⟨rfl,fun hh=>h2 ⟨hh.1.2.2.2.1.1,by have:=hh.2;omega⟩⟩
    ·right
     rw [if_neg d]
     exact ⟨rfl,fun hh=>d (by have:=hh.2;omega)⟩
   ·rw [if_neg c]
    exact Or.inr ⟨rfl,fun hh=>c ⟨hh.1.1,hh.1.2.1,hh.1.2.2.1⟩⟩
  ·have eg:Good (m+1) t ↔ leafGood t:=by
    simp only [Good]
    constructor
    ·rintro (hh | ⟨_,_,_,⟨d,_⟩ | ⟨d,_⟩⟩)
     ·exact hh
     ·exact absurd d k5
     ·exact absurd d k6
    ·exact Or.inl
   have eb:bytesT (m+1) t=leafBytes t:=by simp [bytesT,k5,k6]
   have ec:chkT (m+1) t l=leafO t l:=by simp [chkT,k5,k6]
   unfold Says
   rw [eg,eb,ec]
   exact leafO_eq t l h
end Go.Proofs.YtknakfpciccoaabGreatDoor
/- The reference's four looks, together. -/
namespace Go.Proofs.YtknakfpciccoaabGreatDoor
open Go.RowKit
def Shal:Nat→T→Prop
 | 0,_=>False
 | f+1,t=>∀ i,i<nL t→Shal f (elt t i)
theorem At.shal {w:World}:∀ {f:Nat} {v:Value} {t:T},At w f v t→Shal f t:=by
 intro f
 induction f with
 | zero=>intro v t h;exact h
 | succ f ih =>
  rintro v t ⟨La,Ka,Lc,Kc,_,_,hl,_⟩ i hi
  obtain ⟨b,o,c0,c1,c2,c3,c4,_,_,_,_,_,_,_,ha⟩:=hl i hi
  exact ih ha
theorem allL_iff {g:T→Bool} {t:T}:∀ {k:Nat},allL g t k=true ↔ ∀ i,i<k→g (elt t i)=true
 | 0=>by simp [allL]
 | k+1=>by
  simp only [allL,Bool.and_eq_true,allL_iff]
  constructor
  ·rintro ⟨a,b⟩ i hi
   by_cases e:i=k
   ·subst e;exact b
   ·exact a i (by omega)
  ·intro h
   exact ⟨fun i hi=>h i (by omega),h k (by omega)⟩
theorem anyL_iff {g:T→Bool} {t:T}:∀ {k:Nat},anyL g t k=false ↔ ∀ i,i<k→g (elt t i)=false
 | 0=>by simp [anyL]
 | k+1=>by
  simp only [anyL,Bool.or_eq_false_iff,anyL_iff]
  constructor
  ·rintro ⟨a,b⟩ i hi
   by_cases e:i=k
   ·subst e;exact b
   ·exact a i (by omega)
  ·intro h
   exact ⟨fun i hi=>h i (by omega),h k (by omega)⟩
theorem leaf_form (t:T) (hb:isBox t=false):leafGood t ↔ headF t=true∧kindF t=true:=by
 simp only [isBox,Bool.or_eq_false_iff,beq_eq_false_iff_ne] at hb
 obtain ⟨h5,h6⟩:=hb
 unfold leafGood headF kindF
 simp only [h5,h6,false_or,or_false,Bool.and_eq_true,decide_eq_true_eq,if_false]
 constructor
 ·rintro ⟨a,b,h⟩
  rcases h with ⟨k,h1,h2⟩ | ⟨k,h1,h2⟩ | ⟨k,h1⟩ | ⟨k,h1,h2,h3⟩
  ·refine ⟨⟨⟨Or.inr (Or.inr h1),Or.inr h2⟩,b,a⟩,?_⟩
   rw [if_pos (Or.inl k)]
  ·refine ⟨⟨⟨Or.inl k,Or.inr h2⟩,b,a⟩,?_⟩
   rw [if_neg (by omega),if_pos k]
   simpa using h1
  ·refine ⟨⟨⟨Or.inr (Or.inl k),Or.inr h1⟩,b,a⟩,?_⟩
   rw [if_pos (Or.inr k)]
  ·refine ⟨⟨⟨Or.inr (Or.inr h1),Or.inl k⟩,b,a⟩,?_⟩
   rw [if_neg (by omega),if_neg (by omega),if_pos k]
   simp [h2,h3]
 ·rintro ⟨⟨⟨a,b⟩,c,d⟩,e⟩
  refine ⟨d,c,?_⟩
  by_cases k1:kindOf t=1
  ·left
   exact ⟨k1,by omega,by rcases b with b | b;omega;exact b⟩
  by_cases k2:kindOf t=2
  ·rw [if_neg (by omega),if_pos k2] at e
   right;left
   exact ⟨k2,by simpa using e,by rcases b with b | b;omega;exact b⟩
  by_cases k3:kindOf t=3
  ·right;right;left
   exact ⟨k3,by rcases b with b | b;omega;exact b⟩
  by_cases k4:kindOf t=4
  ·rw [if_neg (by omega),if_neg (by omega),if_pos k4] at e
   simp only [Bool.and_eq_true,decide_eq_true_eq] at e
   right;right;right
   exact ⟨k4,by omega,e.2,e.1⟩
  ·rw [if_neg (by omega),if_neg (by omega),if_neg k4] at e
   cases e
theorem good_leaf {m:Nat} {t:T} (hb:isBox t=false):Good m t ↔ leafGood t:=by
 simp only [isBox,Bool.or_eq_false_iff,beq_eq_false_iff_ne] at hb
 cases m with
 | zero=>exact Iff.rfl
 | succ m =>
  simp only [Good]
  constructor
  ·rintro (hh | ⟨_,_,_,⟨d,_⟩ | ⟨d,_⟩⟩)
   ·exact hh
   ·exact absurd d hb.1
   ·exact absurd d hb.2
  ·exact Or.inl
theorem good_box {m:Nat} {t:T} (hb:isBox t=true):Good (m+1) t ↔ (headF t=true∧kindF t=true∧dupTo t (nK t)=false)∧∀ i,i<nL t→Good m (elt t i):=by
 simp only [isBox,Bool.or_eq_true,beq_iff_eq] at hb
 have ng:¬ leafGood t:=fun hh=>by have:=leaf_not_box hh;omega
 simp only [Good]
 constructor
 ·rintro (hh | ⟨a,b,c,d⟩)
  ·exact absurd hh ng
  ·refine ⟨?_,c⟩
   rcases d with ⟨k,d⟩ | ⟨k,d,e,f⟩
   ·refine ⟨by simp [headF,k,a,b,d],by simp [kindF,k],?_⟩
    rw [d];rfl
   ·exact ⟨by simp [headF,k,a,b],by simp [kindF,k,d];rw [← d];exact e,f⟩
 ·rintro ⟨⟨a,b,c⟩,d⟩
  right
  simp only [headF,Bool.and_eq_true,decide_eq_true_eq] at a
  obtain ⟨⟨a1,a2⟩,a3,a4⟩:=a
  refine ⟨by omega,by rcases a2 with a2 | a2;omega;exact a2,d,?_⟩
  rcases hb with k | k
  ·left
   exact ⟨k,by omega⟩
  ·right
   simp only [kindF] at b
   rw [if_neg (by omega),if_neg (by omega),if_neg (by omega),if_pos k] at b
   simp only [Bool.and_eq_true,decide_eq_true_eq] at b
   exact ⟨k,b.1,b.2,c⟩
theorem isV_iff (t:T):(chkT 12 t 1048576).isSome=true ↔ Good 12 t∧(bytesT 12 t:Int)≤1048576:=by
 rcases chk_says 12 t 1048576 (by omega) with ⟨h1,h2,h3⟩ | ⟨h1,h2⟩
 ·rw [h1];simp [h2,h3]
 ·rw [h1]
  constructor
  ·intro h;cases h
  ·intro h;exact absurd h h2
theorem good_okK:∀ (f m:Nat) (t:T),Good m t→okK f t
 | 0,_,_,_=>trivial
 | f+1,m,t,hg=>by
  cases hb:isBox t with
  | false =>
   have hl:=(good_leaf hb).1 hg
   have hn:=leaf_not_box hl
   exact ⟨fun h=>absurd h hn.2,fun i hi=>by have:=hl.1;omega⟩
  | true =>
   cases m with
   | zero =>
    have:=leaf_not_box hg
    simp only [isBox,Bool.or_eq_true,beq_iff_eq] at hb
    omega
   | succ m =>
    obtain ⟨⟨_,hk,_⟩,hc⟩:=(good_box hb).1 hg
    refine ⟨fun k=>?_,fun i hi=>good_okK f m _ (hc i hi)⟩
    simp only [kindF] at hk
    rw [if_neg (by omega),if_neg (by omega),if_neg (by omega),if_pos k] at hk
    simp only [Bool.and_eq_true,decide_eq_true_eq] at hk
    exact hk.1
end Go.Proofs.YtknakfpciccoaabGreatDoor
/- The program's order and the reference's are one; a vast value is none. -/
namespace Go.Proofs.YtknakfpciccoaabGreatDoor
open Go.RowKit
theorem noText_eq {t:T} (h:noText t=true):sOf t=ByteArray.empty:=by
 unfold noText at h
 have h1:(sOf t).toList=[]:=by simpa using h
 apply (toList_eq_iff _ _).1
 rw [h1,ByteArray.toList_eq]
 rfl
end Go.Proofs.YtknakfpciccoaabGreatDoor
/- Bytes as values: what the program's reader and the reference's take them for. -/
namespace Go.Proofs.YtknakfpciccoaabGreatDoor
open Go.RowKit
def suf (s:ByteArray) (n:Nat):ByteArray:=s.extract n s.size
theorem suf_size (s:ByteArray) (n:Nat):(suf s n).size=s.size - n:=by simp [suf,ByteArray.size_extract]
def leafT (k n:Int) (s:ByteArray):T:=mkT k n s [] []
theorem elt_mk (k n:Int) (s:ByteArray) (l:List T) (ks:List ByteArray) (i:Nat):elt (mkT k n s l ks) i=l.getD i .nil:=rfl
theorem nL_mk (k n:Int) (s:ByteArray) (l:List T) (ks:List ByteArray):nL (mkT k n s l ks)=l.length:=rfl
theorem nK_mk (k n:Int) (s:ByteArray) (l:List T) (ks:List ByteArray):nK (mkT k n s l ks)=ks.length:=by unfold nK;rw [kOf_mk]
theorem nam_mk (k n:Int) (s:ByteArray) (l:List T) (ks:List ByteArray) (i:Nat):nam (mkT k n s l ks) i=ks.getD i ByteArray.empty:=by unfold nam;rw [kOf_mk]
theorem sumL_list (g:T→Nat) (t:T):∀ k,k≤nL t→sumL g t k=(((lOf t).take k).map g).sum
 | 0,_=>by simp [sumL]
 | k+1,h=>by
  have hk:k<(lOf t).length:=h
  rw [sumL,sumL_list g t k (by omega),List.take_succ_eq_append_getElem hk,List.map_append,List.sum_append]
  have e:elt t k=(lOf t)[k]:=by simp [elt,List.getD_eq_getElem?_getD,hk]
  rw [e]
  rfl
theorem sumK_list (t:T):∀ k,k≤nK t→sumK t k=(((kOf t).take k).map fun s=>2+s.size).sum
 | 0,_=>by simp [sumK]
 | k+1,h=>by
  have hk:k<(kOf t).length:=h
  rw [sumK,sumK_list t k (by omega),List.take_succ_eq_append_getElem hk,List.map_append,List.sum_append]
  have e:nam t k=(kOf t)[k]:=by simp [nam,List.getD_eq_getElem?_getD,hk]
  rw [e]
  rfl
end Go.Proofs.YtknakfpciccoaabGreatDoor
/- Bytes as values: both answers are one. -/
namespace Go.Proofs.YtknakfpciccoaabGreatDoor
open Go.RowKit
theorem bytes_box (d:Nat) (k:Int) (l:List T) (ks:List ByteArray) (hk:k=5∨k=6) (h5:k=5→ks=[]) :
  bytesT (d+1) (mkT k 0 ByteArray.empty l ks)=5+(ks.map fun s=>2+s.size).sum+(l.map (bytesT d)).sum:=by
 have e1:sumL (bytesT d) (mkT k 0 ByteArray.empty l ks) (nL (mkT k 0 ByteArray.empty l ks))=(l.map (bytesT d)).sum:=by
  rw [sumL_list _ _ _ (Nat.le_refl _),lOf_mk,nL_mk,List.take_length]
 have e2:sumK (mkT k 0 ByteArray.empty l ks) (nK (mkT k 0 ByteArray.empty l ks))=(ks.map fun s=>2+s.size).sum:=by
  rw [sumK_list _ _ (Nat.le_refl _),kOf_mk,nK_mk,List.take_length]
 unfold bytesT
 rw [kindOf_mk]
 rcases hk with hk | hk
 ·rw [if_pos hk,e1,h5 hk]
  simp
 ·rw [if_neg (by omega),if_pos hk,e1,e2]
end Go.Proofs.YtknakfpciccoaabGreatDoor
