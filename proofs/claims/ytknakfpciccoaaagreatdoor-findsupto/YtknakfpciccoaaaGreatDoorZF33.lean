import Derived.Test.YtknakfpciccoaaaGreatDoorZF32
import Derived.Test.YtknakfpciccoaaaGreatDoorZF4
import Derived.Test.YtknakfpciccoaaaGreatDoorZF10
import Derived.Test.YtknakfpciccoaaaGreatDoorZF11
import Derived.Test.YtknakfpciccoaaaGreatDoorZF3
import Derived.Lib.ValidAsc
import Derived.Lib.IndexBytes
import Derived.Test.YtknakfpciccoaaaGreatDoorZF29
import Derived.Test.YtknakfpciccoaaaGreatDoorZF15
/- The walks of the reference's parser: numbers. -/
set_option maxHeartbeats 8000000
set_option maxRecDepth 100000
namespace Go.Proofs.YtknakfpciccoaaaGreatDoor
open Go.RowKit
theorem TR (n c:Nat) (s:ByteArray) (i:Nat) (w:World) (h:RL c s i false w) (hs:s.size<=4000) (hd:cB s i=45) :
  Calls Tryz.prog 203 #[.pointer (some ⟨c,0,none⟩)] w (eP (n+1) c s ((eY s i).map fun p=>(aR 3 p.1 ByteArray.empty,p.2)) w):=by
 have hlt:i<s.size:=aZ (by omega);have hpk:pk s i=45:=by rw [AY (by omega),hd]
 have Js:Hid (d9 s i=i+1):=by show _=_;unfold d9;rw [if_pos hd]
 have Ym:=aj hd;have HB0:=aj (bG w (.cells #[.int .i64 0,.int .i64 0,.string ⟨#[]⟩,.slice none 0 0,.slice none 0 0] 25));have dA:Hid (aK w.heap.size (.int .i64 0) (.int .i64 0) (.string ⟨#[]⟩) (.slice none 0 0) (.slice none 0 0) (w.alloc (.cells #[.int .i64 0,.int .i64 0,.string ⟨#[]⟩,.slice none 0 0,.slice none 0 0] 25))):=bD w _ _ _ _ _;have hlc:=h.lt;have iL:=aj (h.keep HB0.out);have q1:=iL.out.q1;have HP:=aj (bL c s i false _ iL.out);have hz1:w.heap.size<(w.alloc (.cells #[.int .i64 0,.int .i64 0,.string ⟨#[]⟩,.slice none 0 0,.slice none 0 0] 25)).heap.size:=by simp
 clear h hd;go_in;go_wp2_with fail;refine HP.out.mono ?_;rintro e w1 ⟨rfl,b1⟩;have aQ:=aj (iL.out.keep b1);have HR1:=aj (dA.out.gW b1);have HW1:=aj (aG.of (c:=c) (HB0.out.trans (b1.mono (Nat.le_of_lt hz1))));clear b1 HP dA HB0 iL hz1 q1;have r1:=aQ.out.q1;have r2:=aQ.out.f1;rw [hpk];have HL2:=aj (aQ.out.set (i+1));have HR2:=aj (HR1.out.qF (d:=c) (by omega) 1 (.int .i64 ((i+1:Nat):Int)));have HW2:=aj (HW1.out.trans (aG.set w1 c 1 (.int .i64 ((i+1:Nat):Int))));have e1:((i+1:Nat):Int)=(i:Int)+1:=by omega
 rw [e1] at HR2 HW2
 have aaF:Hid (RL c s (i+1) false (w1.setCell ⟨c,1,none⟩ (.int .i64 ((i:Int)+1)))):=by
  have:=HL2.out;rw [e1] at this;exact this
 go_wp2_with fail
 have VR:Hid (NI c s (i+1) (i+1) w1.heap.size w 0 ((w1.setCell ⟨c,1,none⟩ (.int .i64 ((i:Int)+1))).alloc (.cells #[.int .i64 3,.int .i64 0,.string ⟨#[]⟩,.slice none 0 0,.slice none 0 0] 25))):=by
  have hb:Below (w1.setCell ⟨c,1,none⟩ (.int .i64 ((i:Int)+1))).heap.size (w1.setCell ⟨c,1,none⟩ (.int .i64 ((i:Int)+1))) ((w1.setCell ⟨c,1,none⟩ (.int .i64 ((i:Int)+1))).alloc (.cells #[.int .i64 3,.int .i64 0,.string ⟨#[]⟩,.slice none 0 0,.slice none 0 0] 25)):=bG _ _;have ev:(w1.setCell ⟨c,1,none⟩ (.int .i64 ((i:Int)+1))).heap.size=w1.heap.size:=by simp [World.setCell]
  have hbx:=bD (w1.setCell ⟨c,1,none⟩ (.int .i64 ((i:Int)+1))) (.int .i64 3) (.int .i64 0) (.string ⟨#[]⟩) (.slice none 0 0) (.slice none 0 0);rw [ev] at hbx;exact ⟨aaF.out.keep hb,HR2.out.gW hb,hbx,HW2.out.trans (aG.of hb),by rw [Nat.sub_self];rfl,rfl,HR1.out.lt,hlc⟩
 have hvb:=VR.out.lv;generalize w1.heap.size=vb at VR hvb ⊢;clear HL2 HR2 HW2 aaF aQ HR1 HW1 r1 r2 e1;go_loopg [6] (s.size - (i+1)) (fun g z wr=>∃ (k:Nat) (N:Int),g=s.size - k/\i+1<=k/\k<=s.size/\N<=0/\-9223372036854775808<=N/\Hid (NI c s (i+1) k vb w N wr))
 case atStart=>exact ⟨i+1,0,rfl,Nat.le_refl _,by omega,by omega,by omega,VR⟩
 case round =>
  clear VR;obtain ⟨k,N,rfl,hk1,hk2,hN0,hN1,HI⟩:=hrel;go_wp2_with fail;refine (bL c s k false wr HI.out.rd).mono ?_;rintro e w2 ⟨rfl,hb2⟩;have HI2:=aj (HI.out.keep hb2);clear hb2 HI;go_wp2_with fail;refine (jY (pk s k) w2).mono ?_;rintro e w2 ⟨rfl,rfl⟩;rw [AV];by_cases hD:iM (cB s k)=true
  ·have hq:48<=cB s k/\cB s k<=57:=by unfold iM at hD;simp at hD;exact hD
   have hkl:k<s.size:=aZ (by omega);have Mk:pk s k=cB s k:=AY (by omega);rw [hD];go_wp2_with fail;refine (bL c s k false w2 HI2.out.rd).mono ?_;rintro e w3 ⟨rfl,hb3⟩;have HI3:=aj (HI2.out.keep hb3);clear hb3 HI2;rw [Mk];have v0:=HI3.out.box.q0;have v1:=HI3.out.box.q1;have v2:=HI3.out.box.q2;have v3:=HI3.out.box.q3;have v4:=HI3.out.box.q4;have g1:=HI3.out.box.f1;have p1:=HI3.out.rd.q1;have p2:=HI3.out.rd.f1;have p3:=HI3.out.rd.q2;have p4:=HI3.out.rd.f2;have Hq:=aj hq;have HD:=aj hD;have Hpk:=aj Mk;clear hq hD Mk;obtain ⟨C,hC⟩:∃ C:Int,(cB s k:Int) - 48=C:=⟨_,rfl⟩;have hC0:0<=C/\C<=9:=by have:=Hq.out;omega
   obtain ⟨hC1,hC2⟩:=hC0;have u1:IntKind.u8.wrap ((cB s k:Int) - 48)=C:=by rw [hC,IntKind.wrap_u8];omega
   have u2:IntKind.i64.wrap C=C:=by rw [IntKind.wrap_i64];omega
   by_cases hover:N < -922337203685477580\/(N=-922337203685477580/\8<C)
   ·have HZ:Hid ((eY s i).map (fun p=>(aR 3 p.1 ByteArray.empty,p.2))=none):=by
     show _=_
     have h1:dv s (i+1) (k+1 - (i+1))=dv s (i+1) (k - (i+1))*10+(cB s k - 48):=by
      have e1:k+1 - (i+1)=(k - (i+1))+1:=by omega
      have e2:i+1+(k - (i+1))=k:=by omega
      rw [e1,dv,e2]
     have h2:=HI3.out.val
     have h3:k+1<=dg s (i+1):=by
      rw [<- HI3.out.Mj];unfold dg;rw [dK lX s k,if_pos HD.out];exact uR _ _ _
     have h4:=Hq.out;rw [EK (k:=k+1) (by rw [Js.out];omega) (by rw [Js.out];exact h3) (by rw [Js.out,h1];omega)];rfl
    have r0:=HI3.out.res.q0;have r1:=HI3.out.res.q1;have r2:=HI3.out.res.q2;have r3:=HI3.out.res.q3;have r4:=HI3.out.res.q4;have s0:=HI3.out.res.f0;have s1:=HI3.out.res.f1;have s2:=HI3.out.res.f2;have s3:=HI3.out.res.f3;have s4:=HI3.out.res.f4;have Ml:=HI3.out.lv;by_cases FZ:N < -922337203685477580
    ·have y1:decide (N < -922337203685477580)=true:=decide_eq_true FZ;clear hover FZ;go_wp2_with fail;refine bodyPost_ret (v:=.agg #[.int .i64 3,.int .i64 N,.string ⟨#[]⟩,.slice none 0 0,.slice none 0 0]) (by simp [results,Tryz.results203,go_sem, *]) rfl ?_;exact lT 3 N ByteArray.empty (by omega) (by omega) (by omega) (by simp) HZ.out (HI3.out.but.trans (aG.set w3 c 2 (.bool true))) hlc ⟨k,by omega,HI3.out.rd.mark true⟩
    ·have y1:decide (N < -922337203685477580)=false:=decide_eq_false FZ;have y2:(N==-922337203685477580)=true:=by rw [beq_iff_eq];omega
     have y3:decide (8<C)=true:=decide_eq_true (by omega);clear hover FZ;go_wp2_with fail;refine bodyPost_ret (v:=.agg #[.int .i64 3,.int .i64 N,.string ⟨#[]⟩,.slice none 0 0,.slice none 0 0]) (by simp [results,Tryz.results203,go_sem, *]) rfl ?_;exact lT 3 N ByteArray.empty (by omega) (by omega) (by omega) (by simp) HZ.out (HI3.out.but.trans (aG.set w3 c 2 (.bool true))) hlc ⟨k,by omega,HI3.out.rd.mark true⟩
   ·have y1:decide (N < -922337203685477580)=false:=decide_eq_false (by omega);have hnl:-922337203685477580<=N:=by omega
    have hfit:-9223372036854775808<=10*N - C:=by omega
    have t1:IntKind.i64.wrap (10*N)=10*N:=by rw [IntKind.wrap_i64];omega
    have t2:IntKind.i64.wrap (10*N - C)=10*N - C:=by rw [IntKind.wrap_i64];omega
    have HS:=aj (HI3.out.step hk1 HD.out (E:=10*N - C) (by omega));by_cases Mq:N=-922337203685477580
    ·have y2:(N==-922337203685477580)=true:=by rw [beq_iff_eq];omega
     have y3:decide (8<C)=false:=decide_eq_false (by omega);have Ml:=HI3.out.lv;clear hover Mq;go_wp2_with fail;go_roundg (s.size - (k+1))
     case rel=>exact ⟨k+1,_,rfl,by omega,by omega,by omega,by omega,HS⟩
     case measure=>omega
    ·have y2:(N==-922337203685477580)=false:=by rw [beq_eq_false_iff_ne];exact Mq
     have Ml:=HI3.out.lv;clear hover Mq;go_wp2_with fail;go_roundg (s.size - (k+1))
     case rel=>exact ⟨k+1,_,rfl,by omega,by omega,by omega,by omega,HS⟩
     case measure=>omega
  ·have UN:iM (cB s k)=false:=by simpa using hD
   have UA:Hid (dg s (i+1)=k):=by
    show _=_;rw [<- HI2.out.Mj];unfold dg;rw [dK lX s k,if_neg hD]
   rw [UN];clear hD UN;have v0:=HI2.out.box.q0;have v1:=HI2.out.box.q1;have v2:=HI2.out.box.q2;have v3:=HI2.out.box.q3;have v4:=HI2.out.box.q4;have g1:=HI2.out.box.f1;have p0:=HI2.out.rd.q0;have p1:=HI2.out.rd.q1;have p2:=HI2.out.rd.f1;have p3:=HI2.out.rd.q2;have p4:=HI2.out.rd.f2;have r0:=HI2.out.res.q0;have r1:=HI2.out.res.q1;have r2:=HI2.out.res.q2;have r3:=HI2.out.res.q3;have r4:=HI2.out.res.q4;have s0:=HI2.out.res.f0;have s1:=HI2.out.res.f1;have s2:=HI2.out.res.f2;have s3:=HI2.out.res.f3;have s4:=HI2.out.res.f4;have Ml:=HI2.out.lv;have Mr:=aj HI2.out.val;by_cases hk0:k=i+1
   ·have HZ:Hid ((eY s i).map (fun p=>(aR 3 p.1 ByteArray.empty,p.2))=none):=by
     show _=_;unfold eY;rw [Js.out,if_pos (by rw [UA.out];exact hk0)];rfl
    have y1:((k:Int)==((i:Int)+1))=true:=by rw [beq_iff_eq];omega
    clear hk0;go_wp2_with fail;refine bodyPost_ret (v:=.agg #[.int .i64 3,.int .i64 N,.string ⟨#[]⟩,.slice none 0 0,.slice none 0 0]) (by simp [results,Tryz.results203,go_sem, *]) rfl ?_;exact lT 3 N ByteArray.empty (by omega) (by omega) (by omega) (by simp) HZ.out (HI2.out.but.trans (aG.set w2 c 2 (.bool true))) hlc ⟨k,by omega,HI2.out.rd.mark true⟩
   ·have y1:((k:Int)==((i:Int)+1))=false:=by rw [beq_eq_false_iff_ne];omega
    have hdl:i+1<s.size:=by omega
    have adi:((i:Int)+1)<(s.size:Int):=by omega
    obtain ⟨z,hz,hzc⟩:=mM hdl;have Hzc:=aj hzc;clear hzc;by_cases h48:z.toNat=48
    ·have y2:((z.toNat:Int)==48)=true:=by rw [beq_iff_eq];omega
     by_cases F3:i+1+1<k
     ·have HZ:Hid ((eY s i).map (fun p=>(aR 3 p.1 ByteArray.empty,p.2))=none):=by
       show _=_;rw [wX (by rw [Js.out,UA.out];exact F3) (by rw [Js.out,Hzc.out];exact h48)];rfl
      have y3:decide (((i:Int)+1)+1<(k:Int))=true:=decide_eq_true (by omega);have u1:IntKind.i64.wrap (((i:Int)+1)+1)=((i:Int)+1)+1:=by rw [IntKind.wrap_i64];omega
      clear hk0 h48 F3;go_wp2_with fail;refine bodyPost_ret (v:=.agg #[.int .i64 3,.int .i64 N,.string ⟨#[]⟩,.slice none 0 0,.slice none 0 0]) (by simp [results,Tryz.results203,go_sem, *]) rfl ?_;exact lT 3 N ByteArray.empty (by omega) (by omega) (by omega) (by simp) HZ.out (HI2.out.but.trans (aG.set w2 c 2 (.bool true))) hlc ⟨k,by omega,HI2.out.rd.mark true⟩
     ·have HX:Hid (eY s i=if dv s (i+1) (k - (i+1))<=9223372036854775808 then some (-(dv s (i+1) (k - (i+1)):Int),k) else none):=by
       show _=_;unfold eY;rw [Js.out,UA.out,if_neg hk0,if_neg (fun h=>F3 h.1),if_pos Ym.out]
      have y3:decide (((i:Int)+1)+1<(k:Int))=false:=decide_eq_false (by omega);have u1:IntKind.i64.wrap (((i:Int)+1)+1)=((i:Int)+1)+1:=by rw [IntKind.wrap_i64];omega
      clear hk0 h48 F3
      have HZ:Hid ((eY s i).map (fun p=>(aR 3 p.1 ByteArray.empty,p.2))=some (aR 3 N ByteArray.empty,k)):=by
       show _=_;have hv:=Mr.out;rw [HX.out,if_pos (by omega),<- hv];rfl
      have z1:(((i:Int)+1)==(i:Int))=false:=by rw [beq_eq_false_iff_ne];omega
      go_wp2_with fail;refine bodyPost_ret (v:=.agg #[.int .i64 3,.int .i64 N,.string ⟨#[]⟩,.slice none 0 0,.slice none 0 0]) (by simp [results,Tryz.results203,go_sem, *]) rfl ?_;exact yI 3 N ByteArray.empty (by omega) (by omega) (by omega) (by simp) HZ.out HI2.out.but hlc HI2.out.rd
    ·have y2:((z.toNat:Int)==48)=false:=by rw [beq_eq_false_iff_ne];omega
     have HX:Hid (eY s i=if dv s (i+1) (k - (i+1))<=9223372036854775808 then some (-(dv s (i+1) (k - (i+1)):Int),k) else none):=by
      show _=_;unfold eY;rw [Js.out,UA.out,if_neg hk0,if_neg (fun h=>h48 (by rw [<- Hzc.out];exact h.2)),if_pos Ym.out]
     clear hk0 h48
     have HZ:Hid ((eY s i).map (fun p=>(aR 3 p.1 ByteArray.empty,p.2))=some (aR 3 N ByteArray.empty,k)):=by
      show _=_;have hv:=Mr.out;rw [HX.out,if_pos (by omega),<- hv];rfl
     have z1:(((i:Int)+1)==(i:Int))=false:=by rw [beq_eq_false_iff_ne];omega
     go_wp2_with fail;refine bodyPost_ret (v:=.agg #[.int .i64 3,.int .i64 N,.string ⟨#[]⟩,.slice none 0 0,.slice none 0 0]) (by simp [results,Tryz.results203,go_sem, *]) rfl ?_;exact yI 3 N ByteArray.empty (by omega) (by omega) (by omega) (by simp) HZ.out HI2.out.but hlc HI2.out.rd
theorem TS (n c:Nat) (s:ByteArray) (i:Nat) (w:World) (h:RL c s i false w) (hs:s.size<=4000) (hd:iM (cB s i)=true) :
  Calls Tryz.prog 203 #[.pointer (some ⟨c,0,none⟩)] w (eP (n+1) c s ((eY s i).map fun p=>(aR 3 p.1 ByteArray.empty,p.2)) w):=by
 have hq:48<=cB s i/\cB s i<=57:=by unfold iM at hd;simp at hd;exact hd
 have hlt:i<s.size:=aZ (by omega);have hpk:((pk s i:Int)==45)=false:=by rw [AY (by omega),beq_eq_false_iff_ne];omega
 have Js:Hid (d9 s i=i):=by show _=_;unfold d9;rw [if_neg (by omega)]
 have Ym:Hid (cB s i≠45):=by show _≠_;omega
 clear hq;have HB0:=aj (bG w (.cells #[.int .i64 0,.int .i64 0,.string ⟨#[]⟩,.slice none 0 0,.slice none 0 0] 25));have dA:Hid (aK w.heap.size (.int .i64 0) (.int .i64 0) (.string ⟨#[]⟩) (.slice none 0 0) (.slice none 0 0) (w.alloc (.cells #[.int .i64 0,.int .i64 0,.string ⟨#[]⟩,.slice none 0 0,.slice none 0 0] 25))):=bD w _ _ _ _ _;have hlc:=h.lt;have iL:=aj (h.keep HB0.out);have q1:=iL.out.q1;have HP:=aj (bL c s i false _ iL.out);have hz1:w.heap.size<(w.alloc (.cells #[.int .i64 0,.int .i64 0,.string ⟨#[]⟩,.slice none 0 0,.slice none 0 0] 25)).heap.size:=by simp
 clear h hd;go_in;go_wp2_with fail;refine HP.out.mono ?_;rintro e w1 ⟨rfl,b1⟩;have aQ:=aj (iL.out.keep b1);have HR1:=aj (dA.out.gW b1);have HW1:=aj (aG.of (c:=c) (HB0.out.trans (b1.mono (Nat.le_of_lt hz1))));clear b1 HP dA HB0 iL hz1 q1;have r1:=aQ.out.q1;have r2:=aQ.out.f1;go_wp2_with fail
 have VR:Hid (NI c s (i) (i) w1.heap.size w 0 (w1.alloc (.cells #[.int .i64 3,.int .i64 0,.string ⟨#[]⟩,.slice none 0 0,.slice none 0 0] 25))):=by
  have hb:Below w1.heap.size w1 (w1.alloc (.cells #[.int .i64 3,.int .i64 0,.string ⟨#[]⟩,.slice none 0 0,.slice none 0 0] 25)):=bG _ _;have ev:w1.heap.size=w1.heap.size:=by rfl
  have hbx:=bD w1 (.int .i64 3) (.int .i64 0) (.string ⟨#[]⟩) (.slice none 0 0) (.slice none 0 0);rw [ev] at hbx;exact ⟨aQ.out.keep hb,HR1.out.gW hb,hbx,HW1.out.trans (aG.of hb),by rw [Nat.sub_self];rfl,rfl,HR1.out.lt,hlc⟩
 have hvb:=VR.out.lv;generalize w1.heap.size=vb at VR hvb ⊢;clear aQ HR1 HW1 r1 r2;go_loopg [6] (s.size - (i)) (fun g z wr=>∃ (k:Nat) (N:Int),g=s.size - k/\i<=k/\k<=s.size/\N<=0/\-9223372036854775808<=N/\Hid (NI c s (i) k vb w N wr))
 case atStart=>exact ⟨i,0,rfl,Nat.le_refl _,by omega,by omega,by omega,VR⟩
 case round =>
  clear VR;obtain ⟨k,N,rfl,hk1,hk2,hN0,hN1,HI⟩:=hrel;go_wp2_with fail;refine (bL c s k false wr HI.out.rd).mono ?_;rintro e w2 ⟨rfl,hb2⟩;have HI2:=aj (HI.out.keep hb2);clear hb2 HI;go_wp2_with fail;refine (jY (pk s k) w2).mono ?_;rintro e w2 ⟨rfl,rfl⟩;rw [AV];by_cases hD:iM (cB s k)=true
  ·have hq:48<=cB s k/\cB s k<=57:=by unfold iM at hD;simp at hD;exact hD
   have hkl:k<s.size:=aZ (by omega);have Mk:pk s k=cB s k:=AY (by omega);rw [hD];go_wp2_with fail;refine (bL c s k false w2 HI2.out.rd).mono ?_;rintro e w3 ⟨rfl,hb3⟩;have HI3:=aj (HI2.out.keep hb3);clear hb3 HI2;rw [Mk];have v0:=HI3.out.box.q0;have v1:=HI3.out.box.q1;have v2:=HI3.out.box.q2;have v3:=HI3.out.box.q3;have v4:=HI3.out.box.q4;have g1:=HI3.out.box.f1;have p1:=HI3.out.rd.q1;have p2:=HI3.out.rd.f1;have p3:=HI3.out.rd.q2;have p4:=HI3.out.rd.f2;have Hq:=aj hq;have HD:=aj hD;have Hpk:=aj Mk;clear hq hD Mk;obtain ⟨C,hC⟩:∃ C:Int,(cB s k:Int) - 48=C:=⟨_,rfl⟩;have hC0:0<=C/\C<=9:=by have:=Hq.out;omega
   obtain ⟨hC1,hC2⟩:=hC0;have u1:IntKind.u8.wrap ((cB s k:Int) - 48)=C:=by rw [hC,IntKind.wrap_u8];omega
   have u2:IntKind.i64.wrap C=C:=by rw [IntKind.wrap_i64];omega
   by_cases hover:N < -922337203685477580\/(N=-922337203685477580/\8<C)
   ·have HZ:Hid ((eY s i).map (fun p=>(aR 3 p.1 ByteArray.empty,p.2))=none):=by
     show _=_
     have h1:dv s (i) (k+1 - (i))=dv s (i) (k - (i))*10+(cB s k - 48):=by
      have e1:k+1 - (i)=(k - (i))+1:=by omega
      have e2:i+(k - (i))=k:=by omega
      rw [e1,dv,e2]
     have h2:=HI3.out.val
     have h3:k+1<=dg s (i):=by
      rw [<- HI3.out.Mj];unfold dg;rw [dK lX s k,if_pos HD.out];exact uR _ _ _
     have h4:=Hq.out;rw [EK (k:=k+1) (by rw [Js.out];omega) (by rw [Js.out];exact h3) (by rw [Js.out,h1];omega)];rfl
    have r0:=HI3.out.res.q0;have r1:=HI3.out.res.q1;have r2:=HI3.out.res.q2;have r3:=HI3.out.res.q3;have r4:=HI3.out.res.q4;have s0:=HI3.out.res.f0;have s1:=HI3.out.res.f1;have s2:=HI3.out.res.f2;have s3:=HI3.out.res.f3;have s4:=HI3.out.res.f4;have Ml:=HI3.out.lv;by_cases FZ:N < -922337203685477580
    ·have y1:decide (N < -922337203685477580)=true:=decide_eq_true FZ;clear hover FZ;go_wp2_with fail;refine bodyPost_ret (v:=.agg #[.int .i64 3,.int .i64 N,.string ⟨#[]⟩,.slice none 0 0,.slice none 0 0]) (by simp [results,Tryz.results203,go_sem, *]) rfl ?_;exact lT 3 N ByteArray.empty (by omega) (by omega) (by omega) (by simp) HZ.out (HI3.out.but.trans (aG.set w3 c 2 (.bool true))) hlc ⟨k,by omega,HI3.out.rd.mark true⟩
    ·have y1:decide (N < -922337203685477580)=false:=decide_eq_false FZ;have y2:(N==-922337203685477580)=true:=by rw [beq_iff_eq];omega
     have y3:decide (8<C)=true:=decide_eq_true (by omega);clear hover FZ;go_wp2_with fail;refine bodyPost_ret (v:=.agg #[.int .i64 3,.int .i64 N,.string ⟨#[]⟩,.slice none 0 0,.slice none 0 0]) (by simp [results,Tryz.results203,go_sem, *]) rfl ?_;exact lT 3 N ByteArray.empty (by omega) (by omega) (by omega) (by simp) HZ.out (HI3.out.but.trans (aG.set w3 c 2 (.bool true))) hlc ⟨k,by omega,HI3.out.rd.mark true⟩
   ·have y1:decide (N < -922337203685477580)=false:=decide_eq_false (by omega);have hnl:-922337203685477580<=N:=by omega
    have hfit:-9223372036854775808<=10*N - C:=by omega
    have t1:IntKind.i64.wrap (10*N)=10*N:=by rw [IntKind.wrap_i64];omega
    have t2:IntKind.i64.wrap (10*N - C)=10*N - C:=by rw [IntKind.wrap_i64];omega
    have HS:=aj (HI3.out.step hk1 HD.out (E:=10*N - C) (by omega));by_cases Mq:N=-922337203685477580
    ·have y2:(N==-922337203685477580)=true:=by rw [beq_iff_eq];omega
     have y3:decide (8<C)=false:=decide_eq_false (by omega);have Ml:=HI3.out.lv;clear hover Mq;go_wp2_with fail;go_roundg (s.size - (k+1))
     case rel=>exact ⟨k+1,_,rfl,by omega,by omega,by omega,by omega,HS⟩
     case measure=>omega
    ·have y2:(N==-922337203685477580)=false:=by rw [beq_eq_false_iff_ne];exact Mq
     have Ml:=HI3.out.lv;clear hover Mq;go_wp2_with fail;go_roundg (s.size - (k+1))
     case rel=>exact ⟨k+1,_,rfl,by omega,by omega,by omega,by omega,HS⟩
     case measure=>omega
  ·have UN:iM (cB s k)=false:=by simpa using hD
   have UA:Hid (dg s (i)=k):=by
    show _=_;rw [<- HI2.out.Mj];unfold dg;rw [dK lX s k,if_neg hD]
   rw [UN];clear hD UN;have v0:=HI2.out.box.q0;have v1:=HI2.out.box.q1;have v2:=HI2.out.box.q2;have v3:=HI2.out.box.q3;have v4:=HI2.out.box.q4;have g1:=HI2.out.box.f1;have p0:=HI2.out.rd.q0;have p1:=HI2.out.rd.q1;have p2:=HI2.out.rd.f1;have p3:=HI2.out.rd.q2;have p4:=HI2.out.rd.f2;have r0:=HI2.out.res.q0;have r1:=HI2.out.res.q1;have r2:=HI2.out.res.q2;have r3:=HI2.out.res.q3;have r4:=HI2.out.res.q4;have s0:=HI2.out.res.f0;have s1:=HI2.out.res.f1;have s2:=HI2.out.res.f2;have s3:=HI2.out.res.f3;have s4:=HI2.out.res.f4;have Ml:=HI2.out.lv;have Mr:=aj HI2.out.val;by_cases hk0:k=i
   ·have HZ:Hid ((eY s i).map (fun p=>(aR 3 p.1 ByteArray.empty,p.2))=none):=by
     show _=_;unfold eY;rw [Js.out,if_pos (by rw [UA.out];exact hk0)];rfl
    have y1:((k:Int)==((i:Int)))=true:=by rw [beq_iff_eq];omega
    clear hk0;go_wp2_with fail;refine bodyPost_ret (v:=.agg #[.int .i64 3,.int .i64 N,.string ⟨#[]⟩,.slice none 0 0,.slice none 0 0]) (by simp [results,Tryz.results203,go_sem, *]) rfl ?_;exact lT 3 N ByteArray.empty (by omega) (by omega) (by omega) (by simp) HZ.out (HI2.out.but.trans (aG.set w2 c 2 (.bool true))) hlc ⟨k,by omega,HI2.out.rd.mark true⟩
   ·have y1:((k:Int)==((i:Int)))=false:=by rw [beq_eq_false_iff_ne];omega
    have hdl:i<s.size:=by omega
    have adi:((i:Int))<(s.size:Int):=by omega
    obtain ⟨z,hz,hzc⟩:=mM hdl;have Hzc:=aj hzc;clear hzc;by_cases h48:z.toNat=48
    ·have y2:((z.toNat:Int)==48)=true:=by rw [beq_iff_eq];omega
     by_cases F3:i+1<k
     ·have HZ:Hid ((eY s i).map (fun p=>(aR 3 p.1 ByteArray.empty,p.2))=none):=by
       show _=_;rw [wX (by rw [Js.out,UA.out];exact F3) (by rw [Js.out,Hzc.out];exact h48)];rfl
      have y3:decide (((i:Int))+1<(k:Int))=true:=decide_eq_true (by omega);have u1:IntKind.i64.wrap (((i:Int))+1)=((i:Int))+1:=by rw [IntKind.wrap_i64];omega
      clear hk0 h48 F3;go_wp2_with fail;refine bodyPost_ret (v:=.agg #[.int .i64 3,.int .i64 N,.string ⟨#[]⟩,.slice none 0 0,.slice none 0 0]) (by simp [results,Tryz.results203,go_sem, *]) rfl ?_;exact lT 3 N ByteArray.empty (by omega) (by omega) (by omega) (by simp) HZ.out (HI2.out.but.trans (aG.set w2 c 2 (.bool true))) hlc ⟨k,by omega,HI2.out.rd.mark true⟩
     ·have HX:Hid (eY s i=if dv s i (k - i)<9223372036854775808 then some ((dv s i (k - i):Int),k) else none):=by
       show _=_;unfold eY;rw [Js.out,UA.out,if_neg hk0,if_neg (fun h=>F3 h.1),if_neg Ym.out]
      have y3:decide (((i:Int))+1<(k:Int))=false:=decide_eq_false (by omega);have u1:IntKind.i64.wrap (((i:Int))+1)=((i:Int))+1:=by rw [IntKind.wrap_i64];omega
      clear hk0 h48 F3;by_cases hmin:N=-9223372036854775808
      ·have HZ:Hid ((eY s i).map (fun p=>(aR 3 p.1 ByteArray.empty,p.2))=none):=by
        show _=_;have hv:=Mr.out;rw [HX.out,if_neg (by omega)];rfl
       have z1:(N==-9223372036854775808)=true:=by rw [beq_iff_eq];exact hmin
       have z2:IntKind.i64.wrap (-N)=N:=by rw [IntKind.wrap_i64];omega
       clear hmin;go_wp2_with fail;refine bodyPost_ret (v:=.agg #[.int .i64 3,.int .i64 N,.string ⟨#[]⟩,.slice none 0 0,.slice none 0 0]) (by simp [results,Tryz.results203,go_sem, *]) rfl ?_;exact lT 3 N ByteArray.empty (by omega) (by omega) (by omega) (by simp) HZ.out ((HI2.out.but.trans (aG.set w2 c 2 (.bool true))).oh (by omega) _ _) hlc ⟨k,by omega,(HI2.out.rd.mark true).qF (by omega) _ _⟩
      ·have HZ:Hid ((eY s i).map (fun p=>(aR 3 p.1 ByteArray.empty,p.2))=some (aR 3 (-N) ByteArray.empty,k)):=by
        show _=_;have hv:=Mr.out;have e:-N=(dv s i (k - i):Int):=by omega
        rw [HX.out,if_pos (by omega),e];rfl
       have z1:(N==-9223372036854775808)=false:=by rw [beq_eq_false_iff_ne];exact hmin
       have z2:IntKind.i64.wrap (-N)=-N:=by rw [IntKind.wrap_i64];omega
       have hmm:-9223372036854775808<=-N/\-N<=9223372036854775807:=by omega
       clear hmin;go_wp2_with fail;refine bodyPost_ret (v:=.agg #[.int .i64 3,.int .i64 (-N),.string ⟨#[]⟩,.slice none 0 0,.slice none 0 0]) (by simp [results,Tryz.results203,go_sem, *]) rfl ?_;exact yI 3 (-N) ByteArray.empty (by omega) (by omega) hmm (by simp) HZ.out ((HI2.out.but.trans (aG.set w2 c 2 (.bool false))).oh (by omega) _ _) hlc ((HI2.out.rd.mark false).qF (by omega) _ _)
    ·have y2:((z.toNat:Int)==48)=false:=by rw [beq_eq_false_iff_ne];omega
     have HX:Hid (eY s i=if dv s i (k - i)<9223372036854775808 then some ((dv s i (k - i):Int),k) else none):=by
      show _=_;unfold eY;rw [Js.out,UA.out,if_neg hk0,if_neg (fun h=>h48 (by rw [<- Hzc.out];exact h.2)),if_neg Ym.out]
     clear hk0 h48;by_cases hmin:N=-9223372036854775808
     ·have HZ:Hid ((eY s i).map (fun p=>(aR 3 p.1 ByteArray.empty,p.2))=none):=by
       show _=_;have hv:=Mr.out;rw [HX.out,if_neg (by omega)];rfl
      have z1:(N==-9223372036854775808)=true:=by rw [beq_iff_eq];exact hmin
      have z2:IntKind.i64.wrap (-N)=N:=by rw [IntKind.wrap_i64];omega
      clear hmin;go_wp2_with fail;refine bodyPost_ret (v:=.agg #[.int .i64 3,.int .i64 N,.string ⟨#[]⟩,.slice none 0 0,.slice none 0 0]) (by simp [results,Tryz.results203,go_sem, *]) rfl ?_;exact lT 3 N ByteArray.empty (by omega) (by omega) (by omega) (by simp) HZ.out ((HI2.out.but.trans (aG.set w2 c 2 (.bool true))).oh (by omega) _ _) hlc ⟨k,by omega,(HI2.out.rd.mark true).qF (by omega) _ _⟩
     ·have HZ:Hid ((eY s i).map (fun p=>(aR 3 p.1 ByteArray.empty,p.2))=some (aR 3 (-N) ByteArray.empty,k)):=by
       show _=_;have hv:=Mr.out;have e:-N=(dv s i (k - i):Int):=by omega
       rw [HX.out,if_pos (by omega),e];rfl
      have z1:(N==-9223372036854775808)=false:=by rw [beq_eq_false_iff_ne];exact hmin
      have z2:IntKind.i64.wrap (-N)=-N:=by rw [IntKind.wrap_i64];omega
      have hmm:-9223372036854775808<=-N/\-N<=9223372036854775807:=by omega
      clear hmin;go_wp2_with fail;refine bodyPost_ret (v:=.agg #[.int .i64 3,.int .i64 (-N),.string ⟨#[]⟩,.slice none 0 0,.slice none 0 0]) (by simp [results,Tryz.results203,go_sem, *]) rfl ?_;exact yI 3 (-N) ByteArray.empty (by omega) (by omega) hmm (by simp) HZ.out ((HI2.out.but.trans (aG.set w2 c 2 (.bool false))).oh (by omega) _ _) hlc ((HI2.out.rd.mark false).qF (by omega) _ _)
end Go.Proofs.YtknakfpciccoaaaGreatDoor
/- The walk of the reference's inner. -/
namespace Go.Proofs.YtknakfpciccoaaaGreatDoor
open Go.RowKit
section
variable {f : Nat} {k : Int} {w : World} {L : List T} {K : List ByteArray} {Lv Kv : Value} {xs : List Value} {sub : Nat -> List jh} {wr : World}
end
end Go.Proofs.YtknakfpciccoaaaGreatDoor
/- The walk of the reference's first: Bools. -/
namespace Go.Proofs.YtknakfpciccoaaaGreatDoor
open Go.RowKit
end Go.Proofs.YtknakfpciccoaaaGreatDoor
/- The walk of the reference's first: objects. -/
namespace Go.Proofs.YtknakfpciccoaaaGreatDoor
open Go.RowKit
theorem Oh (s:ByteArray) (k:Nat) (h:k<s.size):s[k]=s.get! k:=by
 cases s with
 | mk d=>exact (getElem!_pos d k h).symm
theorem VT (s:ByteArray) (w:World) (h0:0<s.size) (hs:s.size<=9223372036854775807) :
  Calls Tryz.prog 166 #[.string s] w fun e w'=>(∃ x:Int,e=.returned (.tuple #[.int .i64 (aW s),.int .i64 x]))/\w'=w:=by
 obtain ⟨a,ha⟩:∃ a,s.get! 0=a:=⟨_,rfl⟩;have hsa:s[0]=a:=by rw [Oh s 0 h0];exact ha
 have hba:bt s 0=a.toNat:=by unfold bt;rw [ha]
 have la:a.toNat<256:=a.toNat_lt;by_cases h1:a.toNat<128
 ·have H0:Hid (aW s=1):=by show aW s=1;unfold aW;rw [hba,if_pos h1]
  clear hba ha;go_in;go_wp2_with fail;go_ret2;exact ⟨⟨_,by rw [H0.out];rfl⟩,rfl⟩
 by_cases hl2:192<=a.toNat/\a.toNat<224
 ·have H0:Hid (aW s=lI s 2 128 (a.toNat - 192)):=by show aW s=_;unfold aW;rw [hba,if_neg h1,if_pos hl2]
  obtain ⟨hc,hd⟩:=hl2;clear hba ha h1;have gc:(192:Int)<=(a.toNat:Int):=by omega
  have gd:(a.toNat:Int)<224:=by omega
  by_cases hn:s.size<2
  ·have H1:Hid (aW s=0):=by show aW s=_;rw [H0.out];unfold lI;rw [if_pos hn]
   go_in;go_wp2_with fail;go_ret2;exact ⟨⟨_,by rw [H1.out];rfl⟩,rfl⟩
  ·have H2:Hid (aW s=if bV s 1=false then 0 else if bM 128 (mI s (a.toNat - 192) 1)=true then 0 else 2):=by show aW s=_;rw [H0.out];unfold lI;rw [if_neg hn]
   go_in;go_wp2_with fail;go_loopg [7,8] 2 (fun g y i wr=>∃ (k:Nat) (x:Int),g=2 - k/\k<=1/\y=.int .i64 x/\i=.int .i64 (k+1:Nat)/\Hid (mI s (a.toNat - 192) k=x)/\Hid (bV s k=true)/\0<=x/\x<=8388607/\Hid ((k=0->x<=31)/\(k=1->x<=2047)/\(k=2->x<=131071))/\wr=w)
   case atStart=>exact ⟨0,a.toNat - 192,rfl,by omega,rfl,rfl,rfl,rfl,by omega,by omega,⟨fun _=>by omega,fun h=>by omega,fun h=>by omega⟩,rfl⟩
   case round =>
    obtain ⟨k,x,rfl,hk,rfl,rfl,HX,HC,x0,x1,HD,rfl⟩:=hrel;by_cases hlt:k<1
    ·obtain ⟨z,hz⟩:∃ z,s.get! (k+1)=z:=⟨_,rfl⟩;have hsz:s[k+1]'(by omega)=z:=by rw [Oh s (k+1) (by omega)];exact hz
     have hbz:bt s (k+1)=z.toNat:=by unfold bt;rw [hz]
     have lz:z.toNat<256:=z.toNat_lt;have lu:Hid (bV s (k+1)=(decide (128<=z.toNat)&&decide (z.toNat<=191))):=by show (bV s k&&(decide (128<=bt s (k+1))&&decide (bt s (k+1)<=191)))=_;rw [HC.out,hbz];rfl
     have q8:Hid (mI s (a.toNat - 192) (k+1)=64*x+z.toNat - 128):=by show 64*mI s (a.toNat - 192) k+(bt s (k+1):Int) - 128=_;rw [HX.out,hbz]
     clear hz hbz;have hkz:(k:Int)+1<(s.size:Int):=by omega
     by_cases hy:z.toNat<128
     ·have Xi:decide ((z.toNat:Int)<128)=true:=decide_eq_true (by omega);have Hy:=aj hy;clear hy;go_wp2_with fail;go_ret2;refine ⟨⟨0,?_⟩,rfl⟩;rw [H2.out,if_pos (iw (j:=k+1) (by omega) (by rw [lu.out];have:=Hy.out;simp;omega))];rfl
     ·by_cases hy2:191<z.toNat
      ·have Xi:decide ((z.toNat:Int)<128)=false:=decide_eq_false (by omega);have TT:decide ((191:Int)<(z.toNat:Int))=true:=decide_eq_true (by omega);have Hy:=aj hy2;clear hy hy2;go_wp2_with fail;go_ret2;refine ⟨⟨0,?_⟩,rfl⟩;rw [H2.out,if_pos (iw (j:=k+1) (by omega) (by rw [lu.out];have:=Hy.out;simp;omega))];rfl
      ·have Xi:decide ((z.toNat:Int)<128)=false:=decide_eq_false (by omega);have TT:decide ((191:Int)<(z.toNat:Int))=false:=decide_eq_false (by omega);go_wp2_with fail;go_roundg (2 - (k+1))
       case rel =>
        refine ⟨k+1,64*x+z.toNat - 128,rfl,by omega,by go_num,by go_num,q8,?_,by omega,?_,?_,rfl⟩
        ·show bV s (k+1)=true;rw [lu.out];simp;omega
        ·obtain ⟨d0,d1,d2⟩:=HD.out;have:k=0\/k=1\/k=2:=by omega
         rcases this with rfl | rfl | rfl
         ·have:=d0 rfl;omega
         ·have:=d1 rfl;omega
         ·have:=d2 rfl;omega
        ·obtain ⟨d0,d1,d2⟩:=HD.out;refine ⟨fun h=>by omega,fun h=>?_,fun h=>?_⟩
         ·have:=d0 (by omega);omega
         ·have:=d1 (by omega);omega
       case measure=>omega
    ·obtain rfl:k=1:=by omega
     have H3:Hid (aW s=if bM 128 x=true then 0 else 2):=by show aW s=_;rw [H2.out,HX.out,if_neg (by rw [HC.out];simp)]
     by_cases b1:x<128
     ·have H4:Hid (aW s=0):=by show aW s=_;rw [H3.out,if_pos (by simp [bM];omega)]
      go_wp2_with fail;go_ret2;exact ⟨⟨0,by rw [H4.out];rfl⟩,rfl⟩
     by_cases b2:1114111<x
     ·have H4:Hid (aW s=0):=by show aW s=_;rw [H3.out,if_pos (by simp [bM];omega)]
      go_wp2_with fail;go_ret2;exact ⟨⟨0,by rw [H4.out];rfl⟩,rfl⟩
     by_cases b3:55296<=x
     ·by_cases b4:x<57344
      ·have H4:Hid (aW s=0):=by show aW s=_;rw [H3.out,if_pos (by simp [bM];omega)]
       go_wp2_with fail;go_ret2;exact ⟨⟨0,by rw [H4.out];rfl⟩,rfl⟩
      ·have H4:Hid (aW s=2):=by show aW s=_;rw [H3.out,if_neg (by simp [bM];omega)]
       go_wp2_with fail;go_ret2;exact ⟨⟨x,by rw [H4.out];rfl⟩,rfl⟩
     ·have H4:Hid (aW s=2):=by show aW s=_;rw [H3.out,if_neg (by simp [bM];omega)]
      go_wp2_with fail;go_ret2;exact ⟨⟨x,by rw [H4.out];rfl⟩,rfl⟩
 by_cases hl3:224<=a.toNat/\a.toNat<240
 ·have H0:Hid (aW s=lI s 3 2048 (a.toNat - 224)):=by show aW s=_;unfold aW;rw [hba,if_neg h1,if_neg hl2,if_pos hl3]
  obtain ⟨hc,hd⟩:=hl3;clear hba ha h1 hl2;have gc:(224:Int)<=(a.toNat:Int):=by omega
  have gd:(a.toNat:Int)<240:=by omega
  by_cases hn:s.size<3
  ·have H1:Hid (aW s=0):=by show aW s=_;rw [H0.out];unfold lI;rw [if_pos hn]
   go_in;go_wp2_with fail;go_ret2;exact ⟨⟨_,by rw [H1.out];rfl⟩,rfl⟩
  ·have H2:Hid (aW s=if bV s 2=false then 0 else if bM 2048 (mI s (a.toNat - 224) 2)=true then 0 else 3):=by show aW s=_;rw [H0.out];unfold lI;rw [if_neg hn]
   go_in;go_wp2_with fail;go_loopg [7,8] 3 (fun g y i wr=>∃ (k:Nat) (x:Int),g=3 - k/\k<=2/\y=.int .i64 x/\i=.int .i64 (k+1:Nat)/\Hid (mI s (a.toNat - 224) k=x)/\Hid (bV s k=true)/\0<=x/\x<=8388607/\Hid ((k=0->x<=31)/\(k=1->x<=2047)/\(k=2->x<=131071))/\wr=w)
   case atStart=>exact ⟨0,a.toNat - 224,rfl,by omega,rfl,rfl,rfl,rfl,by omega,by omega,⟨fun _=>by omega,fun h=>by omega,fun h=>by omega⟩,rfl⟩
   case round =>
    obtain ⟨k,x,rfl,hk,rfl,rfl,HX,HC,x0,x1,HD,rfl⟩:=hrel;by_cases hlt:k<2
    ·obtain ⟨z,hz⟩:∃ z,s.get! (k+1)=z:=⟨_,rfl⟩;have hsz:s[k+1]'(by omega)=z:=by rw [Oh s (k+1) (by omega)];exact hz
     have hbz:bt s (k+1)=z.toNat:=by unfold bt;rw [hz]
     have lz:z.toNat<256:=z.toNat_lt;have lu:Hid (bV s (k+1)=(decide (128<=z.toNat)&&decide (z.toNat<=191))):=by show (bV s k&&(decide (128<=bt s (k+1))&&decide (bt s (k+1)<=191)))=_;rw [HC.out,hbz];rfl
     have q8:Hid (mI s (a.toNat - 224) (k+1)=64*x+z.toNat - 128):=by show 64*mI s (a.toNat - 224) k+(bt s (k+1):Int) - 128=_;rw [HX.out,hbz]
     clear hz hbz;have hkz:(k:Int)+1<(s.size:Int):=by omega
     by_cases hy:z.toNat<128
     ·have Xi:decide ((z.toNat:Int)<128)=true:=decide_eq_true (by omega);have Hy:=aj hy;clear hy;go_wp2_with fail;go_ret2;refine ⟨⟨0,?_⟩,rfl⟩;rw [H2.out,if_pos (iw (j:=k+1) (by omega) (by rw [lu.out];have:=Hy.out;simp;omega))];rfl
     ·by_cases hy2:191<z.toNat
      ·have Xi:decide ((z.toNat:Int)<128)=false:=decide_eq_false (by omega);have TT:decide ((191:Int)<(z.toNat:Int))=true:=decide_eq_true (by omega);have Hy:=aj hy2;clear hy hy2;go_wp2_with fail;go_ret2;refine ⟨⟨0,?_⟩,rfl⟩;rw [H2.out,if_pos (iw (j:=k+1) (by omega) (by rw [lu.out];have:=Hy.out;simp;omega))];rfl
      ·have Xi:decide ((z.toNat:Int)<128)=false:=decide_eq_false (by omega);have TT:decide ((191:Int)<(z.toNat:Int))=false:=decide_eq_false (by omega);go_wp2_with fail;go_roundg (3 - (k+1))
       case rel =>
        refine ⟨k+1,64*x+z.toNat - 128,rfl,by omega,by go_num,by go_num,q8,?_,by omega,?_,?_,rfl⟩
        ·show bV s (k+1)=true;rw [lu.out];simp;omega
        ·obtain ⟨d0,d1,d2⟩:=HD.out;have:k=0\/k=1\/k=2:=by omega
         rcases this with rfl | rfl | rfl
         ·have:=d0 rfl;omega
         ·have:=d1 rfl;omega
         ·have:=d2 rfl;omega
        ·obtain ⟨d0,d1,d2⟩:=HD.out;refine ⟨fun h=>by omega,fun h=>?_,fun h=>?_⟩
         ·have:=d0 (by omega);omega
         ·have:=d1 (by omega);omega
       case measure=>omega
    ·obtain rfl:k=2:=by omega
     have H3:Hid (aW s=if bM 2048 x=true then 0 else 3):=by show aW s=_;rw [H2.out,HX.out,if_neg (by rw [HC.out];simp)]
     by_cases b1:x<2048
     ·have H4:Hid (aW s=0):=by show aW s=_;rw [H3.out,if_pos (by simp [bM];omega)]
      go_wp2_with fail;go_ret2;exact ⟨⟨0,by rw [H4.out];rfl⟩,rfl⟩
     by_cases b2:1114111<x
     ·have H4:Hid (aW s=0):=by show aW s=_;rw [H3.out,if_pos (by simp [bM];omega)]
      go_wp2_with fail;go_ret2;exact ⟨⟨0,by rw [H4.out];rfl⟩,rfl⟩
     by_cases b3:55296<=x
     ·by_cases b4:x<57344
      ·have H4:Hid (aW s=0):=by show aW s=_;rw [H3.out,if_pos (by simp [bM];omega)]
       go_wp2_with fail;go_ret2;exact ⟨⟨0,by rw [H4.out];rfl⟩,rfl⟩
      ·have H4:Hid (aW s=3):=by show aW s=_;rw [H3.out,if_neg (by simp [bM];omega)]
       go_wp2_with fail;go_ret2;exact ⟨⟨x,by rw [H4.out];rfl⟩,rfl⟩
     ·have H4:Hid (aW s=3):=by show aW s=_;rw [H3.out,if_neg (by simp [bM];omega)]
      go_wp2_with fail;go_ret2;exact ⟨⟨x,by rw [H4.out];rfl⟩,rfl⟩
 by_cases hl4:240<=a.toNat/\a.toNat<248
 ·have H0:Hid (aW s=lI s 4 65536 (a.toNat - 240)):=by show aW s=_;unfold aW;rw [hba,if_neg h1,if_neg hl2,if_neg hl3,if_pos hl4]
  obtain ⟨hc,hd⟩:=hl4;clear hba ha h1 hl2 hl3;have gc:(240:Int)<=(a.toNat:Int):=by omega
  have gd:(a.toNat:Int)<248:=by omega
  by_cases hn:s.size<4
  ·have H1:Hid (aW s=0):=by show aW s=_;rw [H0.out];unfold lI;rw [if_pos hn]
   go_in;go_wp2_with fail;go_ret2;exact ⟨⟨_,by rw [H1.out];rfl⟩,rfl⟩
  ·have H2:Hid (aW s=if bV s 3=false then 0 else if bM 65536 (mI s (a.toNat - 240) 3)=true then 0 else 4):=by show aW s=_;rw [H0.out];unfold lI;rw [if_neg hn]
   go_in;go_wp2_with fail;go_loopg [7,8] 4 (fun g y i wr=>∃ (k:Nat) (x:Int),g=4 - k/\k<=3/\y=.int .i64 x/\i=.int .i64 (k+1:Nat)/\Hid (mI s (a.toNat - 240) k=x)/\Hid (bV s k=true)/\0<=x/\x<=8388607/\Hid ((k=0->x<=31)/\(k=1->x<=2047)/\(k=2->x<=131071))/\wr=w)
   case atStart=>exact ⟨0,a.toNat - 240,rfl,by omega,rfl,rfl,rfl,rfl,by omega,by omega,⟨fun _=>by omega,fun h=>by omega,fun h=>by omega⟩,rfl⟩
   case round =>
    obtain ⟨k,x,rfl,hk,rfl,rfl,HX,HC,x0,x1,HD,rfl⟩:=hrel;by_cases hlt:k<3
    ·obtain ⟨z,hz⟩:∃ z,s.get! (k+1)=z:=⟨_,rfl⟩;have hsz:s[k+1]'(by omega)=z:=by rw [Oh s (k+1) (by omega)];exact hz
     have hbz:bt s (k+1)=z.toNat:=by unfold bt;rw [hz]
     have lz:z.toNat<256:=z.toNat_lt;have lu:Hid (bV s (k+1)=(decide (128<=z.toNat)&&decide (z.toNat<=191))):=by show (bV s k&&(decide (128<=bt s (k+1))&&decide (bt s (k+1)<=191)))=_;rw [HC.out,hbz];rfl
     have q8:Hid (mI s (a.toNat - 240) (k+1)=64*x+z.toNat - 128):=by show 64*mI s (a.toNat - 240) k+(bt s (k+1):Int) - 128=_;rw [HX.out,hbz]
     clear hz hbz;have hkz:(k:Int)+1<(s.size:Int):=by omega
     by_cases hy:z.toNat<128
     ·have Xi:decide ((z.toNat:Int)<128)=true:=decide_eq_true (by omega);have Hy:=aj hy;clear hy;go_wp2_with fail;go_ret2;refine ⟨⟨0,?_⟩,rfl⟩;rw [H2.out,if_pos (iw (j:=k+1) (by omega) (by rw [lu.out];have:=Hy.out;simp;omega))];rfl
     ·by_cases hy2:191<z.toNat
      ·have Xi:decide ((z.toNat:Int)<128)=false:=decide_eq_false (by omega);have TT:decide ((191:Int)<(z.toNat:Int))=true:=decide_eq_true (by omega);have Hy:=aj hy2;clear hy hy2;go_wp2_with fail;go_ret2;refine ⟨⟨0,?_⟩,rfl⟩;rw [H2.out,if_pos (iw (j:=k+1) (by omega) (by rw [lu.out];have:=Hy.out;simp;omega))];rfl
      ·have Xi:decide ((z.toNat:Int)<128)=false:=decide_eq_false (by omega);have TT:decide ((191:Int)<(z.toNat:Int))=false:=decide_eq_false (by omega);go_wp2_with fail;go_roundg (4 - (k+1))
       case rel =>
        refine ⟨k+1,64*x+z.toNat - 128,rfl,by omega,by go_num,by go_num,q8,?_,by omega,?_,?_,rfl⟩
        ·show bV s (k+1)=true;rw [lu.out];simp;omega
        ·obtain ⟨d0,d1,d2⟩:=HD.out;have:k=0\/k=1\/k=2:=by omega
         rcases this with rfl | rfl | rfl
         ·have:=d0 rfl;omega
         ·have:=d1 rfl;omega
         ·have:=d2 rfl;omega
        ·obtain ⟨d0,d1,d2⟩:=HD.out;refine ⟨fun h=>by omega,fun h=>?_,fun h=>?_⟩
         ·have:=d0 (by omega);omega
         ·have:=d1 (by omega);omega
       case measure=>omega
    ·obtain rfl:k=3:=by omega
     have H3:Hid (aW s=if bM 65536 x=true then 0 else 4):=by show aW s=_;rw [H2.out,HX.out,if_neg (by rw [HC.out];simp)]
     by_cases b1:x<65536
     ·have H4:Hid (aW s=0):=by show aW s=_;rw [H3.out,if_pos (by simp [bM];omega)]
      go_wp2_with fail;go_ret2;exact ⟨⟨0,by rw [H4.out];rfl⟩,rfl⟩
     by_cases b2:1114111<x
     ·have H4:Hid (aW s=0):=by show aW s=_;rw [H3.out,if_pos (by simp [bM];omega)]
      go_wp2_with fail;go_ret2;exact ⟨⟨0,by rw [H4.out];rfl⟩,rfl⟩
     by_cases b3:55296<=x
     ·by_cases b4:x<57344
      ·have H4:Hid (aW s=0):=by show aW s=_;rw [H3.out,if_pos (by simp [bM];omega)]
       go_wp2_with fail;go_ret2;exact ⟨⟨0,by rw [H4.out];rfl⟩,rfl⟩
      ·have H4:Hid (aW s=4):=by show aW s=_;rw [H3.out,if_neg (by simp [bM];omega)]
       go_wp2_with fail;go_ret2;exact ⟨⟨x,by rw [H4.out];rfl⟩,rfl⟩
     ·have H4:Hid (aW s=4):=by show aW s=_;rw [H3.out,if_neg (by simp [bM];omega)]
      go_wp2_with fail;go_ret2;exact ⟨⟨x,by rw [H4.out];rfl⟩,rfl⟩
 have H1:Hid (aW s=0):=by show aW s=_;unfold aW;rw [hba,if_neg h1,if_neg hl2,if_neg hl3,if_neg hl4]
 clear hba ha;by_cases g1:a.toNat<192
 ·clear hl2 hl3 hl4;go_in;go_wp2_with fail;go_ret2;exact ⟨⟨0,by rw [H1.out];rfl⟩,rfl⟩
 ·have g2:248<=a.toNat:=by omega
  clear hl2 hl3 hl4 h1 g1;go_in;go_wp2_with fail;go_ret2;exact ⟨⟨0,by rw [H1.out];rfl⟩,rfl⟩
theorem F4 (s:ByteArray) (n:Nat) (a b:Int):lI s n a b<=s.size:=by
 unfold lI;split
 ·omega
 ·split
  ·omega
  ·split<;>omega
theorem VU (s:ByteArray) (h:0<s.size):aW s<=s.size:=by
 unfold aW;split
 ·omega
 ·split
  ·exact F4 _ _ _ _
  ·split
   ·exact F4 _ _ _ _
   ·split
    ·exact F4 _ _ _ _
    ·omega
end Go.Proofs.YtknakfpciccoaaaGreatDoor
/- The walk of form, kind by kind. -/
namespace Go.Proofs.YtknakfpciccoaaaGreatDoor
open Go.RowKit
end Go.Proofs.YtknakfpciccoaaaGreatDoor
/- The walks of the reference's first, of all bytes, and Decode. -/
namespace Go.Proofs.YtknakfpciccoaaaGreatDoor
open Go.RowKit
end Go.Proofs.YtknakfpciccoaaaGreatDoor
