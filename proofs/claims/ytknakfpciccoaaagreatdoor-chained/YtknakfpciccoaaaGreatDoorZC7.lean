import Derived.Test.YtknakfpciccoaaaGreatDoorZC6
import Derived.Test.YtknakfpciccoaaaGreatDoorZC2
import Derived.Deep.RegionHeld
import Derived.Laws.IdiomStrings
import Derived.Shelf.Strconv.Clone
import Derived.Test.YtknakfpciccoaaaGreatDoorProg
import Derived.Test.YtknakfpciccoaaaGreatDoorZC1
import Derived.Test.YtknakfpciccoaaaGreatDoorZC5
import Derived.Deep.RegionHeld3
import Derived.Deep.AppendLies
import Derived.Deep.LoopGhost
import Derived.Deep.RegionLaw
/- The walks of the program's parser: words, escapes, letters. -/
set_option maxHeartbeats 2000000
set_option maxRecDepth 100000
namespace Go.Proofs.YtknakfpciccoaaaGreatDoor
open Go.RowKit
theorem Bo (s p:ByteArray) (w:World):Calls Tryz.prog 255 #[.string s,.string p] w fun e w'=>e=.returned (.bool (Lib.hasPrefix s.data.toList p.data.toList))/\w'=w:=Any.strings_HasPrefix Tryz.laysPrefix s p w
theorem El {s p:ByteArray} {b:Bool} (h:Hid (Lib.hasPrefix s.data.toList p.data.toList=b)) (w:World):Calls Tryz.prog 255 #[.string s,.string p] w fun e w'=>e=.returned (.bool b)/\w'=w:=by
 refine (Bo s p w).mono ?_;rintro e w' ⟨rfl,rfl⟩;exact ⟨aB h.out,rfl⟩
theorem Bp (c:Nat) (s:ByteArray) (i:Nat) (t:ByteArray) (w:World) (h:PL c s i w) (hs:s.size<=4000) (hp:Al s i t=true) :
  Calls Tryz.prog 227 #[.pointer (some ⟨c,0,none⟩),.string t] w (Ap c s true (i+t.size) w):=by
 have hle:=Gd hp;have HL:=ak h;have q0:=h.q0;have q1:=h.q1;have x1:(i:Int)<=(s.size:Int):=by omega
 have HQ:Hid (Lib.hasPrefix (s.extract i s.size).data.toList t.data.toList=true):=(Jp s i t (by omega)).trans hp;clear h hp;go_in;go_wp2_with fail;go_quiet ((go_at_call 255;exact Calls.quiet_of_same (El HQ _)));have HB:=ak (below_drewN (Below.refl w.heap.size w) nq);generalize w.drewN nq=w1 at HB ⊢;have fK:=ak (HL.out.keep HB.out);have r1:=fK.out.q1;have r2:=fK.out.f1;clear q0 q1;go_wp2_with fail;go_ret;exact ⟨rfl,(bq.of HB.out).trans (bq.set w1 c 1 _),fK.out.set (i+t.size)⟩
theorem Gm (c:Nat) (s:ByteArray) (i:Nat) (t:ByteArray) (w:World) (h:PL c s i w) (hi:i<=s.size) (hp:Al s i t=false) :
  Calls Tryz.prog 227 #[.pointer (some ⟨c,0,none⟩),.string t] w (Ap c s false i w):=by
 have HL:=ak h;have q0:=h.q0;have q1:=h.q1;have x1:(i:Int)<=(s.size:Int):=by omega
 have HQ:Hid (Lib.hasPrefix (s.extract i s.size).data.toList t.data.toList=false):=(Jp s i t (by omega)).trans hp;clear h hp;go_in;go_wp2_with fail;go_quiet ((go_at_call 255;exact Calls.quiet_of_same (El HQ _)));have HB:=ak (below_drewN (Below.refl w.heap.size w) nq);generalize w.drewN nq=w1 at HB ⊢;go_wp2_with fail;go_ret;exact ⟨rfl,bq.of HB.out,HL.out.keep HB.out⟩
def Bq (c:Nat) (s:ByteArray) (x:Option (Nat×Nat)) (w:World) (e:Ending) (w':World):Prop :=
 bq c w w'/\((∃ r j,x=some (r,j)/\e=.returned (.int .i32 (r:Int))/\PL c s j w')\/(x=none/\e=gN 2))
theorem UG (c:Nat) (s:ByteArray) (i:Nat) (w:World) (h:PL c s i w) (hs:s.size<=4000) (hi:i<=s.size) :
  Calls Tryz.prog 267 #[.pointer (some ⟨c,0,none⟩)] w (Bq c s ((rA s i).bind fun a=>low s (i+4) a) w):=by
 have HF:=ak (Jy c s i w h hs hi);clear h;go_in;go_wp2_with fail;refine HF.out.mono ?_;rintro e w1 ⟨hB1,⟨a,ha,rfl,hL1⟩ | ⟨ha,rfl⟩⟩
 ·have HB1:=ak hB1;have fK:=ak hL1;have ha2:=(nN ha).1;have ha3:i+4<=s.size:=(nN ha).2 (by omega);have HX:Hid (((rA s i).bind fun a=>low s (i+4) a)=low s (i+4) a):=by show _=_;rw [ha];rfl
  clear hB1 hL1 HF ha;have ha4:a<65536:=ha2;clear ha2;by_cases h1:a<55296\/57343<a
  ·have HW:Hid (low s (i+4) a=some (a,i+4)):=by show _=_;unfold low;rw [if_pos h1]
   by_cases h2:a<55296
   ·have y1:decide ((a:Int)<55296)=true:=decide_eq_true (by omega);go_wp2_with fail;go_ret;exact ⟨HB1.out,Or.inl ⟨a,i+4,HX.out.trans HW.out,rfl,fK.out⟩⟩
   ·have y1:decide ((a:Int)<55296)=false:=decide_eq_false (by omega);have y2:(57343:Int)<(a:Int):=by omega
    go_wp2_with fail;go_ret;exact ⟨HB1.out,Or.inl ⟨a,i+4,HX.out.trans HW.out,rfl,fK.out⟩⟩
  ·have y1:decide ((a:Int)<55296)=false:=decide_eq_false (by omega);have y2:decide ((57343:Int)<(a:Int))=false:=decide_eq_false (by omega);by_cases h2:56319<a
   ·have HW:Hid (low s (i+4) a=none):=by show _=_;unfold low;rw [if_neg h1,if_pos h2]
    have y3:decide ((56319:Int)<(a:Int))=true:=decide_eq_true (by omega);clear h1 h2;go_wp2_with fail;exact ⟨rfl,HB1.out,Or.inr ⟨HX.out.trans HW.out,rfl⟩⟩
   ·have y3:decide ((56319:Int)<(a:Int))=false:=decide_eq_false (by omega);have HW:Hid (low s (i+4) a=if cB s (i+4)=92/\cB s (i+4+1)=117 then (rA s (i+4+2)).bind fun b=>if b<56320\/57343<b then none else some (65536+1024*(a - 55296)+(b - 56320),i+4+6) else none):=by show _=_;unfold low;rw [if_neg h1,if_neg h2]
    have H12:Hid (55296<=a/\a<=56319):=by show _/\_;omega
    clear h1 h2;by_cases h3:cB s (i+4)=92
    ·have h3l:i+4<s.size:=d9 (by omega);go_wp2_with fail;refine (kH c s (i+4) 92 w1 fK.out hs (by omega) (by omega)).mono ?_;rintro e w2 ⟨rfl,hB2,hL2⟩;have HB2:=ak (HB1.out.trans hB2);have HL2:=ak hL2;clear hB2 hL2 HB1 fK;by_cases h4:cB s (i+4+1)=117
     ·have h4l:i+4+1<s.size:=d9 (by omega);go_wp2_with fail;refine (kH c s (i+4+1) 117 w2 HL2.out hs (by omega) (by omega)).mono ?_;rintro e w3 ⟨rfl,hB3,hL3⟩;have HB3:=ak (HB2.out.trans hB3);have tT:=ak hL3;clear hB3 hL3 HB2 HL2;go_wp2_with fail;refine (Jy c s (i+4+1+1) w3 tT.out hs (by omega)).mono ?_;rintro e w4 ⟨hB4,⟨b,hb,rfl,hL4⟩ | ⟨hb,rfl⟩⟩
      ·have bT:=ak (HB3.out.trans hB4);have uI:=ak hL4;have hb2:b<65536:=(nN hb).1;have HY:Hid (low s (i+4) a=if b<56320\/57343<b then none else some (65536+1024*(a - 55296)+(b - 56320),i+4+6)):=by show _=_;rw [HW.out,if_pos ⟨h3,h4⟩,hb];rfl
       clear hB4 hL4 HB3 tT hb HW;by_cases h5:b<56320\/57343<b
       ·have HZ:Hid (low s (i+4) a=none):=by show _=_;rw [HY.out,if_pos h5]
        by_cases h6:b<56320
        ·have z1:decide ((b:Int)<56320)=true:=decide_eq_true (by omega);go_wp2_with fail;exact ⟨rfl,bT.out,Or.inr ⟨HX.out.trans HZ.out,rfl⟩⟩
        ·have z1:decide ((b:Int)<56320)=false:=decide_eq_false (by omega);have z2:(57343:Int)<(b:Int):=by omega
         go_wp2_with fail;exact ⟨rfl,bT.out,Or.inr ⟨HX.out.trans HZ.out,rfl⟩⟩
       ·have HZ:Hid (low s (i+4) a=some (65536+1024*(a - 55296)+(b - 56320),i+4+6)):=by show _=_;rw [HY.out,if_neg h5]
        have z1:decide ((b:Int)<56320)=false:=decide_eq_false (by omega);have z2:decide ((57343:Int)<(b:Int))=false:=decide_eq_false (by omega);go_wp2_with fail;go_ret;refine ⟨bT.out,Or.inl ⟨_,_,HX.out.trans HZ.out,aQ ?_,uI.out⟩⟩;have h12:=H12.out;have ak7:56320<=b/\b<=57343:=by omega
        go_num
      ·have bT:=ak (HB3.out.trans hB4);have HZ:Hid (low s (i+4) a=none):=by show _=_;rw [HW.out,if_pos ⟨h3,h4⟩,hb];rfl
       clear hB4 HB3 tT hb HW;go_wp2_with fail;exact ⟨rfl,bT.out,Or.inr ⟨HX.out.trans HZ.out,rfl⟩⟩
     ·have HZ:Hid (low s (i+4) a=none):=by show _=_;rw [HW.out,if_neg (fun h=>h4 h.2)]
      go_wp2_with fail;refine (pI c s (i+4+1) 117 w2 HL2.out hs (by omega) (by omega)).mono ?_;rintro e w3 ⟨rfl,hB3⟩;have HB3:=ak (HB2.out.trans hB3);clear hB3;go_wp2_with fail;exact ⟨rfl,HB3.out,Or.inr ⟨HX.out.trans HZ.out,rfl⟩⟩
    ·have HZ:Hid (low s (i+4) a=none):=by show _=_;rw [HW.out,if_neg (fun h=>h3 h.1)]
     go_wp2_with fail;refine (pI c s (i+4) 92 w1 fK.out hs (by omega) (by omega)).mono ?_;rintro e w3 ⟨rfl,hB3⟩;have HB3:=ak (HB1.out.trans hB3);clear hB3;go_wp2_with fail;exact ⟨rfl,HB3.out,Or.inr ⟨HX.out.trans HZ.out,rfl⟩⟩
 ·have HB1:=ak hB1;have HX:Hid (((rA s i).bind fun a=>low s (i+4) a)=none):=by show _=_;rw [ha];rfl
  clear hB1 HF ha;go_wp2_with fail;exact ⟨rfl,HB1.out,Or.inr ⟨HX.out,rfl⟩⟩
theorem MP (c:Nat) (s:ByteArray) (i:Nat) (w:World) (h:PL c s i w) (hs:s.size<=4000) (hi:i<=s.size) :
  Calls Tryz.prog 251 #[.pointer (some ⟨c,0,none⟩)] w (Bq c s (oH s i) w):=by
 have HN:=ak (wL c s i w h hs hi);clear h;go_in;go_wp2_with fail;refine HN.out.mono ?_;rintro e w1 ⟨hB1,⟨hlt,rfl,hL1⟩ | ⟨he,rfl⟩⟩
 ·have HB1:=ak hB1;have fK:=ak hL1;have HE:Hid (oH s i=if cB s i=34\/cB s i=92\/cB s i=47 then some (cB s i,i+1) else if cB s i=98 then some (8,i+1) else if cB s i=102 then some (12,i+1) else if cB s i=110 then some (10,i+1) else if cB s i=114 then some (13,i+1) else if cB s i=116 then some (9,i+1) else if cB s i=117 then (rA s (i+1)).bind fun a=>low s (i+5) a else none):=by show _=_;rfl
  have hx:=aax hlt;clear hB1 hL1 HN;generalize cB s i=x at HE hx ⊢;by_cases h34:x=34
  ·subst h34;have HZ:Hid (oH s i=some (34,i+1)):=by show _=_;rw [HE.out];rfl
   go_wp2_with fail;go_ret;exact ⟨HB1.out,Or.inl ⟨_,_,HZ.out,rfl,fK.out⟩⟩
  have d34:((x:Int)==34)=false:=by rw [beq_eq_false_iff_ne];omega
  by_cases PI:x=92
  ·subst PI;have HZ:Hid (oH s i=some (92,i+1)):=by show _=_;rw [HE.out];rfl
   go_wp2_with fail;go_ret;exact ⟨HB1.out,Or.inl ⟨_,_,HZ.out,rfl,fK.out⟩⟩
  have d92:((x:Int)==92)=false:=by rw [beq_eq_false_iff_ne];omega
  by_cases h47:x=47
  ·subst h47;have HZ:Hid (oH s i=some (47,i+1)):=by show _=_;rw [HE.out];rfl
   go_wp2_with fail;go_ret;exact ⟨HB1.out,Or.inl ⟨_,_,HZ.out,rfl,fK.out⟩⟩
  have d47:((x:Int)==47)=false:=by rw [beq_eq_false_iff_ne];omega
  by_cases h98:x=98
  ·subst h98;have HZ:Hid (oH s i=some (8,i+1)):=by show _=_;rw [HE.out];rfl
   go_wp2_with fail;go_ret;exact ⟨HB1.out,Or.inl ⟨_,_,HZ.out,rfl,fK.out⟩⟩
  by_cases aen:x=102
  ·subst aen;have HZ:Hid (oH s i=some (12,i+1)):=by show _=_;rw [HE.out];rfl
   go_wp2_with fail;go_ret;exact ⟨HB1.out,Or.inl ⟨_,_,HZ.out,rfl,fK.out⟩⟩
  by_cases aeo:x=110
  ·subst aeo;have HZ:Hid (oH s i=some (10,i+1)):=by show _=_;rw [HE.out];rfl
   go_wp2_with fail;go_ret;exact ⟨HB1.out,Or.inl ⟨_,_,HZ.out,rfl,fK.out⟩⟩
  by_cases aep:x=114
  ·subst aep;have HZ:Hid (oH s i=some (13,i+1)):=by show _=_;rw [HE.out];rfl
   go_wp2_with fail;go_ret;exact ⟨HB1.out,Or.inl ⟨_,_,HZ.out,rfl,fK.out⟩⟩
  by_cases h116:x=116
  ·subst h116;have HZ:Hid (oH s i=some (9,i+1)):=by show _=_;rw [HE.out];rfl
   go_wp2_with fail;go_ret;exact ⟨HB1.out,Or.inl ⟨_,_,HZ.out,rfl,fK.out⟩⟩
  by_cases aer:x=117
  ·subst aer;have HZ:Hid (oH s i=(rA s (i+1)).bind fun a=>low s (i+1+4) a):=by show _=_;rw [HE.out];rfl
   go_wp2_with fail;refine (UG c s (i+1) w1 fK.out hs (by omega)).mono ?_;rintro e w2 ⟨hB2,⟨r,j,hr,rfl,hL2⟩ | ⟨hr,rfl⟩⟩
   ·have HB2:=ak (HB1.out.trans hB2);have HL2:=ak hL2;have HR:=ak hr;clear hB2 hL2 hr;go_wp2_with fail;go_ret;exact ⟨HB2.out,Or.inl ⟨_,_,HZ.out.trans HR.out,rfl,HL2.out⟩⟩
   ·have HB2:=ak (HB1.out.trans hB2);have HR:=ak hr;clear hB2 hr;go_wp2_with fail;exact ⟨rfl,HB2.out,Or.inr ⟨HZ.out.trans HR.out,rfl⟩⟩
  have HZ:Hid (oH s i=none):=by show _=_;rw [HE.out,if_neg (by omega),if_neg h98,if_neg aen,if_neg aeo,if_neg aep,if_neg h116,if_neg aer]
  go_wp2_with fail;exact ⟨rfl,HB1.out,Or.inr ⟨HZ.out,rfl⟩⟩
 ·have HB1:=ak hB1
  have HZ:Hid (oH s i=none):=by
   show _=_;have:cB s i=256:=vG (by omega);unfold oH;rw [this];rfl
  clear hB1 HN he;go_wp2_with fail;exact ⟨rfl,HB1.out,Or.inr ⟨HZ.out,rfl⟩⟩
def cu (Tb:World->Prop):Prop:=∀ (s:ByteArray) (w:World),Tb w->Calls Tryz.prog 252 #[.string s] w fun e w'=>e=.returned (.tuple #[.int .i32 ((mG s).1:Int),.int .i64 ((mG s).2:Int)])/\Below w.heap.size w w'
def dK (Tb:World->Prop):Prop:=∀ (s:ByteArray) (w:World),s.size<=4000->Tb w->Calls Tryz.prog 226 #[.string s,.int .i64 10,.int .i64 64] w fun e w'=>Below w.heap.size w w' /\
 ((∃ v:Int,Lib.parseIntB 64 s.data.toList=.ok v/\e=.returned (.tuple #[.int .i64 v,.nilIface]))\/((Lib.parseIntB 64 s.data.toList=.«syntax»\/Lib.parseIntB 64 s.data.toList=.range)/\∃ (v:Int) (t:TypeId) (p:Value),e=.returned (.tuple #[.int .i64 v,.iface t p])))
theorem bq.stays {Tb:World->Prop} {c:Nat} (hS:dZ Tb c) {w w':World} (hT:Tb w) (hB:bq c w w') (hc:c<=w.heap.size):Tb w':=hS w w' hT (hB.below hc)
theorem MQ {Tb:World->Prop} (hD:cu Tb) (c:Nat) (hS:dZ Tb c) (s:ByteArray) (i:Nat) (w:World) (h:PL c s i w) (hT:Tb w) (hs:s.size<=4000) (hi:i<=s.size) :
  Calls Tryz.prog 223 #[.pointer (some ⟨c,0,none⟩)] w (Bq c s (jW s i) w):=by
 have HL:=ak h;have HT:=ak hT;have HS:=ak hS;have HD:=ak hD;clear h hT hS hD;by_cases PI:cB s i=92
 ·have hlt:i<s.size:=d9 (by omega);have HA:=ak (gD c s i 92 w HL.out hs (by omega) (by omega));have HX:Hid (jW s i=oH s (i+1)):=by show _=_;unfold jW;rw [if_pos PI]
  clear PI;go_in;go_wp2_with fail;refine HA.out.mono ?_;rintro e w1 ⟨rfl,hB1,hL1⟩;have HB1:=ak hB1;have fK:=ak hL1;clear hB1 hL1 HA;go_wp2_with fail;refine (MP c s (i+1) w1 fK.out hs (by omega)).mono ?_;rintro e w2 ⟨hB2,⟨r,j,hr,rfl,hL2⟩ | ⟨hr,rfl⟩⟩
  ·have HB2:=ak (HB1.out.trans hB2);have HL2:=ak hL2;have HR:=ak (HX.out.trans hr);clear hB2 hL2 hr;go_wp2_with fail;go_ret;exact ⟨HB2.out,Or.inl ⟨_,_,HR.out,rfl,HL2.out⟩⟩
  ·have HB2:=ak (HB1.out.trans hB2);have HR:=ak (HX.out.trans hr);clear hB2 hr;go_wp2_with fail;exact ⟨rfl,HB2.out,Or.inr ⟨HR.out,rfl⟩⟩
 ·have HA:=ak (fM c s i 92 w HL.out hi (by omega));have HX:Hid (jW s i=if (mG (oG s i)).1<32\/((mG (oG s i)).1=65533/\(mG (oG s i)).2<=1) then none else some ((mG (oG s i)).1,i+(mG (oG s i)).2)):=by show _=_;unfold jW;rw [if_neg PI]
  have hdr:(mG (oG s i)).2<=4000/\(mG (oG s i)).1<=1114111:=by
   have hz:=pq s i;by_cases h0:(oG s i).size=0
   ·rw [AY h0];omega
   ·have:=jK (oG s i) (by omega);rw [Am (by omega)];omega
  clear PI;go_in;go_wp2_with fail;refine HA.out.mono ?_;rintro e w1 ⟨rfl,hB1,hL1⟩;have HB1:=ak hB1;have fK:=ak hL1;have HT1:=ak (bq.stays HS.out HT.out hB1 (Nat.le_of_lt HL.out.lt));have aes:=ak (HS.out _ _ HT1.out (au w1 |>.mono (Nat.le_of_lt fK.out.lt)));have abz:=ak (fK.out.keep (au w1));have q0:=fK.out.q0;have q1:=fK.out.q1;have x1:(i:Int)<=(s.size:Int):=by omega
  clear hB1 hL1 HA;have TU:Hid (Calls Tryz.prog 252 #[.string (s.extract i s.size)] w1.drew fun e w'=>e=.returned (.tuple #[.int .i32 ((mG (oG s i)).1:Int),.int .i64 ((mG (oG s i)).2:Int)])/\Below w1.drew.heap.size w1.drew w'):=HD.out _ _ aes.out
  have Yn:Hid (∀ wx:World,Below w1.drew.heap.size w1.drew wx->wx.cell? ⟨c,0,none⟩=some (.string s)/\wx.cell? ⟨c,1,none⟩=some (.int .i64 i)):=by
   intro wx hx;have:=abz.out.keep hx;exact ⟨this.q0,this.q1⟩
  generalize (mG (oG s i)).1=r at HX hdr TU;generalize (mG (oG s i)).2=n at HX hdr TU;obtain ⟨hd1,hd2⟩:=hdr;go_wp2_with fail;go_region_held (fun wx=>wx.cell? ⟨c,0,none⟩=some (.string s)/\wx.cell? ⟨c,1,none⟩=some (.int .i64 i)) (go_keep) ((go_at_call 252;refine TU.out.mono ?_;rintro e w2 ⟨rfl,hb2⟩;have hc2:=Yn.out _ hb2));have HL2:=ak (abz.out.keep hb2);have HB2:=ak (HB1.out.trans ((bq.of (au w1)).trans (bq.of hb2)));have r1:=HL2.out.q1;have r2:=HL2.out.f1;clear hb2 hc2 q0 q1 TU Yn abz aes;by_cases h1:r<32
  ·have HZ:Hid (jW s i=none):=by show _=_;rw [HX.out,if_pos (Or.inl h1)]
   have y1:decide ((r:Int)<32)=true:=decide_eq_true (by omega);clear h1;go_wp2_with fail;exact ⟨rfl,HB2.out,Or.inr ⟨HZ.out,rfl⟩⟩
  ·have y1:decide ((r:Int)<32)=false:=decide_eq_false (by omega);by_cases h2:r=65533
   ·have y2:((r:Int)==65533)=true:=by rw [beq_iff_eq];omega
    by_cases h3:n<=1
    ·have HZ:Hid (jW s i=none):=by show _=_;rw [HX.out,if_pos (Or.inr ⟨h2,h3⟩)]
     have y3:decide ((n:Int)<=1)=true:=decide_eq_true (by omega);clear h1 h2 h3;go_wp2_with fail;exact ⟨rfl,HB2.out,Or.inr ⟨HZ.out,rfl⟩⟩
    ·have HZ:Hid (jW s i=some (r,i+n)):=by show _=_;rw [HX.out,if_neg (by omega)]
     have y3:decide ((n:Int)<=1)=false:=decide_eq_false (by omega);clear h1 h2 h3;go_wp2_with fail;go_ret;exact ⟨HB2.out.trans (bq.set w2 c 1 _),Or.inl ⟨_,_,HZ.out,rfl,HL2.out.set (i+n)⟩⟩
   ·have HZ:Hid (jW s i=some (r,i+n)):=by show _=_;rw [HX.out,if_neg (by omega)]
    have y2:((r:Int)==65533)=false:=by rw [beq_eq_false_iff_ne];omega
    clear h1 h2;go_wp2_with fail;go_ret;exact ⟨HB2.out.trans (bq.set w2 c 1 _),Or.inl ⟨_,_,HZ.out,rfl,HL2.out.set (i+n)⟩⟩
theorem xY {w w':World} {lo:Nat} {e:TypeId} {size n:Nat} {v:Value} {xs:List Value} (h:w.ownsRowF lo e size v n xs) (hb:∀ b,lo<=b->b<w.heap.size->w'.heap[b]?=w.heap[b]?):w'.ownsRowF lo e size v n xs:=by
 refine ⟨h.1,?_⟩;rcases h.2 with hn | ⟨g,cap,cur,fz,rfl,hb0,hg,rest⟩
 ·exact .inl hn
 ·exact .inr ⟨g,cap,cur,fz,rfl,hb0,(hb g hb0 (Array.getElem?_eq_some_iff.1 hg).1).trans hg,rest⟩
theorem uS {T e:TypeId} {B b c:Nat} {p:Value} {bs:List Value} {w w':World} (h:Lib.BuilderAtF T e B b p bs w) (hB:bq c w w') (hc:c<B):Lib.BuilderAtF T e B b p bs w':=by
 have hlt:=h.lt;obtain ⟨h0,v,hb,hown,hne⟩:=h;exact ⟨h0,v,(hB.block b hlt (by omega)).trans hb,xY hown (fun k h1 h2=>hB.block k h2 (by omega)),hne⟩
theorem sw {T e:TypeId} {B b c:Nat} {bs:List Value} {w w':World} (h:Lib.IsBuilderF T e B b bs w) (hB:bq c w w') (hc:c<B):Lib.IsBuilderF T e B b bs w' :=
 h.elim (fun x=>.inl (uS x hB hc)) (fun x=>.inr (uS x hB hc))
theorem bq.over {c:Nat} {w1 wr w':World} (h:bq c w1 wr) (hb:Below w1.heap.size wr w'):bq c w1 w' :=
 ⟨hb.os.trans h.os,hb.tape.trans h.tape,hb.output.trans h.output,Nat.le_trans h.size hb.size,fun i hi hc=>(hb.block i hi).trans (h.block i hi hc)⟩
theorem Du (B b:Nat) (acc:List UInt8) (r:Nat) (w:World) (hr:r<=1114111) (h:Lib.IsBuilderF 65 5 B b (Lib.byteCells acc) w) (hl:acc.length<=1000000) (hB:B<=w.heap.size) :
  Calls Tryz.prog 222 #[.pointer (some ⟨b,0,none⟩),.int .i32 (r:Int)] w fun e w'=>e=.returned (.tuple #[.int .i64 (Lib.runeCells (r:Int)).length,.nilIface])/\Lib.IsBuilderF 65 5 B b (Lib.byteCells (acc++Lib.encodeRune (r:Int))) w'/\Below B w w':=by
 refine (Any.Builder_WriteRune_k Tryz.laysWriteRune Tryz.extraWriteRune B b (Lib.byteCells acc) (r:Int) (by omega) (by omega) w h (by rw [Lib.byteCells_length];omega) hB).mono ?_;rintro e w' ⟨rfl,h1,b1,_⟩;refine ⟨rfl,Or.inr ?_,b1⟩;rw [Lib.byteCells_append,Lib.byteCells_encodeRune];exact h1
theorem Br (B b:Nat) (acc:List UInt8) (w:World) (h:Lib.IsBuilderF 65 5 B b (Lib.byteCells acc) w) (hB:B<=w.heap.size) :
  Calls Tryz.prog 42 #[.pointer (some ⟨b,0,none⟩)] w fun e w'=>e=.returned (.string (bP acc))/\Below B w w':=by
 refine (Any.Builder_String_any_k Tryz.laysString Tryz.extraString B b acc w h hB).mono ?_;rintro e w' ⟨rfl,_,b1,_⟩;exact ⟨rfl,b1⟩
def YM (c:Nat) (s:ByteArray) (i:Nat) (w:World) (e:Ending) (w':World):Prop :=
 bq c w w'/\((∃ x j,jL s i=some (x,j)/\e=.returned (.string x)/\PL c s j w')\/(jL s i=none/\e=gN 2))
theorem YN {s:ByteArray} {i:Nat} (h:cB s i=34):jL s i=(lJ s (s.size+1) (i+1)).map fun p=>(bP p.1,p.2):=by unfold jL;rw [if_pos h]
theorem UH {s:ByteArray} {i:Nat} (h:cB s i≠34):jL s i=none:=by unfold jL;rw [if_neg h]
theorem Gn {Tb:World->Prop} (hD:cu Tb) (c:Nat) (hS:dZ Tb c) (s:ByteArray) (i:Nat) (w:World) (h:PL c s i w) (hT:Tb w) (hs:s.size<=4000) (hi:i<=s.size) :
  Calls Tryz.prog 181 #[.pointer (some ⟨c,0,none⟩)] w (YM c s i w):=by
 have HL:=ak h;have HT:=ak hT;have HS:=ak hS;have HD:=ak hD;clear h hT hS hD;by_cases h34:cB s i=34
 ·have hlt:i<s.size:=d9 (by omega);have HA:=ak (kH c s i 34 w HL.out hs (by omega) (by omega));have HX:=ak (YN h34);clear h34;go_in;go_wp2_with fail;refine HA.out.mono ?_;rintro e w1 ⟨rfl,hB1,hL1⟩;have HB1:=ak hB1;have fK:=ak hL1;have hc1:=hL1.lt;have HT1:=ak (bq.stays HS.out HT.out hB1 (Nat.le_of_lt HL.out.lt));clear hB1 hL1 HA;have HF:Hid (Lib.IsBuilderF 65 5 w1.heap.size w1.heap.size (Lib.byteCells []) (w1.alloc (.cells #[.pointer none,.slice none 0 0] 65))):=Lib.IsBuilderF.of (Lib.fresh_isBuilder 65 5 w1);have fT:Hid (bq c w1 (w1.alloc (.cells #[.pointer none,.slice none 0 0] 65))):=bq.of (aY _ _);have HLa:=ak (fK.out.keep ((Below.refl _ _).alloc (Nat.le_refl _) (.cells #[.pointer none,.slice none 0 0] 65)));go_wp2_with fail;go_loopg [] (s.size - (i+1)) (fun g wr=>∃ (k n:Nat) (acc:List UInt8),g=s.size - k/\k<=s.size/\s.size+1<=n+k/\acc.length<=4*k/\Hid (PL c s k wr)/\Hid (Lib.IsBuilderF 65 5 w1.heap.size w1.heap.size (Lib.byteCells acc) wr)/\Hid (bq c w1 wr)/\Hid (lJ s (s.size+1) (i+1)=(lJ s n k).map fun p=>(acc++p.1,p.2)))
  case atStart=>exact ⟨i+1,s.size+1,[],rfl,by omega,by omega,by simp,HLa,HF,fT,by show _=_;cases lJ s (s.size+1) (i+1)<;>rfl⟩
  case round =>
   clear HF fT HLa;obtain ⟨k,n,acc,rfl,hk,hn,hacc,Dj,HF,MR,HN⟩:=hrel;obtain ⟨n,rfl⟩:∃ m,n=m+1:=⟨n - 1,by omega⟩;by_cases hq:cB s k=34
   ·have HZ:Hid (jL s i=some (bP acc,k+1)):=by
     show _=_;rw [HX.out,HN.out,AZ hq];simp
    go_wp2_with fail;refine (gD c s k 34 wr Dj.out hs (by omega) (by omega)).mono ?_;rintro e w2 ⟨rfl,hB2,hL2⟩;have HL2:=ak hL2;have Gp:=ak (sw HF.out hB2 hc1);have HB2:=ak (MR.out.trans hB2);clear hB2 hL2 Dj HF MR;go_wp2_with fail;refine (Br w1.heap.size w1.heap.size acc w2 Gp.out HB2.out.size).mono ?_;rintro e w3 ⟨rfl,hb3⟩;have HB3:=ak (HB2.out.over hb3);have tT:=ak (HL2.out.move hb3.size (hb3.block _ hc1));clear hb3;go_wp2_with fail;go_ret;exact ⟨HB1.out.trans HB3.out,Or.inl ⟨_,_,HZ.out,rfl,tT.out⟩⟩
   ·go_wp2_with fail;refine (fM c s k 34 wr Dj.out hk (by omega)).mono ?_;rintro e w2 ⟨rfl,hB2,hL2⟩;have HL2:=ak hL2;have Gp:=ak (sw HF.out hB2 hc1);have HB2:=ak (MR.out.trans hB2);have HT2:=ak (bq.stays HS.out HT1.out HB2.out (Nat.le_of_lt hc1));clear hB2 hL2 Dj HF MR;go_wp2_with fail;refine (MQ HD.out c HS.out s k w2 HL2.out HT2.out hs hk).mono ?_;rintro e w3 ⟨hB3,⟨r,j,hr,rfl,hL3⟩ | ⟨hr,rfl⟩⟩
    ·have tT:=ak hL3;have HF3:=ak (sw Gp.out hB3 hc1);have HB3:=ak (HB2.out.trans hB3);have kG:=Ji hr;have HN3:=ak (HN.out.trans (Ur (n:=n) acc hq hr));have hl4:=Lib.runeCells_le (r:Int);rw [Lib.runeCells_length] at hl4;clear hB3 hL3 hr HL2 Gp HB2 HT2 HN;go_wp2_with fail;refine (Du w1.heap.size w1.heap.size acc r w3 kG.2.2 HF3.out (by omega) HB3.out.size).mono ?_;rintro e w4 ⟨rfl,hF4,hb4⟩;have uI:=ak (tT.out.move hb4.size (hb4.block _ hc1));have bT:=ak (HB3.out.over hb4);have HF4:=ak hF4;clear hb4 hF4 tT HB3 HF3;go_wp2_with fail;go_roundg (s.size - j)
     case rel=>exact ⟨j,n,acc++Lib.encodeRune (r:Int),rfl,by omega,by omega,by rw [List.length_append];omega,uI,HF4,bT,HN3⟩
     case measure=>omega
    ·have HB3:=ak (HB1.out.trans (HB2.out.trans hB3))
     have HZ:Hid (jL s i=none):=by
      show _=_;rw [HX.out,HN.out,Rb hq hr];rfl
     clear hB3 hr;go_wp2_with fail;exact ⟨rfl,HB3.out,Or.inr ⟨HZ.out,rfl⟩⟩
 ·have HA:=ak (pI c s i 34 w HL.out hs hi (by omega));have HX:=ak (UH h34);clear h34;go_in;go_wp2_with fail;refine HA.out.mono ?_;rintro e w1 ⟨rfl,hB1⟩;have HB1:=ak hB1;clear hB1 HA;go_wp2_with fail;exact ⟨rfl,HB1.out,Or.inr ⟨HX.out,rfl⟩⟩
end Go.Proofs.YtknakfpciccoaaaGreatDoor
/- The contract of strings.Clone, of the library's shelf, laid at this dump. -/
namespace Go.Proofs
open Go.Shelf Go.RowKit
def Tryz.laysClone_ren:Go.Shelf.Ren:=⟨fun | 316=>115 | n=>n,fun | 37=>63 | 127=>123 | n=>n,fun n=>n⟩
theorem Tryz.laysClone:Go.Proofs.LaysM.n316 Tryz.prog Tryz.laysClone_ren:={
 mixed:=by kernel_rfl
 f316:=Tryz.func115.trans (congrArg some (by kernel_rfl))
 t0:=Tryz.underlying0
 a0:=Tryz.isAgg0
 z0:=Tryz.sizeOf0
 v0:=Tryz.zeroValue0
 t3:=Tryz.underlying3
 a3:=Tryz.isAgg3
 z3:=Tryz.sizeOf3
 v3:=Tryz.zeroValue3
 t4:=Tryz.underlying4
 a4:=Tryz.isAgg4
 z4:=Tryz.sizeOf4
 v4:=Tryz.zeroValue4
 t9:=Tryz.underlying9
 a9:=Tryz.isAgg9
 z9:=Tryz.sizeOf9
 v9:=Tryz.zeroValue9
 t37:=Tryz.underlying63
 a37:=Tryz.isAgg63
 z37:=Tryz.sizeOf63
 v37:=Tryz.zeroValue63
 t127:=Tryz.underlying123
 a127:=Tryz.isAgg123
 z127:=Tryz.sizeOf123
 v127:=Tryz.zeroValue123
 t5:=Tryz.underlying5
 a5:=Tryz.isAgg5
 z5:=Tryz.sizeOf5
 v5:=Tryz.zeroValue5
 i0:=by kernel_rfl
 i3:=by kernel_rfl
 i4:=by kernel_rfl
 i5:=by kernel_rfl
 i9:=by kernel_rfl
 i37:=by kernel_rfl
 i127:=by kernel_rfl }
end Go.Proofs
namespace Go.Proofs.YtknakfpciccoaaaGreatDoor
open Go.RowKit
theorem Rm (s:ByteArray) (w:World) (hs:s.size<=140737488355328) :
  Calls Tryz.prog 70 #[.string s] w fun e w'=>e=.returned (.string s)/\Below w.heap.size w w':=by
 have HC:Hid (Calls Tryz.prog 115 #[.string s] w fun e w'=>e=.returned (.string s)/\Below w.heap.size w w'):=Any.stringslite_Clone Tryz.laysClone s w (by omega);go_in;go_wp2_with (go_at_call 115;refine HC.out.mono ?_;rintro e w2 ⟨rfl,hb⟩);go_ret;exact ⟨rfl,hb⟩
abbrev kL (n:Int):Ending:=.panicked [{ v:=.iface 132 (.int .i64 n),recovered:=false }]
structure Left (c:Nat) (s:ByteArray) (w:World):Prop where
 cell:w.cell? ⟨c,0,none⟩=some (.string s)
 free:w.frozen? ⟨c,0,none⟩=false
 lt:c<w.heap.size
structure aJ (b:Nat) (c0 c1 c2 c3 c4:Value) (w:World):Prop where
 q0:w.cell? ⟨b,0,none⟩=some c0
 q1:w.cell? ⟨b,1,none⟩=some c1
 q2:w.cell? ⟨b,2,none⟩=some c2
 q3:w.cell? ⟨b,3,none⟩=some c3
 q4:w.cell? ⟨b,4,none⟩=some c4
 f0:w.frozen? ⟨b,0,none⟩=false
 f1:w.frozen? ⟨b,1,none⟩=false
 f2:w.frozen? ⟨b,2,none⟩=false
 f3:w.frozen? ⟨b,3,none⟩=false
 f4:w.frozen? ⟨b,4,none⟩=false
 lt:b<w.heap.size
theorem aJ.move {b : Nat} {c0 c1 c2 c3 c4 : Value} {w w' : World} (h : aJ b c0 c1 c2 c3 c4 w) (hs : w.heap.size <= w'.heap.size) (hb : w'.heap[b]? = w.heap[b]?) : aJ b c0 c1 c2 c3 c4 w' :=
  ⟨(aC hb _).trans h.q0, (aC hb _).trans h.q1, (aC hb _).trans h.q2, (aC hb _).trans h.q3, (aC hb _).trans h.q4,
   (World.frozen?_of_block (w := w) (a := ⟨b, _, none⟩) hb).trans h.f0, (World.frozen?_of_block (w := w) (a := ⟨b, _, none⟩) hb).trans h.f1, (World.frozen?_of_block (w := w) (a := ⟨b, _, none⟩) hb).trans h.f2, (World.frozen?_of_block (w := w) (a := ⟨b, _, none⟩) hb).trans h.f3, (World.frozen?_of_block (w := w) (a := ⟨b, _, none⟩) hb).trans h.f4, Nat.lt_of_lt_of_le h.lt hs⟩
theorem aJ.aev {b:Nat} {c0 c1 c2 c3 c4:Value} {w:World} (h:aJ b c0 c1 c2 c3 c4 w) (u:Value):aJ b c0 c1 c2 u c4 (w.setCell ⟨b,3,none⟩ u):=by
 refine ⟨?_,?_,?_,?_,?_,?_,?_,?_,?_,?_,by simp [World.setCell];exact h.lt⟩
 ·rw [aH (by omega)];exact h.q0
 ·rw [aH (by omega)];exact h.q1
 ·rw [aH (by omega)];exact h.q2
 ·exact World.cell?_setCell_same _ _ _ h.q3
 ·rw [aH (by omega)];exact h.q4
 ·rw [World.frozen?_setCell];exact h.f0
 ·rw [World.frozen?_setCell];exact h.f1
 ·rw [World.frozen?_setCell];exact h.f2
 ·rw [World.frozen?_setCell];exact h.f3
 ·rw [World.frozen?_setCell];exact h.f4
theorem aJ.aew {b:Nat} {c0 c1 c2 c3 c4:Value} {w:World} (h:aJ b c0 c1 c2 c3 c4 w) (u:Value):aJ b c0 c1 c2 c3 u (w.setCell ⟨b,4,none⟩ u):=by
 refine ⟨?_,?_,?_,?_,?_,?_,?_,?_,?_,?_,by simp [World.setCell];exact h.lt⟩
 ·rw [aH (by omega)];exact h.q0
 ·rw [aH (by omega)];exact h.q1
 ·rw [aH (by omega)];exact h.q2
 ·rw [aH (by omega)];exact h.q3
 ·exact World.cell?_setCell_same _ _ _ h.q4
 ·rw [World.frozen?_setCell];exact h.f0
 ·rw [World.frozen?_setCell];exact h.f1
 ·rw [World.frozen?_setCell];exact h.f2
 ·rw [World.frozen?_setCell];exact h.f3
 ·rw [World.frozen?_setCell];exact h.f4
theorem aR (w:World) (c0 c1 c2 c3 c4:Value):aJ w.heap.size c0 c1 c2 c3 c4 (w.alloc (.cells #[c0,c1,c2,c3,c4] 25)):=by
 refine ⟨?_,?_,?_,?_,?_,?_,?_,?_,?_,?_,?_⟩<;>simp [go_sem]
structure EI (d:Nat) (k:Int) (c:Nat) (w:World) (b2:Nat) (rest a:ByteArray) (L:List T) (K:List ByteArray) (Lv Kv:Value) (xs:List Value) (sub:Nat->List kS) (wr:World):Prop where
 grow:qm (b2+1) (d+1) wr Lv Kv L K xs sub
 res:aJ w.heap.size (.int .i64 0) (.int .i64 0) (.string ⟨#[]⟩) (.slice none 0 0) (.slice none 0 0) wr
 box:aJ (w.heap.size+1) (.int .i64 k) (.int .i64 0) (.string ⟨#[]⟩) Lv Kv wr
 inn:Left b2 a wr
 out:Left c rest wr
 but:bq c w wr
 lc:c<w.heap.size
 lb:w.heap.size+1<b2
section
variable {d : Nat} {k : Int} {c : Nat} {w : World} {b2 : Nat} {rest a : ByteArray} {L : List T} {K : List ByteArray} {Lv Kv : Value} {xs : List Value} {sub : Nat -> List kS} {wr : World}
end
theorem UJ (c:Nat) (s:ByteArray) (i:Nat) (w:World) (h:PL c s i w) (hs:s.size<=4000) (hi:i<=s.size) :
  Calls Tryz.prog 179 #[.pointer (some ⟨c,0,none⟩),.int .u8 45] w fun e w'=>∃ b,e=.returned (.bool b)/\bq c w w'/\PL c s (fQ s i) w':=by
 by_cases h45:cB s i=45
 ·refine (gD c s i 45 w h hs (by omega) (by omega)).mono ?_;rintro e w' ⟨rfl,hB,hL⟩;refine ⟨_,rfl,hB,?_⟩;unfold fQ;rw [if_pos h45];exact hL
 ·refine (fM c s i 45 w h hi (by omega)).mono ?_;rintro e w' ⟨rfl,hB,hL⟩;refine ⟨_,rfl,hB,?_⟩;unfold fQ;rw [if_neg h45];exact hL
theorem UK (s:ByteArray) (k:Nat):oW (pk s k)=oW (cB s k):=by
 unfold pk;by_cases h:k<s.size
 ·rw [if_pos h]
 ·rw [if_neg h,vG (by omega)];rfl
theorem za (s:ByteArray) (k:Nat) (w:World):Calls Tryz.prog 184 #[.int .u8 (pk s k:Int)] w fun e w'=>e=.returned (.bool (oW (cB s k)))/\w'=w:=by
 refine (nR (pk s k) w).mono ?_;rintro e w' ⟨rfl,rfl⟩;exact ⟨aB (UK s k),rfl⟩
def YO (c:Nat) (s:ByteArray) (i:Nat) (w:World) (e:Ending) (w':World):Prop :=
 bq c w w'/\((∃ v j,rz s i=some (v,j)/\e=.returned (.int .i64 v)/\PL c s j w')\/(rz s i=none/\e=gN 2))
theorem Rn {s:ByteArray} {i:Nat} (h:fQ s i+1<dg s (fQ s i)) (h2:cB s (fQ s i)=48):rz s i=none:=by
 unfold rz;split
 ·rfl
 ·rw [if_pos ⟨h,h2⟩]
theorem Gq {s:ByteArray} {i j:Nat} (h:j<=s.size):(s.extract i j).size=j - i:=by rw [ByteArray.size_extract];omega
theorem UL {Tb:World->Prop} (hD:dK Tb) {x:ByteArray} {w:World} (hs:x.size<=4000) (hT:Tb w) {v:Int} (hv:Lib.parseIntB 64 x.data.toList=.ok v) :
  Calls Tryz.prog 226 #[.string x,.int .i64 10,.int .i64 64] w fun e w'=>e=.returned (.tuple #[.int .i64 v,.nilIface])/\Below w.heap.size w w':=by
 refine (hD x w hs hT).mono ?_;rintro e w' ⟨hb,⟨v',h1,rfl⟩ | ⟨h1,_⟩⟩
 ·rw [hv] at h1;cases h1;exact ⟨rfl,hb⟩
 ·rw [hv] at h1;rcases h1 with h1 | h1<;>cases h1
theorem PV {Tb:World->Prop} (hD:dK Tb) {x:ByteArray} {w:World} (hs:x.size<=4000) (hT:Tb w) (hv:Lib.parseIntB 64 x.data.toList=.«syntax»\/Lib.parseIntB 64 x.data.toList=.range) :
  Calls Tryz.prog 226 #[.string x,.int .i64 10,.int .i64 64] w fun e w'=>∃ (v:Int) (t:TypeId) (p:Value),e=.returned (.tuple #[.int .i64 v,.iface t p])/\Below w.heap.size w w':=by
 refine (hD x w hs hT).mono ?_;rintro e w' ⟨hb,⟨v',h1,_⟩ | ⟨_,v,t,p,rfl⟩⟩
 ·rw [h1] at hv;rcases hv with hv | hv<;>cases hv
 ·exact ⟨v,t,p,rfl,hb⟩
theorem YP {Tb:World->Prop} (hD:dK Tb) (c:Nat) (hS:dZ Tb c) (s:ByteArray) (i:Nat) (w:World) (h:PL c s i w) (hT:Tb w) (hs:s.size<=4000) (hd:cB s i=45\/oW (cB s i)=true) :
  Calls Tryz.prog 185 #[.pointer (some ⟨c,0,none⟩)] w (YO c s i w):=by
 have hc256:cB s i<256:=by
  rcases hd with h | h
  ·omega
  ·unfold oW at h;simp at h;omega
 have hlt:i<s.size:=d9 hc256;have hsg:i<=fQ s i/\fQ s i<=s.size:=by unfold fQ;split<;>omega
 have HL:=ak h;have HT:=ak hT;have HS:=ak hS;have HD:=ak hD;have Hd:=ak hd;have q1:=h.q1;have HA:=ak (UJ c s i w h hs (by omega));have hcl:=h.lt;clear h hT hS hD hd hc256;go_in;go_wp2_with fail;refine HA.out.mono ?_;rintro e w1 ⟨b,rfl,hB1,hL1⟩;have HB1:=ak hB1;have fK:=ak hL1;have r1:=hL1.q1;clear hB1 hL1 HA q1 HL;have Hdg:Hid (dg s (fQ s i)<=s.size/\fQ s i<=dg s (fQ s i)):=⟨Ut hsg.2,Us _ _⟩;have Hnp:=ak (MJ Hd.out);have Hnz:=ak (@Rn s i);generalize hd0:fQ s i=d at *;go_wp2_with fail;go_loopg [] (s.size - d) (fun g wr=>∃ k:Nat,g=s.size - k/\d<=k/\k<=s.size/\Hid (PL c s k wr)/\Hid (bq c w wr)/\Hid (dg s k=dg s d))
 case atStart=>exact ⟨d,rfl,Nat.le_refl _,hsg.2,fK,HB1,rfl⟩
 case round =>
  clear fK HB1 r1;obtain ⟨k,rfl,hk1,hk2,Dj,MR,HKk⟩:=hrel;go_wp2_with fail;refine (pG c s k wr Dj.out hk2).mono ?_;rintro e w2 ⟨rfl,hb2⟩;have HL2:=ak (Dj.out.keep hb2);have HB2:=ak (MR.out.trans (bq.of hb2));clear hb2 Dj MR;by_cases hdk:oW (cB s k)=true
  ·have hkl:k<s.size:=d9 (by unfold oW at hdk;simp at hdk;omega)
   have PD:Hid (dg s (k+1)=dg s d):=by
    show _=_;rw [<- HKk.out];unfold dg;rw [jw wz s k,if_pos hdk]
   have r1:=HL2.out.q1;have r2:=HL2.out.f1;go_wp2_with fail;refine (za s k w2).mono ?_;rintro e w3 ⟨rfl,rfl⟩;clear HKk;go_wp2_with fail;go_roundg (s.size - (k+1))
   case rel=>exact ⟨k+1,rfl,by omega,by omega,HL2.out.set (k+1),HB2.out.trans (bq.set _ c 1 _),PD⟩
   case measure=>omega
  ·have hdf:oW (cB s k)=false:=by simpa using hdk
   have PD:Hid (dg s d=k):=by
    show _=_;rw [<- HKk.out];unfold dg;rw [jw wz s k,if_neg hdk]
   have r0:=HL2.out.q0;have r1:=HL2.out.q1;rw [PD.out] at Hnp Hnz;clear hdk HKk;go_wp2_with fail;refine (za s k w2).mono ?_;rintro e w3 ⟨rfl,rfl⟩;have HT3:=ak (bq.stays HS.out HT.out HB2.out (Nat.le_of_lt hcl));have YQ:=ak (HS.out _ _ HT3.out ((au w3).mono (Nat.le_of_lt HL2.out.lt)));have abA:=ak (HL2.out.keep (au w3));have x1:(i:Int)<=(k:Int):=by omega
   have x2:(k:Int)<=(s.size:Int):=by omega
   have hxs:(s.extract i k).size<=4000:=by rw [Gq hk2];omega
   have Yn:Hid (∀ wx:World,Below w3.drew.heap.size w3.drew wx->wx.cell? ⟨c,0,none⟩=some (.string s)/\wx.cell? ⟨c,1,none⟩=some (.int .i64 k)):=by
    intro wx hx;have:=abA.out.keep hx;exact ⟨this.q0,this.q1⟩
   by_cases hz:d+1<k
   ·have hdl:d<s.size:=by omega
    obtain ⟨z,hzs,hzc⟩:=Bl hdl;have y1:decide ((d:Int)+1<(k:Int))=true:=decide_eq_true (by omega);have y0:(d:Int)<(s.size:Int):=by omega
    by_cases h48:cB s d=48
    ·have HZ:=ak (Hnz.out hz h48);have y2:((z.toNat:Int)==48)=true:=by rw [beq_iff_eq];omega
     clear hzc h48 Yn;go_wp2_with fail;exact ⟨rfl,HB2.out,Or.inr ⟨HZ.out,rfl⟩⟩
    ·have HP:=ak (Hnp.out (fun h=>h48 h.2));have y2:((z.toNat:Int)==48)=false:=by rw [beq_eq_false_iff_ne];omega
     clear hzc h48;rcases HP.out with ⟨v,hv,hn⟩ | ⟨hv,hn⟩
     ·have HZ:=ak hn;have TU:=ak (UL HD.out hxs YQ.out hv);clear hv hn HP;go_wp2_with fail;go_region_held (fun wx=>wx.cell? ⟨c,0,none⟩=some (.string s)/\wx.cell? ⟨c,1,none⟩=some (.int .i64 k)) (go_keep) ((go_at_call 226;refine TU.out.mono ?_;rintro e w4 ⟨rfl,hb4⟩;have hc4:=Yn.out _ hb4));have uI:=ak (abA.out.keep hb4);have bT:=ak (HB2.out.trans ((bq.of (au w3)).trans (bq.of hb4)));clear hb4 hc4;go_wp2_with fail;go_ret;exact ⟨bT.out,Or.inl ⟨_,_,HZ.out,rfl,uI.out⟩⟩
     ·have HZ:=ak hn;have TU:=ak (PV HD.out hxs YQ.out hv);clear hv hn HP;go_wp2_with fail;go_region_held (fun wx=>wx.cell? ⟨c,0,none⟩=some (.string s)/\wx.cell? ⟨c,1,none⟩=some (.int .i64 k)) (go_keep) ((go_at_call 226;refine TU.out.mono ?_;rintro e w4 ⟨v,tt,pp,rfl,hb4⟩;have hc4:=Yn.out _ hb4));have bT:=ak (HB2.out.trans ((bq.of (au w3)).trans (bq.of hb4)));clear hb4 hc4;go_wp2_with fail;exact ⟨rfl,bT.out,Or.inr ⟨HZ.out,rfl⟩⟩
   ·have HP:=ak (Hnp.out (fun h=>hz h.1));have y1:decide ((d:Int)+1<(k:Int))=false:=decide_eq_false (by omega);clear hz;rcases HP.out with ⟨v,hv,hn⟩ | ⟨hv,hn⟩
    ·have HZ:=ak hn;have TU:=ak (UL HD.out hxs YQ.out hv);clear hv hn HP;go_wp2_with fail;go_region_held (fun wx=>wx.cell? ⟨c,0,none⟩=some (.string s)/\wx.cell? ⟨c,1,none⟩=some (.int .i64 k)) (go_keep) ((go_at_call 226;refine TU.out.mono ?_;rintro e w4 ⟨rfl,hb4⟩;have hc4:=Yn.out _ hb4));have uI:=ak (abA.out.keep hb4);have bT:=ak (HB2.out.trans ((bq.of (au w3)).trans (bq.of hb4)));clear hb4 hc4;go_wp2_with fail;go_ret;exact ⟨bT.out,Or.inl ⟨_,_,HZ.out,rfl,uI.out⟩⟩
    ·have HZ:=ak hn;have TU:=ak (PV HD.out hxs YQ.out hv);clear hv hn HP;go_wp2_with fail;go_region_held (fun wx=>wx.cell? ⟨c,0,none⟩=some (.string s)/\wx.cell? ⟨c,1,none⟩=some (.int .i64 k)) (go_keep) ((go_at_call 226;refine TU.out.mono ?_;rintro e w4 ⟨v,tt,pp,rfl,hb4⟩;have hc4:=Yn.out _ hb4));have bT:=ak (HB2.out.trans ((bq.of (au w3)).trans (bq.of hb4)));clear hb4 hc4;go_wp2_with fail;exact ⟨rfl,bT.out,Or.inr ⟨HZ.out,rfl⟩⟩
theorem aaz:(Tryz.prog.info? 9).map (fun i=>(i.zero,i.size,i.bytes))=some (some (.string ⟨#[]⟩),1,16):=by kernel_rfl
theorem uT:(Tryz.prog.info? 25).map (fun i=>(i.zero,i.size,i.bytes))=some (some (.agg #[.int .i64 0,.int .i64 0,.string ⟨#[]⟩,.slice none 0 0,.slice none 0 0]),5,80):=by kernel_rfl
section
variable {d : Nat} {k : Int} {c : Nat} {w : World} {b2 : Nat} {rest a : ByteArray} {L : List T} {K : List ByteArray} {Lv Kv : Value} {xs : List Value} {sub : Nat -> List kS} {wr : World}
theorem Jz {w5:World} {v:Value} {g n cap:Nat} (o:Obj) (h:v.ownBlock=some g\/g=w5.heap.size+1):Bg (w5.alloc o) v (.slice (some ⟨g,0,none⟩) n cap):=by
 rcases h with h | h
 ·exact .inl h.symm
 ·refine .inr fun g' e=>?_;cases e;simp;omega
theorem bq.Bt {c:Nat} {w wr:World} (h:bq c w wr) {b:Nat} (hb:w.heap.size<=b) (o:Nat) (u:Value):bq c w (wr.setCell ⟨b,o,none⟩ u) :=
 ⟨h.os,h.tape,h.output,by simpa [World.setCell] using h.size,fun i hi hc=>(Below.heap_setCell _ _ _ _ (by simpa using (by omega:i≠b))).trans (h.block i hi hc)⟩
theorem wM {e:TypeId} {size n:Nat} {v:Value} {ys:List Value} (h:EI d k c w b2 rest a L K Lv Kv xs sub wr) {w2:World} (hG:wr.grownBy w2 v.ownBlock) (hO:wr.ownsRow (b2+1) e size v n ys):aJ (w.heap.size+1) (.int .i64 k) (.int .i64 0) (.string ⟨#[]⟩) Lv Kv w2:=by
 have h2:=h.lb;refine h.box.move hG.size (hG.block _ h.box.lt fun e=>?_);have:=(hO.lt _ e.symm).1;omega
end
end Go.Proofs.YtknakfpciccoaaaGreatDoor
