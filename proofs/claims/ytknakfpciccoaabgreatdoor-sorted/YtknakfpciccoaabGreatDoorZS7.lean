import Derived.Test.YtknakfpciccoaabGreatDoorZS6
import Derived.Test.YtknakfpciccoaabGreatDoorZS2
import Derived.Deep.RegionHeld
import Derived.Laws.IdiomStrings
import Derived.Shelf.Strconv.Clone
import Derived.Test.YtknakfpciccoaabGreatDoorProg
import Derived.Test.YtknakfpciccoaabGreatDoorZS1
import Derived.Test.YtknakfpciccoaabGreatDoorZS5
import Derived.Deep.RegionHeld3
import Derived.Deep.AppendLies
import Derived.Deep.LoopGhost
import Derived.Deep.RegionLaw
/- The walks of the program's parser: words, escapes, letters. -/
namespace Go.Proofs.YtknakfpciccoaabGreatDoor
open Go.RowKit
theorem prefix_any (s p:ByteArray) (w:World):Calls Tryz.prog 158 #[.string s,.string p] w fun e w'=>e=.returned (.bool (Lib.hasPrefix s.data.toList p.data.toList))∧w'=w:=Any.strings_HasPrefix Tryz.laysPrefix s p w
theorem prefix_is {s p:ByteArray} {b:Bool} (h:Hid (Lib.hasPrefix s.data.toList p.data.toList=b)) (w:World):Calls Tryz.prog 158 #[.string s,.string p] w fun e w'=>e=.returned (.bool b)∧w'=w:=by
 refine (prefix_any s p w).mono ?_
 rintro e w' ⟨rfl,rfl⟩
 exact ⟨ret_bool h.out,rfl⟩
set_option maxHeartbeats 1000000 in
set_option maxRecDepth 100000 in
theorem word_yes (c:Nat) (s:ByteArray) (i:Nat) (t:ByteArray) (w:World) (h:PL c s i w) (hs:s.size≤4000) (hp:pfx s i t=true) :
  Calls Tryz.prog 139 #[.pointer (some ⟨c,0,none⟩),.string t] w (AccPost c s true (i+t.size) w):=by
 have hle:=pfx_le hp
 have HL:=hid h
 have q0:=h.q0
 have q1:=h.q1
 have x1:(i:Int)≤(s.size:Int):=by omega
 have HQ:Hid (Lib.hasPrefix (s.extract i s.size).data.toList t.data.toList=true):=(pfx_list s i t (by omega)).trans hp
 clear h hp
 go_enter Tryz.func139,Tryz.ntmps139
 go_wp2_with fail
 go_quiet ((go_at_call 158;exact Calls.quiet_of_same (prefix_is HQ _)))
 have HB:=hid (below_drewN (Below.refl w.heap.size w) nq)
 generalize w.drewN nq=w1 at HB ⊢
 have HL1:=hid (HL.out.keep HB.out)
 have r1:=HL1.out.q1
 have r2:=HL1.out.f1
 clear q0 q1
 go_wp2_with fail
 go_ret
 exact ⟨rfl,(But.of HB.out).trans (But.set w1 c 1 _),HL1.out.set (i+t.size)⟩
set_option maxHeartbeats 1000000 in
set_option maxRecDepth 100000 in
theorem word_no (c:Nat) (s:ByteArray) (i:Nat) (t:ByteArray) (w:World) (h:PL c s i w) (hi:i≤s.size) (hp:pfx s i t=false) :
  Calls Tryz.prog 139 #[.pointer (some ⟨c,0,none⟩),.string t] w (AccPost c s false i w):=by
 have HL:=hid h
 have q0:=h.q0
 have q1:=h.q1
 have x1:(i:Int)≤(s.size:Int):=by omega
 have HQ:Hid (Lib.hasPrefix (s.extract i s.size).data.toList t.data.toList=false):=(pfx_list s i t (by omega)).trans hp
 clear h hp
 go_enter Tryz.func139,Tryz.ntmps139
 go_wp2_with fail
 go_quiet ((go_at_call 158;exact Calls.quiet_of_same (prefix_is HQ _)))
 have HB:=hid (below_drewN (Below.refl w.heap.size w) nq)
 generalize w.drewN nq=w1 at HB ⊢
 go_wp2_with fail
 go_ret
 exact ⟨rfl,But.of HB.out,HL.out.keep HB.out⟩
def RunePost (c:Nat) (s:ByteArray) (x:Option (Nat×Nat)) (w:World) (e:Ending) (w':World):Prop :=
 But c w w'∧((∃ r j,x=some (r,j)∧e=.returned (.int .i32 (r:Int))∧PL c s j w')∨(x=none∧e=refusedT 2))
set_option maxHeartbeats 1000000 in
set_option maxRecDepth 100000 in
theorem code_any (c:Nat) (s:ByteArray) (i:Nat) (w:World) (h:PL c s i w) (hs:s.size≤4000) (hi:i≤s.size) :
  Calls Tryz.prog 165 #[.pointer (some ⟨c,0,none⟩)] w (RunePost c s ((hex4 s i).bind fun a=>low s (i+4) a) w):=by
 have HF:=hid (four_any c s i w h hs hi)
 clear h
 go_enter Tryz.func165,Tryz.ntmps165
 go_wp2_with fail
 refine HF.out.mono ?_
 rintro e w1 ⟨hB1,⟨a,ha,rfl,hL1⟩ | ⟨ha,rfl⟩⟩
 ·have HB1:=hid hB1
  have HL1:=hid hL1
  have ha2:=(hexN_lt ha).1
  have ha3:i+4≤s.size:=(hexN_lt ha).2 (by omega)
  have HX:Hid (((hex4 s i).bind fun a=>low s (i+4) a)=low s (i+4) a):=by show _=_;rw [ha];rfl
  clear hB1 hL1 HF ha
  have ha4:a<65536:=ha2
  clear ha2
  by_cases h1:a<55296∨57343<a
  ·have HW:Hid (low s (i+4) a=some (a,i+4)):=by show _=_;unfold low;rw [if_pos h1]
   by_cases h2:a<55296
   ·have y1:decide ((a:Int)<55296)=true:=decide_eq_true (by omega)
    go_wp2_with fail
    go_ret
    exact ⟨HB1.out,Or.inl ⟨a,i+4,HX.out.trans HW.out,rfl,HL1.out⟩⟩
   ·have y1:decide ((a:Int)<55296)=false:=decide_eq_false (by omega)
    have y2:(57343:Int)<(a:Int):=by omega
    go_wp2_with fail
    go_ret
    exact ⟨HB1.out,Or.inl ⟨a,i+4,HX.out.trans HW.out,rfl,HL1.out⟩⟩
  ·have y1:decide ((a:Int)<55296)=false:=decide_eq_false (by omega)
   have y2:decide ((57343:Int)<(a:Int))=false:=decide_eq_false (by omega)
   by_cases h2:56319<a
   ·have HW:Hid (low s (i+4) a=none):=by show _=_;unfold low;rw [if_neg h1,if_pos h2]
    have y3:decide ((56319:Int)<(a:Int))=true:=decide_eq_true (by omega)
    clear h1 h2
    go_wp2_with fail
    exact ⟨rfl,HB1.out,Or.inr ⟨HX.out.trans HW.out,rfl⟩⟩
   ·have y3:decide ((56319:Int)<(a:Int))=false:=decide_eq_false (by omega)
    have HW:Hid (low s (i+4) a=if cB s (i+4)=92∧cB s (i+4+1)=117 then (hex4 s (i+4+2)).bind fun b=>if b<56320∨57343<b then none else some (65536+1024*(a - 55296)+(b - 56320),i+4+6) else none):=by show _=_;unfold low;rw [if_neg h1,if_neg h2]
    have H12:Hid (55296≤a∧a≤56319):=by show _∧_;omega
    clear h1 h2
    by_cases h3:cB s (i+4)=92
    ·have h3l:i+4<s.size:=cB_in (by omega)
     go_wp2_with fail
     refine (expect_yes c s (i+4) 92 w1 HL1.out hs (by omega) (by omega)).mono ?_
     rintro e w2 ⟨rfl,hB2,hL2⟩
     have HB2:=hid (HB1.out.trans hB2)
     have HL2:=hid hL2
     clear hB2 hL2 HB1 HL1
     by_cases h4:cB s (i+4+1)=117
     ·have h4l:i+4+1<s.size:=cB_in (by omega)
      go_wp2_with fail
      refine (expect_yes c s (i+4+1) 117 w2 HL2.out hs (by omega) (by omega)).mono ?_
      rintro e w3 ⟨rfl,hB3,hL3⟩
      have HB3:=hid (HB2.out.trans hB3)
      have HL3:=hid hL3
      clear hB3 hL3 HB2 HL2
      go_wp2_with fail
      refine (four_any c s (i+4+1+1) w3 HL3.out hs (by omega)).mono ?_
      rintro e w4 ⟨hB4,⟨b,hb,rfl,hL4⟩ | ⟨hb,rfl⟩⟩
      ·have HB4:=hid (HB3.out.trans hB4)
       have HL4:=hid hL4
       have hb2:b<65536:=(hexN_lt hb).1
       have HY:Hid (low s (i+4) a=if b<56320∨57343<b then none else some (65536+1024*(a - 55296)+(b - 56320),i+4+6)):=by show _=_;rw [HW.out,if_pos ⟨h3,h4⟩,hb];rfl
       clear hB4 hL4 HB3 HL3 hb HW
       by_cases h5:b<56320∨57343<b
       ·have HZ:Hid (low s (i+4) a=none):=by show _=_;rw [HY.out,if_pos h5]
        by_cases h6:b<56320
        ·have z1:decide ((b:Int)<56320)=true:=decide_eq_true (by omega)
         go_wp2_with fail
         exact ⟨rfl,HB4.out,Or.inr ⟨HX.out.trans HZ.out,rfl⟩⟩
        ·have z1:decide ((b:Int)<56320)=false:=decide_eq_false (by omega)
         have z2:(57343:Int)<(b:Int):=by omega
         go_wp2_with fail
         exact ⟨rfl,HB4.out,Or.inr ⟨HX.out.trans HZ.out,rfl⟩⟩
       ·have HZ:Hid (low s (i+4) a=some (65536+1024*(a - 55296)+(b - 56320),i+4+6)):=by show _=_;rw [HY.out,if_neg h5]
        have z1:decide ((b:Int)<56320)=false:=decide_eq_false (by omega)
        have z2:decide ((57343:Int)<(b:Int))=false:=decide_eq_false (by omega)
        go_wp2_with fail
        go_ret
        refine ⟨HB4.out,Or.inl ⟨_,_,HX.out.trans HZ.out,ret_int ?_,HL4.out⟩⟩
        have h12:=H12.out
        have hb12:56320≤b∧b≤57343:=by omega
        go_num
      ·have HB4:=hid (HB3.out.trans hB4)
       have HZ:Hid (low s (i+4) a=none):=by show _=_;rw [HW.out,if_pos ⟨h3,h4⟩,hb];rfl
       clear hB4 HB3 HL3 hb HW
       go_wp2_with fail
       exact ⟨rfl,HB4.out,Or.inr ⟨HX.out.trans HZ.out,rfl⟩⟩
     ·have HZ:Hid (low s (i+4) a=none):=by show _=_;rw [HW.out,if_neg (fun h=>h4 h.2)]
      go_wp2_with fail
      refine (expect_no c s (i+4+1) 117 w2 HL2.out hs (by omega) (by omega)).mono ?_
      rintro e w3 ⟨rfl,hB3⟩
      have HB3:=hid (HB2.out.trans hB3)
      clear hB3
      go_wp2_with fail
      exact ⟨rfl,HB3.out,Or.inr ⟨HX.out.trans HZ.out,rfl⟩⟩
    ·have HZ:Hid (low s (i+4) a=none):=by show _=_;rw [HW.out,if_neg (fun h=>h3 h.1)]
     go_wp2_with fail
     refine (expect_no c s (i+4) 92 w1 HL1.out hs (by omega) (by omega)).mono ?_
     rintro e w3 ⟨rfl,hB3⟩
     have HB3:=hid (HB1.out.trans hB3)
     clear hB3
     go_wp2_with fail
     exact ⟨rfl,HB3.out,Or.inr ⟨HX.out.trans HZ.out,rfl⟩⟩
 ·have HB1:=hid hB1
  have HX:Hid (((hex4 s i).bind fun a=>low s (i+4) a)=none):=by show _=_;rw [ha];rfl
  clear hB1 HF ha
  go_wp2_with fail
  exact ⟨rfl,HB1.out,Or.inr ⟨HX.out,rfl⟩⟩
end Go.Proofs.YtknakfpciccoaabGreatDoor
/- The walks of the program's parser: escapes, letters, texts. -/
namespace Go.Proofs.YtknakfpciccoaabGreatDoor
open Go.RowKit
set_option maxHeartbeats 2000000 in
set_option maxRecDepth 100000 in
theorem escape_any (c:Nat) (s:ByteArray) (i:Nat) (w:World) (h:PL c s i w) (hs:s.size≤4000) (hi:i≤s.size) :
  Calls Tryz.prog 154 #[.pointer (some ⟨c,0,none⟩)] w (RunePost c s (escR s i) w):=by
 have HN:=hid (next_any c s i w h hs hi)
 clear h
 go_enter Tryz.func154,Tryz.ntmps154
 go_wp2_with fail
 refine HN.out.mono ?_
 rintro e w1 ⟨hB1,⟨hlt,rfl,hL1⟩ | ⟨he,rfl⟩⟩
 ·have HB1:=hid hB1
  have HL1:=hid hL1
  have HE:Hid (escR s i=if cB s i=34∨cB s i=92∨cB s i=47 then some (cB s i,i+1) else if cB s i=98 then some (8,i+1) else if cB s i=102 then some (12,i+1) else if cB s i=110 then some (10,i+1) else if cB s i=114 then some (13,i+1) else if cB s i=116 then some (9,i+1) else if cB s i=117 then (hex4 s (i+1)).bind fun a=>low s (i+5) a else none):=by show _=_;rfl
  have hx:=cB_lt hlt
  clear hB1 hL1 HN
  generalize cB s i=x at HE hx ⊢
  by_cases h34:x=34
  ·subst h34
   have HZ:Hid (escR s i=some (34,i+1)):=by show _=_;rw [HE.out];rfl
   go_wp2_with fail
   go_ret
   exact ⟨HB1.out,Or.inl ⟨_,_,HZ.out,rfl,HL1.out⟩⟩
  have d34:((x:Int)==34)=false:=by rw [beq_eq_false_iff_ne];omega
  by_cases h92:x=92
  ·subst h92
   have HZ:Hid (escR s i=some (92,i+1)):=by show _=_;rw [HE.out];rfl
   go_wp2_with fail
   go_ret
   exact ⟨HB1.out,Or.inl ⟨_,_,HZ.out,rfl,HL1.out⟩⟩
  have d92:((x:Int)==92)=false:=by rw [beq_eq_false_iff_ne];omega
  by_cases h47:x=47
  ·subst h47
   have HZ:Hid (escR s i=some (47,i+1)):=by show _=_;rw [HE.out];rfl
   go_wp2_with fail
   go_ret
   exact ⟨HB1.out,Or.inl ⟨_,_,HZ.out,rfl,HL1.out⟩⟩
  have d47:((x:Int)==47)=false:=by rw [beq_eq_false_iff_ne];omega
  by_cases h98:x=98
  ·subst h98
   have HZ:Hid (escR s i=some (8,i+1)):=by show _=_;rw [HE.out];rfl
   go_wp2_with fail
   go_ret
   exact ⟨HB1.out,Or.inl ⟨_,_,HZ.out,rfl,HL1.out⟩⟩
  by_cases h102:x=102
  ·subst h102
   have HZ:Hid (escR s i=some (12,i+1)):=by show _=_;rw [HE.out];rfl
   go_wp2_with fail
   go_ret
   exact ⟨HB1.out,Or.inl ⟨_,_,HZ.out,rfl,HL1.out⟩⟩
  by_cases h110:x=110
  ·subst h110
   have HZ:Hid (escR s i=some (10,i+1)):=by show _=_;rw [HE.out];rfl
   go_wp2_with fail
   go_ret
   exact ⟨HB1.out,Or.inl ⟨_,_,HZ.out,rfl,HL1.out⟩⟩
  by_cases h114:x=114
  ·subst h114
   have HZ:Hid (escR s i=some (13,i+1)):=by show _=_;rw [HE.out];rfl
   go_wp2_with fail
   go_ret
   exact ⟨HB1.out,Or.inl ⟨_,_,HZ.out,rfl,HL1.out⟩⟩
  by_cases h116:x=116
  ·subst h116
   have HZ:Hid (escR s i=some (9,i+1)):=by show _=_;rw [HE.out];rfl
   go_wp2_with fail
   go_ret
   exact ⟨HB1.out,Or.inl ⟨_,_,HZ.out,rfl,HL1.out⟩⟩
  by_cases h117:x=117
  ·subst h117
   have HZ:Hid (escR s i=(hex4 s (i+1)).bind fun a=>low s (i+1+4) a):=by show _=_;rw [HE.out];rfl
   go_wp2_with fail
   refine (code_any c s (i+1) w1 HL1.out hs (by omega)).mono ?_
   rintro e w2 ⟨hB2,⟨r,j,hr,rfl,hL2⟩ | ⟨hr,rfl⟩⟩
   ·have HB2:=hid (HB1.out.trans hB2)
    have HL2:=hid hL2
    have HR:=hid hr
    clear hB2 hL2 hr
    go_wp2_with fail
    go_ret
    exact ⟨HB2.out,Or.inl ⟨_,_,HZ.out.trans HR.out,rfl,HL2.out⟩⟩
   ·have HB2:=hid (HB1.out.trans hB2)
    have HR:=hid hr
    clear hB2 hr
    go_wp2_with fail
    exact ⟨rfl,HB2.out,Or.inr ⟨HZ.out.trans HR.out,rfl⟩⟩
  have HZ:Hid (escR s i=none):=by show _=_;rw [HE.out,if_neg (by omega),if_neg h98,if_neg h102,if_neg h110,if_neg h114,if_neg h116,if_neg h117]
  go_wp2_with fail
  exact ⟨rfl,HB1.out,Or.inr ⟨HZ.out,rfl⟩⟩
 ·have HB1:=hid hB1
  have HZ:Hid (escR s i=none):=by
   show _=_
   have:cB s i=256:=cB_end (by omega)
   unfold escR
   rw [this]
   rfl
  clear hB1 HN he
  go_wp2_with fail
  exact ⟨rfl,HB1.out,Or.inr ⟨HZ.out,rfl⟩⟩
def DecSaid (Tb:World→Prop):Prop:=∀ (s:ByteArray) (w:World),Tb w→Calls Tryz.prog 155 #[.string s] w fun e w'=>e=.returned (.tuple #[.int .i32 ((decG s).1:Int),.int .i64 ((decG s).2:Int)])∧Below w.heap.size w w'
def IntSaid (Tb:World→Prop):Prop:=∀ (s:ByteArray) (w:World),s.size≤4000→Tb w→Calls Tryz.prog 138 #[.string s,.int .i64 10,.int .i64 64] w fun e w'=>Below w.heap.size w w' ∧
 ((∃ v:Int,Lib.parseIntB 64 s.data.toList=.ok v∧e=.returned (.tuple #[.int .i64 v,.nilIface]))∨((Lib.parseIntB 64 s.data.toList=.«syntax»∨Lib.parseIntB 64 s.data.toList=.range)∧∃ (v:Int) (t:TypeId) (p:Value),e=.returned (.tuple #[.int .i64 v,.iface t p])))
theorem But.stays {Tb:World→Prop} {c:Nat} (hS:Stays Tb c) {w w':World} (hT:Tb w) (hB:But c w w') (hc:c≤w.heap.size):Tb w':=hS w w' hT (hB.below hc)
set_option maxHeartbeats 2000000 in
set_option maxRecDepth 100000 in
theorem letter_any {Tb:World→Prop} (hD:DecSaid Tb) (c:Nat) (hS:Stays Tb c) (s:ByteArray) (i:Nat) (w:World) (h:PL c s i w) (hT:Tb w) (hs:s.size≤4000) (hi:i≤s.size) :
  Calls Tryz.prog 135 #[.pointer (some ⟨c,0,none⟩)] w (RunePost c s (letS s i) w):=by
 have HL:=hid h
 have HT:=hid hT
 have HS:=hid hS
 have HD:=hid hD
 clear h hT hS hD
 by_cases h92:cB s i=92
 ·have hlt:i<s.size:=cB_in (by omega)
  have HA:=hid (accept_yes c s i 92 w HL.out hs (by omega) (by omega))
  have HX:Hid (letS s i=escR s (i+1)):=by show _=_;unfold letS;rw [if_pos h92]
  clear h92
  go_enter Tryz.func135,Tryz.ntmps135
  go_wp2_with fail
  refine HA.out.mono ?_
  rintro e w1 ⟨rfl,hB1,hL1⟩
  have HB1:=hid hB1
  have HL1:=hid hL1
  clear hB1 hL1 HA
  go_wp2_with fail
  refine (escape_any c s (i+1) w1 HL1.out hs (by omega)).mono ?_
  rintro e w2 ⟨hB2,⟨r,j,hr,rfl,hL2⟩ | ⟨hr,rfl⟩⟩
  ·have HB2:=hid (HB1.out.trans hB2)
   have HL2:=hid hL2
   have HR:=hid (HX.out.trans hr)
   clear hB2 hL2 hr
   go_wp2_with fail
   go_ret
   exact ⟨HB2.out,Or.inl ⟨_,_,HR.out,rfl,HL2.out⟩⟩
  ·have HB2:=hid (HB1.out.trans hB2)
   have HR:=hid (HX.out.trans hr)
   clear hB2 hr
   go_wp2_with fail
   exact ⟨rfl,HB2.out,Or.inr ⟨HR.out,rfl⟩⟩
 ·have HA:=hid (accept_no c s i 92 w HL.out hi (by omega))
  have HX:Hid (letS s i=if (decG (suf s i)).1<32∨((decG (suf s i)).1=65533∧(decG (suf s i)).2≤1) then none else some ((decG (suf s i)).1,i+(decG (suf s i)).2)):=by show _=_;unfold letS;rw [if_neg h92]
  have hdr:(decG (suf s i)).2≤4000∧(decG (suf s i)).1≤1114111:=by
   have hz:=suf_size s i
   by_cases h0:(suf s i).size=0
   ·rw [decG_nil h0];omega
   ·have:=decode_range (suf s i) (by omega)
    rw [decG_eq (by omega)]
    omega
  clear h92
  go_enter Tryz.func135,Tryz.ntmps135
  go_wp2_with fail
  refine HA.out.mono ?_
  rintro e w1 ⟨rfl,hB1,hL1⟩
  have HB1:=hid hB1
  have HL1:=hid hL1
  have HT1:=hid (But.stays HS.out HT.out hB1 (Nat.le_of_lt HL.out.lt))
  have HT1d:=hid (HS.out _ _ HT1.out (below_drew w1 |>.mono (Nat.le_of_lt HL1.out.lt)))
  have HL1d:=hid (HL1.out.keep (below_drew w1))
  have q0:=HL1.out.q0
  have q1:=HL1.out.q1
  have x1:(i:Int)≤(s.size:Int):=by omega
  clear hB1 hL1 HA
  have HDD:Hid (Calls Tryz.prog 155 #[.string (s.extract i s.size)] w1.drew fun e w'=>e=.returned (.tuple #[.int .i32 ((decG (suf s i)).1:Int),.int .i64 ((decG (suf s i)).2:Int)])∧Below w1.drew.heap.size w1.drew w'):=HD.out _ _ HT1d.out
  have HSS:Hid (∀ wx:World,Below w1.drew.heap.size w1.drew wx→wx.cell? ⟨c,0,none⟩=some (.string s)∧wx.cell? ⟨c,1,none⟩=some (.int .i64 i)):=by
   intro wx hx
   have:=HL1d.out.keep hx
   exact ⟨this.q0,this.q1⟩
  generalize (decG (suf s i)).1=r at HX hdr HDD
  generalize (decG (suf s i)).2=n at HX hdr HDD
  obtain ⟨hd1,hd2⟩:=hdr
  go_wp2_with fail
  go_region_held (fun wx=>wx.cell? ⟨c,0,none⟩=some (.string s)∧wx.cell? ⟨c,1,none⟩=some (.int .i64 i)) (go_keep) ((go_at_call 155;refine HDD.out.mono ?_;rintro e w2 ⟨rfl,hb2⟩;have hc2:=HSS.out _ hb2))
  have HL2:=hid (HL1d.out.keep hb2)
  have HB2:=hid (HB1.out.trans ((But.of (below_drew w1)).trans (But.of hb2)))
  have r1:=HL2.out.q1
  have r2:=HL2.out.f1
  clear hb2 hc2 q0 q1 HDD HSS HL1d HT1d
  by_cases h1:r<32
  ·have HZ:Hid (letS s i=none):=by show _=_;rw [HX.out,if_pos (Or.inl h1)]
   have y1:decide ((r:Int)<32)=true:=decide_eq_true (by omega)
   clear h1
   go_wp2_with fail
   exact ⟨rfl,HB2.out,Or.inr ⟨HZ.out,rfl⟩⟩
  ·have y1:decide ((r:Int)<32)=false:=decide_eq_false (by omega)
   by_cases h2:r=65533
   ·have y2:((r:Int)==65533)=true:=by rw [beq_iff_eq];omega
    by_cases h3:n≤1
    ·have HZ:Hid (letS s i=none):=by show _=_;rw [HX.out,if_pos (Or.inr ⟨h2,h3⟩)]
     have y3:decide ((n:Int)≤1)=true:=decide_eq_true (by omega)
     clear h1 h2 h3
     go_wp2_with fail
     exact ⟨rfl,HB2.out,Or.inr ⟨HZ.out,rfl⟩⟩
    ·have HZ:Hid (letS s i=some (r,i+n)):=by show _=_;rw [HX.out,if_neg (by omega)]
     have y3:decide ((n:Int)≤1)=false:=decide_eq_false (by omega)
     clear h1 h2 h3
     go_wp2_with fail
     go_ret
     exact ⟨HB2.out.trans (But.set w2 c 1 _),Or.inl ⟨_,_,HZ.out,rfl,HL2.out.set (i+n)⟩⟩
   ·have HZ:Hid (letS s i=some (r,i+n)):=by show _=_;rw [HX.out,if_neg (by omega)]
    have y2:((r:Int)==65533)=false:=by rw [beq_eq_false_iff_ne];omega
    clear h1 h2
    go_wp2_with fail
    go_ret
    exact ⟨HB2.out.trans (But.set w2 c 1 _),Or.inl ⟨_,_,HZ.out,rfl,HL2.out.set (i+n)⟩⟩
end Go.Proofs.YtknakfpciccoaabGreatDoor
/- The walks of the program's parser: texts, numbers, words. -/
namespace Go.Proofs.YtknakfpciccoaabGreatDoor
open Go.RowKit
theorem rowF_move {w w':World} {lo:Nat} {e:TypeId} {size n:Nat} {v:Value} {xs:List Value} (h:w.ownsRowF lo e size v n xs) (hb:∀ b,lo≤b→b<w.heap.size→w'.heap[b]?=w.heap[b]?):w'.ownsRowF lo e size v n xs:=by
 refine ⟨h.1,?_⟩
 rcases h.2 with hn | ⟨g,cap,cur,fz,rfl,hb0,hg,rest⟩
 ·exact .inl hn
 ·exact .inr ⟨g,cap,cur,fz,rfl,hb0,(hb g hb0 (Array.getElem?_eq_some_iff.1 hg).1).trans hg,rest⟩
theorem builderAt_but {T e:TypeId} {B b c:Nat} {p:Value} {bs:List Value} {w w':World} (h:Lib.BuilderAtF T e B b p bs w) (hB:But c w w') (hc:c<B):Lib.BuilderAtF T e B b p bs w':=by
 have hlt:=h.lt
 obtain ⟨h0,v,hb,hown,hne⟩:=h
 exact ⟨h0,v,(hB.block b hlt (by omega)).trans hb,rowF_move hown (fun k h1 h2=>hB.block k h2 (by omega)),hne⟩
theorem builder_but {T e:TypeId} {B b c:Nat} {bs:List Value} {w w':World} (h:Lib.IsBuilderF T e B b bs w) (hB:But c w w') (hc:c<B):Lib.IsBuilderF T e B b bs w' :=
 h.elim (fun x=>.inl (builderAt_but x hB hc)) (fun x=>.inr (builderAt_but x hB hc))
theorem But.over {c:Nat} {w1 wr w':World} (h:But c w1 wr) (hb:Below w1.heap.size wr w'):But c w1 w' :=
 ⟨hb.os.trans h.os,hb.tape.trans h.tape,hb.output.trans h.output,Nat.le_trans h.size hb.size,fun i hi hc=>(hb.block i hi).trans (h.block i hi hc)⟩
theorem writeRune_any (B b:Nat) (acc:List UInt8) (r:Nat) (w:World) (hr:r≤1114111) (h:Lib.IsBuilderF 108 5 B b (Lib.byteCells acc) w) (hl:acc.length≤1000000) (hB:B≤w.heap.size) :
  Calls Tryz.prog 134 #[.pointer (some ⟨b,0,none⟩),.int .i32 (r:Int)] w fun e w'=>e=.returned (.tuple #[.int .i64 (Lib.runeCells (r:Int)).length,.nilIface])∧Lib.IsBuilderF 108 5 B b (Lib.byteCells (acc++Lib.encodeRune (r:Int))) w'∧Below B w w':=by
 refine (Any.Builder_WriteRune_k Tryz.laysWriteRune Tryz.extraWriteRune B b (Lib.byteCells acc) (r:Int) (by omega) (by omega) w h (by rw [Lib.byteCells_length];omega) hB).mono ?_
 rintro e w' ⟨rfl,h1,b1,_⟩
 refine ⟨rfl,Or.inr ?_,b1⟩
 rw [Lib.byteCells_append,Lib.byteCells_encodeRune]
 exact h1
theorem string_any (B b:Nat) (acc:List UInt8) (w:World) (h:Lib.IsBuilderF 108 5 B b (Lib.byteCells acc) w) (hB:B≤w.heap.size) :
  Calls Tryz.prog 66 #[.pointer (some ⟨b,0,none⟩)] w fun e w'=>e=.returned (.string (baL acc))∧Below B w w':=by
 refine (Any.Builder_String_any_k Tryz.laysString Tryz.extraString B b acc w h hB).mono ?_
 rintro e w' ⟨rfl,_,b1,_⟩
 exact ⟨rfl,b1⟩
def StrPost (c:Nat) (s:ByteArray) (i:Nat) (w:World) (e:Ending) (w':World):Prop :=
 But c w w'∧((∃ x j,txtS s i=some (x,j)∧e=.returned (.string x)∧PL c s j w')∨(txtS s i=none∧e=refusedT 2))
theorem txtS_of {s:ByteArray} {i:Nat} (h:cB s i=34):txtS s i=(txtN s (s.size+1) (i+1)).map fun p=>(baL p.1,p.2):=by unfold txtS;rw [if_pos h]
theorem txtS_not {s:ByteArray} {i:Nat} (h:cB s i≠34):txtS s i=none:=by unfold txtS;rw [if_neg h]
set_option maxHeartbeats 2000000 in
set_option maxRecDepth 100000 in
theorem str_any {Tb:World→Prop} (hD:DecSaid Tb) (c:Nat) (hS:Stays Tb c) (s:ByteArray) (i:Nat) (w:World) (h:PL c s i w) (hT:Tb w) (hs:s.size≤4000) (hi:i≤s.size) :
  Calls Tryz.prog 108 #[.pointer (some ⟨c,0,none⟩)] w (StrPost c s i w):=by
 have HL:=hid h
 have HT:=hid hT
 have HS:=hid hS
 have HD:=hid hD
 clear h hT hS hD
 by_cases h34:cB s i=34
 ·have hlt:i<s.size:=cB_in (by omega)
  have HA:=hid (expect_yes c s i 34 w HL.out hs (by omega) (by omega))
  have HX:=hid (txtS_of h34)
  clear h34
  go_enter Tryz.func108,Tryz.ntmps108
  go_wp2_with fail
  refine HA.out.mono ?_
  rintro e w1 ⟨rfl,hB1,hL1⟩
  have HB1:=hid hB1
  have HL1:=hid hL1
  have hc1:=hL1.lt
  have HT1:=hid (But.stays HS.out HT.out hB1 (Nat.le_of_lt HL.out.lt))
  clear hB1 hL1 HA
  have HF:Hid (Lib.IsBuilderF 108 5 w1.heap.size w1.heap.size (Lib.byteCells []) (w1.alloc (.cells #[.pointer none,.slice none 0 0] 108))):=Lib.IsBuilderF.of (Lib.fresh_isBuilder 108 5 w1)
  have HBa:Hid (But c w1 (w1.alloc (.cells #[.pointer none,.slice none 0 0] 108))):=But.of ((Below.refl _ _).alloc (Nat.le_refl _) _)
  have HLa:=hid (HL1.out.keep ((Below.refl _ _).alloc (Nat.le_refl _) (.cells #[.pointer none,.slice none 0 0] 108)))
  go_wp2_with fail
  go_loopg [] (s.size - (i+1)) (fun g wr=>∃ (k n:Nat) (acc:List UInt8),g=s.size - k∧k≤s.size∧s.size+1≤n+k∧acc.length≤4*k∧Hid (PL c s k wr)∧Hid (Lib.IsBuilderF 108 5 w1.heap.size w1.heap.size (Lib.byteCells acc) wr)∧Hid (But c w1 wr)∧Hid (txtN s (s.size+1) (i+1)=(txtN s n k).map fun p=>(acc++p.1,p.2)))
  case atStart=>exact ⟨i+1,s.size+1,[],rfl,by omega,by omega,by simp,HLa,HF,HBa,by show _=_;cases txtN s (s.size+1) (i+1)<;>rfl⟩
  case round =>
   clear HF HBa HLa
   obtain ⟨k,n,acc,rfl,hk,hn,hacc,HLk,HF,HBk,HN⟩:=hrel
   obtain ⟨n,rfl⟩:∃ m,n=m+1:=⟨n - 1,by omega⟩
   by_cases hq:cB s k=34
   ·have HZ:Hid (txtS s i=some (baL acc,k+1)):=by
     show _=_
     rw [HX.out,HN.out,txtN_quote hq]
     simp
    go_wp2_with fail
    refine (accept_yes c s k 34 wr HLk.out hs (by omega) (by omega)).mono ?_
    rintro e w2 ⟨rfl,hB2,hL2⟩
    have HL2:=hid hL2
    have HF2:=hid (builder_but HF.out hB2 hc1)
    have HB2:=hid (HBk.out.trans hB2)
    clear hB2 hL2 HLk HF HBk
    go_wp2_with fail
    refine (string_any w1.heap.size w1.heap.size acc w2 HF2.out HB2.out.size).mono ?_
    rintro e w3 ⟨rfl,hb3⟩
    have HB3:=hid (HB2.out.over hb3)
    have HL3:=hid (HL2.out.move hb3.size (hb3.block _ hc1))
    clear hb3
    go_wp2_with fail
    go_ret
    exact ⟨HB1.out.trans HB3.out,Or.inl ⟨_,_,HZ.out,rfl,HL3.out⟩⟩
   ·go_wp2_with fail
    refine (accept_no c s k 34 wr HLk.out hk (by omega)).mono ?_
    rintro e w2 ⟨rfl,hB2,hL2⟩
    have HL2:=hid hL2
    have HF2:=hid (builder_but HF.out hB2 hc1)
    have HB2:=hid (HBk.out.trans hB2)
    have HT2:=hid (But.stays HS.out HT1.out HB2.out (Nat.le_of_lt hc1))
    clear hB2 hL2 HLk HF HBk
    go_wp2_with fail
    refine (letter_any HD.out c HS.out s k w2 HL2.out HT2.out hs hk).mono ?_
    rintro e w3 ⟨hB3,⟨r,j,hr,rfl,hL3⟩ | ⟨hr,rfl⟩⟩
    ·have HL3:=hid hL3
     have HF3:=hid (builder_but HF2.out hB3 hc1)
     have HB3:=hid (HB2.out.trans hB3)
     have hadv:=letS_adv hr
     have HN3:=hid (HN.out.trans (txtN_let (n:=n) acc hq hr))
     have hl4:=Lib.runeCells_le (r:Int)
     rw [Lib.runeCells_length] at hl4
     clear hB3 hL3 hr HL2 HF2 HB2 HT2 HN
     go_wp2_with fail
     refine (writeRune_any w1.heap.size w1.heap.size acc r w3 hadv.2.2 HF3.out (by omega) HB3.out.size).mono ?_
     rintro e w4 ⟨rfl,hF4,hb4⟩
     have HL4:=hid (HL3.out.move hb4.size (hb4.block _ hc1))
     have HB4:=hid (HB3.out.over hb4)
     have HF4:=hid hF4
     clear hb4 hF4 HL3 HB3 HF3
     go_wp2_with fail
     go_roundg (s.size - j)
     case rel=>exact ⟨j,n,acc++Lib.encodeRune (r:Int),rfl,by omega,by omega,by rw [List.length_append];omega,HL4,HF4,HB4,HN3⟩
     case measure=>omega
    ·have HB3:=hid (HB1.out.trans (HB2.out.trans hB3))
     have HZ:Hid (txtS s i=none):=by
      show _=_
      rw [HX.out,HN.out,txtN_none hq hr]
      rfl
     clear hB3 hr
     go_wp2_with fail
     exact ⟨rfl,HB3.out,Or.inr ⟨HZ.out,rfl⟩⟩
 ·have HA:=hid (expect_no c s i 34 w HL.out hs hi (by omega))
  have HX:=hid (txtS_not h34)
  clear h34
  go_enter Tryz.func108,Tryz.ntmps108
  go_wp2_with fail
  refine HA.out.mono ?_
  rintro e w1 ⟨rfl,hB1⟩
  have HB1:=hid hB1
  clear hB1 HA
  go_wp2_with fail
  exact ⟨rfl,HB1.out,Or.inr ⟨HX.out,rfl⟩⟩
end Go.Proofs.YtknakfpciccoaabGreatDoor
/- The contract of strings.Clone, of the library's shelf, laid at this dump. -/
namespace Go.Proofs
open Go.Shelf Go.RowKit
def Tryz.laysClone_ren:Go.Shelf.Ren:=⟨fun | 316=>57 | n=>n,fun | 37=>98 | 127=>129 | n=>n,fun n=>n⟩
theorem Tryz.laysClone:Go.Proofs.LaysM.n316 Tryz.prog Tryz.laysClone_ren:={
 mixed:=by kernel_rfl
 f316:=Tryz.func57.trans (congrArg some (by kernel_rfl))
 t0:=Tryz.underlying0
 a0:=Tryz.isAgg0
 z0:=Tryz.sizeOf0
 v0:=Tryz.zeroValue0
 t3:=Tryz.underlying3
 a3:=Tryz.isAgg3
 z3:=Tryz.sizeOf3
 v3:=Tryz.zeroValue3
 t4:=Tryz.underlying4
 a4:=Tryz.isAgg4
 z4:=Tryz.sizeOf4
 v4:=Tryz.zeroValue4
 t9:=Tryz.underlying9
 a9:=Tryz.isAgg9
 z9:=Tryz.sizeOf9
 v9:=Tryz.zeroValue9
 t37:=Tryz.underlying98
 a37:=Tryz.isAgg98
 z37:=Tryz.sizeOf98
 v37:=Tryz.zeroValue98
 t127:=Tryz.underlying129
 a127:=Tryz.isAgg129
 z127:=Tryz.sizeOf129
 v127:=Tryz.zeroValue129
 t5:=Tryz.underlying5
 a5:=Tryz.isAgg5
 z5:=Tryz.sizeOf5
 v5:=Tryz.zeroValue5
 i0:=by kernel_rfl
 i3:=by kernel_rfl
 i4:=by kernel_rfl
 i5:=by kernel_rfl
 i9:=by kernel_rfl
 i37:=by kernel_rfl
 i127:=by kernel_rfl }
end Go.Proofs
namespace Go.Proofs.YtknakfpciccoaabGreatDoor
open Go.RowKit
set_option maxHeartbeats 1000000 in
set_option maxRecDepth 100000 in
theorem clone_any (s:ByteArray) (w:World) (hs:s.size≤140737488355328) :
  Calls Tryz.prog 36 #[.string s] w fun e w'=>e=.returned (.string s)∧Below w.heap.size w w':=by
 have HC:Hid (Calls Tryz.prog 57 #[.string s] w fun e w'=>e=.returned (.string s)∧Below w.heap.size w w'):=Any.stringslite_Clone Tryz.laysClone s w (by omega)
 go_enter Tryz.func36,Tryz.ntmps36
 go_wp2_with (go_at_call 57;refine HC.out.mono ?_;rintro e w2 ⟨rfl,hb⟩)
 go_ret
 exact ⟨rfl,hb⟩
end Go.Proofs.YtknakfpciccoaabGreatDoor
/- The walks of the program's reader: take, number, text. -/
namespace Go.Proofs.YtknakfpciccoaabGreatDoor
open Go.RowKit
abbrev refused (n:Int):Ending:=.panicked [{ v:=.iface 88 (.int .i64 n),recovered:=false }]
structure Left (c:Nat) (s:ByteArray) (w:World):Prop where
 cell:w.cell? ⟨c,0,none⟩=some (.string s)
 free:w.frozen? ⟨c,0,none⟩=false
 lt:c<w.heap.size
end Go.Proofs.YtknakfpciccoaabGreatDoor
/- The walk of the program's reader: entries. -/
namespace Go.Proofs.YtknakfpciccoaabGreatDoor
open Go.RowKit
structure BoxAt (b:Nat) (c0 c1 c2 c3 c4:Value) (w:World):Prop where
 q0:w.cell? ⟨b,0,none⟩=some c0
 q1:w.cell? ⟨b,1,none⟩=some c1
 q2:w.cell? ⟨b,2,none⟩=some c2
 q3:w.cell? ⟨b,3,none⟩=some c3
 q4:w.cell? ⟨b,4,none⟩=some c4
 f0:w.frozen? ⟨b,0,none⟩=false
 f1:w.frozen? ⟨b,1,none⟩=false
 f2:w.frozen? ⟨b,2,none⟩=false
 f3:w.frozen? ⟨b,3,none⟩=false
 f4:w.frozen? ⟨b,4,none⟩=false
 lt:b<w.heap.size
theorem BoxAt.move {b : Nat} {c0 c1 c2 c3 c4 : Value} {w w' : World} (h : BoxAt b c0 c1 c2 c3 c4 w) (hs : w.heap.size ≤ w'.heap.size) (hb : w'.heap[b]? = w.heap[b]?) : BoxAt b c0 c1 c2 c3 c4 w' :=
  ⟨(cell_of hb _).trans h.q0, (cell_of hb _).trans h.q1, (cell_of hb _).trans h.q2, (cell_of hb _).trans h.q3, (cell_of hb _).trans h.q4,
   (World.frozen?_of_block (w := w) (a := ⟨b, _, none⟩) hb).trans h.f0, (World.frozen?_of_block (w := w) (a := ⟨b, _, none⟩) hb).trans h.f1, (World.frozen?_of_block (w := w) (a := ⟨b, _, none⟩) hb).trans h.f2, (World.frozen?_of_block (w := w) (a := ⟨b, _, none⟩) hb).trans h.f3, (World.frozen?_of_block (w := w) (a := ⟨b, _, none⟩) hb).trans h.f4, Nat.lt_of_lt_of_le h.lt hs⟩
theorem BoxAt.put3 {b:Nat} {c0 c1 c2 c3 c4:Value} {w:World} (h:BoxAt b c0 c1 c2 c3 c4 w) (u:Value):BoxAt b c0 c1 c2 u c4 (w.setCell ⟨b,3,none⟩ u):=by
 refine ⟨?_,?_,?_,?_,?_,?_,?_,?_,?_,?_,by simp [World.setCell];exact h.lt⟩
 ·rw [set_other (by omega)];exact h.q0
 ·rw [set_other (by omega)];exact h.q1
 ·rw [set_other (by omega)];exact h.q2
 ·exact World.cell?_setCell_same _ _ _ h.q3
 ·rw [set_other (by omega)];exact h.q4
 ·rw [World.frozen?_setCell];exact h.f0
 ·rw [World.frozen?_setCell];exact h.f1
 ·rw [World.frozen?_setCell];exact h.f2
 ·rw [World.frozen?_setCell];exact h.f3
 ·rw [World.frozen?_setCell];exact h.f4
theorem BoxAt.put4 {b:Nat} {c0 c1 c2 c3 c4:Value} {w:World} (h:BoxAt b c0 c1 c2 c3 c4 w) (u:Value):BoxAt b c0 c1 c2 c3 u (w.setCell ⟨b,4,none⟩ u):=by
 refine ⟨?_,?_,?_,?_,?_,?_,?_,?_,?_,?_,by simp [World.setCell];exact h.lt⟩
 ·rw [set_other (by omega)];exact h.q0
 ·rw [set_other (by omega)];exact h.q1
 ·rw [set_other (by omega)];exact h.q2
 ·rw [set_other (by omega)];exact h.q3
 ·exact World.cell?_setCell_same _ _ _ h.q4
 ·rw [World.frozen?_setCell];exact h.f0
 ·rw [World.frozen?_setCell];exact h.f1
 ·rw [World.frozen?_setCell];exact h.f2
 ·rw [World.frozen?_setCell];exact h.f3
 ·rw [World.frozen?_setCell];exact h.f4
theorem box_new (w:World) (c0 c1 c2 c3 c4:Value):BoxAt w.heap.size c0 c1 c2 c3 c4 (w.alloc (.cells #[c0,c1,c2,c3,c4] 36)):=by
 refine ⟨?_,?_,?_,?_,?_,?_,?_,?_,?_,?_,?_⟩<;>simp [go_sem]
structure EI (d:Nat) (k:Int) (c:Nat) (w:World) (b2:Nat) (rest a:ByteArray) (L:List T) (K:List ByteArray) (Lv Kv:Value) (xs:List Value) (sub:Nat→List Ent) (wr:World):Prop where
 grow:Grow (b2+1) (d+1) wr Lv Kv L K xs sub
 res:BoxAt w.heap.size (.int .i64 0) (.int .i64 0) (.string ⟨#[]⟩) (.slice none 0 0) (.slice none 0 0) wr
 box:BoxAt (w.heap.size+1) (.int .i64 k) (.int .i64 0) (.string ⟨#[]⟩) Lv Kv wr
 inn:Left b2 a wr
 out:Left c rest wr
 but:But c w wr
 lc:c<w.heap.size
 lb:w.heap.size+1<b2
section
variable {d : Nat} {k : Int} {c : Nat} {w : World} {b2 : Nat} {rest a : ByteArray} {L : List T} {K : List ByteArray} {Lv Kv : Value} {xs : List Value} {sub : Nat → List Ent} {wr : World}
end
end Go.Proofs.YtknakfpciccoaabGreatDoor
/- The walks of the program's parser: numbers, words. -/
namespace Go.Proofs.YtknakfpciccoaabGreatDoor
open Go.RowKit
theorem sign_any (c:Nat) (s:ByteArray) (i:Nat) (w:World) (h:PL c s i w) (hs:s.size≤4000) (hi:i≤s.size) :
  Calls Tryz.prog 106 #[.pointer (some ⟨c,0,none⟩),.int .u8 45] w fun e w'=>∃ b,e=.returned (.bool b)∧But c w w'∧PL c s (sgn s i) w':=by
 by_cases h45:cB s i=45
 ·refine (accept_yes c s i 45 w h hs (by omega) (by omega)).mono ?_
  rintro e w' ⟨rfl,hB,hL⟩
  refine ⟨_,rfl,hB,?_⟩
  unfold sgn
  rw [if_pos h45]
  exact hL
 ·refine (accept_no c s i 45 w h hi (by omega)).mono ?_
  rintro e w' ⟨rfl,hB,hL⟩
  refine ⟨_,rfl,hB,?_⟩
  unfold sgn
  rw [if_neg h45]
  exact hL
theorem isD_pk (s:ByteArray) (k:Nat):isD (pk s k)=isD (cB s k):=by
 unfold pk
 by_cases h:k<s.size
 ·rw [if_pos h]
 ·rw [if_neg h,cB_end (by omega)]
  rfl
theorem digitAt_any (s:ByteArray) (k:Nat) (w:World):Calls Tryz.prog 111 #[.int .u8 (pk s k:Int)] w fun e w'=>e=.returned (.bool (isD (cB s k)))∧w'=w:=by
 refine (isDigit_nat (pk s k) w).mono ?_
 rintro e w' ⟨rfl,rfl⟩
 exact ⟨ret_bool (isD_pk s k),rfl⟩
def IntPost (c:Nat) (s:ByteArray) (i:Nat) (w:World) (e:Ending) (w':World):Prop :=
 But c w w'∧((∃ v j,numS s i=some (v,j)∧e=.returned (.int .i64 v)∧PL c s j w')∨(numS s i=none∧e=refusedT 2))
theorem numS_zero {s:ByteArray} {i:Nat} (h:sgn s i+1<dg s (sgn s i)) (h2:cB s (sgn s i)=48):numS s i=none:=by
 unfold numS
 split
 ·rfl
 ·rw [if_pos ⟨h,h2⟩]
theorem extract_size {s:ByteArray} {i j:Nat} (h:j≤s.size):(s.extract i j).size=j - i:=by rw [ByteArray.size_extract];omega
theorem int_ok {Tb:World→Prop} (hD:IntSaid Tb) {x:ByteArray} {w:World} (hs:x.size≤4000) (hT:Tb w) {v:Int} (hv:Lib.parseIntB 64 x.data.toList=.ok v) :
  Calls Tryz.prog 138 #[.string x,.int .i64 10,.int .i64 64] w fun e w'=>e=.returned (.tuple #[.int .i64 v,.nilIface])∧Below w.heap.size w w':=by
 refine (hD x w hs hT).mono ?_
 rintro e w' ⟨hb,⟨v',h1,rfl⟩ | ⟨h1,_⟩⟩
 ·rw [hv] at h1;cases h1;exact ⟨rfl,hb⟩
 ·rw [hv] at h1;rcases h1 with h1 | h1<;>cases h1
theorem int_bad {Tb:World→Prop} (hD:IntSaid Tb) {x:ByteArray} {w:World} (hs:x.size≤4000) (hT:Tb w) (hv:Lib.parseIntB 64 x.data.toList=.«syntax»∨Lib.parseIntB 64 x.data.toList=.range) :
  Calls Tryz.prog 138 #[.string x,.int .i64 10,.int .i64 64] w fun e w'=>∃ (v:Int) (t:TypeId) (p:Value),e=.returned (.tuple #[.int .i64 v,.iface t p])∧Below w.heap.size w w':=by
 refine (hD x w hs hT).mono ?_
 rintro e w' ⟨hb,⟨v',h1,_⟩ | ⟨_,v,t,p,rfl⟩⟩
 ·rw [h1] at hv;rcases hv with hv | hv<;>cases hv
 ·exact ⟨v,t,p,rfl,hb⟩
set_option maxHeartbeats 2000000 in
set_option maxRecDepth 100000 in
theorem int_any {Tb:World→Prop} (hD:IntSaid Tb) (c:Nat) (hS:Stays Tb c) (s:ByteArray) (i:Nat) (w:World) (h:PL c s i w) (hT:Tb w) (hs:s.size≤4000) (hd:cB s i=45∨isD (cB s i)=true) :
  Calls Tryz.prog 112 #[.pointer (some ⟨c,0,none⟩)] w (IntPost c s i w):=by
 have hc256:cB s i<256:=by
  rcases hd with h | h
  ·omega
  ·unfold isD at h
   simp at h
   omega
 have hlt:i<s.size:=cB_in hc256
 have hsg:i≤sgn s i∧sgn s i≤s.size:=by unfold sgn;split<;>omega
 have HL:=hid h
 have HT:=hid hT
 have HS:=hid hS
 have HD:=hid hD
 have Hd:=hid hd
 have q1:=h.q1
 have HA:=hid (sign_any c s i w h hs (by omega))
 have hcl:=h.lt
 clear h hT hS hD hd hc256
 go_enter Tryz.func112,Tryz.ntmps112
 go_wp2_with fail
 refine HA.out.mono ?_
 rintro e w1 ⟨b,rfl,hB1,hL1⟩
 have HB1:=hid hB1
 have HL1:=hid hL1
 have r1:=hL1.q1
 clear hB1 hL1 HA q1 HL
 have Hdg:Hid (dg s (sgn s i)≤s.size∧sgn s i≤dg s (sgn s i)):=⟨dg_le hsg.2,dg_ge _ _⟩
 have Hnp:=hid (numS_parse Hd.out)
 have Hnz:=hid (@numS_zero s i)
 generalize hd0:sgn s i=d at *
 go_wp2_with fail
 go_loopg [] (s.size - d) (fun g wr=>∃ k:Nat,g=s.size - k∧d≤k∧k≤s.size∧Hid (PL c s k wr)∧Hid (But c w wr)∧Hid (dg s k=dg s d))
 case atStart=>exact ⟨d,rfl,Nat.le_refl _,hsg.2,HL1,HB1,rfl⟩
 case round =>
  clear HL1 HB1 r1
  obtain ⟨k,rfl,hk1,hk2,HLk,HBk,HKk⟩:=hrel
  go_wp2_with fail
  refine (peek_any c s k wr HLk.out hk2).mono ?_
  rintro e w2 ⟨rfl,hb2⟩
  have HL2:=hid (HLk.out.keep hb2)
  have HB2:=hid (HBk.out.trans (But.of hb2))
  clear hb2 HLk HBk
  by_cases hdk:isD (cB s k)=true
  ·have hkl:k<s.size:=cB_in (by unfold isD at hdk;simp at hdk;omega)
   have HK2:Hid (dg s (k+1)=dg s d):=by
    show _=_
    rw [← HKk.out]
    unfold dg
    rw [pass_step isD_end s k,if_pos hdk]
   have r1:=HL2.out.q1
   have r2:=HL2.out.f1
   go_wp2_with fail
   refine (digitAt_any s k w2).mono ?_
   rintro e w3 ⟨rfl,rfl⟩
   clear HKk
   go_wp2_with fail
   go_roundg (s.size - (k+1))
   case rel=>exact ⟨k+1,rfl,by omega,by omega,HL2.out.set (k+1),HB2.out.trans (But.set _ c 1 _),HK2⟩
   case measure=>omega
  ·have hdf:isD (cB s k)=false:=by simpa using hdk
   have HK2:Hid (dg s d=k):=by
    show _=_
    rw [← HKk.out]
    unfold dg
    rw [pass_step isD_end s k,if_neg hdk]
   have r0:=HL2.out.q0
   have r1:=HL2.out.q1
   rw [HK2.out] at Hnp Hnz
   clear hdk HKk
   go_wp2_with fail
   refine (digitAt_any s k w2).mono ?_
   rintro e w3 ⟨rfl,rfl⟩
   have HT3:=hid (But.stays HS.out HT.out HB2.out (Nat.le_of_lt hcl))
   have HT3d:=hid (HS.out _ _ HT3.out ((below_drew w3).mono (Nat.le_of_lt HL2.out.lt)))
   have HL3d:=hid (HL2.out.keep (below_drew w3))
   have x1:(i:Int)≤(k:Int):=by omega
   have x2:(k:Int)≤(s.size:Int):=by omega
   have hxs:(s.extract i k).size≤4000:=by rw [extract_size hk2];omega
   have HSS:Hid (∀ wx:World,Below w3.drew.heap.size w3.drew wx→wx.cell? ⟨c,0,none⟩=some (.string s)∧wx.cell? ⟨c,1,none⟩=some (.int .i64 k)):=by
    intro wx hx
    have:=HL3d.out.keep hx
    exact ⟨this.q0,this.q1⟩
   by_cases hz:d+1<k
   ·have hdl:d<s.size:=by omega
    obtain ⟨z,hzs,hzc⟩:=cB_get hdl
    have y1:decide ((d:Int)+1<(k:Int))=true:=decide_eq_true (by omega)
    have y0:(d:Int)<(s.size:Int):=by omega
    by_cases h48:cB s d=48
    ·have HZ:=hid (Hnz.out hz h48)
     have y2:((z.toNat:Int)==48)=true:=by rw [beq_iff_eq];omega
     clear hzc h48 HSS
     go_wp2_with fail
     exact ⟨rfl,HB2.out,Or.inr ⟨HZ.out,rfl⟩⟩
    ·have HP:=hid (Hnp.out (fun h=>h48 h.2))
     have y2:((z.toNat:Int)==48)=false:=by rw [beq_eq_false_iff_ne];omega
     clear hzc h48
     rcases HP.out with ⟨v,hv,hn⟩ | ⟨hv,hn⟩
     ·have HZ:=hid hn
      have HDD:=hid (int_ok HD.out hxs HT3d.out hv)
      clear hv hn HP
      go_wp2_with fail
      go_region_held (fun wx=>wx.cell? ⟨c,0,none⟩=some (.string s)∧wx.cell? ⟨c,1,none⟩=some (.int .i64 k)) (go_keep) ((go_at_call 138;refine HDD.out.mono ?_;rintro e w4 ⟨rfl,hb4⟩;have hc4:=HSS.out _ hb4))
      have HL4:=hid (HL3d.out.keep hb4)
      have HB4:=hid (HB2.out.trans ((But.of (below_drew w3)).trans (But.of hb4)))
      clear hb4 hc4
      go_wp2_with fail
      go_ret
      exact ⟨HB4.out,Or.inl ⟨_,_,HZ.out,rfl,HL4.out⟩⟩
     ·have HZ:=hid hn
      have HDD:=hid (int_bad HD.out hxs HT3d.out hv)
      clear hv hn HP
      go_wp2_with fail
      go_region_held (fun wx=>wx.cell? ⟨c,0,none⟩=some (.string s)∧wx.cell? ⟨c,1,none⟩=some (.int .i64 k)) (go_keep) ((go_at_call 138;refine HDD.out.mono ?_;rintro e w4 ⟨v,tt,pp,rfl,hb4⟩;have hc4:=HSS.out _ hb4))
      have HB4:=hid (HB2.out.trans ((But.of (below_drew w3)).trans (But.of hb4)))
      clear hb4 hc4
      go_wp2_with fail
      exact ⟨rfl,HB4.out,Or.inr ⟨HZ.out,rfl⟩⟩
   ·have HP:=hid (Hnp.out (fun h=>hz h.1))
    have y1:decide ((d:Int)+1<(k:Int))=false:=decide_eq_false (by omega)
    clear hz
    rcases HP.out with ⟨v,hv,hn⟩ | ⟨hv,hn⟩
    ·have HZ:=hid hn
     have HDD:=hid (int_ok HD.out hxs HT3d.out hv)
     clear hv hn HP
     go_wp2_with fail
     go_region_held (fun wx=>wx.cell? ⟨c,0,none⟩=some (.string s)∧wx.cell? ⟨c,1,none⟩=some (.int .i64 k)) (go_keep) ((go_at_call 138;refine HDD.out.mono ?_;rintro e w4 ⟨rfl,hb4⟩;have hc4:=HSS.out _ hb4))
     have HL4:=hid (HL3d.out.keep hb4)
     have HB4:=hid (HB2.out.trans ((But.of (below_drew w3)).trans (But.of hb4)))
     clear hb4 hc4
     go_wp2_with fail
     go_ret
     exact ⟨HB4.out,Or.inl ⟨_,_,HZ.out,rfl,HL4.out⟩⟩
    ·have HZ:=hid hn
     have HDD:=hid (int_bad HD.out hxs HT3d.out hv)
     clear hv hn HP
     go_wp2_with fail
     go_region_held (fun wx=>wx.cell? ⟨c,0,none⟩=some (.string s)∧wx.cell? ⟨c,1,none⟩=some (.int .i64 k)) (go_keep) ((go_at_call 138;refine HDD.out.mono ?_;rintro e w4 ⟨v,tt,pp,rfl,hb4⟩;have hc4:=HSS.out _ hb4))
     have HB4:=hid (HB2.out.trans ((But.of (below_drew w3)).trans (But.of hb4)))
     clear hb4 hc4
     go_wp2_with fail
     exact ⟨rfl,HB4.out,Or.inr ⟨HZ.out,rfl⟩⟩
end Go.Proofs.YtknakfpciccoaabGreatDoor
/- The walk of the program's reader: entries. -/
namespace Go.Proofs.YtknakfpciccoaabGreatDoor
open Go.RowKit
theorem infoS:(Tryz.prog.info? 9).map (fun i=>(i.zero,i.size,i.bytes))=some (some (.string ⟨#[]⟩),1,16):=by kernel_rfl
theorem infoV:(Tryz.prog.info? 36).map (fun i=>(i.zero,i.size,i.bytes))=some (some (.agg #[.int .i64 0,.int .i64 0,.string ⟨#[]⟩,.slice none 0 0,.slice none 0 0]),5,80):=by kernel_rfl
section
variable {d : Nat} {k : Int} {c : Nat} {w : World} {b2 : Nat} {rest a : ByteArray} {L : List T} {K : List ByteArray} {Lv Kv : Value} {xs : List Value} {sub : Nat → List Ent} {wr : World}
theorem newOr_of {w5:World} {v:Value} {g n cap:Nat} (o:Obj) (h:v.ownBlock=some g∨g=w5.heap.size+1):NewOr (w5.alloc o) v (.slice (some ⟨g,0,none⟩) n cap):=by
 rcases h with h | h
 ·exact .inl h.symm
 ·refine .inr fun g' e=>?_
  cases e
  simp
  omega
theorem But.setNew {c:Nat} {w wr:World} (h:But c w wr) {b:Nat} (hb:w.heap.size≤b) (o:Nat) (u:Value):But c w (wr.setCell ⟨b,o,none⟩ u) :=
 ⟨h.os,h.tape,h.output,by simpa [World.setCell] using h.size,fun i hi hc=>(Below.heap_setCell _ _ _ _ (by simpa using (by omega:i≠b))).trans (h.block i hi hc)⟩
theorem boxGrown {e:TypeId} {size n:Nat} {v:Value} {ys:List Value} (h:EI d k c w b2 rest a L K Lv Kv xs sub wr) {w2:World} (hG:wr.grownBy w2 v.ownBlock) (hO:wr.ownsRow (b2+1) e size v n ys):BoxAt (w.heap.size+1) (.int .i64 k) (.int .i64 0) (.string ⟨#[]⟩) Lv Kv w2:=by
 have h2:=h.lb
 refine h.box.move hG.size (hG.block _ h.box.lt fun e=>?_)
 have:=(hO.lt _ e.symm).1
 omega
end
end Go.Proofs.YtknakfpciccoaabGreatDoor
