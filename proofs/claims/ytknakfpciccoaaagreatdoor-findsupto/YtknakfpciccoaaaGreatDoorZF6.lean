import Derived.Test.YtknakfpciccoaaaGreatDoorZF4
import Derived.Test.YtknakfpciccoaaaGreatDoorZF3
import Derived.Test.YtknakfpciccoaaaGreatDoorZF5
import Derived.Deep.RegionHeld
import Derived.Laws.IdiomStrings
import Derived.Shelf.LaysM
import Derived.Shelf.Strings.BuilderK
import Derived.Shelf.Strconv.Itoa4
import Derived.Test.YtknakfpciccoaaaGreatDoorProg
/- The walks of cmp.Compare, of the mark, and of the checker's small parts. -/
set_option maxHeartbeats 2000000
set_option maxRecDepth 100000
namespace Go.Proofs.YtknakfpciccoaaaGreatDoor
open Go.RowKit
theorem Aq (a b:Int) (w:World) :
  Calls Tryz.prog 103 #[.int .i64 a,.int .i64 b] w fun e w'=>e=.returned (.int .i64 (jL a b))/\w'=w:=by
 go_in;go_wp2
 all_goals (go_ret;refine ⟨?_,rfl⟩)
 ·exact aH (zl (by assumption)).symm
 ·exact aH (zm (by assumption)).symm
 ·exact aH (uN (by assumption) (by assumption)).symm
theorem u7 (a b:Int) (w:World) :
  Calls Tryz.prog 104 #[.int .i64 a,.int .i64 b] w fun e w'=>e=.returned (.int .i64 (jL a b))/\w'=w:=by
 go_in;go_wp2
 all_goals (go_ret;refine ⟨?_,rfl⟩)
 ·exact aH (zl (by assumption)).symm
 ·exact aH (zm (by assumption)).symm
 ·exact aH (uN (by assumption) (by assumption)).symm
theorem tq (a b:ByteArray) (w:World) :
  Calls Tryz.prog 105 #[.string a,.string b] w fun e w'=>e=.returned (.int .i64 (lV a b))/\w'=w:=by
 go_in;go_wp2
 all_goals (go_ret;refine ⟨?_,rfl⟩)
 ·exact aH (MQ (by assumption)).symm
 ·exact aH (MR (by assumption) (by assumption)).symm
 ·exact aH (ER (by assumption) (by assumption)).symm
theorem jA (f:Nat) (v:Value) (t:T) (w:World) (h:At w f v t) :
  Calls Tryz.prog 120 #[v] w fun e w'=>e=.returned (.bool (dX t))/\Below w.heap.size w w':=by
 obtain ⟨f,La,Ka,Lc,Kc,rfl,rfl,hf,hl,hk⟩:=h.open;clear h hf hl hk;by_cases h1:nL t=0
 ·have g1:((nL t:Int)==0)=true:=by simp [h1]
  have H1:=aj h1;clear h1;by_cases h2:nK t=0
  ·have g2:((nK t:Int)==0)=true:=by simp [h2]
   have H2:=aj h2;clear h2;go_in;go_wp2_with fail;go_ret;exact ⟨av (by simp [dX,H1.out,H2.out]),bG _ _⟩
  ·have g2:((nK t:Int)==0)=false:=by simp;omega
   have H2:=aj h2;clear h2;go_in;go_wp2_with fail;go_ret;exact ⟨av (by simp [dX,H1.out,H2.out]),bG _ _⟩
 ·have g1:((nL t:Int)==0)=false:=by simp;omega
  have H1:=aj h1;clear h1;go_in;go_wp2_with fail;go_ret;exact ⟨av (by simp [dX,H1.out]),bG _ _⟩
theorem QO (c:Nat) (l n:Int) (w:World) (hc:w.cell? ⟨c,0,none⟩=some (.int .i64 l)) (hz:w.frozen? ⟨c,0,none⟩=false) (l0:-1000000<=l) (l1:l<=1048576) (n0:0<=n) (n1:n<=1000000) :
  Calls Tryz.prog 121 #[.pointer (some ⟨c,0,none⟩),.int .i64 n] w fun e w'=>e=.returned (.bool (decide (n<=l)))/\w'=w.setCell ⟨c,0,none⟩ (.int .i64 (l - n)):=by
 go_in;go_wp2_with fail;go_ret;exact ⟨rfl,rfl⟩
end Go.Proofs.YtknakfpciccoaaaGreatDoor
/- The walk of areDifferent. -/
namespace Go.Proofs.YtknakfpciccoaaaGreatDoor
open Go.RowKit Go.Maps Go.WideMaps
theorem Kl:Keyed Tryz.prog 9:=string_keyed Tryz.underlying9
theorem Ou (n:Int) (w:World):(Instr.makeMap 203 (some (.int .i64 n))).run Tryz.prog w=.ok (.map (some w.heap.size)) (w.alloc (.map #[] 0)):=by kernel_rfl
theorem tu (Ka:Option Addr) (Kc:Nat) (t:T) (w:World) (hk:gI w Ka t) (hn:nK t<=8796093022208) :
  Calls Tryz.prog 141 #[.slice Ka (nK t) Kc] w fun e w'=>e=.returned (.bool (!fq t (nK t)))/\Below w.heap.size w w':=by
 have hmm:=Ou (nK t);have hk':=aj hk;clear hk;have Hs:=aj (UZ t);go_in;go_wp2_with fail;go_loopg [11] (nK t) (fun g i wr=>∃ k:Nat,g=nK t - k/\k<=nK t/\i=.int .i64 k/\Hid (wr.ownsMap Tryz.prog 9 (unitElem (H:=Unit)) w.heap.size k (Sn t k))/\Hid (Below w.heap.size w wr))
 case atStart=>exact ⟨0,rfl,Nat.zero_le _,rfl,by rw [UY];exact World.ownsMap_made _ _ _ _,bG _ _⟩
 case round =>
  obtain ⟨k,rfl,hk1,rfl,Zo,Hnx⟩:=hrel;by_cases hlt:k<nK t
  ·obtain ⟨kb,ko,rfl,hkb,hks,hkc⟩:=hk'.out.keep Hnx.out k hlt;have hkey:keyOf Tryz.prog 9 (.string (bf t k))=some (qN t k):=keyOf_string_mk Tryz.underlying9 (by unfold maxLen;omega)
   go_wp2_with (first
    | (at_mapUpdate;refine wpList_mapUpdate_own _ rfl _ _ _ 203 rfl 9 204 Kl Tryz.underlying203 (unitElem (H:=Unit)) w.heap.size k _ rfl Zo.out (by unfold maxLen;omega) _ _ _ rfl rfl hkey _ [] unitElem_mk ?_;intro w1 hown1 hgrow1)
    | fail)
   go_roundg (nK t - (k+1))
   case rel=>exact ⟨k+1,rfl,by omega,by go_num,(UW t k).symm ▸ hown1,Hnx.out.grown hgrow1 Hnx.out.size (fun j hj=>by cases hj;exact Nat.le_refl _)⟩
   case measure=>omega
  ·obtain rfl:k=nK t:=by omega
   have hsz:=(Hs.out (nK t)).1
   go_wp2_with (first
    | (at_len;refine wpList_len_own _ rfl _ 203 rfl 9 204 Tryz.underlying203 (unitElem (H:=Unit)) w.heap.size (nK t) _ rfl Zo.out ?_)
    | fail)
   go_ret;refine ⟨av ?_,Hnx.out⟩;have:=(Hs.out (nK t)).2;cases hd:fq t (nK t) with
   | true =>
    rw [hd] at this;simp;intro e;have:=this.1 (by omega);cases this
   | false =>
    rw [hd] at this;simp [this.2 rfl]
def dL (Tb:World->Prop):Prop:=∀ (s:ByteArray) (w:World),s.size<=9223372036854775807->Tb w ->
 Calls Tryz.prog 160 #[.string s] w fun e w'=>e=.returned (.bool (J8 s))/\Below w.heap.size w w'
def dB (Tb:World->Prop) (c:Nat):Prop:=∀ w w':World,Tb w->Below c w w'->Tb w'
theorem iy (c:Nat) (l n:Int) (w:World) (h:fT c l w) (l0:0<=l) (l1:l<=1048576) (n0:0<=n) (n1:n<=1000000) :
  Calls Tryz.prog 121 #[.pointer (some ⟨c,0,none⟩),.int .i64 n] w fun e w'=>e=.returned (.bool (decide (n<=l)))/\fT c (l - n) w'/\aG c w w':=by
 refine (QO c l n w h.cell h.free (by omega) l1 n0 n1).mono ?_;rintro e w' ⟨rfl,rfl⟩;exact ⟨rfl,(h.set _).1,(h.set _).2⟩
theorem GR {Tb:World->Prop} (hV:dL Tb) (c:Nat) (hS:dB Tb c) (s:ByteArray) (l:Int) (w:World) (h:fT c l w) (hT:Tb w) (l0:0<=l) (l1:l<=1048576) (hs:s.size<=140737488355328) :
  Calls Tryz.prog 122 #[.pointer (some ⟨c,0,none⟩),.string s] w fun e w'=>ig c w (mH s l) e w':=by
 have H:=aj h;have HT:=aj hT;clear h hT;by_cases h1:s.size<=4000
 ·by_cases h2:(s.size:Int)<=l
  ·go_in;go_wp2_with fail;refine (iy c l s.size w H.out l0 l1 (by omega) (by omega)).mono ?_;rintro e w1 ⟨rfl,K1,B1⟩;have iE:=aj K1;have HB1:=aj B1;clear K1 B1;go_wp2_with fail;refine (hV s w1 (by omega) (hS _ _ HT.out (HB1.out.below (Nat.le_of_lt H.out.lt)))).mono ?_;rintro e w2 ⟨rfl,B2⟩;have HB2:=aj B2;clear B2;cases hv:J8 s with
   | true =>
    have Hv:=aj hv;clear hv;go_wp2_with fail;go_ret;exact ⟨HB1.out.trans (aG.of HB2.out),l - s.size,iE.out.keep HB2.out,Or.inl ⟨by unfold mH;rw [if_pos ⟨h1,h2,Hv.out⟩],by omega,by omega,rfl⟩⟩
   | false =>
    have Hv:=aj hv;clear hv;go_wp2_with fail;go_ret;exact ⟨HB1.out.trans (aG.of HB2.out),l - s.size,iE.out.keep HB2.out,Or.inr ⟨by unfold mH;rw [if_neg (by rw [Hv.out];simp)],rfl⟩⟩
  ·go_in;go_wp2_with fail;refine (iy c l s.size w H.out l0 l1 (by omega) (by omega)).mono ?_;rintro e w1 ⟨rfl,K1,B1⟩;have iE:=aj K1;have HB1:=aj B1;clear K1 B1;have hd:decide ((s.size:Int)<=l)=false:=decide_eq_false (by omega);have H2:=aj h2;clear h2;go_wp2_with fail;go_ret;exact ⟨HB1.out,l - s.size,iE.out,Or.inr ⟨by unfold mH;rw [if_neg (fun h=>by have:=H2.out;omega)],rfl⟩⟩
 ·have H1:=aj h1;have hd:decide ((s.size:Int)<=4000)=false:=decide_eq_false (by omega);clear h1;go_in;go_wp2_with fail;go_ret;exact ⟨aG.refl _ _,l,H.out,Or.inr ⟨by unfold mH;rw [if_neg (fun h=>H1.out h.1)],rfl⟩⟩
theorem Ov {Tb:World->Prop} (hV:dL Tb) (c:Nat) (hS:dB Tb c) (w0:World) (hN:w0.heap.size<=c) (Ka:Option Addr) (Kc:Nat) (t:T) (l:Int) (w:World)
  (hk:gI w0 Ka t) (hn:nK t<=8796093022208) (hb0:Below w0.heap.size w0 w) (h:fT c l w) (hT:Tb w) (l0:0<=l) (l1:l<=1048576) :
  Calls Tryz.prog 124 #[.pointer (some ⟨c,0,none⟩),.slice Ka (nK t) Kc] w fun e w'=>ig c w (lH t l) e w':=by
 have H:=aj h;have HT:=aj hT;have Hk:=aj hk;have Hb0:=aj hb0;clear h hT hk hb0;go_in;go_wp2_with fail;go_loopg [9] (nK t) (fun g i wr=>∃ (k:Nat) (x:Int),g=nK t - k/\k<=nK t/\i=.int .i64 k/\0<=x/\x<=1048576/\Hid (jw t k l=some x)/\Hid (fT c x wr)/\Hid (aG c w wr))
 case atStart=>exact ⟨0,l,rfl,Nat.zero_le _,rfl,l0,l1,rfl,H,aG.refl _ _⟩
 case round =>
  obtain ⟨k,x,rfl,hk1,rfl,x0,x1,HX,HH,HB⟩:=hrel;have pR:=aj (Hb0.out.trans ((HB.out.below (Nat.le_of_lt H.out.lt)).mono hN));by_cases hlt:k<nK t
  ·obtain ⟨kb,ko,rfl,hkb,hks,hkc⟩:=Hk.out.keep pR.out k hlt;go_wp2_with fail;refine (iy c x 2 wr HH.out x0 x1 (by omega) (by omega)).mono ?_;rintro e w1 ⟨rfl,K1,B1⟩;have iE:=aj K1;have HB1:=aj B1;clear K1 B1;by_cases h2:2<=x
   ·go_wp2_with fail;refine (GR hV c hS (bf t k) (x - 2) w1 iE.out (hS _ _ HT.out ((HB.out.trans HB1.out).below (Nat.le_of_lt H.out.lt))) (by omega) (by omega) hks).mono ?_;rintro e w2 ⟨B2,l',K2,hr⟩;have HB2:=aj B2;have Qs:=aj K2;clear B2 K2;rcases hr with ⟨hr,y0,y1,rfl⟩ | ⟨hr,rfl⟩
    ·have Hr:=aj hr;clear hr;go_wp2_with fail;go_roundg (nK t - (k+1))
     case rel =>
      refine ⟨k+1,l',rfl,by omega,by go_num,y0,y1,?_,Qs,HB.out.trans (HB1.out.trans HB2.out)⟩;show ((jw t k l).bind fun x=>(aV 2 x).bind (mH (bf t k)))=_;rw [HX.out];simp only [Option.bind_some,aV,if_pos h2];exact Hr.out
     case measure=>omega
    ·have Hr:=aj hr;clear hr;go_wp2_with fail;go_ret;refine ⟨HB.out.trans (HB1.out.trans HB2.out),l',Qs.out,Or.inr ⟨?_,rfl⟩⟩;unfold lH;rw [xY (j:=k+1) hlt]
     ·rfl
     ·show ((jw t k l).bind fun x=>(aV 2 x).bind (mH (bf t k)))=_;rw [HX.out];simp only [Option.bind_some,aV,if_pos h2];exact Hr.out
   ·have hd:decide ((2:Int)<=x)=false:=decide_eq_false h2;have H2:=aj h2;clear h2;go_wp2_with fail;go_ret;refine ⟨HB.out.trans HB1.out,x - 2,iE.out,Or.inr ⟨?_,rfl⟩⟩;unfold lH;rw [xY (j:=k+1) hlt]
    ·rfl
    ·show ((jw t k l).bind fun x=>(aV 2 x).bind (mH (bf t k)))=_;rw [HX.out];simp only [Option.bind_some,aV];rw [if_neg (by have:=H2.out;omega)];rfl
  ·obtain rfl:k=nK t:=by omega
   go_wp2_with fail;refine (tu Ka Kc t wr (Hk.out.keep pR.out) hn).mono ?_;rintro e w1 ⟨rfl,B1⟩;have HB1:=aj B1;clear B1;cases hd:fq t (nK t) with
   | true =>
    have Hd:=aj hd;clear hd;go_wp2_with fail;go_ret;refine ⟨HB.out.trans (aG.of HB1.out),x,HH.out.keep HB1.out,Or.inr ⟨?_,rfl⟩⟩;unfold lH;rw [HX.out,Hd.out];rfl
   | false =>
    have Hd:=aj hd;clear hd;go_wp2_with fail;go_ret;refine ⟨HB.out.trans (aG.of HB1.out),x,HH.out.keep HB1.out,Or.inl ⟨?_,x0,x1,rfl⟩⟩;unfold lH;rw [HX.out,Hd.out];rfl
theorem Ar (s p:ByteArray) (w:World):Calls Tryz.prog 255 #[.string s,.string p] w fun e w'=>e=.returned (.bool (Lib.hasPrefix s.data.toList p.data.toList))/\w'=w:=Any.strings_HasPrefix Tryz.laysPrefix s p w
theorem Dv {s p:ByteArray} {b:Bool} (h:Hid (Lib.hasPrefix s.data.toList p.data.toList=b)) (w:World):Calls Tryz.prog 255 #[.string s,.string p] w fun e w'=>e=.returned (.bool b)/\w'=w:=by
 refine (Ar s p w).mono ?_;rintro e w' ⟨rfl,rfl⟩;exact ⟨av h.out,rfl⟩
theorem Au (c:Nat) (s:ByteArray) (i:Nat) (t:ByteArray) (w:World) (h:PL c s i w) (hs:s.size<=4000) (hp:ku s i t=true) :
  Calls Tryz.prog 227 #[.pointer (some ⟨c,0,none⟩),.string t] w (zy c s true (i+t.size) w):=by
 have hle:=EW hp;have HL:=aj h;have q0:=h.q0;have q1:=h.q1;have x1:(i:Int)<=(s.size:Int):=by omega
 have HQ:Hid (Lib.hasPrefix (s.extract i s.size).data.toList t.data.toList=true):=(GL s i t (by omega)).trans hp;clear h hp;go_in;go_wp2_with fail;go_quiet ((go_at_call 255;exact Calls.quiet_of_same (Dv HQ _)));have HB:=aj (below_drewN (Below.refl w.heap.size w) nq);generalize w.drewN nq=w1 at HB ⊢;have aQ:=aj (HL.out.keep HB.out);have r1:=aQ.out.q1;have r2:=aQ.out.f1;clear q0 q1;go_wp2_with fail;go_ret;exact ⟨rfl,(aG.of HB.out).trans (aG.set w1 c 1 _),aQ.out.set (i+t.size)⟩
theorem EY (c:Nat) (s:ByteArray) (i:Nat) (t:ByteArray) (w:World) (h:PL c s i w) (hi:i<=s.size) (hp:ku s i t=false) :
  Calls Tryz.prog 227 #[.pointer (some ⟨c,0,none⟩),.string t] w (zy c s false i w):=by
 have HL:=aj h;have q0:=h.q0;have q1:=h.q1;have x1:(i:Int)<=(s.size:Int):=by omega
 have HQ:Hid (Lib.hasPrefix (s.extract i s.size).data.toList t.data.toList=false):=(GL s i t (by omega)).trans hp;clear h hp;go_in;go_wp2_with fail;go_quiet ((go_at_call 255;exact Calls.quiet_of_same (Dv HQ _)));have HB:=aj (below_drewN (Below.refl w.heap.size w) nq);generalize w.drewN nq=w1 at HB ⊢;go_wp2_with fail;go_ret;exact ⟨rfl,aG.of HB.out,HL.out.keep HB.out⟩
def Av (c:Nat) (s:ByteArray) (x:Option (Nat×Nat)) (w:World) (e:Ending) (w':World):Prop :=
 aG c w w'/\((∃ r j,x=some (r,j)/\e=.returned (.int .i32 (r:Int))/\PL c s j w')\/(x=none/\e=fU 2))
theorem QS (c:Nat) (s:ByteArray) (i:Nat) (w:World) (h:PL c s i w) (hs:s.size<=4000) (hi:i<=s.size) :
  Calls Tryz.prog 267 #[.pointer (some ⟨c,0,none⟩)] w (Av c s ((lJ s i).bind fun a=>low s (i+4) a) w):=by
 have HF:=aj (GQ c s i w h hs hi);clear h;go_in;go_wp2_with fail;refine HF.out.mono ?_;rintro e w1 ⟨hB1,⟨a,ha,rfl,hL1⟩ | ⟨ha,rfl⟩⟩
 ·have HB1:=aj hB1;have aQ:=aj hL1;have ha2:=(eZ ha).1;have Zn:i+4<=s.size:=(eZ ha).2 (by omega);have HX:Hid (((lJ s i).bind fun a=>low s (i+4) a)=low s (i+4) a):=by show _=_;rw [ha];rfl
  clear hB1 hL1 HF ha;have ha4:a<65536:=ha2;clear ha2;by_cases h1:a<55296\/57343<a
  ·have HW:Hid (low s (i+4) a=some (a,i+4)):=by show _=_;unfold low;rw [if_pos h1]
   by_cases h2:a<55296
   ·have y1:decide ((a:Int)<55296)=true:=decide_eq_true (by omega);go_wp2_with fail;go_ret;exact ⟨HB1.out,Or.inl ⟨a,i+4,HX.out.trans HW.out,rfl,aQ.out⟩⟩
   ·have y1:decide ((a:Int)<55296)=false:=decide_eq_false (by omega);have y2:(57343:Int)<(a:Int):=by omega
    go_wp2_with fail;go_ret;exact ⟨HB1.out,Or.inl ⟨a,i+4,HX.out.trans HW.out,rfl,aQ.out⟩⟩
  ·have y1:decide ((a:Int)<55296)=false:=decide_eq_false (by omega);have y2:decide ((57343:Int)<(a:Int))=false:=decide_eq_false (by omega);by_cases h2:56319<a
   ·have HW:Hid (low s (i+4) a=none):=by show _=_;unfold low;rw [if_neg h1,if_pos h2]
    have y3:decide ((56319:Int)<(a:Int))=true:=decide_eq_true (by omega);clear h1 h2;go_wp2_with fail;exact ⟨rfl,HB1.out,Or.inr ⟨HX.out.trans HW.out,rfl⟩⟩
   ·have y3:decide ((56319:Int)<(a:Int))=false:=decide_eq_false (by omega);have HW:Hid (low s (i+4) a=if cB s (i+4)=92/\cB s (i+4+1)=117 then (lJ s (i+4+2)).bind fun b=>if b<56320\/57343<b then none else some (65536+1024*(a - 55296)+(b - 56320),i+4+6) else none):=by show _=_;unfold low;rw [if_neg h1,if_neg h2]
    have H12:Hid (55296<=a/\a<=56319):=by show _/\_;omega
    clear h1 h2;by_cases h3:cB s (i+4)=92
    ·have h3l:i+4<s.size:=aZ (by omega);go_wp2_with fail;refine (jU c s (i+4) 92 w1 aQ.out hs (by omega) (by omega)).mono ?_;rintro e w2 ⟨rfl,hB2,hL2⟩;have HB2:=aj (HB1.out.trans hB2);have HL2:=aj hL2;clear hB2 hL2 HB1 aQ;by_cases h4:cB s (i+4+1)=117
     ·have h4l:i+4+1<s.size:=aZ (by omega);go_wp2_with fail;refine (jU c s (i+4+1) 117 w2 HL2.out hs (by omega) (by omega)).mono ?_;rintro e w3 ⟨rfl,hB3,hL3⟩;have HB3:=aj (HB2.out.trans hB3);have gF:=aj hL3;clear hB3 hL3 HB2 HL2;go_wp2_with fail;refine (GQ c s (i+4+1+1) w3 gF.out hs (by omega)).mono ?_;rintro e w4 ⟨hB4,⟨b,hb,rfl,hL4⟩ | ⟨hb,rfl⟩⟩
      ·have bO:=aj (HB3.out.trans hB4);have jM:=aj hL4;have hb2:b<65536:=(eZ hb).1;have HY:Hid (low s (i+4) a=if b<56320\/57343<b then none else some (65536+1024*(a - 55296)+(b - 56320),i+4+6)):=by show _=_;rw [HW.out,if_pos ⟨h3,h4⟩,hb];rfl
       clear hB4 hL4 HB3 gF hb HW;by_cases h5:b<56320\/57343<b
       ·have HZ:Hid (low s (i+4) a=none):=by show _=_;rw [HY.out,if_pos h5]
        by_cases h6:b<56320
        ·have z1:decide ((b:Int)<56320)=true:=decide_eq_true (by omega);go_wp2_with fail;exact ⟨rfl,bO.out,Or.inr ⟨HX.out.trans HZ.out,rfl⟩⟩
        ·have z1:decide ((b:Int)<56320)=false:=decide_eq_false (by omega);have z2:(57343:Int)<(b:Int):=by omega
         go_wp2_with fail;exact ⟨rfl,bO.out,Or.inr ⟨HX.out.trans HZ.out,rfl⟩⟩
       ·have HZ:Hid (low s (i+4) a=some (65536+1024*(a - 55296)+(b - 56320),i+4+6)):=by show _=_;rw [HY.out,if_neg h5]
        have z1:decide ((b:Int)<56320)=false:=decide_eq_false (by omega);have z2:decide ((57343:Int)<(b:Int))=false:=decide_eq_false (by omega);go_wp2_with fail;go_ret;refine ⟨bO.out,Or.inl ⟨_,_,HX.out.trans HZ.out,aH ?_,jM.out⟩⟩;have h12:=H12.out;have afB:56320<=b/\b<=57343:=by omega
        go_num
      ·have bO:=aj (HB3.out.trans hB4);have HZ:Hid (low s (i+4) a=none):=by show _=_;rw [HW.out,if_pos ⟨h3,h4⟩,hb];rfl
       clear hB4 HB3 gF hb HW;go_wp2_with fail;exact ⟨rfl,bO.out,Or.inr ⟨HX.out.trans HZ.out,rfl⟩⟩
     ·have HZ:Hid (low s (i+4) a=none):=by show _=_;rw [HW.out,if_neg (fun h=>h4 h.2)]
      go_wp2_with fail;refine (oJ c s (i+4+1) 117 w2 HL2.out hs (by omega) (by omega)).mono ?_;rintro e w3 ⟨rfl,hB3⟩;have HB3:=aj (HB2.out.trans hB3);clear hB3;go_wp2_with fail;exact ⟨rfl,HB3.out,Or.inr ⟨HX.out.trans HZ.out,rfl⟩⟩
    ·have HZ:Hid (low s (i+4) a=none):=by show _=_;rw [HW.out,if_neg (fun h=>h3 h.1)]
     go_wp2_with fail;refine (oJ c s (i+4) 92 w1 aQ.out hs (by omega) (by omega)).mono ?_;rintro e w3 ⟨rfl,hB3⟩;have HB3:=aj (HB1.out.trans hB3);clear hB3;go_wp2_with fail;exact ⟨rfl,HB3.out,Or.inr ⟨HX.out.trans HZ.out,rfl⟩⟩
 ·have HB1:=aj hB1;have HX:Hid (((lJ s i).bind fun a=>low s (i+4) a)=none):=by show _=_;rw [ha];rfl
  clear hB1 HF ha;go_wp2_with fail;exact ⟨rfl,HB1.out,Or.inr ⟨HX.out,rfl⟩⟩
theorem Km (c:Nat) (s:ByteArray) (i:Nat) (w:World) (h:PL c s i w) (hs:s.size<=4000) (hi:i<=s.size) :
  Calls Tryz.prog 251 #[.pointer (some ⟨c,0,none⟩)] w (Av c s (dw s i) w):=by
 have HN:=aj (uZ c s i w h hs hi);clear h;go_in;go_wp2_with fail;refine HN.out.mono ?_;rintro e w1 ⟨hB1,⟨hlt,rfl,hL1⟩ | ⟨he,rfl⟩⟩
 ·have HB1:=aj hB1;have aQ:=aj hL1;have HE:Hid (dw s i=if cB s i=34\/cB s i=92\/cB s i=47 then some (cB s i,i+1) else if cB s i=98 then some (8,i+1) else if cB s i=102 then some (12,i+1) else if cB s i=110 then some (10,i+1) else if cB s i=114 then some (13,i+1) else if cB s i=116 then some (9,i+1) else if cB s i=117 then (lJ s (i+1)).bind fun a=>low s (i+5) a else none):=by show _=_;rfl
  have hx:=Wy hlt;clear hB1 hL1 HN;generalize cB s i=x at HE hx ⊢;by_cases x9:x=34
  ·subst x9;have HZ:Hid (dw s i=some (34,i+1)):=by show _=_;rw [HE.out];rfl
   go_wp2_with fail;go_ret;exact ⟨HB1.out,Or.inl ⟨_,_,HZ.out,rfl,aQ.out⟩⟩
  have d34:((x:Int)==34)=false:=by rw [beq_eq_false_iff_ne];omega
  by_cases GH:x=92
  ·subst GH;have HZ:Hid (dw s i=some (92,i+1)):=by show _=_;rw [HE.out];rfl
   go_wp2_with fail;go_ret;exact ⟨HB1.out,Or.inl ⟨_,_,HZ.out,rfl,aQ.out⟩⟩
  have d92:((x:Int)==92)=false:=by rw [beq_eq_false_iff_ne];omega
  by_cases h47:x=47
  ·subst h47;have HZ:Hid (dw s i=some (47,i+1)):=by show _=_;rw [HE.out];rfl
   go_wp2_with fail;go_ret;exact ⟨HB1.out,Or.inl ⟨_,_,HZ.out,rfl,aQ.out⟩⟩
  have d47:((x:Int)==47)=false:=by rw [beq_eq_false_iff_ne];omega
  by_cases Zp:x=98
  ·subst Zp;have HZ:Hid (dw s i=some (8,i+1)):=by show _=_;rw [HE.out];rfl
   go_wp2_with fail;go_ret;exact ⟨HB1.out,Or.inl ⟨_,_,HZ.out,rfl,aQ.out⟩⟩
  by_cases QT:x=102
  ·subst QT;have HZ:Hid (dw s i=some (12,i+1)):=by show _=_;rw [HE.out];rfl
   go_wp2_with fail;go_ret;exact ⟨HB1.out,Or.inl ⟨_,_,HZ.out,rfl,aQ.out⟩⟩
  by_cases QU:x=110
  ·subst QU;have HZ:Hid (dw s i=some (10,i+1)):=by show _=_;rw [HE.out];rfl
   go_wp2_with fail;go_ret;exact ⟨HB1.out,Or.inl ⟨_,_,HZ.out,rfl,aQ.out⟩⟩
  by_cases QV:x=114
  ·subst QV;have HZ:Hid (dw s i=some (13,i+1)):=by show _=_;rw [HE.out];rfl
   go_wp2_with fail;go_ret;exact ⟨HB1.out,Or.inl ⟨_,_,HZ.out,rfl,aQ.out⟩⟩
  by_cases h116:x=116
  ·subst h116;have HZ:Hid (dw s i=some (9,i+1)):=by show _=_;rw [HE.out];rfl
   go_wp2_with fail;go_ret;exact ⟨HB1.out,Or.inl ⟨_,_,HZ.out,rfl,aQ.out⟩⟩
  by_cases QW:x=117
  ·subst QW;have HZ:Hid (dw s i=(lJ s (i+1)).bind fun a=>low s (i+1+4) a):=by show _=_;rw [HE.out];rfl
   go_wp2_with fail;refine (QS c s (i+1) w1 aQ.out hs (by omega)).mono ?_;rintro e w2 ⟨hB2,⟨r,j,hr,rfl,hL2⟩ | ⟨hr,rfl⟩⟩
   ·have HB2:=aj (HB1.out.trans hB2);have HL2:=aj hL2;have HR:=aj hr;clear hB2 hL2 hr;go_wp2_with fail;go_ret;exact ⟨HB2.out,Or.inl ⟨_,_,HZ.out.trans HR.out,rfl,HL2.out⟩⟩
   ·have HB2:=aj (HB1.out.trans hB2);have HR:=aj hr;clear hB2 hr;go_wp2_with fail;exact ⟨rfl,HB2.out,Or.inr ⟨HZ.out.trans HR.out,rfl⟩⟩
  have HZ:Hid (dw s i=none):=by show _=_;rw [HE.out,if_neg (by omega),if_neg Zp,if_neg QT,if_neg QU,if_neg QV,if_neg h116,if_neg QW]
  go_wp2_with fail;exact ⟨rfl,HB1.out,Or.inr ⟨HZ.out,rfl⟩⟩
 ·have HB1:=aj hB1
  have HZ:Hid (dw s i=none):=by
   show _=_;have:cB s i=256:=nZ (by omega);unfold dw;rw [this];rfl
  clear hB1 HN he;go_wp2_with fail;exact ⟨rfl,HB1.out,Or.inr ⟨HZ.out,rfl⟩⟩
def bS (Tb:World->Prop):Prop:=∀ (s:ByteArray) (w:World),Tb w->Calls Tryz.prog 252 #[.string s] w fun e w'=>e=.returned (.tuple #[.int .i32 ((mJ s).1:Int),.int .i64 ((mJ s).2:Int)])/\Below w.heap.size w w'
def dz (Tb:World->Prop):Prop:=∀ (s:ByteArray) (w:World),s.size<=4000->Tb w->Calls Tryz.prog 226 #[.string s,.int .i64 10,.int .i64 64] w fun e w'=>Below w.heap.size w w' /\
 ((∃ v:Int,Lib.parseIntB 64 s.data.toList=.ok v/\e=.returned (.tuple #[.int .i64 v,.nilIface]))\/((Lib.parseIntB 64 s.data.toList=.«syntax»\/Lib.parseIntB 64 s.data.toList=.range)/\∃ (v:Int) (t:TypeId) (p:Value),e=.returned (.tuple #[.int .i64 v,.iface t p])))
theorem aG.stays {Tb:World->Prop} {c:Nat} (hS:dB Tb c) {w w':World} (hT:Tb w) (hB:aG c w w') (hc:c<=w.heap.size):Tb w':=hS w w' hT (hB.below hc)
theorem Kn {Tb:World->Prop} (hD:bS Tb) (c:Nat) (hS:dB Tb c) (s:ByteArray) (i:Nat) (w:World) (h:PL c s i w) (hT:Tb w) (hs:s.size<=4000) (hi:i<=s.size) :
  Calls Tryz.prog 223 #[.pointer (some ⟨c,0,none⟩)] w (Av c s (kM s i) w):=by
 have HL:=aj h;have HT:=aj hT;have HS:=aj hS;have HD:=aj hD;clear h hT hS hD;by_cases GH:cB s i=92
 ·have hlt:i<s.size:=aZ (by omega);have HA:=aj (fO c s i 92 w HL.out hs (by omega) (by omega));have HX:Hid (kM s i=dw s (i+1)):=by show _=_;unfold kM;rw [if_pos GH]
  clear GH;go_in;go_wp2_with fail;refine HA.out.mono ?_;rintro e w1 ⟨rfl,hB1,hL1⟩;have HB1:=aj hB1;have aQ:=aj hL1;clear hB1 hL1 HA;go_wp2_with fail;refine (Km c s (i+1) w1 aQ.out hs (by omega)).mono ?_;rintro e w2 ⟨hB2,⟨r,j,hr,rfl,hL2⟩ | ⟨hr,rfl⟩⟩
  ·have HB2:=aj (HB1.out.trans hB2);have HL2:=aj hL2;have HR:=aj (HX.out.trans hr);clear hB2 hL2 hr;go_wp2_with fail;go_ret;exact ⟨HB2.out,Or.inl ⟨_,_,HR.out,rfl,HL2.out⟩⟩
  ·have HB2:=aj (HB1.out.trans hB2);have HR:=aj (HX.out.trans hr);clear hB2 hr;go_wp2_with fail;exact ⟨rfl,HB2.out,Or.inr ⟨HR.out,rfl⟩⟩
 ·have HA:=aj (eD c s i 92 w HL.out hi (by omega));have HX:Hid (kM s i=if (mJ (nE s i)).1<32\/((mJ (nE s i)).1=65533/\(mJ (nE s i)).2<=1) then none else some ((mJ (nE s i)).1,i+(mJ (nE s i)).2)):=by show _=_;unfold kM;rw [if_neg GH]
  have hdr:(mJ (nE s i)).2<=4000/\(mJ (nE s i)).1<=1114111:=by
   have hz:=qQ s i;by_cases h0:(nE s i).size=0
   ·rw [Ah h0];omega
   ·have:=lY (nE s i) (by omega);rw [zu (by omega)];omega
  clear GH;go_in;go_wp2_with fail;refine HA.out.mono ?_;rintro e w1 ⟨rfl,hB1,hL1⟩;have HB1:=aj hB1;have aQ:=aj hL1;have HT1:=aj (aG.stays HS.out HT.out hB1 (Nat.le_of_lt HL.out.lt));have Zq:=aj (HS.out _ _ HT1.out (ak w1 |>.mono (Nat.le_of_lt aQ.out.lt)));have Xr:=aj (aQ.out.keep (ak w1));have q0:=aQ.out.q0;have q1:=aQ.out.q1;have x1:(i:Int)<=(s.size:Int):=by omega
  clear hB1 hL1 HA;have Qt:Hid (Calls Tryz.prog 252 #[.string (s.extract i s.size)] w1.drew fun e w'=>e=.returned (.tuple #[.int .i32 ((mJ (nE s i)).1:Int),.int .i64 ((mJ (nE s i)).2:Int)])/\Below w1.drew.heap.size w1.drew w'):=HD.out _ _ Zq.out
  have M4:Hid (∀ wx:World,Below w1.drew.heap.size w1.drew wx->wx.cell? ⟨c,0,none⟩=some (.string s)/\wx.cell? ⟨c,1,none⟩=some (.int .i64 i)):=by
   intro wx hx;have:=Xr.out.keep hx;exact ⟨this.q0,this.q1⟩
  generalize (mJ (nE s i)).1=r at HX hdr Qt;generalize (mJ (nE s i)).2=n at HX hdr Qt;obtain ⟨hd1,hd2⟩:=hdr;go_wp2_with fail;go_region_held (fun wx=>wx.cell? ⟨c,0,none⟩=some (.string s)/\wx.cell? ⟨c,1,none⟩=some (.int .i64 i)) (go_keep) ((go_at_call 252;refine Qt.out.mono ?_;rintro e w2 ⟨rfl,hb2⟩;have hc2:=M4.out _ hb2));have HL2:=aj (Xr.out.keep hb2);have HB2:=aj (HB1.out.trans ((aG.of (ak w1)).trans (aG.of hb2)));have r1:=HL2.out.q1;have r2:=HL2.out.f1;clear hb2 hc2 q0 q1 Qt M4 Xr Zq;by_cases h1:r<32
  ·have HZ:Hid (kM s i=none):=by show _=_;rw [HX.out,if_pos (Or.inl h1)]
   have y1:decide ((r:Int)<32)=true:=decide_eq_true (by omega);clear h1;go_wp2_with fail;exact ⟨rfl,HB2.out,Or.inr ⟨HZ.out,rfl⟩⟩
  ·have y1:decide ((r:Int)<32)=false:=decide_eq_false (by omega);by_cases h2:r=65533
   ·have y2:((r:Int)==65533)=true:=by rw [beq_iff_eq];omega
    by_cases h3:n<=1
    ·have HZ:Hid (kM s i=none):=by show _=_;rw [HX.out,if_pos (Or.inr ⟨h2,h3⟩)]
     have y3:decide ((n:Int)<=1)=true:=decide_eq_true (by omega);clear h1 h2 h3;go_wp2_with fail;exact ⟨rfl,HB2.out,Or.inr ⟨HZ.out,rfl⟩⟩
    ·have HZ:Hid (kM s i=some (r,i+n)):=by show _=_;rw [HX.out,if_neg (by omega)]
     have y3:decide ((n:Int)<=1)=false:=decide_eq_false (by omega);clear h1 h2 h3;go_wp2_with fail;go_ret;exact ⟨HB2.out.trans (aG.set w2 c 1 _),Or.inl ⟨_,_,HZ.out,rfl,HL2.out.set (i+n)⟩⟩
   ·have HZ:Hid (kM s i=some (r,i+n)):=by show _=_;rw [HX.out,if_neg (by omega)]
    have y2:((r:Int)==65533)=false:=by rw [beq_eq_false_iff_ne];omega
    clear h1 h2;go_wp2_with fail;go_ret;exact ⟨HB2.out.trans (aG.set w2 c 1 _),Or.inl ⟨_,_,HZ.out,rfl,HL2.out.set (i+n)⟩⟩
theorem wV {w w':World} {lo:Nat} {e:TypeId} {size n:Nat} {v:Value} {xs:List Value} (h:w.ownsRowF lo e size v n xs) (hb:∀ b,lo<=b->b<w.heap.size->w'.heap[b]?=w.heap[b]?):w'.ownsRowF lo e size v n xs:=by
 refine ⟨h.1,?_⟩;rcases h.2 with hn | ⟨g,cap,cur,fz,rfl,hb0,hg,rest⟩
 ·exact .inl hn
 ·exact .inr ⟨g,cap,cur,fz,rfl,hb0,(hb g hb0 (Array.getElem?_eq_some_iff.1 hg).1).trans hg,rest⟩
theorem tC {T e:TypeId} {B b c:Nat} {p:Value} {bs:List Value} {w w':World} (h:Lib.BuilderAtF T e B b p bs w) (hB:aG c w w') (hc:c<B):Lib.BuilderAtF T e B b p bs w':=by
 have hlt:=h.lt;obtain ⟨h0,v,hb,hown,hne⟩:=h;exact ⟨h0,v,(hB.block b hlt (by omega)).trans hb,wV hown (fun k h1 h2=>hB.block k h2 (by omega)),hne⟩
theorem q9 {T e:TypeId} {B b c:Nat} {bs:List Value} {w w':World} (h:Lib.IsBuilderF T e B b bs w) (hB:aG c w w') (hc:c<B):Lib.IsBuilderF T e B b bs w' :=
 h.elim (fun x=>.inl (tC x hB hc)) (fun x=>.inr (tC x hB hc))
theorem aG.over {c:Nat} {w1 wr w':World} (h:aG c w1 wr) (hb:Below w1.heap.size wr w'):aG c w1 w' :=
 ⟨hb.os.trans h.os,hb.tape.trans h.tape,hb.output.trans h.output,Nat.le_trans h.size hb.size,fun i hi hc=>(hb.block i hi).trans (h.block i hi hc)⟩
theorem Cx (B b:Nat) (acc:List UInt8) (r:Nat) (w:World) (hr:r<=1114111) (h:Lib.IsBuilderF 65 5 B b (Lib.byteCells acc) w) (hl:acc.length<=1000000) (hB:B<=w.heap.size) :
  Calls Tryz.prog 222 #[.pointer (some ⟨b,0,none⟩),.int .i32 (r:Int)] w fun e w'=>e=.returned (.tuple #[.int .i64 (Lib.runeCells (r:Int)).length,.nilIface])/\Lib.IsBuilderF 65 5 B b (Lib.byteCells (acc++Lib.encodeRune (r:Int))) w'/\Below B w w':=by
 refine (Any.Builder_WriteRune_k Tryz.laysWriteRune Tryz.extraWriteRune B b (Lib.byteCells acc) (r:Int) (by omega) (by omega) w h (by rw [Lib.byteCells_length];omega) hB).mono ?_;rintro e w' ⟨rfl,h1,b1,_⟩;refine ⟨rfl,Or.inr ?_,b1⟩;rw [Lib.byteCells_append,Lib.byteCells_encodeRune];exact h1
theorem Aw (B b:Nat) (acc:List UInt8) (w:World) (h:Lib.IsBuilderF 65 5 B b (Lib.byteCells acc) w) (hB:B<=w.heap.size) :
  Calls Tryz.prog 42 #[.pointer (some ⟨b,0,none⟩)] w fun e w'=>e=.returned (.string (bY acc))/\Below B w w':=by
 refine (Any.Builder_String_any_k Tryz.laysString Tryz.extraString B b acc w h hB).mono ?_;rintro e w' ⟨rfl,_,b1,_⟩;exact ⟨rfl,b1⟩
def U4 (c:Nat) (s:ByteArray) (i:Nat) (w:World) (e:Ending) (w':World):Prop :=
 aG c w w'/\((∃ x j,fF s i=some (x,j)/\e=.returned (.string x)/\PL c s j w')\/(fF s i=none/\e=fU 2))
theorem M5 {s:ByteArray} {i:Nat} (h:cB s i=34):fF s i=(kP s (s.size+1) (i+1)).map fun p=>(bY p.1,p.2):=by unfold fF;rw [if_pos h]
theorem GU {s:ByteArray} {i:Nat} (h:cB s i≠34):fF s i=none:=by unfold fF;rw [if_neg h]
theorem EZ {Tb:World->Prop} (hD:bS Tb) (c:Nat) (hS:dB Tb c) (s:ByteArray) (i:Nat) (w:World) (h:PL c s i w) (hT:Tb w) (hs:s.size<=4000) (hi:i<=s.size) :
  Calls Tryz.prog 181 #[.pointer (some ⟨c,0,none⟩)] w (U4 c s i w):=by
 have HL:=aj h;have HT:=aj hT;have HS:=aj hS;have HD:=aj hD;clear h hT hS hD;by_cases x9:cB s i=34
 ·have hlt:i<s.size:=aZ (by omega);have HA:=aj (jU c s i 34 w HL.out hs (by omega) (by omega));have HX:=aj (M5 x9);clear x9;go_in;go_wp2_with fail;refine HA.out.mono ?_;rintro e w1 ⟨rfl,hB1,hL1⟩;have HB1:=aj hB1;have aQ:=aj hL1;have hc1:=hL1.lt;have HT1:=aj (aG.stays HS.out HT.out hB1 (Nat.le_of_lt HL.out.lt));clear hB1 hL1 HA;have HF:Hid (Lib.IsBuilderF 65 5 w1.heap.size w1.heap.size (Lib.byteCells []) (w1.alloc (.cells #[.pointer none,.slice none 0 0] 65))):=Lib.IsBuilderF.of (Lib.fresh_isBuilder 65 5 w1);have jQ:Hid (aG c w1 (w1.alloc (.cells #[.pointer none,.slice none 0 0] 65))):=aG.of (bG _ _);have M6:=aj (aQ.out.keep ((Below.refl _ _).alloc (Nat.le_refl _) (.cells #[.pointer none,.slice none 0 0] 65)));go_wp2_with fail;go_loopg [] (s.size - (i+1)) (fun g wr=>∃ (k n:Nat) (acc:List UInt8),g=s.size - k/\k<=s.size/\s.size+1<=n+k/\acc.length<=4*k/\Hid (PL c s k wr)/\Hid (Lib.IsBuilderF 65 5 w1.heap.size w1.heap.size (Lib.byteCells acc) wr)/\Hid (aG c w1 wr)/\Hid (kP s (s.size+1) (i+1)=(kP s n k).map fun p=>(acc++p.1,p.2)))
  case atStart=>exact ⟨i+1,s.size+1,[],rfl,by omega,by omega,by simp,M6,HF,jQ,by show _=_;cases kP s (s.size+1) (i+1)<;>rfl⟩
  case round =>
   clear HF jQ M6;obtain ⟨k,n,acc,rfl,hk,hn,hacc,jR,HF,QX,HN⟩:=hrel;obtain ⟨n,rfl⟩:∃ m,n=m+1:=⟨n - 1,by omega⟩;by_cases hq:cB s k=34
   ·have HZ:Hid (fF s i=some (bY acc,k+1)):=by
     show _=_;rw [HX.out,HN.out,Ak hq];simp
    go_wp2_with fail;refine (fO c s k 34 wr jR.out hs (by omega) (by omega)).mono ?_;rintro e w2 ⟨rfl,hB2,hL2⟩;have HL2:=aj hL2;have ru:=aj (q9 HF.out hB2 hc1);have HB2:=aj (QX.out.trans hB2);clear hB2 hL2 jR HF QX;go_wp2_with fail;refine (Aw w1.heap.size w1.heap.size acc w2 ru.out HB2.out.size).mono ?_;rintro e w3 ⟨rfl,hb3⟩;have HB3:=aj (HB2.out.over hb3);have gF:=aj (HL2.out.move hb3.size (hb3.block _ hc1));clear hb3;go_wp2_with fail;go_ret;exact ⟨HB1.out.trans HB3.out,Or.inl ⟨_,_,HZ.out,rfl,gF.out⟩⟩
   ·go_wp2_with fail;refine (eD c s k 34 wr jR.out hk (by omega)).mono ?_;rintro e w2 ⟨rfl,hB2,hL2⟩;have HL2:=aj hL2;have ru:=aj (q9 HF.out hB2 hc1);have HB2:=aj (QX.out.trans hB2);have HT2:=aj (aG.stays HS.out HT1.out HB2.out (Nat.le_of_lt hc1));clear hB2 hL2 jR HF QX;go_wp2_with fail;refine (Kn HD.out c HS.out s k w2 HL2.out HT2.out hs hk).mono ?_;rintro e w3 ⟨hB3,⟨r,j,hr,rfl,hL3⟩ | ⟨hr,rfl⟩⟩
    ·have gF:=aj hL3;have vg:=aj (q9 ru.out hB3 hc1);have HB3:=aj (HB2.out.trans hB3);have gG:=Ai hr;have HN3:=aj (HN.out.trans (Al (n:=n) acc hq hr));have hl4:=Lib.runeCells_le (r:Int);rw [Lib.runeCells_length] at hl4;clear hB3 hL3 hr HL2 ru HB2 HT2 HN;go_wp2_with fail;refine (Cx w1.heap.size w1.heap.size acc r w3 gG.2.2 vg.out (by omega) HB3.out.size).mono ?_;rintro e w4 ⟨rfl,hF4,hb4⟩;have jM:=aj (gF.out.move hb4.size (hb4.block _ hc1));have bO:=aj (HB3.out.over hb4);have Xt:=aj hF4;clear hb4 hF4 gF HB3 vg;go_wp2_with fail;go_roundg (s.size - j)
     case rel=>exact ⟨j,n,acc++Lib.encodeRune (r:Int),rfl,by omega,by omega,by rw [List.length_append];omega,jM,Xt,bO,HN3⟩
     case measure=>omega
    ·have HB3:=aj (HB1.out.trans (HB2.out.trans hB3))
     have HZ:Hid (fF s i=none):=by
      show _=_;rw [HX.out,HN.out,oC hq hr];rfl
     clear hB3 hr;go_wp2_with fail;exact ⟨rfl,HB3.out,Or.inr ⟨HZ.out,rfl⟩⟩
 ·have HA:=aj (oJ c s i 34 w HL.out hs hi (by omega));have HX:=aj (GU x9);clear x9;go_in;go_wp2_with fail;refine HA.out.mono ?_;rintro e w1 ⟨rfl,hB1⟩;have HB1:=aj hB1;clear hB1 HA;go_wp2_with fail;exact ⟨rfl,HB1.out,Or.inr ⟨HX.out,rfl⟩⟩
end Go.Proofs.YtknakfpciccoaaaGreatDoor
/- Contracts of the library's shelf, laid at this dump: strings.Builder's WriteByte and WriteString, strconv.FormatInt. -/
namespace Go.Proofs
open Go.Shelf
def Tryz.laysWriteByte_ren:Go.Shelf.Ren:=⟨fun | 167=>128 | 240=>125 | 276=>161 | n=>n,fun | 0=>0 | 4=>4 | 5=>5 | 9=>9 | 20=>20 | 37=>63 | 70=>62 | 72=>65 | 75=>116 | 164=>185 | 80=>67 | n=>n,fun | n=>n⟩
theorem Tryz.laysWriteByte:Go.Proofs.Lays.n167 Tryz.prog Tryz.laysWriteByte_ren:={
 mixed:=by kernel_rfl
 f167:=Tryz.func128.trans (congrArg some (by kernel_rfl))
 f240:=Tryz.func125.trans (congrArg some (by kernel_rfl))
 f276:=Tryz.func161.trans (congrArg some (by kernel_rfl))
 t0:=Tryz.underlying0
 a0:=Tryz.isAgg0
 z0:=Tryz.sizeOf0
 v0:=Tryz.zeroValue0
 t4:=Tryz.underlying4
 a4:=Tryz.isAgg4
 z4:=Tryz.sizeOf4
 v4:=Tryz.zeroValue4
 t5:=Tryz.underlying5
 a5:=Tryz.isAgg5
 z5:=Tryz.sizeOf5
 v5:=Tryz.zeroValue5
 t9:=Tryz.underlying9
 a9:=Tryz.isAgg9
 z9:=Tryz.sizeOf9
 v9:=Tryz.zeroValue9
 t20:=Tryz.underlying20
 a20:=Tryz.isAgg20
 z20:=Tryz.sizeOf20
 v20:=Tryz.zeroValue20
 t37:=Tryz.underlying63
 a37:=Tryz.isAgg63
 z37:=Tryz.sizeOf63
 v37:=Tryz.zeroValue63
 t70:=Tryz.underlying62
 a70:=Tryz.isAgg62
 z70:=Tryz.sizeOf62
 v70:=Tryz.zeroValue62
 t72:=Tryz.underlying65
 a72:=Tryz.isAgg65
 z72:=Tryz.sizeOf65
 v72:=Tryz.zeroValue65
 t75:=Tryz.underlying116
 a75:=Tryz.isAgg116
 z75:=Tryz.sizeOf116
 v75:=Tryz.zeroValue116
 t164:=Tryz.underlying185
 a164:=Tryz.isAgg185
 z164:=Tryz.sizeOf185
 v164:=Tryz.zeroValue185 }
theorem Tryz.extraWriteByte:Go.Proofs.Builder.Extra Tryz.prog Tryz.laysWriteByte_ren:={
 sizeBuilder:=by kernel_rfl
 liesBuilder:=by kernel_rfl
 t5:=Tryz.underlying5
 a5:=Tryz.isAgg5
 z5:=Tryz.sizeOf5
 v5:=Tryz.zeroValue5
 infoByte:=by kernel_rfl
 cellsByte:=by kernel_rfl
 sizeByte:=by kernel_rfl
 neB5:=by decide }
def Tryz.laysWriteString_ren:Go.Shelf.Ren:=⟨fun | 166=>74 | 240=>125 | 276=>161 | n=>n,fun | 0=>0 | 3=>3 | 4=>4 | 9=>9 | 20=>20 | 37=>63 | 70=>62 | 72=>65 | 75=>116 | 164=>185 | 80=>67 | n=>n,fun | n=>n⟩
theorem Tryz.laysWriteString:Go.Proofs.Lays.n166 Tryz.prog Tryz.laysWriteString_ren:={
 mixed:=by kernel_rfl
 f166:=Tryz.func74.trans (congrArg some (by kernel_rfl))
 f240:=Tryz.func125.trans (congrArg some (by kernel_rfl))
 f276:=Tryz.func161.trans (congrArg some (by kernel_rfl))
 t0:=Tryz.underlying0
 a0:=Tryz.isAgg0
 z0:=Tryz.sizeOf0
 v0:=Tryz.zeroValue0
 t3:=Tryz.underlying3
 a3:=Tryz.isAgg3
 z3:=Tryz.sizeOf3
 v3:=Tryz.zeroValue3
 t4:=Tryz.underlying4
 a4:=Tryz.isAgg4
 z4:=Tryz.sizeOf4
 v4:=Tryz.zeroValue4
 t9:=Tryz.underlying9
 a9:=Tryz.isAgg9
 z9:=Tryz.sizeOf9
 v9:=Tryz.zeroValue9
 t20:=Tryz.underlying20
 a20:=Tryz.isAgg20
 z20:=Tryz.sizeOf20
 v20:=Tryz.zeroValue20
 t37:=Tryz.underlying63
 a37:=Tryz.isAgg63
 z37:=Tryz.sizeOf63
 v37:=Tryz.zeroValue63
 t70:=Tryz.underlying62
 a70:=Tryz.isAgg62
 z70:=Tryz.sizeOf62
 v70:=Tryz.zeroValue62
 t72:=Tryz.underlying65
 a72:=Tryz.isAgg65
 z72:=Tryz.sizeOf65
 v72:=Tryz.zeroValue65
 t75:=Tryz.underlying116
 a75:=Tryz.isAgg116
 z75:=Tryz.sizeOf116
 v75:=Tryz.zeroValue116
 t164:=Tryz.underlying185
 a164:=Tryz.isAgg185
 z164:=Tryz.sizeOf185
 v164:=Tryz.zeroValue185 }
theorem Tryz.extraWriteString:Go.Proofs.Builder.Extra Tryz.prog Tryz.laysWriteString_ren:={
 sizeBuilder:=by kernel_rfl
 liesBuilder:=by kernel_rfl
 t5:=Tryz.underlying5
 a5:=Tryz.isAgg5
 z5:=Tryz.sizeOf5
 v5:=Tryz.zeroValue5
 infoByte:=by kernel_rfl
 cellsByte:=by kernel_rfl
 sizeByte:=by kernel_rfl
 neB5:=by decide }
def Tryz.laysFormat_ren:Go.Shelf.Ren:=⟨fun | 173=>76 | 246=>127 | 283=>162 | 284=>163 | 285=>164 | 286=>165 | 129=>196 | 317=>195 | 318=>197 | 319=>198 | 320=>199 | 337=>240 | 338=>241 | n=>n,fun | 2=>2 | 3=>3 | 9=>9 | 4=>4 | 171=>187 | 0=>0 | 53=>127 | 37=>63 | 5=>5 | 173=>190 | 212=>215 | 51=>216 | 20=>20 | 213=>217 | 46=>155 | 232=>301 | 233=>302 | n=>n,fun | 17=>2 | 18=>3 | 19=>4 | n=>n⟩
theorem Tryz.laysFormat:Go.Proofs.LaysM.n173 Tryz.prog Tryz.laysFormat_ren:={
 mixed:=by kernel_rfl
 f129:=Tryz.func196.trans (congrArg some (by kernel_rfl))
 f173:=Tryz.func76.trans (congrArg some (by kernel_rfl))
 f246:=Tryz.func127.trans (congrArg some (by kernel_rfl))
 f283:=Tryz.func162.trans (congrArg some (by kernel_rfl))
 f284:=Tryz.func163.trans (congrArg some (by kernel_rfl))
 f285:=Tryz.func164.trans (congrArg some (by kernel_rfl))
 f286:=Tryz.func165.trans (congrArg some (by kernel_rfl))
 f317:=Tryz.func195.trans (congrArg some (by kernel_rfl))
 f318:=Tryz.func197.trans (congrArg some (by kernel_rfl))
 f319:=Tryz.func198.trans (congrArg some (by kernel_rfl))
 f320:=Tryz.func199.trans (congrArg some (by kernel_rfl))
 f337:=Tryz.func240.trans (congrArg some (by kernel_rfl))
 f338:=Tryz.func241.trans (congrArg some (by kernel_rfl))
 t0:=Tryz.underlying0
 a0:=Tryz.isAgg0
 z0:=Tryz.sizeOf0
 v0:=Tryz.zeroValue0
 t2:=Tryz.underlying2
 a2:=Tryz.isAgg2
 z2:=Tryz.sizeOf2
 v2:=Tryz.zeroValue2
 t3:=Tryz.underlying3
 a3:=Tryz.isAgg3
 z3:=Tryz.sizeOf3
 v3:=Tryz.zeroValue3
 t4:=Tryz.underlying4
 a4:=Tryz.isAgg4
 z4:=Tryz.sizeOf4
 v4:=Tryz.zeroValue4
 t5:=Tryz.underlying5
 a5:=Tryz.isAgg5
 z5:=Tryz.sizeOf5
 v5:=Tryz.zeroValue5
 t9:=Tryz.underlying9
 a9:=Tryz.isAgg9
 z9:=Tryz.sizeOf9
 v9:=Tryz.zeroValue9
 t20:=Tryz.underlying20
 a20:=Tryz.isAgg20
 z20:=Tryz.sizeOf20
 v20:=Tryz.zeroValue20
 t37:=Tryz.underlying63
 a37:=Tryz.isAgg63
 z37:=Tryz.sizeOf63
 v37:=Tryz.zeroValue63
 t46:=Tryz.underlying155
 a46:=Tryz.isAgg155
 z46:=Tryz.sizeOf155
 v46:=Tryz.zeroValue155
 t51:=Tryz.underlying216
 a51:=Tryz.isAgg216
 z51:=Tryz.sizeOf216
 v51:=Tryz.zeroValue216
 t53:=Tryz.underlying127
 a53:=Tryz.isAgg127
 z53:=Tryz.sizeOf127
 v53:=Tryz.zeroValue127
 t171:=Tryz.underlying187
 a171:=Tryz.isAgg187
 z171:=Tryz.sizeOf187
 v171:=Tryz.zeroValue187
 t173:=Tryz.underlying190
 a173:=Tryz.isAgg190
 z173:=Tryz.sizeOf190
 v173:=Tryz.zeroValue190
 t212:=Tryz.underlying215
 a212:=Tryz.isAgg215
 z212:=Tryz.sizeOf215
 v212:=Tryz.zeroValue215
 t213:=Tryz.underlying217
 a213:=Tryz.isAgg217
 z213:=Tryz.sizeOf217
 t232:=Tryz.underlying301
 a232:=Tryz.isAgg301
 z232:=Tryz.sizeOf301
 v232:=Tryz.zeroValue301
 t233:=Tryz.underlying302
 a233:=Tryz.isAgg302
 z233:=Tryz.sizeOf302
 v233:=Tryz.zeroValue302
 g17:=by kernel_rfl
 g18:=by kernel_rfl
 g19:=by kernel_rfl
 i0:=by kernel_rfl
 i2:=by kernel_rfl
 i3:=by kernel_rfl
 i4:=by kernel_rfl
 i5:=by kernel_rfl
 i9:=by kernel_rfl
 i20:=by kernel_rfl
 i37:=by kernel_rfl
 i46:=by kernel_rfl
 i51:=by kernel_rfl
 i53:=by kernel_rfl
 i171:=by kernel_rfl
 i173:=by kernel_rfl
 i212:=by kernel_rfl
 i232:=by kernel_rfl
 i233:=by kernel_rfl
 m17:=by kernel_rfl
 m18:=by kernel_rfl
 m19:=by kernel_rfl }
end Go.Proofs
