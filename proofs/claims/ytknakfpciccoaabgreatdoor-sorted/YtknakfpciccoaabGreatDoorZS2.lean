import Derived.Test.YtknakfpciccoaabGreatDoorZS1
/- The walk of compare. -/
namespace Go.Proofs.YtknakfpciccoaabGreatDoor
open Go.RowKit
set_option maxHeartbeats 2000000 in
set_option maxRecDepth 100000 in
theorem compare_any (f:Nat):CmpSaid f:=by
 induction f with
 | zero=>intro g va vb a b w h;exact h.elim
 | succ f ih =>
  intro g va vb a b w h h' ka kb
  have HA:=hid h
  have HA':=hid h'
  obtain ⟨f1,La,Ka,Lc,Kc,hf1,rfl,hf,hl,hk⟩:=h.open
  obtain rfl:f=f1:=by omega
  obtain ⟨g1,Ma,Na,Mc,Nc,hg1,rfl,hf',hl',hk'⟩:=h'.open
  have hlen:=hf.l1
  have hlen':=hf'.l1
  have HKa:=hid ka
  have HKb:=hid kb
  have Hih:=hid ih
  have HB1:Hid (Below w.heap.size w ((w.alloc (.cells #[.int .i64 (kindOf a),.int .i64 (nOf a),.string (sOf a),.slice La (nL a) Lc,.slice Ka (nK a) Kc] 36)).alloc (.cells #[.int .i64 (kindOf b),.int .i64 (nOf b),.string (sOf b),.slice Ma (nL b) Mc,.slice Na (nK b) Nc] 36))):=((Below.refl _ _).alloc (Nat.le_refl _) _).alloc (by simp) _
  clear h h' hf hf' hf1 hg1 ka kb ih hk hk'
  by_cases k1:kindOf a=kindOf b
  ·have e1:(kindOf a != kindOf b)=false:=by simp [k1]
   by_cases k0:kindOf a=2
   ·have HR:Hid (cmpT (f+1) a b=cmpI (nOf a) (nOf b)):=by show cmpT (f+1) a b=_;simp [cmpT,← k1,k0]
    have g2:(kindOf a==2)=true:=by rw [k0];rfl
    have g3:(kindOf a==3)=false:=by rw [k0];rfl
    have g4:(kindOf a==4)=false:=by rw [k0];rfl
    have g5:(kindOf a==5)=false:=by rw [k0];rfl
    have g6:(kindOf a==6)=false:=by rw [k0];rfl
    clear k0 k1
    go_enter Tryz.func30,Tryz.ntmps30
    go_wp2_with fail
    refine (cmpInt64_any _ _ _).mono ?_
    rintro e w2 ⟨rfl,rfl⟩
    go_wp2_with fail
    go_ret
    exact ⟨ret_int (by rw [HR.out]),HB1.out⟩
   by_cases k0:kindOf a=3
   ·have HR:Hid (cmpT (f+1) a b=cmpI (nOf a) (nOf b)):=by show cmpT (f+1) a b=_;simp [cmpT,← k1,k0]
    have g2:(kindOf a==2)=false:=by rw [k0];rfl
    have g3:(kindOf a==3)=true:=by rw [k0];rfl
    have g4:(kindOf a==4)=false:=by rw [k0];rfl
    have g5:(kindOf a==5)=false:=by rw [k0];rfl
    have g6:(kindOf a==6)=false:=by rw [k0];rfl
    clear k0 k1
    go_enter Tryz.func30,Tryz.ntmps30
    go_wp2_with fail
    refine (cmpInt64_any _ _ _).mono ?_
    rintro e w2 ⟨rfl,rfl⟩
    go_wp2_with fail
    go_ret
    exact ⟨ret_int (by rw [HR.out]),HB1.out⟩
   by_cases k0:kindOf a=4
   ·have HR:Hid (cmpT (f+1) a b=cmpS (sOf a) (sOf b)):=by show cmpT (f+1) a b=_;simp [cmpT,← k1,k0]
    have g2:(kindOf a==2)=false:=by rw [k0];rfl
    have g3:(kindOf a==3)=false:=by rw [k0];rfl
    have g4:(kindOf a==4)=true:=by rw [k0];rfl
    have g5:(kindOf a==5)=false:=by rw [k0];rfl
    have g6:(kindOf a==6)=false:=by rw [k0];rfl
    clear k0 k1
    go_enter Tryz.func30,Tryz.ntmps30
    go_wp2_with fail
    refine (cmpString_any _ _ _).mono ?_
    rintro e w2 ⟨rfl,rfl⟩
    go_wp2_with fail
    go_ret
    exact ⟨ret_int (by rw [HR.out]),HB1.out⟩
   by_cases k0:kindOf a=5
   ·have HR:Hid (cmpT (f+1) a b=ordE (cmpT f) a b):=by show cmpT (f+1) a b=_;simp [cmpT,← k1,k0,isBox]
    have g2:(kindOf a==2)=false:=by rw [k0];rfl
    have g3:(kindOf a==3)=false:=by rw [k0];rfl
    have g4:(kindOf a==4)=false:=by rw [k0];rfl
    have g5:(kindOf a==5)=true:=by rw [k0];rfl
    have g6:(kindOf a==6)=false:=by rw [k0];rfl
    have K5:Hid (kindOf a≠6):=by show kindOf a≠6;omega
    clear k0 k1
    go_enter Tryz.func30,Tryz.ntmps30
    go_wp2_with fail
    refine (CompareFunc_any f Hih.out _ La Ma Lc Mc a b _ (hl.out.keep HB1.out) (hl'.out.keep HB1.out) hlen hlen' K5.out HKa.out.2 HKb.out.2).mono ?_
    rintro e w2 ⟨rfl,hb2⟩
    have HB2:=hid (HB1.out.trans (hb2.mono HB1.out.size))
    clear hb2
    go_wp2_with fail
    go_ret
    exact ⟨ret_int (by rw [HR.out]),HB2.out⟩
   by_cases k0:kindOf a=6
   ·have HR:Hid (cmpT (f+1) a b=ordE (cmpT f) a b):=by show cmpT (f+1) a b=_;simp [cmpT,← k1,k0,isBox]
    have g2:(kindOf a==2)=false:=by rw [k0];rfl
    have g3:(kindOf a==3)=false:=by rw [k0];rfl
    have g4:(kindOf a==4)=false:=by rw [k0];rfl
    have g5:(kindOf a==5)=false:=by rw [k0];rfl
    have g6:(kindOf a==6)=true:=by rw [k0];rfl
    have K6:=hid k0
    have K6b:Hid (kindOf b=6):=by show kindOf b=6;omega
    clear k0 k1
    go_enter Tryz.func30,Tryz.ntmps30
    go_wp2_with fail
    refine (compareObjects_any f Hih.out _ _ _ a b _ (HA.out.keep HB1.out) (HA'.out.keep HB1.out) HKa.out HKb.out K6.out K6b.out).mono ?_
    rintro e w2 ⟨rfl,hb2⟩
    have HB2:=hid (HB1.out.trans (hb2.mono HB1.out.size))
    clear hb2
    go_wp2_with fail
    go_ret
    exact ⟨ret_int (by rw [HR.out]),HB2.out⟩
   have HR:Hid (cmpT (f+1) a b=0):=by
    show cmpT (f+1) a b=_
    simp only [cmpT,isBox]
    rw [if_neg (by omega),if_neg (by omega),if_neg (by omega)]
    exact if_neg (by simp;omega)
   have g2:(kindOf a==2)=false:=by simp;omega
   have g3:(kindOf a==3)=false:=by simp;omega
   have g4:(kindOf a==4)=false:=by simp;omega
   have g5:(kindOf a==5)=false:=by simp;omega
   have g6:(kindOf a==6)=false:=by simp;omega
   clear k1
   go_enter Tryz.func30,Tryz.ntmps30
   go_wp2_with fail
   go_ret
   exact ⟨ret_int (by rw [HR.out]),HB1.out⟩
  ·have e1:(kindOf a != kindOf b)=true:=by simpa using k1
   have HR:Hid (cmpT (f+1) a b=cmpI (kindOf a) (kindOf b)):=by show cmpT (f+1) a b=_;simp only [cmpT];rw [if_pos k1]
   clear k1
   go_enter Tryz.func30,Tryz.ntmps30
   go_wp2_with fail
   refine (cmpInt_any _ _ _).mono ?_
   rintro e w2 ⟨rfl,rfl⟩
   go_wp2_with fail
   go_ret
   exact ⟨ret_int (by rw [HR.out]),HB1.out⟩
end Go.Proofs.YtknakfpciccoaabGreatDoor
/- The walk of areDifferent. -/
namespace Go.Proofs.YtknakfpciccoaabGreatDoor
open Go.RowKit Go.Maps Go.WideMaps
theorem law9:Keyed Tryz.prog 9:=string_keyed Tryz.underlying9
theorem make_hint (n:Int) (w:World):(Instr.makeMap 153 (some (.int .i64 n))).run Tryz.prog w=.ok (.map (some w.heap.size)) (w.alloc (.map #[] 0)):=by kernel_rfl
set_option maxHeartbeats 400000 in
set_option maxRecDepth 100000 in
theorem different_any (Ka:Option Addr) (Kc:Nat) (t:T) (w:World) (hk:NamesAt w Ka t) (hn:nK t≤8796093022208) :
  Calls Tryz.prog 73 #[.slice Ka (nK t) Kc] w fun e w'=>e=.returned (.bool (!dupTo t (nK t)))∧Below w.heap.size w w':=by
 have hmm:=make_hint (nK t)
 have hk':=hid hk
 clear hk
 have Hs:=hid (size_Sn t)
 go_enter Tryz.func73,Tryz.ntmps73
 go_wp2_with fail
 go_loopg [11] (nK t) (fun g i wr=>∃ k:Nat,g=nK t - k∧k≤nK t∧i=.int .i64 k∧Hid (wr.ownsMap Tryz.prog 9 (unitElem (H:=Unit)) w.heap.size k (Sn t k))∧Hid (Below w.heap.size w wr))
 case atStart=>exact ⟨0,rfl,Nat.zero_le _,rfl,by rw [Sn_zero];exact World.ownsMap_made _ _ _ _,(Below.refl _ _).alloc (Nat.le_refl _) _⟩
 case round =>
  obtain ⟨k,rfl,hk1,rfl,Hown,Hnx⟩:=hrel
  by_cases hlt:k<nK t
  ·obtain ⟨kb,ko,rfl,hkb,hks,hkc⟩:=hk'.out.keep Hnx.out k hlt
   have hkey:keyOf Tryz.prog 9 (.string (nam t k))=some (keyAt t k):=keyOf_string_mk Tryz.underlying9 (by unfold maxLen;omega)
   go_wp2_with (first
    | (at_mapUpdate;refine wpList_mapUpdate_own _ rfl _ _ _ 153 rfl 9 154 law9 Tryz.underlying153 (unitElem (H:=Unit)) w.heap.size k _ rfl Hown.out (by unfold maxLen;omega) _ _ _ rfl rfl hkey _ [] unitElem_mk ?_;intro w1 hown1 hgrow1)
    | fail)
   go_roundg (nK t - (k+1))
   case rel=>exact ⟨k+1,rfl,by omega,by go_num,(Sn_succ t k).symm ▸ hown1,Hnx.out.grown hgrow1 Hnx.out.size (fun j hj=>by cases hj;exact Nat.le_refl _)⟩
   case measure=>omega
  ·obtain rfl:k=nK t:=by omega
   have hsz:=(Hs.out (nK t)).1
   go_wp2_with (first
    | (at_len;refine wpList_len_own _ rfl _ 153 rfl 9 154 Tryz.underlying153 (unitElem (H:=Unit)) w.heap.size (nK t) _ rfl Hown.out ?_)
    | fail)
   go_ret
   refine ⟨ret_bool ?_,Hnx.out⟩
   have:=(Hs.out (nK t)).2
   cases hd:dupTo t (nK t) with
   | true =>
    rw [hd] at this
    simp
    intro e
    have:=this.1 (by omega)
    cases this
   | false =>
    rw [hd] at this
    simp [this.2 rfl]
end Go.Proofs.YtknakfpciccoaabGreatDoor
/- The walks of the checker's parts: a text, names. -/
namespace Go.Proofs.YtknakfpciccoaabGreatDoor
open Go.RowKit
def ValidSaid (Tb:World→Prop):Prop:=∀ (s:ByteArray) (w:World),s.size≤9223372036854775807→Tb w →
 Calls Tryz.prog 114 #[.string s] w fun e w'=>e=.returned (.bool (okS s))∧Below w.heap.size w w'
def Stays (Tb:World→Prop) (c:Nat):Prop:=∀ w w':World,Tb w→Below c w w'→Tb w'
set_option maxHeartbeats 400000 in
theorem take2_any (c:Nat) (l n:Int) (w:World) (h:Holds c l w) (l0:0≤l) (l1:l≤1048576) (n0:0≤n) (n1:n≤1000000) :
  Calls Tryz.prog 75 #[.pointer (some ⟨c,0,none⟩),.int .i64 n] w fun e w'=>e=.returned (.bool (decide (n≤l)))∧Holds c (l - n) w'∧But c w w':=by
 refine (take_any c l n w h.cell h.free (by omega) l1 n0 n1).mono ?_
 rintro e w' ⟨rfl,rfl⟩
 exact ⟨rfl,(h.set _).1,(h.set _).2⟩
set_option maxHeartbeats 400000 in
theorem text_any {Tb:World→Prop} (hV:ValidSaid Tb) (c:Nat) (hS:Stays Tb c) (s:ByteArray) (l:Int) (w:World) (h:Holds c l w) (hT:Tb w) (l0:0≤l) (l1:l≤1048576) (hs:s.size≤140737488355328) :
  Calls Tryz.prog 76 #[.pointer (some ⟨c,0,none⟩),.string s] w fun e w'=>ChkPost c w (textO s l) e w':=by
 have H:=hid h
 have HT:=hid hT
 clear h hT
 by_cases h1:s.size≤4000
 ·by_cases h2:(s.size:Int)≤l
  ·go_enter Tryz.func76,Tryz.ntmps76
   go_wp2_with fail
   refine (take2_any c l s.size w H.out l0 l1 (by omega) (by omega)).mono ?_
   rintro e w1 ⟨rfl,K1,B1⟩
   have HK1:=hid K1
   have HB1:=hid B1
   clear K1 B1
   go_wp2_with fail
   refine (hV s w1 (by omega) (hS _ _ HT.out (HB1.out.below (Nat.le_of_lt H.out.lt)))).mono ?_
   rintro e w2 ⟨rfl,B2⟩
   have HB2:=hid B2
   clear B2
   cases hv:okS s with
   | true =>
    have Hv:=hid hv
    clear hv
    go_wp2_with fail
    go_ret
    exact ⟨HB1.out.trans (But.of HB2.out),l - s.size,HK1.out.keep HB2.out,Or.inl ⟨by unfold textO;rw [if_pos ⟨h1,h2,Hv.out⟩],by omega,by omega,rfl⟩⟩
   | false =>
    have Hv:=hid hv
    clear hv
    go_wp2_with fail
    go_ret
    exact ⟨HB1.out.trans (But.of HB2.out),l - s.size,HK1.out.keep HB2.out,Or.inr ⟨by unfold textO;rw [if_neg (by rw [Hv.out];simp)],rfl⟩⟩
  ·go_enter Tryz.func76,Tryz.ntmps76
   go_wp2_with fail
   refine (take2_any c l s.size w H.out l0 l1 (by omega) (by omega)).mono ?_
   rintro e w1 ⟨rfl,K1,B1⟩
   have HK1:=hid K1
   have HB1:=hid B1
   clear K1 B1
   have hd:decide ((s.size:Int)≤l)=false:=decide_eq_false (by omega)
   have H2:=hid h2
   clear h2
   go_wp2_with fail
   go_ret
   exact ⟨HB1.out,l - s.size,HK1.out,Or.inr ⟨by unfold textO;rw [if_neg (fun h=>by have:=H2.out;omega)],rfl⟩⟩
 ·have H1:=hid h1
  have hd:decide ((s.size:Int)≤4000)=false:=decide_eq_false (by omega)
  clear h1
  go_enter Tryz.func76,Tryz.ntmps76
  go_wp2_with fail
  go_ret
  exact ⟨But.refl _ _,l,H.out,Or.inr ⟨by unfold textO;rw [if_neg (fun h=>H1.out h.1)],rfl⟩⟩
set_option maxHeartbeats 1000000 in
theorem names_any {Tb:World→Prop} (hV:ValidSaid Tb) (c:Nat) (hS:Stays Tb c) (w0:World) (hN:w0.heap.size≤c) (Ka:Option Addr) (Kc:Nat) (t:T) (l:Int) (w:World)
  (hk:NamesAt w0 Ka t) (hn:nK t≤8796093022208) (hb0:Below w0.heap.size w0 w) (h:Holds c l w) (hT:Tb w) (l0:0≤l) (l1:l≤1048576) :
  Calls Tryz.prog 78 #[.pointer (some ⟨c,0,none⟩),.slice Ka (nK t) Kc] w fun e w'=>ChkPost c w (namesO t l) e w':=by
 have H:=hid h
 have HT:=hid hT
 have Hk:=hid hk
 have Hb0:=hid hb0
 clear h hT hk hb0
 go_enter Tryz.func78,Tryz.ntmps78
 go_wp2_with fail
 go_loopg [9] (nK t) (fun g i wr=>∃ (k:Nat) (x:Int),g=nK t - k∧k≤nK t∧i=.int .i64 k∧0≤x∧x≤1048576∧Hid (namesL t k l=some x)∧Hid (Holds c x wr)∧Hid (But c w wr))
 case atStart=>exact ⟨0,l,rfl,Nat.zero_le _,rfl,l0,l1,rfl,H,But.refl _ _⟩
 case round =>
  obtain ⟨k,x,rfl,hk1,rfl,x0,x1,HX,HH,HB⟩:=hrel
  have Hbr:=hid (Hb0.out.trans ((HB.out.below (Nat.le_of_lt H.out.lt)).mono hN))
  by_cases hlt:k<nK t
  ·obtain ⟨kb,ko,rfl,hkb,hks,hkc⟩:=Hk.out.keep Hbr.out k hlt
   go_wp2_with fail
   refine (take2_any c x 2 wr HH.out x0 x1 (by omega) (by omega)).mono ?_
   rintro e w1 ⟨rfl,K1,B1⟩
   have HK1:=hid K1
   have HB1:=hid B1
   clear K1 B1
   by_cases h2:2≤x
   ·go_wp2_with fail
    refine (text_any hV c hS (nam t k) (x - 2) w1 HK1.out (hS _ _ HT.out ((HB.out.trans HB1.out).below (Nat.le_of_lt H.out.lt))) (by omega) (by omega) hks).mono ?_
    rintro e w2 ⟨B2,l',K2,hr⟩
    have HB2:=hid B2
    have HK2:=hid K2
    clear B2 K2
    rcases hr with ⟨hr,y0,y1,rfl⟩ | ⟨hr,rfl⟩
    ·have Hr:=hid hr
     clear hr
     go_wp2_with fail
     go_roundg (nK t - (k+1))
     case rel =>
      refine ⟨k+1,l',rfl,by omega,by go_num,y0,y1,?_,HK2,HB.out.trans (HB1.out.trans HB2.out)⟩
      show ((namesL t k l).bind fun x=>(takeO 2 x).bind (textO (nam t k)))=_
      rw [HX.out]
      simp only [Option.bind_some,takeO,if_pos h2]
      exact Hr.out
     case measure=>omega
    ·have Hr:=hid hr
     clear hr
     go_wp2_with fail
     go_ret
     refine ⟨HB.out.trans (HB1.out.trans HB2.out),l',HK2.out,Or.inr ⟨?_,rfl⟩⟩
     unfold namesO
     rw [namesL_none (j:=k+1) hlt]
     ·rfl
     ·show ((namesL t k l).bind fun x=>(takeO 2 x).bind (textO (nam t k)))=_
      rw [HX.out]
      simp only [Option.bind_some,takeO,if_pos h2]
      exact Hr.out
   ·have hd:decide ((2:Int)≤x)=false:=decide_eq_false h2
    have H2:=hid h2
    clear h2
    go_wp2_with fail
    go_ret
    refine ⟨HB.out.trans HB1.out,x - 2,HK1.out,Or.inr ⟨?_,rfl⟩⟩
    unfold namesO
    rw [namesL_none (j:=k+1) hlt]
    ·rfl
    ·show ((namesL t k l).bind fun x=>(takeO 2 x).bind (textO (nam t k)))=_
     rw [HX.out]
     simp only [Option.bind_some,takeO]
     rw [if_neg (by have:=H2.out;omega)]
     rfl
  ·obtain rfl:k=nK t:=by omega
   go_wp2_with fail
   refine (different_any Ka Kc t wr (Hk.out.keep Hbr.out) hn).mono ?_
   rintro e w1 ⟨rfl,B1⟩
   have HB1:=hid B1
   clear B1
   cases hd:dupTo t (nK t) with
   | true =>
    have Hd:=hid hd
    clear hd
    go_wp2_with fail
    go_ret
    refine ⟨HB.out.trans (But.of HB1.out),x,HH.out.keep HB1.out,Or.inr ⟨?_,rfl⟩⟩
    unfold namesO
    rw [HX.out,Hd.out]
    rfl
   | false =>
    have Hd:=hid hd
    clear hd
    go_wp2_with fail
    go_ret
    refine ⟨HB.out.trans (But.of HB1.out),x,HH.out.keep HB1.out,Or.inl ⟨?_,x0,x1,rfl⟩⟩
    unfold namesO
    rw [HX.out,Hd.out]
    rfl
end Go.Proofs.YtknakfpciccoaabGreatDoor
/- The walks of the checker: values, and a value. -/
namespace Go.Proofs.YtknakfpciccoaabGreatDoor
open Go.RowKit
def ChkSaid (Tb:World→Prop) (c:Nat) (w0:World) (m:Nat):Prop:=∀ (f:Nat) (v:Value) (t:T) (l:Int) (w:World),
 At w0 f v t→Below w0.heap.size w0 w→Holds c l w→Tb w→0≤l→l≤1048576 →
  Calls Tryz.prog 47 #[.pointer (some ⟨c,0,none⟩),v,.int .i64 (12 - (m:Int))] w fun e w'=>ChkPost c w (chkT m t l) e w'
set_option maxHeartbeats 1000000 in
theorem values_any {Tb:World→Prop} (c:Nat) (hS:Stays Tb c) (w0:World) (hN:w0.heap.size≤c) (m:Nat) (ih:ChkSaid Tb c w0 m) (f:Nat) (La:Option Addr) (Lc:Nat) (t:T) (l:Int) (w:World)
  (hl:ElemsAt w0 f La t) (hn:nL t≤1759218604442) (hb0:Below w0.heap.size w0 w) (h:Holds c l w) (hT:Tb w) (l0:0≤l) (l1:l≤1048576) :
  Calls Tryz.prog 77 #[.pointer (some ⟨c,0,none⟩),.slice La (nL t) Lc,.int .i64 (12 - (m:Int))] w fun e w'=>ChkPost c w (valuesL (chkT m) t (nL t) l) e w':=by
 have H:=hid h
 have HT:=hid hT
 have Hl:=hid hl
 have Hb0:=hid hb0
 have Hih:=hid ih
 clear h hT hl hb0 ih
 go_enter Tryz.func77,Tryz.ntmps77
 go_wp2_with fail
 go_loopg [11] (nL t) (fun g i wr=>∃ (k:Nat) (x:Int),g=nL t - k∧k≤nL t∧i=.int .i64 k∧0≤x∧x≤1048576∧Hid (valuesL (chkT m) t k l=some x)∧Hid (Holds c x wr)∧Hid (But c w wr))
 case atStart=>exact ⟨0,l,rfl,Nat.zero_le _,rfl,l0,l1,rfl,H,But.refl _ _⟩
 case round =>
  obtain ⟨k,x,rfl,hk1,rfl,x0,x1,HX,HH,HB⟩:=hrel
  have Hbr:=hid (Hb0.out.trans ((HB.out.below (Nat.le_of_lt H.out.lt)).mono hN))
  by_cases hlt:k<nL t
  ·obtain ⟨b,o,A,B,C,D,rfl,hbl,p0,p1,p2,p3,p4,Ha⟩:=Hl.out.shape Hbr.out k hlt
   go_wp2_with fail
   have B1:Below wr.heap.size wr (wr.alloc (.cells #[.int .i64 (kindOf (elt t k)),.int .i64 (nOf (elt t k)),.string (sOf (elt t k)),.slice A (nL (elt t k)) B,.slice C (nK (elt t k)) D] 36)):=(Below.refl _ _).alloc (Nat.le_refl _) _
   have HB1:=hid B1
   clear B1
   refine (Hih.out f _ (elt t k) x _ Ha.out (Hbr.out.trans (HB1.out.mono (Nat.le_trans hN (Nat.le_of_lt HH.out.lt)))) (HH.out.keep HB1.out) (hS _ _ (hS _ _ HT.out (HB.out.below (Nat.le_of_lt H.out.lt))) (HB1.out.mono (Nat.le_of_lt HH.out.lt))) x0 x1).mono ?_
   rintro e w2 ⟨B2,l',K2,hr⟩
   have HB2:=hid ((But.of HB1.out).trans B2)
   have HK2:=hid K2
   clear B2 K2
   have step:valuesL (chkT m) t (k+1) l=chkT m (elt t k) x:=by
    show (valuesL (chkT m) t k l).bind (chkT m (elt t k))=_
    rw [HX.out]
    rfl
   have Hst:=hid step
   clear step
   rcases hr with ⟨hr,y0,y1,rfl⟩ | ⟨hr,rfl⟩
   ·have Hr:=hid hr
    clear hr
    go_wp2_with fail
    go_roundg (nL t - (k+1))
    case rel=>exact ⟨k+1,l',rfl,by omega,by go_num,y0,y1,Hst.out.trans Hr.out,HK2,HB.out.trans HB2.out⟩
    case measure=>omega
   ·have Hr:=hid hr
    clear hr
    go_wp2_with fail
    go_ret
    exact ⟨HB.out.trans HB2.out,l',HK2.out,Or.inr ⟨valuesL_none hlt (Hst.out.trans Hr.out),rfl⟩⟩
  ·obtain rfl:k=nL t:=by omega
   go_wp2_with fail
   go_ret
   exact ⟨HB.out,x,HH.out,Or.inl ⟨HX.out,x0,x1,rfl⟩⟩
end Go.Proofs.YtknakfpciccoaabGreatDoor
/- The walk of the checker's value, kind by kind. -/
namespace Go.Proofs.YtknakfpciccoaabGreatDoor
open Go.RowKit
set_option maxHeartbeats 1000000 in
theorem chk_k1 {Tb:World→Prop} (c:Nat) (hS:Stays Tb c) (w0:World) (hN:w0.heap.size≤c) (m:Nat)  (f:Nat) (v:Value) (t:T) (l:Int) (w:World)
  (h:At w0 f v t) (hb0:Below w0.heap.size w0 w) (hH:Holds c l w) (hT:Tb w) (l0:0≤l) (l1:l≤1048576) (hk0:kindOf t=1) :
  Calls Tryz.prog 47 #[.pointer (some ⟨c,0,none⟩),v,.int .i64 (12 - (m:Int))] w fun e w'=>ChkPost c w (chkT m t l) e w':=by
 obtain ⟨f,La,Ka,Lc,Kc,rfl,rfl,hf,hl,hk⟩:=h.open
 have HB1:Hid (Below w.heap.size w (w.alloc (.cells #[.int .i64 (kindOf t),.int .i64 (nOf t),.string (sOf t),.slice La (nL t) Lc,.slice Ka (nK t) Kc] 36))):=(Below.refl _ _).alloc (Nat.le_refl _) _
 have HK1:=hid (hH.keep HB1.out)
 have HT1:=hid (hS _ _ hT (HB1.out.mono (Nat.le_of_lt hH.lt)))
 have Hb1:=hid (hb0.trans (HB1.out.mono (Nat.le_trans hN (Nat.le_of_lt hH.lt))))
 have HA:=hid (h.keep Hb1.out)
 clear h hb0 hH hT hf hl hk
 have HR0:Hid (chkT m t l=if nOf t=0∧noText t=true∧noLists t=true then takeO 1 l else none):=by
  show chkT m t l=_
  cases m<;>simp [chkT,leafO,hk0]
 have g1:(kindOf t==1)=true:=by rw [hk0];rfl
 clear hk0
 by_cases n0:nOf t=0
 ·have en:(nOf t==0)=true:=by rw [n0];rfl
  by_cases s0:noText t=true
  ·have es:(sOf t).toList.isEmpty=true:=s0
   have N0:=hid n0
   have S0:=hid s0
   clear n0 s0
   go_enter Tryz.func47,Tryz.ntmps47
   go_wp2_with fail
   refine (hasNoLists_any _ _ _ _ HA.out).mono ?_
   rintro e w2 ⟨rfl,B2⟩
   have HB2:=hid B2
   clear B2
   cases hn:noLists t with
   | false =>
    have HR:Hid (chkT m t l=none):=by show chkT m t l=none;rw [HR0.out,if_neg (by rw [hn];simp)]
    clear hn
    go_wp2_with fail
    go_ret
    exact ⟨(But.of HB1.out).trans (But.of HB2.out),l,HK1.out.keep HB2.out,Or.inr ⟨HR.out,rfl⟩⟩
   | true =>
    have HR:Hid (chkT m t l=takeO 1 l):=by show chkT m t l=_;rw [HR0.out,if_pos (⟨N0.out,S0.out,hn⟩)]
    clear hn
    go_wp2_with fail
    refine (take2_any c l 1 w2 (HK1.out.keep HB2.out) l0 l1 (by omega) (by omega)).mono ?_
    rintro e w3 ⟨rfl,K3,B3⟩
    have HK3:=hid K3
    have HB3:=hid B3
    clear K3 B3
    by_cases h9:1≤l
    ·have HR2:Hid (takeO 1 l=some (l - 1)):=by show takeO 1 l=_;unfold takeO;rw [if_pos h9]
     go_wp2_with fail
     go_ret
     exact ⟨((But.of HB1.out).trans (But.of HB2.out)).trans HB3.out,l - 1,HK3.out,Or.inl ⟨HR.out.trans HR2.out,by omega,by omega,rfl⟩⟩
    ·have HR2:Hid (takeO 1 l=none):=by show takeO 1 l=_;unfold takeO;rw [if_neg h9]
     have hd:decide ((1:Int)≤l)=false:=decide_eq_false h9
     clear h9
     go_wp2_with fail
     go_ret
     exact ⟨((But.of HB1.out).trans (But.of HB2.out)).trans HB3.out,l - 1,HK3.out,Or.inr ⟨HR.out.trans HR2.out,rfl⟩⟩
  ·have es:(sOf t).toList.isEmpty=false:=by simpa [noText] using s0
   have HR:Hid (chkT m t l=none):=by show chkT m t l=none;rw [HR0.out,if_neg (by exact fun h=>s0 h.2.1)]
   clear n0 s0
   go_enter Tryz.func47,Tryz.ntmps47
   go_wp2_with fail
   go_ret
   exact ⟨But.of HB1.out,l,HK1.out,Or.inr ⟨HR.out,rfl⟩⟩
 ·have en:(nOf t==0)=false:=by simpa using n0
  have HR:Hid (chkT m t l=none):=by show chkT m t l=none;rw [HR0.out,if_neg (by exact fun h=>n0 h.1)]
  clear n0
  go_enter Tryz.func47,Tryz.ntmps47
  go_wp2_with fail
  go_ret
  exact ⟨But.of HB1.out,l,HK1.out,Or.inr ⟨HR.out,rfl⟩⟩
set_option maxHeartbeats 1000000 in
theorem chk_k2 {Tb:World→Prop} (c:Nat) (hS:Stays Tb c) (w0:World) (hN:w0.heap.size≤c) (m:Nat)  (f:Nat) (v:Value) (t:T) (l:Int) (w:World)
  (h:At w0 f v t) (hb0:Below w0.heap.size w0 w) (hH:Holds c l w) (hT:Tb w) (l0:0≤l) (l1:l≤1048576) (hk0:kindOf t=2) :
  Calls Tryz.prog 47 #[.pointer (some ⟨c,0,none⟩),v,.int .i64 (12 - (m:Int))] w fun e w'=>ChkPost c w (chkT m t l) e w':=by
 obtain ⟨f,La,Ka,Lc,Kc,rfl,rfl,hf,hl,hk⟩:=h.open
 have HB1:Hid (Below w.heap.size w (w.alloc (.cells #[.int .i64 (kindOf t),.int .i64 (nOf t),.string (sOf t),.slice La (nL t) Lc,.slice Ka (nK t) Kc] 36))):=(Below.refl _ _).alloc (Nat.le_refl _) _
 have HK1:=hid (hH.keep HB1.out)
 have HT1:=hid (hS _ _ hT (HB1.out.mono (Nat.le_of_lt hH.lt)))
 have Hb1:=hid (hb0.trans (HB1.out.mono (Nat.le_trans hN (Nat.le_of_lt hH.lt))))
 have HA:=hid (h.keep Hb1.out)
 clear h hb0 hH hT hf hl hk
 have HR0:Hid (chkT m t l=if (nOf t=0∨nOf t=1)∧noText t=true∧noLists t=true then takeO 2 l else none):=by
  show chkT m t l=_
  cases m<;>simp [chkT,leafO,hk0]
 have g1:(kindOf t==1)=false:=by first | (rw [hk0];rfl) | (simp;omega)
 have g2:(kindOf t==2)=true:=by rw [hk0];rfl
 clear hk0
 by_cases n0:nOf t=0∨nOf t=1
 ·have en:(nOf t==0)=true∨(nOf t==0)=false∧(nOf t==1)=true:=by rcases n0 with h | h<;>simp [h]
  by_cases s0:noText t=true
  ·have es:(sOf t).toList.isEmpty=true:=s0
   have N0:=hid n0
   have S0:=hid s0
   clear n0 s0
   rcases en with en | ⟨en,en1⟩
   all_goals
    go_enter Tryz.func47,Tryz.ntmps47
    go_wp2_with fail
    refine (hasNoLists_any _ _ _ _ HA.out).mono ?_
    rintro e w2 ⟨rfl,B2⟩
    have HB2:=hid B2
    clear B2
    cases hn:noLists t with
    | false =>
     have HR:Hid (chkT m t l=none):=by show chkT m t l=none;rw [HR0.out,if_neg (by rw [hn];simp)]
     clear hn
     go_wp2_with fail
     go_ret
     exact ⟨(But.of HB1.out).trans (But.of HB2.out),l,HK1.out.keep HB2.out,Or.inr ⟨HR.out,rfl⟩⟩
    | true =>
     have HR:Hid (chkT m t l=takeO 2 l):=by show chkT m t l=_;rw [HR0.out,if_pos (⟨N0.out,S0.out,hn⟩)]
     clear hn
     go_wp2_with fail
     refine (take2_any c l 2 w2 (HK1.out.keep HB2.out) l0 l1 (by omega) (by omega)).mono ?_
     rintro e w3 ⟨rfl,K3,B3⟩
     have HK3:=hid K3
     have HB3:=hid B3
     clear K3 B3
     by_cases h9:2≤l
     ·have HR2:Hid (takeO 2 l=some (l - 2)):=by show takeO 2 l=_;unfold takeO;rw [if_pos h9]
      go_wp2_with fail
      go_ret
      exact ⟨((But.of HB1.out).trans (But.of HB2.out)).trans HB3.out,l - 2,HK3.out,Or.inl ⟨HR.out.trans HR2.out,by omega,by omega,rfl⟩⟩
     ·have HR2:Hid (takeO 2 l=none):=by show takeO 2 l=_;unfold takeO;rw [if_neg h9]
      have hd:decide ((2:Int)≤l)=false:=decide_eq_false h9
      clear h9
      go_wp2_with fail
      go_ret
      exact ⟨((But.of HB1.out).trans (But.of HB2.out)).trans HB3.out,l - 2,HK3.out,Or.inr ⟨HR.out.trans HR2.out,rfl⟩⟩
  ·have es:(sOf t).toList.isEmpty=false:=by simpa [noText] using s0
   have HR:Hid (chkT m t l=none):=by show chkT m t l=none;rw [HR0.out,if_neg (by exact fun h=>s0 h.2.1)]
   clear n0 s0
   rcases en with en | ⟨en,en1⟩
   all_goals
    go_enter Tryz.func47,Tryz.ntmps47
    go_wp2_with fail
    go_ret
    exact ⟨But.of HB1.out,l,HK1.out,Or.inr ⟨HR.out,rfl⟩⟩
 ·have en:(nOf t==0)=false:=by simp;omega
  have en1:(nOf t==1)=false:=by simp;omega
  have HR:Hid (chkT m t l=none):=by show chkT m t l=none;rw [HR0.out,if_neg (by exact fun h=>n0 h.1)]
  clear n0
  go_enter Tryz.func47,Tryz.ntmps47
  go_wp2_with fail
  go_ret
  exact ⟨But.of HB1.out,l,HK1.out,Or.inr ⟨HR.out,rfl⟩⟩
set_option maxHeartbeats 1000000 in
theorem chk_k3 {Tb:World→Prop} (c:Nat) (hS:Stays Tb c) (w0:World) (hN:w0.heap.size≤c) (m:Nat)  (f:Nat) (v:Value) (t:T) (l:Int) (w:World)
  (h:At w0 f v t) (hb0:Below w0.heap.size w0 w) (hH:Holds c l w) (hT:Tb w) (l0:0≤l) (l1:l≤1048576) (hk0:kindOf t=3) :
  Calls Tryz.prog 47 #[.pointer (some ⟨c,0,none⟩),v,.int .i64 (12 - (m:Int))] w fun e w'=>ChkPost c w (chkT m t l) e w':=by
 obtain ⟨f,La,Ka,Lc,Kc,rfl,rfl,hf,hl,hk⟩:=h.open
 have HB1:Hid (Below w.heap.size w (w.alloc (.cells #[.int .i64 (kindOf t),.int .i64 (nOf t),.string (sOf t),.slice La (nL t) Lc,.slice Ka (nK t) Kc] 36))):=(Below.refl _ _).alloc (Nat.le_refl _) _
 have HK1:=hid (hH.keep HB1.out)
 have HT1:=hid (hS _ _ hT (HB1.out.mono (Nat.le_of_lt hH.lt)))
 have Hb1:=hid (hb0.trans (HB1.out.mono (Nat.le_trans hN (Nat.le_of_lt hH.lt))))
 have HA:=hid (h.keep Hb1.out)
 clear h hb0 hH hT hf hl hk
 have HR0:Hid (chkT m t l=if noText t=true∧noLists t=true then takeO 9 l else none):=by
  show chkT m t l=_
  cases m<;>simp [chkT,leafO,hk0]
 have g1:(kindOf t==1)=false:=by first | (rw [hk0];rfl) | (simp;omega)
 have g2:(kindOf t==2)=false:=by first | (rw [hk0];rfl) | (simp;omega)
 have g3:(kindOf t==3)=true:=by rw [hk0];rfl
 clear hk0
 by_cases s0:noText t=true
 ·have es:(sOf t).toList.isEmpty=true:=s0
  have S0:=hid s0
  clear s0
  go_enter Tryz.func47,Tryz.ntmps47
  go_wp2_with fail
  refine (hasNoLists_any _ _ _ _ HA.out).mono ?_
  rintro e w2 ⟨rfl,B2⟩
  have HB2:=hid B2
  clear B2
  cases hn:noLists t with
  | false =>
   have HR:Hid (chkT m t l=none):=by show chkT m t l=none;rw [HR0.out,if_neg (by rw [hn];simp)]
   clear hn
   go_wp2_with fail
   go_ret
   exact ⟨(But.of HB1.out).trans (But.of HB2.out),l,HK1.out.keep HB2.out,Or.inr ⟨HR.out,rfl⟩⟩
  | true =>
   have HR:Hid (chkT m t l=takeO 9 l):=by show chkT m t l=_;rw [HR0.out,if_pos (⟨S0.out,hn⟩)]
   clear hn
   go_wp2_with fail
   refine (take2_any c l 9 w2 (HK1.out.keep HB2.out) l0 l1 (by omega) (by omega)).mono ?_
   rintro e w3 ⟨rfl,K3,B3⟩
   have HK3:=hid K3
   have HB3:=hid B3
   clear K3 B3
   by_cases h9:9≤l
   ·have HR2:Hid (takeO 9 l=some (l - 9)):=by show takeO 9 l=_;unfold takeO;rw [if_pos h9]
    go_wp2_with fail
    go_ret
    exact ⟨((But.of HB1.out).trans (But.of HB2.out)).trans HB3.out,l - 9,HK3.out,Or.inl ⟨HR.out.trans HR2.out,by omega,by omega,rfl⟩⟩
   ·have HR2:Hid (takeO 9 l=none):=by show takeO 9 l=_;unfold takeO;rw [if_neg h9]
    have hd:decide ((9:Int)≤l)=false:=decide_eq_false h9
    clear h9
    go_wp2_with fail
    go_ret
    exact ⟨((But.of HB1.out).trans (But.of HB2.out)).trans HB3.out,l - 9,HK3.out,Or.inr ⟨HR.out.trans HR2.out,rfl⟩⟩
 ·have es:(sOf t).toList.isEmpty=false:=by simpa [noText] using s0
  have HR:Hid (chkT m t l=none):=by show chkT m t l=none;rw [HR0.out,if_neg (by exact fun h=>s0 h.1)]
  clear s0
  go_enter Tryz.func47,Tryz.ntmps47
  go_wp2_with fail
  go_ret
  exact ⟨But.of HB1.out,l,HK1.out,Or.inr ⟨HR.out,rfl⟩⟩
set_option maxHeartbeats 1000000 in
theorem chk_other {Tb:World→Prop} (c:Nat) (hS:Stays Tb c) (w0:World) (hN:w0.heap.size≤c) (m:Nat)  (f:Nat) (v:Value) (t:T) (l:Int) (w:World)
  (h:At w0 f v t) (hb0:Below w0.heap.size w0 w) (hH:Holds c l w) (hT:Tb w) (_l0:0≤l) (_l1:l≤1048576) (hk0:kindOf t≠1∧kindOf t≠2∧kindOf t≠3∧kindOf t≠4∧kindOf t≠5∧kindOf t≠6) :
  Calls Tryz.prog 47 #[.pointer (some ⟨c,0,none⟩),v,.int .i64 (12 - (m:Int))] w fun e w'=>ChkPost c w (chkT m t l) e w':=by
 obtain ⟨f,La,Ka,Lc,Kc,rfl,rfl,hf,hl,hk⟩:=h.open
 have HB1:Hid (Below w.heap.size w (w.alloc (.cells #[.int .i64 (kindOf t),.int .i64 (nOf t),.string (sOf t),.slice La (nL t) Lc,.slice Ka (nK t) Kc] 36))):=(Below.refl _ _).alloc (Nat.le_refl _) _
 have HK1:=hid (hH.keep HB1.out)
 have HT1:=hid (hS _ _ hT (HB1.out.mono (Nat.le_of_lt hH.lt)))
 have Hb1:=hid (hb0.trans (HB1.out.mono (Nat.le_trans hN (Nat.le_of_lt hH.lt))))
 have HA:=hid (h.keep Hb1.out)
 clear h hb0 hH hT hf hl hk
 obtain ⟨h1,h2,h3,h4,h5,h6⟩:=hk0
 have HR:Hid (chkT m t l=none):=by
  show chkT m t l=_
  cases m<;>simp [chkT,leafO,h1,h2,h3,h4,h5,h6]
 have g1:(kindOf t==1)=false:=by simp;omega
 have g2:(kindOf t==2)=false:=by simp;omega
 have g3:(kindOf t==3)=false:=by simp;omega
 have g4:(kindOf t==4)=false:=by simp;omega
 have g5:(kindOf t==5)=false:=by simp;omega
 have g6:(kindOf t==6)=false:=by simp;omega
 clear h1 h2 h3 h4 h5 h6
 go_enter Tryz.func47,Tryz.ntmps47
 go_wp2_with fail
 go_ret
 exact ⟨But.of HB1.out,l,HK1.out,Or.inr ⟨HR.out,rfl⟩⟩
end Go.Proofs.YtknakfpciccoaabGreatDoor
