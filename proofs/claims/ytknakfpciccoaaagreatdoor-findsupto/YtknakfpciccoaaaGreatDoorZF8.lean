import Derived.Test.YtknakfpciccoaaaGreatDoorZF7
import Derived.Deep.RegionHeld3
import Derived.Deep.AppendLies
import Derived.Deep.LoopGhost
import Derived.Test.YtknakfpciccoaaaGreatDoorZF6
import Derived.Deep.RegionLaw
/- The walk of the program's reader: entries. -/
set_option maxHeartbeats 4000000
set_option maxRecDepth 100000
namespace Go.Proofs.YtknakfpciccoaaaGreatDoor
open Go.RowKit
structure aK (b:Nat) (c0 c1 c2 c3 c4:Value) (w:World):Prop where
 q0:w.cell? ⟨b,0,none⟩=some c0
 q1:w.cell? ⟨b,1,none⟩=some c1
 q2:w.cell? ⟨b,2,none⟩=some c2
 q3:w.cell? ⟨b,3,none⟩=some c3
 q4:w.cell? ⟨b,4,none⟩=some c4
 f0:w.frozen? ⟨b,0,none⟩=false
 f1:w.frozen? ⟨b,1,none⟩=false
 f2:w.frozen? ⟨b,2,none⟩=false
 f3:w.frozen? ⟨b,3,none⟩=false
 f4:w.frozen? ⟨b,4,none⟩=false
 lt:b<w.heap.size
theorem aK.move {b : Nat} {c0 c1 c2 c3 c4 : Value} {w w' : World} (h : aK b c0 c1 c2 c3 c4 w) (hs : w.heap.size <= w'.heap.size) (hb : w'.heap[b]? = w.heap[b]?) : aK b c0 c1 c2 c3 c4 w' :=
  ⟨(aC hb _).trans h.q0, (aC hb _).trans h.q1, (aC hb _).trans h.q2, (aC hb _).trans h.q3, (aC hb _).trans h.q4,
   (World.frozen?_of_block (w := w) (a := ⟨b, _, none⟩) hb).trans h.f0, (World.frozen?_of_block (w := w) (a := ⟨b, _, none⟩) hb).trans h.f1, (World.frozen?_of_block (w := w) (a := ⟨b, _, none⟩) hb).trans h.f2, (World.frozen?_of_block (w := w) (a := ⟨b, _, none⟩) hb).trans h.f3, (World.frozen?_of_block (w := w) (a := ⟨b, _, none⟩) hb).trans h.f4, Nat.lt_of_lt_of_le h.lt hs⟩
theorem aK.Zv {b:Nat} {c0 c1 c2 c3 c4:Value} {w:World} (h:aK b c0 c1 c2 c3 c4 w) (u:Value):aK b c0 c1 c2 u c4 (w.setCell ⟨b,3,none⟩ u):=by
 refine ⟨?_,?_,?_,?_,?_,?_,?_,?_,?_,?_,by simp [World.setCell];exact h.lt⟩
 ·rw [aD (by omega)];exact h.q0
 ·rw [aD (by omega)];exact h.q1
 ·rw [aD (by omega)];exact h.q2
 ·exact World.cell?_setCell_same _ _ _ h.q3
 ·rw [aD (by omega)];exact h.q4
 ·rw [World.frozen?_setCell];exact h.f0
 ·rw [World.frozen?_setCell];exact h.f1
 ·rw [World.frozen?_setCell];exact h.f2
 ·rw [World.frozen?_setCell];exact h.f3
 ·rw [World.frozen?_setCell];exact h.f4
theorem aK.Zw {b:Nat} {c0 c1 c2 c3 c4:Value} {w:World} (h:aK b c0 c1 c2 c3 c4 w) (u:Value):aK b c0 c1 c2 c3 u (w.setCell ⟨b,4,none⟩ u):=by
 refine ⟨?_,?_,?_,?_,?_,?_,?_,?_,?_,?_,by simp [World.setCell];exact h.lt⟩
 ·rw [aD (by omega)];exact h.q0
 ·rw [aD (by omega)];exact h.q1
 ·rw [aD (by omega)];exact h.q2
 ·rw [aD (by omega)];exact h.q3
 ·exact World.cell?_setCell_same _ _ _ h.q4
 ·rw [World.frozen?_setCell];exact h.f0
 ·rw [World.frozen?_setCell];exact h.f1
 ·rw [World.frozen?_setCell];exact h.f2
 ·rw [World.frozen?_setCell];exact h.f3
 ·rw [World.frozen?_setCell];exact h.f4
theorem bD (w:World) (c0 c1 c2 c3 c4:Value):aK w.heap.size c0 c1 c2 c3 c4 (w.alloc (.cells #[c0,c1,c2,c3,c4] 25)):=by
 refine ⟨?_,?_,?_,?_,?_,?_,?_,?_,?_,?_,?_⟩<;>simp [go_sem]
structure EI (d:Nat) (k:Int) (c:Nat) (w:World) (b2:Nat) (rest a:ByteArray) (L:List T) (K:List ByteArray) (Lv Kv:Value) (xs:List Value) (sub:Nat->List jh) (wr:World):Prop where
 grow:pV (b2+1) (d+1) wr Lv Kv L K xs sub
 res:aK w.heap.size (.int .i64 0) (.int .i64 0) (.string ⟨#[]⟩) (.slice none 0 0) (.slice none 0 0) wr
 box:aK (w.heap.size+1) (.int .i64 k) (.int .i64 0) (.string ⟨#[]⟩) Lv Kv wr
 inn:Left b2 a wr
 out:Left c rest wr
 but:aG c w wr
 lc:c<w.heap.size
 lb:w.heap.size+1<b2
section
variable {d : Nat} {k : Int} {c : Nat} {w : World} {b2 : Nat} {rest a : ByteArray} {L : List T} {K : List ByteArray} {Lv Kv : Value} {xs : List Value} {sub : Nat -> List jh} {wr : World}
end
theorem Q8 (c:Nat) (s:ByteArray) (i:Nat) (w:World) (h:PL c s i w) (hs:s.size<=4000) (hi:i<=s.size) :
  Calls Tryz.prog 179 #[.pointer (some ⟨c,0,none⟩),.int .u8 45] w fun e w'=>∃ b,e=.returned (.bool b)/\aG c w w'/\PL c s (d9 s i) w':=by
 by_cases h45:cB s i=45
 ·refine (fO c s i 45 w h hs (by omega) (by omega)).mono ?_;rintro e w' ⟨rfl,hB,hL⟩;refine ⟨_,rfl,hB,?_⟩;unfold d9;rw [if_pos h45];exact hL
 ·refine (eD c s i 45 w h hi (by omega)).mono ?_;rintro e w' ⟨rfl,hB,hL⟩;refine ⟨_,rfl,hB,?_⟩;unfold d9;rw [if_neg h45];exact hL
theorem AV (s:ByteArray) (k:Nat):iM (pk s k)=iM (cB s k):=by
 unfold pk;by_cases h:k<s.size
 ·rw [if_pos h]
 ·rw [if_neg h,nZ (by omega)];rfl
theorem yc (s:ByteArray) (k:Nat) (w:World):Calls Tryz.prog 184 #[.int .u8 (pk s k:Int)] w fun e w'=>e=.returned (.bool (iM (cB s k)))/\w'=w:=by
 refine (nH (pk s k) w).mono ?_;rintro e w' ⟨rfl,rfl⟩;exact ⟨av (AV s k),rfl⟩
def U8 (c:Nat) (s:ByteArray) (i:Nat) (w:World) (e:Ending) (w':World):Prop :=
 aG c w w'/\((∃ v j,eY s i=some (v,j)/\e=.returned (.int .i64 v)/\PL c s j w')\/(eY s i=none/\e=fU 2))
theorem wX {s:ByteArray} {i:Nat} (h:d9 s i+1<dg s (d9 s i)) (h2:cB s (d9 s i)=48):eY s i=none:=by
 unfold eY;split
 ·rfl
 ·rw [if_pos ⟨h,h2⟩]
theorem E8 {s:ByteArray} {i j:Nat} (h:j<=s.size):(s.extract i j).size=j - i:=by rw [ByteArray.size_extract];omega
theorem Q9 {Tb:World->Prop} (hD:dz Tb) {x:ByteArray} {w:World} (hs:x.size<=4000) (hT:Tb w) {v:Int} (hv:Lib.parseIntB 64 x.data.toList=.ok v) :
  Calls Tryz.prog 226 #[.string x,.int .i64 10,.int .i64 64] w fun e w'=>e=.returned (.tuple #[.int .i64 v,.nilIface])/\Below w.heap.size w w':=by
 refine (hD x w hs hT).mono ?_;rintro e w' ⟨hb,⟨v',h1,rfl⟩ | ⟨h1,_⟩⟩
 ·rw [hv] at h1;cases h1;exact ⟨rfl,hb⟩
 ·rw [hv] at h1;rcases h1 with h1 | h1<;>cases h1
theorem M8 {Tb:World->Prop} (hD:dz Tb) {x:ByteArray} {w:World} (hs:x.size<=4000) (hT:Tb w) (hv:Lib.parseIntB 64 x.data.toList=.«syntax»\/Lib.parseIntB 64 x.data.toList=.range) :
  Calls Tryz.prog 226 #[.string x,.int .i64 10,.int .i64 64] w fun e w'=>∃ (v:Int) (t:TypeId) (p:Value),e=.returned (.tuple #[.int .i64 v,.iface t p])/\Below w.heap.size w w':=by
 refine (hD x w hs hT).mono ?_;rintro e w' ⟨hb,⟨v',h1,_⟩ | ⟨_,v,t,p,rfl⟩⟩
 ·rw [h1] at hv;rcases hv with hv | hv<;>cases hv
 ·exact ⟨v,t,p,rfl,hb⟩
theorem U9 {Tb:World->Prop} (hD:dz Tb) (c:Nat) (hS:dB Tb c) (s:ByteArray) (i:Nat) (w:World) (h:PL c s i w) (hT:Tb w) (hs:s.size<=4000) (hd:cB s i=45\/iM (cB s i)=true) :
  Calls Tryz.prog 185 #[.pointer (some ⟨c,0,none⟩)] w (U8 c s i w):=by
 have hc256:cB s i<256:=by
  rcases hd with h | h
  ·omega
  ·unfold iM at h;simp at h;omega
 have hlt:i<s.size:=aZ hc256;have hsg:i<=d9 s i/\d9 s i<=s.size:=by unfold d9;split<;>omega
 have HL:=aj h;have HT:=aj hT;have HS:=aj hS;have HD:=aj hD;have Hd:=aj hd;have q1:=h.q1;have HA:=aj (Q8 c s i w h hs (by omega));have hcl:=h.lt;clear h hT hS hD hd hc256;go_in;go_wp2_with fail;refine HA.out.mono ?_;rintro e w1 ⟨b,rfl,hB1,hL1⟩;have HB1:=aj hB1;have aQ:=aj hL1;have r1:=hL1.q1;clear hB1 hL1 HA q1 HL;have UA:Hid (dg s (d9 s i)<=s.size/\d9 s i<=dg s (d9 s i)):=⟨QF hsg.2,QE _ _⟩;have Hnp:=aj (Kj Hd.out);have Hnz:=aj (@wX s i);generalize hd0:d9 s i=d at *;go_wp2_with fail;go_loopg [] (s.size - d) (fun g wr=>∃ k:Nat,g=s.size - k/\d<=k/\k<=s.size/\Hid (PL c s k wr)/\Hid (aG c w wr)/\Hid (dg s k=dg s d))
 case atStart=>exact ⟨d,rfl,Nat.le_refl _,hsg.2,aQ,HB1,rfl⟩
 case round =>
  clear aQ HB1 r1;obtain ⟨k,rfl,hk1,hk2,jR,QX,HKk⟩:=hrel;go_wp2_with fail;refine (oI c s k wr jR.out hk2).mono ?_;rintro e w2 ⟨rfl,hb2⟩;have HL2:=aj (jR.out.keep hb2);have HB2:=aj (QX.out.trans (aG.of hb2));clear hb2 jR QX;by_cases hdk:iM (cB s k)=true
  ·have hkl:k<s.size:=aZ (by unfold iM at hdk;simp at hdk;omega)
   have Qs:Hid (dg s (k+1)=dg s d):=by
    show _=_;rw [<- HKk.out];unfold dg;rw [dK lX s k,if_pos hdk]
   have r1:=HL2.out.q1;have r2:=HL2.out.f1;go_wp2_with fail;refine (yc s k w2).mono ?_;rintro e w3 ⟨rfl,rfl⟩;clear HKk;go_wp2_with fail;go_roundg (s.size - (k+1))
   case rel=>exact ⟨k+1,rfl,by omega,by omega,HL2.out.set (k+1),HB2.out.trans (aG.set _ c 1 _),Qs⟩
   case measure=>omega
  ·have hdf:iM (cB s k)=false:=by simpa using hdk
   have Qs:Hid (dg s d=k):=by
    show _=_;rw [<- HKk.out];unfold dg;rw [dK lX s k,if_neg hdk]
   have r0:=HL2.out.q0;have r1:=HL2.out.q1;rw [Qs.out] at Hnp Hnz;clear hdk HKk;go_wp2_with fail;refine (yc s k w2).mono ?_;rintro e w3 ⟨rfl,rfl⟩;have HT3:=aj (aG.stays HS.out HT.out HB2.out (Nat.le_of_lt hcl));have Vb:=aj (HS.out _ _ HT3.out ((ak w3).mono (Nat.le_of_lt HL2.out.lt)));have Xx:=aj (HL2.out.keep (ak w3));have x1:(i:Int)<=(k:Int):=by omega
   have x2:(k:Int)<=(s.size:Int):=by omega
   have hxs:(s.extract i k).size<=4000:=by rw [E8 hk2];omega
   have M4:Hid (∀ wx:World,Below w3.drew.heap.size w3.drew wx->wx.cell? ⟨c,0,none⟩=some (.string s)/\wx.cell? ⟨c,1,none⟩=some (.int .i64 k)):=by
    intro wx hx;have:=Xx.out.keep hx;exact ⟨this.q0,this.q1⟩
   by_cases hz:d+1<k
   ·have hdl:d<s.size:=by omega
    obtain ⟨z,hzs,hzc⟩:=mM hdl;have y1:decide ((d:Int)+1<(k:Int))=true:=decide_eq_true (by omega);have y0:(d:Int)<(s.size:Int):=by omega
    by_cases h48:cB s d=48
    ·have HZ:=aj (Hnz.out hz h48);have y2:((z.toNat:Int)==48)=true:=by rw [beq_iff_eq];omega
     clear hzc h48 M4;go_wp2_with fail;exact ⟨rfl,HB2.out,Or.inr ⟨HZ.out,rfl⟩⟩
    ·have HP:=aj (Hnp.out (fun h=>h48 h.2));have y2:((z.toNat:Int)==48)=false:=by rw [beq_eq_false_iff_ne];omega
     clear hzc h48;rcases HP.out with ⟨v,hv,hn⟩ | ⟨hv,hn⟩
     ·have HZ:=aj hn;have Qt:=aj (Q9 HD.out hxs Vb.out hv);clear hv hn HP;go_wp2_with fail;go_region_held (fun wx=>wx.cell? ⟨c,0,none⟩=some (.string s)/\wx.cell? ⟨c,1,none⟩=some (.int .i64 k)) (go_keep) ((go_at_call 226;refine Qt.out.mono ?_;rintro e w4 ⟨rfl,hb4⟩;have hc4:=M4.out _ hb4));have jM:=aj (Xx.out.keep hb4);have bO:=aj (HB2.out.trans ((aG.of (ak w3)).trans (aG.of hb4)));clear hb4 hc4;go_wp2_with fail;go_ret;exact ⟨bO.out,Or.inl ⟨_,_,HZ.out,rfl,jM.out⟩⟩
     ·have HZ:=aj hn;have Qt:=aj (M8 HD.out hxs Vb.out hv);clear hv hn HP;go_wp2_with fail;go_region_held (fun wx=>wx.cell? ⟨c,0,none⟩=some (.string s)/\wx.cell? ⟨c,1,none⟩=some (.int .i64 k)) (go_keep) ((go_at_call 226;refine Qt.out.mono ?_;rintro e w4 ⟨v,tt,pp,rfl,hb4⟩;have hc4:=M4.out _ hb4));have bO:=aj (HB2.out.trans ((aG.of (ak w3)).trans (aG.of hb4)));clear hb4 hc4;go_wp2_with fail;exact ⟨rfl,bO.out,Or.inr ⟨HZ.out,rfl⟩⟩
   ·have HP:=aj (Hnp.out (fun h=>hz h.1));have y1:decide ((d:Int)+1<(k:Int))=false:=decide_eq_false (by omega);clear hz;rcases HP.out with ⟨v,hv,hn⟩ | ⟨hv,hn⟩
    ·have HZ:=aj hn;have Qt:=aj (Q9 HD.out hxs Vb.out hv);clear hv hn HP;go_wp2_with fail;go_region_held (fun wx=>wx.cell? ⟨c,0,none⟩=some (.string s)/\wx.cell? ⟨c,1,none⟩=some (.int .i64 k)) (go_keep) ((go_at_call 226;refine Qt.out.mono ?_;rintro e w4 ⟨rfl,hb4⟩;have hc4:=M4.out _ hb4));have jM:=aj (Xx.out.keep hb4);have bO:=aj (HB2.out.trans ((aG.of (ak w3)).trans (aG.of hb4)));clear hb4 hc4;go_wp2_with fail;go_ret;exact ⟨bO.out,Or.inl ⟨_,_,HZ.out,rfl,jM.out⟩⟩
    ·have HZ:=aj hn;have Qt:=aj (M8 HD.out hxs Vb.out hv);clear hv hn HP;go_wp2_with fail;go_region_held (fun wx=>wx.cell? ⟨c,0,none⟩=some (.string s)/\wx.cell? ⟨c,1,none⟩=some (.int .i64 k)) (go_keep) ((go_at_call 226;refine Qt.out.mono ?_;rintro e w4 ⟨v,tt,pp,rfl,hb4⟩;have hc4:=M4.out _ hb4));have bO:=aj (HB2.out.trans ((aG.of (ak w3)).trans (aG.of hb4)));clear hb4 hc4;go_wp2_with fail;exact ⟨rfl,bO.out,Or.inr ⟨HZ.out,rfl⟩⟩
theorem Dz:(Tryz.prog.info? 9).map (fun i=>(i.zero,i.size,i.bytes))=some (some (.string ⟨#[]⟩),1,16):=by kernel_rfl
theorem yg:(Tryz.prog.info? 25).map (fun i=>(i.zero,i.size,i.bytes))=some (some (.agg #[.int .i64 0,.int .i64 0,.string ⟨#[]⟩,.slice none 0 0,.slice none 0 0]),5,80):=by kernel_rfl
theorem AX {a:ByteArray} (h:a.size=0):a=⟨#[]⟩:=by
 apply ByteArray.ext;exact Array.eq_empty_of_size_eq_zero h
theorem rC {a:ByteArray} (h:a.size≠0):a.toList.isEmpty=false:=by
 cases a with
 | mk d =>
  cases d with
  | mk l =>
   cases l with
   | nil=>exact (h rfl).elim
   | cons x l=>simp [ByteArray.toList_eq]
section
variable {d : Nat} {k : Int} {c : Nat} {w : World} {b2 : Nat} {rest a : ByteArray} {L : List T} {K : List ByteArray} {Lv Kv : Value} {xs : List Value} {sub : Nat -> List jh} {wr : World}
theorem G7 {w5:World} {v:Value} {g n cap:Nat} (o:Obj) (h:v.ownBlock=some g\/g=w5.heap.size+1):AQ (w5.alloc o) v (.slice (some ⟨g,0,none⟩) n cap):=by
 rcases h with h | h
 ·exact .inl h.symm
 ·refine .inr fun g' e=>?_;cases e;simp;omega
theorem aG.oh {c:Nat} {w wr:World} (h:aG c w wr) {b:Nat} (hb:w.heap.size<=b) (o:Nat) (u:Value):aG c w (wr.setCell ⟨b,o,none⟩ u) :=
 ⟨h.os,h.tape,h.output,by simpa [World.setCell] using h.size,fun i hi hc=>(Below.heap_setCell _ _ _ _ (by simpa using (by omega:i≠b))).trans (h.block i hi hc)⟩
theorem mO {e:TypeId} {size n:Nat} {v:Value} {ys:List Value} (h:EI d k c w b2 rest a L K Lv Kv xs sub wr) {w2:World} (hG:wr.grownBy w2 v.ownBlock) (hO:wr.ownsRow (b2+1) e size v n ys):aK (w.heap.size+1) (.int .i64 k) (.int .i64 0) (.string ⟨#[]⟩) Lv Kv w2:=by
 have h2:=h.lb;refine h.box.move hG.size (hG.block _ h.box.lt fun e=>?_);have:=(hO.lt _ e.symm).1;omega
end
structure JI (f:Nat) (k:Int) (c:Nat) (w:World) (rb bx lo:Nat) (L:List T) (K:List ByteArray) (Lv Kv:Value) (xs:List Value) (sub:Nat->List jh) (wr:World):Prop where
 grow:pV lo f wr Lv Kv L K xs sub
 res:aK rb (.int .i64 0) (.int .i64 0) (.string ⟨#[]⟩) (.slice none 0 0) (.slice none 0 0) wr
 box:aK bx (.int .i64 k) (.int .i64 0) (.string ⟨#[]⟩) Lv Kv wr
 but:aG c w wr
 lc:c<w.heap.size
 l1:w.heap.size<=rb
 l2:w.heap.size<=bx
 l3:rb<lo
 l4:bx<lo
 l5:rb≠bx
section
variable {f : Nat} {k : Int} {c : Nat} {w : World} {rb bx lo : Nat} {L : List T} {K : List ByteArray} {Lv Kv : Value} {xs : List Value} {sub : Nat -> List jh} {wr : World}
theorem JI.inner (h:JI f k c w rb bx lo L K Lv Kv xs sub wr) {w1:World} (hB:aG c wr w1):JI f k c w rb bx lo L K Lv Kv xs sub w1:=by
 have h0:=h.lc;have h1:=h.l1;have h2:=h.l2;have h3:=h.l3;have h4:=h.l4;exact ⟨h.grow.move hB.size (fun b hb hh=>hB.block b hh (by omega)),h.res.move hB.size (hB.block _ h.res.lt (by omega)),h.box.move hB.size (hB.block _ h.box.lt (by omega)),h.but.trans hB,h0,h1,h2,h3,h4,h.l5⟩
theorem JI.keep (h:JI f k c w rb bx lo L K Lv Kv xs sub wr) {w1:World} (hB:Below wr.heap.size wr w1):JI f k c w rb bx lo L K Lv Kv xs sub w1:=h.inner (aG.of hB)
theorem JI.ab4 (h:JI f k c w rb bx lo L K Lv Kv xs sub wr) {w2:World} {Cy:Value} {nm:ByteArray} (hk:nm.size<=140737488355328)
  (hO:w2.ownsRow lo eS 1 Cy (K.length+1) (lK K++[.string nm])) (hG:wr.grownBy w2 Kv.ownBlock) (hN:AQ wr Kv Cy):JI f k c w rb bx lo L (K++[nm]) Lv Cy xs sub (w2.setCell ⟨bx,4,none⟩ Cy)/\(w2.setCell ⟨bx,4,none⟩ Cy).heap[c]?=wr.heap[c]?/\wr.heap.size<=(w2.setCell ⟨bx,4,none⟩ Cy).heap.size:=by
 have h0:=h.lc;have h1:=h.l1;have h2:=h.l2;have h3:=h.l3;have h4:=h.l4;have h5:=h.l5
 have hne:∀ b,b<lo->some b≠Kv.ownBlock:=fun b hb e=>by
  have:=(h.grow.vB.lt b e.symm).1;omega
 have hblk:∀ b,b<wr.heap.size->b<lo->w2.heap[b]?=wr.heap[b]?:=fun b hb hh=>hG.block b hb (hne b hh);have hset:∀ b,b≠bx->(w2.setCell ⟨bx,4,none⟩ Cy).heap[b]?=w2.heap[b]?:=fun b hb=>Below.heap_setCell _ _ _ _ (by simpa using hb);have hsz:(w2.setCell ⟨bx,4,none⟩ Cy).heap.size=w2.heap.size:=by simp [World.setCell]
 have hs2:=hG.size;have hb:=h.but;have hbs:=hb.size;refine ⟨⟨(h.grow.ab1 nm hk hO hG hN).set _ _ _ (by omega),h.res.move (by omega) ((hset _ (by omega)).trans (hblk _ h.res.lt (by omega))),(h.box.move hs2 (hblk _ h.box.lt (by omega))).Zw Cy,?_,h0,h1,h2,h3,h4,h5⟩,(hset _ (by omega)).trans (hblk _ (by omega) (by omega)),by omega⟩;refine ⟨hG.os.trans hb.os,hG.tape.trans hb.tape,hG.output.trans hb.output,by omega,fun i hi hc=>?_⟩;exact (hset i (by omega)).trans ((hblk i (by omega) (by omega)).trans (hb.block i hi hc))
theorem JI.ab5 (h:JI f k c w rb bx lo L K Lv Kv xs sub wr) {w2:World} {Ox:Value} {x:T} {es:List jh} {c0 c1 c2 c3 c4:Value} (hF:fC wr f (.agg #[c0,c1,c2,c3,c4]) x es)
  (hS:mD lo wr (jB sub L.length++es++[⟨Lv,L.length,Kv,K.length⟩])) (hO:w2.ownsRow lo eV 5 Ox (L.length+1) (xs++[c0,c1,c2,c3,c4])) (hG:wr.grownBy w2 Lv.ownBlock) (hN:AQ wr Lv Ox) :
  JI f k c w rb bx lo (L++[x]) K Ox Kv (xs++[c0,c1,c2,c3,c4]) (GZ sub L.length es) (w2.setCell ⟨bx,3,none⟩ Ox)/\(w2.setCell ⟨bx,3,none⟩ Ox).heap[c]?=wr.heap[c]?/\wr.heap.size<=(w2.setCell ⟨bx,3,none⟩ Ox).heap.size:=by
 have h0:=h.lc;have h1:=h.l1;have h2:=h.l2;have h3:=h.l3;have h4:=h.l4;have h5:=h.l5
 have hne:∀ b,b<lo->some b≠Lv.ownBlock:=fun b hb e=>by
  have:=(h.grow.oL.lt b e.symm).1;omega
 have hblk:∀ b,b<wr.heap.size->b<lo->w2.heap[b]?=wr.heap[b]?:=fun b hb hh=>hG.block b hb (hne b hh);have hset:∀ b,b≠bx->(w2.setCell ⟨bx,3,none⟩ Ox).heap[b]?=w2.heap[b]?:=fun b hb=>Below.heap_setCell _ _ _ _ (by simpa using hb);have hsz:(w2.setCell ⟨bx,3,none⟩ Ox).heap.size=w2.heap.size:=by simp [World.setCell]
 have hs2:=hG.size;have hb:=h.but;have hbs:=hb.size;refine ⟨⟨(h.grow.ab2 hF hS hO hG hN).set _ _ _ (by omega),h.res.move (by omega) ((hset _ (by omega)).trans (hblk _ h.res.lt (by omega))),(h.box.move hs2 (hblk _ h.box.lt (by omega))).Zv Ox,?_,h0,h1,h2,h3,h4,h5⟩,(hset _ (by omega)).trans (hblk _ (by omega) (by omega)),by omega⟩;refine ⟨hG.os.trans hb.os,hG.tape.trans hb.tape,hG.output.trans hb.output,by omega,fun i hi hc=>?_⟩;exact (hset i (by omega)).trans ((hblk i (by omega) (by omega)).trans (hb.block i hi hc))
theorem JI.E9 (h:JI f k c w rb bx lo L K Lv Kv xs sub wr) {w1:World} {es:List jh} (hB:aG c wr w1) (hS:mD wr.heap.size w1 es):mD lo w1 (jB sub L.length++es++[⟨Lv,L.length,Kv,K.length⟩]) :=
 h.grow.sep.child hB.size hS h.grow.low
theorem JI.M9 (h:JI f k c w rb bx lo L K Lv Kv xs sub wr) {w6:World} {x:T} {es:List jh} {c0 c1 c2 c3 c4:Value} {lo' g cap:Nat} (o:Obj) (hF:fC wr f (.agg #[c0,c1,c2,c3,c4]) x es) (hS':mD lo' wr es)
  (hS:mD lo wr (jB sub L.length++es++[⟨Lv,L.length,Kv,K.length⟩])) (hO:w6.ownsRow lo eV 5 (.slice (some ⟨g,0,none⟩) (L.length+1) cap) (L.length+1) (xs++[c0,c1,c2,c3,c4])) (hG:(wr.alloc o).grownBy w6 Lv.ownBlock) (hat:Lv.ownBlock=some g\/g=wr.heap.size+1) :
  JI f k c w rb bx lo (L++[x]) K (.slice (some ⟨g,0,none⟩) (L.length+1) cap) Kv (xs++[c0,c1,c2,c3,c4]) (GZ sub L.length es) (w6.setCell ⟨bx,3,none⟩ (.slice (some ⟨g,0,none⟩) (L.length+1) cap))/\(w6.setCell ⟨bx,3,none⟩ (.slice (some ⟨g,0,none⟩) (L.length+1) cap)).heap[c]?=wr.heap[c]?/\wr.heap.size<=(w6.setCell ⟨bx,3,none⟩ (.slice (some ⟨g,0,none⟩) (L.length+1) cap)).heap.size:=by
 have hb:Below wr.heap.size wr (wr.alloc o):=bG _ _;have h0:=h.lc;have hbs:=h.but.size;have:=(h.keep hb).ab5 (hF.keep hS' hb) (hS.keep hb.size) hO hG (G7 o hat);exact ⟨this.1,this.2.1.trans (hb.block _ (by omega)),Nat.le_trans hb.size this.2.2⟩
theorem JI.Wz (h:JI f k c w rb bx lo L K Lv Kv xs sub wr) {w6:World} {nm:ByteArray} {g cap:Nat} (o:Obj) (hk:nm.size<=140737488355328)
  (hO:w6.ownsRow lo eS 1 (.slice (some ⟨g,0,none⟩) (K.length+1) cap) (K.length+1) (lK K++[.string nm])) (hG:(wr.alloc o).grownBy w6 Kv.ownBlock) (hat:Kv.ownBlock=some g\/g=wr.heap.size+1) :
  JI f k c w rb bx lo L (K++[nm]) Lv (.slice (some ⟨g,0,none⟩) (K.length+1) cap) xs sub (w6.setCell ⟨bx,4,none⟩ (.slice (some ⟨g,0,none⟩) (K.length+1) cap))/\(w6.setCell ⟨bx,4,none⟩ (.slice (some ⟨g,0,none⟩) (K.length+1) cap)).heap[c]?=wr.heap[c]?/\wr.heap.size<=(w6.setCell ⟨bx,4,none⟩ (.slice (some ⟨g,0,none⟩) (K.length+1) cap)).heap.size:=by
 have hb:Below wr.heap.size wr (wr.alloc o):=bG _ _;have h0:=h.lc;have hbs:=h.but.size;have:=(h.keep hb).ab4 hk hO hG (G7 o hat);exact ⟨this.1,this.2.1.trans (hb.block _ (by omega)),Nat.le_trans hb.size this.2.2⟩
theorem JI.mO {e:TypeId} {size n:Nat} {v:Value} {ys:List Value} (h:JI f k c w rb bx lo L K Lv Kv xs sub wr) {w2:World} (hG:wr.grownBy w2 v.ownBlock) (hO:wr.ownsRow lo e size v n ys):aK bx (.int .i64 k) (.int .i64 0) (.string ⟨#[]⟩) Lv Kv w2:=by
 have h4:=h.l4;refine h.box.move hG.size (hG.block _ h.box.lt fun e=>?_);have:=(hO.lt _ e.symm).1;omega
theorem JI.start {f:Nat} {k:Int} {c:Nat} {w:World} (hc:c<w.heap.size):JI f k c w w.heap.size (w.heap.size+1) (w.heap.size+2) [] [] (.slice none 0 0) (.slice none 0 0) [] (fun _=>[]) ((w.alloc (.cells #[.int .i64 0,.int .i64 0,.string ⟨#[]⟩,.slice none 0 0,.slice none 0 0] 25)).alloc (.cells #[.int .i64 k,.int .i64 0,.string ⟨#[]⟩,.slice none 0 0,.slice none 0 0] 25)):=by
 refine ⟨pV.start _ _ _ (by simp),(bD w _ _ _ _ _).move (by simp) (Below.heap_alloc _ _ _ (by simp)),?_,aG.of ((bG _ _).alloc (by simp) _),hc,by omega,by omega,by omega,by omega,by omega⟩;have:=bD (w.alloc (.cells #[.int .i64 0,.int .i64 0,.string ⟨#[]⟩,.slice none 0 0,.slice none 0 0] 25)) (.int .i64 k) (.int .i64 0) (.string ⟨#[]⟩) (.slice none 0 0) (.slice none 0 0);simpa using this
theorem jC {c:Nat} {w wr:World} {f lo rb:Nat} {v:Value} {t:T} {es:List jh} (hB:aG c w wr) (hc:c<w.heap.size) (hF:fC wr f v t es) (hS:mD lo wr es) (h1:w.heap.size<=rb) (hlo:rb<lo) (u0 u1 u2 u3 u4:Value) :
  aG c w (((((wr.setCell ⟨rb,0,none⟩ u0).setCell ⟨rb,1,none⟩ u1).setCell ⟨rb,2,none⟩ u2).setCell ⟨rb,3,none⟩ u3).setCell ⟨rb,4,none⟩ u4) /\
  fC (((((wr.setCell ⟨rb,0,none⟩ u0).setCell ⟨rb,1,none⟩ u1).setCell ⟨rb,2,none⟩ u2).setCell ⟨rb,3,none⟩ u3).setCell ⟨rb,4,none⟩ u4) f v t es /\
  mD w.heap.size (((((wr.setCell ⟨rb,0,none⟩ u0).setCell ⟨rb,1,none⟩ u1).setCell ⟨rb,2,none⟩ u2).setCell ⟨rb,3,none⟩ u3).setCell ⟨rb,4,none⟩ u4) es /\
  (((((wr.setCell ⟨rb,0,none⟩ u0).setCell ⟨rb,1,none⟩ u1).setCell ⟨rb,2,none⟩ u2).setCell ⟨rb,3,none⟩ u3).setCell ⟨rb,4,none⟩ u4).heap[c]?=wr.heap[c]? /\
  (((((wr.setCell ⟨rb,0,none⟩ u0).setCell ⟨rb,1,none⟩ u1).setCell ⟨rb,2,none⟩ u2).setCell ⟨rb,3,none⟩ u3).setCell ⟨rb,4,none⟩ u4).heap.size=wr.heap.size:=by
 have hset:∀ (w1:World) (o:Nat) (u:Value) (b:Nat),b≠rb->(w1.setCell ⟨rb,o,none⟩ u).heap[b]?=w1.heap[b]?:=fun w1 o u b hb=>Below.heap_setCell _ _ _ _ (by simpa using hb);refine ⟨((((hB.oh h1 _ _).oh h1 _ _).oh h1 _ _).oh h1 _ _).oh h1 _ _,hF.move fun b hb=>?_,?_,?_,by simp [World.setCell]⟩
 ·have h1:=hS.lies b hb;rw [hset _ _ _ _ (by omega),hset _ _ _ _ (by omega),hset _ _ _ _ (by omega),hset _ _ _ _ (by omega),hset _ _ _ _ (by omega)]
 ·exact (hS.lower (by omega)).keep (by simp [World.setCell])
 ·rw [hset _ _ _ _ (by omega),hset _ _ _ _ (by omega),hset _ _ _ _ (by omega),hset _ _ _ _ (by omega),hset _ _ _ _ (by omega)]
theorem PL.same {c:Nat} {s:ByteArray} {i:Nat} {w w':World} (h:PL c s i w) (hb:w'.heap[c]?=w.heap[c]?) (hs:w.heap.size<=w'.heap.size):PL c s i w':=h.move hs hb
end
def rD (n c:Nat) (s:ByteArray) (x:Option (T×Nat)) (after:Nat->Nat) (w:World) (e:Ending) (w':World):Prop :=
 aG c w w'/\((∃ t j es A B C D,x=some (t,j)/\e=.returned (fB t A B C D)/\fC w' n (fB t A B C D) t es/\mD w.heap.size w' es/\PL c s (after j) w')\/(x=none/\e=fU 2))
def tH (Tb:World->Prop) (s:ByteArray) (n:Nat):Prop:=∀ (c i:Nat) (w:World),dB Tb c->PL c s i w->Tb w->i<=s.size->s.size<i+n->Calls Tryz.prog 100 #[.pointer (some ⟨c,0,none⟩)] w (rD n c s (aS s n i) (sk s) w)
theorem Ra {Tb:World->Prop} {s:ByteArray} {n:Nat} (hv:tH Tb s n) {c i:Nat} {w:World} {t:T} {j:Nat} (hz:aS s n i=some (t,j)) (hS:dB Tb c) (hL:PL c s i w) (hT:Tb w) (hi:i<=s.size) (hn:s.size<i+n) :
  Calls Tryz.prog 100 #[.pointer (some ⟨c,0,none⟩)] w fun e w'=>∃ es A B C D,e=.returned (.agg #[.int .i64 (ah t),.int .i64 (aB t),.string (aF t),.slice A (nL t) B,.slice C (nK t) D])/\aG c w w'/\fC w' n (.agg #[.int .i64 (ah t),.int .i64 (aB t),.string (aF t),.slice A (nL t) B,.slice C (nK t) D]) t es/\mD w.heap.size w' es/\PL c s (sk s j) w':=by
 refine (hv c i w hS hL hT hi hn).mono ?_;rintro e w' ⟨hB,⟨t',j',es,A,B,C,D,hz',rfl,hF,hSp,hL'⟩ | ⟨hz',_⟩⟩
 ·rw [hz] at hz';cases hz';exact ⟨es,A,B,C,D,rfl,hB,hF,hSp,hL'⟩
 ·rw [hz] at hz';cases hz'
theorem Rb {Tb:World->Prop} {s:ByteArray} {n:Nat} (hv:tH Tb s n) {c i:Nat} {w:World} (hz:aS s n i=none) (hS:dB Tb c) (hL:PL c s i w) (hT:Tb w) (hi:i<=s.size) (hn:s.size<i+n) :
  Calls Tryz.prog 100 #[.pointer (some ⟨c,0,none⟩)] w fun e w'=>e=fU 2/\aG c w w':=by
 refine (hv c i w hS hL hT hi hn).mono ?_;rintro e w' ⟨hB,⟨t',j',es,A,B,C,D,hz',rfl,hF,hSp,hL'⟩ | ⟨hz',rfl⟩⟩
 ·rw [hz] at hz';cases hz'
 ·exact ⟨rfl,hB⟩
theorem Xy {Tb:World->Prop} (hD:bS Tb) {c:Nat} (hS:dB Tb c) {s:ByteArray} {i:Nat} {w:World} {x:ByteArray} {j:Nat} (hz:fF s i=some (x,j)) (h:PL c s i w) (hT:Tb w) (hs:s.size<=4000) (hi:i<=s.size) :
  Calls Tryz.prog 181 #[.pointer (some ⟨c,0,none⟩)] w fun e w'=>e=.returned (.string x)/\aG c w w'/\PL c s j w':=by
 refine (EZ hD c hS s i w h hT hs hi).mono ?_;rintro e w' ⟨hB,⟨x',j',hz',rfl,hL'⟩ | ⟨hz',_⟩⟩
 ·rw [hz] at hz';cases hz';exact ⟨rfl,hB,hL'⟩
 ·rw [hz] at hz';cases hz'
theorem Xz {Tb:World->Prop} (hD:bS Tb) {c:Nat} (hS:dB Tb c) {s:ByteArray} {i:Nat} {w:World} (hz:fF s i=none) (h:PL c s i w) (hT:Tb w) (hs:s.size<=4000) (hi:i<=s.size) :
  Calls Tryz.prog 181 #[.pointer (some ⟨c,0,none⟩)] w fun e w'=>e=fU 2/\aG c w w':=by
 refine (EZ hD c hS s i w h hT hs hi).mono ?_;rintro e w' ⟨hB,⟨x',j',hz',rfl,hL'⟩ | ⟨hz',rfl⟩⟩
 ·rw [hz] at hz';cases hz'
 ·exact ⟨rfl,hB⟩
def gH (n:Nat) (s:ByteArray) (o:Bool) (j:Nat) (more:Bool) (k:Nat) (L:List T) (K:List ByteArray):Prop :=
 (more=true->∃ m,s.size+1<=m+k/\fM (aS s n) s o j=(zw (aS s n) s o m k).map (Kh K L))/\(more=false->fM (aS s n) s o j=some ((K,L),k))
theorem nJ {n:Nat} {s:ByteArray} {o:Bool} {j:Nat} (h:cB s (sk s j)≠cl o):gH n s o j true (sk s j) [] []:=by
 refine ⟨fun _=>⟨s.size+1,by omega,?_⟩,fun h=>by cases h⟩;unfold fM;rw [if_neg h];exact QH _
theorem nM {n:Nat} {s:ByteArray} {o:Bool} {j:Nat} (h:cB s (sk s j)=cl o):gH n s o j false (sk s j+1) [] []:=by
 refine ⟨(fun h=>by cases h),fun _=>?_⟩;unfold fM;rw [if_pos h]
def ms (s:ByteArray) (more:Bool) (k:Nat):Nat:=if more=true then s.size+1 - k else 0
def WA (n c:Nat) (k:Int) (s:ByteArray) (o:Bool) (j:Nat) (w:World):Ending->World->Prop :=
 rD (n+1) c s ((fM (aS s n) s o j).map fun r=>(dU k 0 ByteArray.empty r.1.2 r.1.1,r.2)) id w
theorem Rf {Tb:World->Prop} (n:Nat) (s:ByteArray) (ih:tH Tb s n) (c:Nat) (hS:dB Tb c) (i:Nat) (w:World) (h:PL c s i w) (hT:Tb w) (hs:s.size<=4000) (hb:cB s i=91) (hn:s.size<i+n+1) :
  Calls Tryz.prog 182 #[.pointer (some ⟨c,0,none⟩)] w (WA n c 5 s false (i+1) w):=by
 obtain ⟨iV,G8,G9,Hf,Ho⟩:=info_parts yg;have hlt:i<s.size:=aZ (by omega);have Kr:=eT s (i+1);have Kt:=fu (s:=s) (i:=i+1) (by omega);have Nb:=aj (JI.start (f:=n) (k:=5) h.lt);have iL:=aj (h.keep (((Below.refl _ _).alloc (Nat.le_refl _) (.cells #[.int .i64 0,.int .i64 0,.string ⟨#[]⟩,.slice none 0 0,.slice none 0 0] 25)).alloc (by simp) (.cells #[.int .i64 5,.int .i64 0,.string ⟨#[]⟩,.slice none 0 0,.slice none 0 0] 25)));have HO:=aj (Du c s i 91 93 _ iL.out hs (by omega) (by omega) (by omega));have HT:=aj hT;have HS:=aj hS;have HI:=aj ih;have hcl:=h.lt;clear h hT hS ih hb;go_in;go_wp2_with fail;refine HO.out.mono ?_;rintro e w1 ⟨B1,hcase⟩;have Rh:=aj (Nb.out.inner B1)
 obtain ⟨more,k0,he,jR,HA,hk0⟩:∃ (more:Bool) (k0:Nat),e=.returned (.bool more)/\Hid (PL c s k0 w1)/\Hid (gH n s false (i+1) more k0 [] [])/\(i<k0/\k0<=s.size):=by
  rcases hcase with ⟨hc,he,hL⟩ | ⟨hc,he,hL⟩
  ·exact ⟨false,_,he,hL,nM (by show _=93;omega),by omega,by have:=aZ (s:=s) (i:=sk s (i+1)) (by omega);omega⟩
  ·exact ⟨true,_,he,hL,nJ (by show _≠93;omega),by omega,by omega⟩
 subst he;clear hcase B1 HO Nb iL Kr Kt;go_wp2_with fail;go_loopg [4] (ms s more k0) (fun g b wr=>∃ (more:Bool) (k:Nat) (L:List T) (K:List ByteArray) (Lv Kv:Value) (xs:List Value) (sub:Nat->List jh),g=ms s more k/\b=.bool more/\i<k/\k<=s.size/\L.length<=k/\K=[]/\Hid (JI n 5 c w w.heap.size (w.heap.size+1) (w.heap.size+2) L K Lv Kv xs sub wr)/\Hid (PL c s k wr)/\Hid (gH n s false (i+1) more k L K))
 case atStart=>exact ⟨more,k0,[],[],_,_,[],fun _=>[],rfl,rfl,hk0.1,hk0.2,by simp,rfl,Rh,jR,HA⟩
 case round =>
  clear Rh jR HA hk0;obtain ⟨more,k,L,K,Lv,Kv,xs,sub,rfl,rfl,hk1,hk2,YS,rfl,HE,jR,HA⟩:=hrel;cases more with
  | false =>
   obtain ⟨A,B,rfl⟩:=aJ HE.out.grow.oL;obtain ⟨C,D,rfl⟩:=aJ HE.out.grow.vB;have r0:=HE.out.res.q0;have r1:=HE.out.res.q1;have r2:=HE.out.res.q2;have r3:=HE.out.res.q3;have r4:=HE.out.res.q4;have s0:=HE.out.res.f0;have s1:=HE.out.res.f1;have s2:=HE.out.res.f2;have s3:=HE.out.res.f3;have s4:=HE.out.res.f4;have t0:=HE.out.box.q0;have t1:=HE.out.box.q1;have t2:=HE.out.box.q2;have t3:=HE.out.box.q3;have t4:=HE.out.box.q4;go_wp2_with fail;refine bodyPost_ret (v:=fB (dU 5 0 ByteArray.empty L []) A B C D) (by simp [results,Tryz.results182,go_sem,fB,dP,mF,nW,cK,lU, *];rfl) rfl ?_;have hE:=HE.out;have hF:=hE.grow.flat 5 (by omega) (by omega) (by omega) (by simp);have hp:=jC (rb:=w.heap.size) hE.but hcl hF hE.grow.sep (Nat.le_refl _) (by omega) (.int .i64 5) (.int .i64 0) (.string ⟨#[]⟩) (.slice A L.length B) (.slice C 0 D);refine ⟨hp.1,Or.inl ⟨dU 5 0 ByteArray.empty L [],k,_,A,B,C,D,?_,rfl,?_,hp.2.2.1,jR.out.same hp.2.2.2.1 (by rw [hp.2.2.2.2];exact Nat.le_refl _)⟩⟩
   ·rw [HA.out.2 rfl];rfl
   ·unfold fB;rw [dP,mF,nW,cK,lU];exact hp.2.1
  | true =>
   obtain ⟨m,hm,hX⟩:=HA.out.1 rfl;have HX:=aj hX;obtain ⟨m,rfl⟩:∃ m',m=m'+1:=⟨m - 1,by omega⟩;have hkey:iI s false k=some (ByteArray.empty,k):=rfl;have Ri:=aj (HE.out.keep (ak wr));have gF:=aj (jR.out.keep (ak wr));have HT3:=aj (aG.stays HS.out HT.out Ri.out.but (Nat.le_of_lt hcl));have hc3:=HE.out.box.q3;clear HA hX HE jR;go_wp2_with fail;cases hz:aS s n k with
   | none =>
    have HZ:Hid ((fM (aS s n) s false (i+1)).map (fun r=>(dU 5 0 ByteArray.empty r.1.2 r.1.1,r.2))=none):=by
     show _=_;rw [HX.out,r9 hkey hz];rfl
    have HC:=aj (Rb HI.out hz HS.out gF.out HT3.out hk2 (by omega));refine wp_region_held_drew (S:=fun wx=>wx.cell? ⟨w.heap.size+1,3,none⟩=some Lv) (by kernel_rfl) Ri.out.box.q3 (fun hHeld=>?_);refine wpAnyH_take (i:=0) (v:=.pointer (some ⟨w.heap.size+1,3,none⟩)) rfl (by kernel_rfl) (by kernel_rfl) (by kernel_rfl) (fun _ _ _ h=>h) (Or.inl ⟨by rfl,(by intro wx hSw;go_simp)⟩) hHeld ?_;refine wpAnyH_take (i:=1) (v:=Lv) rfl (by kernel_rfl) (by kernel_rfl) (by kernel_rfl) (fun _ _ _ h=>h) (Or.inl ⟨by rfl,(by intro wx hSw;go_simp)⟩) hHeld ?_;refine wpAnyH_take (i:=2) (v:=.pointer (some ⟨c,0,none⟩)) rfl (by kernel_rfl) (by kernel_rfl) (by kernel_rfl) (fun _ _ _ h=>h) (Or.inl ⟨by rfl,(by intro wx hSw;go_simp)⟩) hHeld ?_;refine wpAnyH_ready (rs:=[3]) (by kernel_rfl) (by simp) (AllReadyH.cons rfl (fun KK WB=>?_) AllReadyH.nil);go_simp;go_wp2_with (go_at_call 100;refine HC.out.mono ?_;rintro e w5 ⟨rfl,hb5⟩);exact ⟨rfl,Ri.out.but.trans hb5,Or.inr ⟨HZ.out,rfl⟩⟩
   | some p =>
    obtain ⟨t,j⟩:=p;have gG:=dV n k t j hk2 hz;have Vd:=eT s j;have Oz:=fu gG.2;have HC:=aj (Ra HI.out hz HS.out gF.out HT3.out hk2 (by omega));go_region_law (first | (refine step_append_lies _ (by rfl) _ _ _ (by rfl) (w.heap.size+2) 25 iV _ 5 80 Tryz.underlying22 G8 G9 Hf Ho rfl (by omega) Lv L.length xs (by rfl) (DF.out.keep (bG _ _)).grow.oL ⟨w5.heap.size,0,none⟩ 1 1 [.int .i64 (ah t),.int .i64 (aB t),.string (aF t),.slice A (nL t) B,.slice C (nK t) D] (by rfl) (by rfl) (World.news_of_block (cs:=#[.int .i64 (ah t),.int .i64 (aB t),.string (aF t),.slice A (nL t) B,.slice C (nK t) D]) (t:=25) (fr:=(0,0)) (heap_alloc_new w5 _)) (by simp [Value.oneCell']) (by omega) (by unfold maxLen;omega) (by omega) (DF.out.keep (bG _ _)).grow.low (w5.heap.size+1) (by simp) ?_;intro g cap w6 hown6 cu bI Cz;have DI:=aj ((DF.out.keep ((Below.refl _ _).alloc (Nat.le_refl _) (vC t A B C D))).mO cu (DF.out.keep ((Below.refl _ _).alloc (Nat.le_refl _) (vC t A B C D))).grow.oL);have hc6:=DI.out.q3;have YT:=DI.out.f3) | (go_simp;go_wp2_with (go_at_call 100;refine HC.out.mono ?_;rintro e w5 ⟨es,A,B,C,D,rfl,hb5,Zx,hS5,hL5⟩;have DF:=aj (Ri.out.inner hb5);have JU:=aj hL5;have Zy:=aj Zx;have Nf:=aj (Ri.out.E9 hb5 hS5);have Rj:=aj hS5;have kD:=DF.out.box.q3;have XA:=(DF.out.keep ((Below.refl _ _).alloc (Nat.le_refl _) (vC t A B C D))).box.q3;clear Zx hS5 hL5 hb5)))
    all_goals
     have H6:=aj (DF.out.M9 _ Zy.out Rj.out Nf.out hown6 cu bI);have Gp:=aj H6.out.1;have pW:=aj (JU.out.same H6.out.2.1 H6.out.2.2);clear hown6 cu bI Cz DI hc6 YT Zy Nf Rj DF kD XA H6 JU HC;go_wp2_with fail;refine (Ap c s (sk s j) 93 _ pW.out hs Oz (by omega)).mono ?_;rintro e w7 ⟨OA,⟨sj,rfl,hL7⟩ | ⟨Ng,rfl,hL7⟩ | ⟨sj,Ng,rfl⟩⟩
     ·have Zz:=aZ (s:=s) (i:=sk s j) (by omega);have Ht:=aj (Gp.out.inner OA);have Fa:=aj hL7;have Fb:Hid (gH n s false (i+1) true (sk s j+1) (L++[t]) []):=⟨fun _=>⟨m,by omega,HX.out.trans (uU [] L hkey hz sj)⟩,fun h=>by cases h⟩;clear OA hL7 Gp pW HX sj;go_wp2_with fail;go_roundg (ms s true (sk s j+1))
      case rel=>exact ⟨true,sk s j+1,L++[t],[],_,_,_,_,rfl,rfl,by omega,by omega,by simp;omega,rfl,Ht,Fa,Fb⟩
      case measure=>unfold ms;simp;omega
     ·have ZA:=aZ (s:=s) (i:=sk s j) (by omega);have Ht:=aj (Gp.out.inner OA);have Fa:=aj hL7;have Fb:Hid (gH n s false (i+1) false (sk s j+1) (L++[t]) []):=⟨(fun h=>by cases h),fun _=>HX.out.trans (uV [] L hkey hz (by show cB s (sk s j)=93;omega))⟩;clear OA hL7 Gp pW HX Ng;go_wp2_with fail;go_roundg (ms s false (sk s j+1))
      case rel=>exact ⟨false,sk s j+1,L++[t],[],_,_,_,_,rfl,rfl,by omega,by omega,by simp;omega,rfl,Ht,Fa,Fb⟩
      case measure=>unfold ms;simp;omega
     ·have rE:=aj (Gp.out.but.trans OA)
      have HZ:Hid ((fM (aS s n) s false (i+1)).map (fun r=>(dU 5 0 ByteArray.empty r.1.2 r.1.1,r.2))=none):=by
       show _=_;rw [HX.out,uW hkey hz sj (by show cB s (sk s j)≠93;omega)];rfl
      clear OA sj Ng HX;go_wp2_with fail;exact ⟨rfl,rE.out,Or.inr ⟨HZ.out,rfl⟩⟩
end Go.Proofs.YtknakfpciccoaaaGreatDoor
