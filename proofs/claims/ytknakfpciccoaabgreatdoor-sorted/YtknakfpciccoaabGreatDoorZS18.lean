import Derived.Test.YtknakfpciccoaabGreatDoorZS17
import Derived.Test.YtknakfpciccoaabGreatDoorZS3
import Derived.Lib.ItoaLen
import Derived.Test.YtknakfpciccoaabGreatDoorProg
import Derived.Test.YtknakfpciccoaabGreatDoorZS4
import Derived.Test.YtknakfpciccoaabGreatDoorZS13
import Derived.Deep.RegionHeldLaw
import Derived.Deep.RegionLaw
import Derived.Test.YtknakfpciccoaabGreatDoorZS1
/- The walks of printObject, printValue and Print. -/
namespace Go.Proofs.YtknakfpciccoaabGreatDoor
open Go.RowKit
set_option maxHeartbeats 4000000 in
set_option maxRecDepth 100000 in
theorem printObject_any {Tb:World→Prop} (w0:World) (hS:Stays Tb w0.heap.size) (m:Nat) (ih:PrSaid Tb w0 m) (f:Nat) (La Ka:Option Addr) (Lc Kc:Nat) (t:T) (acc:List UInt8) (b:Nat) (w:World)
  (hl:ElemsAt w0 f La t) (hkn:NamesAt w0 Ka t) (hn:nL t≤1759218604442) (hn':nK t≤1759218604442) (hnk:nK t=nL t) (hg:∀ i,i<nL t→Good m (elt t i)) (hb:Below w0.heap.size w0 w) (h:Lib.IsBuilderF 108 5 w0.heap.size b (Lib.byteCells acc) w) (hT:Tb w)
  (hlen:acc.length+(joinO (wrT m) t (nK t)).length+2≤100000000) :
  Calls Tryz.prog 100 #[.pointer (some ⟨b,0,none⟩),.agg #[.int .i64 (kindOf t),.int .i64 (nOf t),.string (sOf t),.slice La (nL t) Lc,.slice Ka (nK t) Kc]] w (Wrote w0.heap.size b (acc++(123::(joinO (wrT m) t (nK t)++[125]))) w):=by
 have HS:=hid (WrP.start h hb.size)
 have hblt0:=HS.out.blt
 have HB1:Hid (Below w.heap.size w (w.alloc (.cells #[.int .i64 (kindOf t),.int .i64 (nOf t),.string (sOf t),.slice La (nL t) Lc,.slice Ka (nK t) Kc] 36))):=(Below.refl _ _).alloc (Nat.le_refl _) _
 have HSx:=hid (HS.out.keep HB1.out)
 have HX0:=hid (WrP.start HSx.out.isb HSx.out.lo')
 have HTx:=hid (hS _ _ hT (HB1.out.mono hb.size))
 have Hbx:=hid (hb.trans HSx.out.below)
 have HST:=hid hS
 have Hih:=hid ih
 have Hl:=hid hl
 have HK:=hid hkn
 have Hg:=hid hg
 have HNK:=hid hnk
 have HM:Hid (∀ k,k≤nK t→(joinO (wrT m) t k).length+acc.length+2≤100000000):=hid (fun k hk=>by have:=joinO_mono (wrT m) t hk;omega)
 have HE:Hid (acc++(123::(joinO (wrT m) t (nK t)++[125]))=acc++[123]++joinO (wrT m) t (nK t)++[125]):=by show _=_;simp
 have hl0:acc.length≤100000000:=by omega
 clear h hS ih hl hkn hg hb hT hlen HS hnk
 go_enter Tryz.func100,Tryz.ntmps100
 go_wp2_with fail
 refine (wbyte_any w0.heap.size b acc 123 _ _ HX0.out (by omega)).mono ?_
 rintro e w1 ⟨rfl,hw1⟩
 obtain ⟨r0,r1,r2,r3,r4⟩:=oth_box hw1.oth hblt0
 have H1:=hid hw1
 clear hw1 HX0
 go_wp2_with fail
 clear r0 r1 r2 r3 r4
 go_loopg [11] (nK t) (fun g i wr=>∃ k:Nat,g=nK t - k∧k≤nK t∧i=.int .i64 k∧Hid (WrP w0.heap.size b (acc++[123]++joinO (wrT m) t k) (w.alloc (.cells #[.int .i64 (kindOf t),.int .i64 (nOf t),.string (sOf t),.slice La (nL t) Lc,.slice Ka (nK t) Kc] 36)) wr))
 case atStart=>exact ⟨0,rfl,Nat.zero_le _,rfl,H1.out.acc (by simp [joinO])⟩
 case round =>
  obtain ⟨k,rfl,hk,rfl,HW⟩:=hrel
  have Hbr:=hid (Hbx.out.trans HW.out.below)
  by_cases hlt:k<nK t
  ·obtain ⟨kb,ko,rfl,hkb,hks,hkc⟩:=HK.out.keep Hbr.out k hlt
   have hltL:k<nL t:=by have:=HNK.out;omega
   have HM1:=hid (HM.out (k+1) hlt)
   have hm0:=HM.out k hk
   have HG:=hid (Hg.out k hltL)
   have HREST:Hid (∀ (acc2:List UInt8) (w2:World),WrP w0.heap.size b acc2 (w.alloc (.cells #[.int .i64 (kindOf t),.int .i64 (nOf t),.string (sOf t),.slice La (nL t) Lc,.slice (some ⟨kb,ko,none⟩) (nK t) Kc] 36)) w2→acc2.length+(quoL (nam t k)).length≤100000000→Calls Tryz.prog 98 #[.pointer (some ⟨b,0,none⟩),.string (nam t k)] w2 (Wrote w0.heap.size b (acc2++quoL (nam t k)) w2)) :=
    hid (fun acc2 w2 h2 hl2=>printText_any w0.heap.size b acc2 (nam t k) w2 h2.isb h2.lo' hl2 hks)
   by_cases hk0:k=0
   ·have HJ:Hid (joinO (wrT m) t (k+1)=joinO (wrT m) t k++(quoL (nam t k)++(58::wrT m (elt t k)))):=by show joinO (wrT m) t k++_=_;rw [if_pos hk0];simp
    have HL1:Hid ((joinO (wrT m) t k).length+(quoL (nam t k)).length+(wrT m (elt t k)).length+acc.length+3≤100000000):=by show _≤_;have:=HM1.out;rw [HJ.out] at this;simp only [List.length_append,List.length_cons] at this;omega
    subst hk0
    simp only [Nat.add_zero] at hkc
    go_wp2_with fail
    refine (HREST.out (acc++[123]++joinO (wrT m) t 0) _ HW.out (by have:=HL1.out;simp only [List.length_append,List.length_cons,List.length_nil] at this ⊢;omega)).mono ?_
    rintro e w2 ⟨rfl,hw2⟩
    have HW2:=hid (HW.out.trans hw2)
    clear hw2 hkc HREST
    go_wp2_with fail
    refine (wbyte_any w0.heap.size b _ 58 _ _ HW2.out (by have:=HL1.out;simp only [List.length_append,List.length_cons,List.length_nil] at this ⊢;omega)).mono ?_
    rintro e w3 ⟨rfl,hw3⟩
    have HW3:=hid (HW2.out.trans hw3)
    clear hw3
    obtain ⟨r0,r1,r2,r3,r4⟩:=oth_box HW3.out.oth hblt0
    have Hb3:=hid (Hbx.out.trans HW3.out.below)
    have HT3:=hid (HST.out _ _ HTx.out HW3.out.below)
    obtain ⟨bb,o,A,B,C,D,rfl,hbl,p0,p1,p2,p3,p4,Ha⟩:=Hl.out.shape Hb3.out 0 hltL
    simp only [Nat.zero_mul,Nat.add_zero] at p0 p1 p2 p3 p4
    go_wp2_with fail
    refine (Hih.out f _ (elt t 0) _ b _ Ha.out HG.out Hb3.out HW3.out.isb HT3.out (by have:=HL1.out;simp only [List.length_append,List.length_cons,List.length_nil] at this ⊢;omega)).mono ?_
    rintro e w4 ⟨rfl,hw4⟩
    have H4:=hid (HW3.out.trans hw4)
    clear hw4
    go_wp2_with fail
    go_roundg (nK t - (0+1))
    case rel=>exact ⟨0+1,rfl,by omega,by go_num,H4.out.acc (by rw [HJ.out];simp)⟩
    case measure=>omega
   ·have HJ:Hid (joinO (wrT m) t (k+1)=joinO (wrT m) t k++([44]++(quoL (nam t k)++(58::wrT m (elt t k))))):=by show joinO (wrT m) t k++_=_;rw [if_neg hk0]
    have HL1:Hid ((joinO (wrT m) t k).length+(quoL (nam t k)).length+(wrT m (elt t k)).length+acc.length+4≤100000000):=by show _≤_;have:=HM1.out;rw [HJ.out] at this;simp only [List.length_append,List.length_cons,List.length_nil] at this;omega
    have y0:0<k:=by omega
    have y1:(0:Int)<(k:Int):=by omega
    clear hk0
    go_wp2_with fail
    refine (wbyte_any w0.heap.size b _ 44 _ _ HW.out (by have:=HL1.out;simp only [List.length_append,List.length_cons,List.length_nil] at this ⊢;omega)).mono ?_
    rintro e w1' ⟨rfl,hw1'⟩
    have HW1:=hid (HW.out.trans hw1')
    clear hw1' hkc
    go_wp2_with fail
    refine (HREST.out (acc++[123]++joinO (wrT m) t k++[44]) _ HW1.out (by have:=HL1.out;simp only [List.length_append,List.length_cons,List.length_nil] at this ⊢;omega)).mono ?_
    rintro e w2 ⟨rfl,hw2⟩
    have HW2:=hid (HW1.out.trans hw2)
    clear hw2 HREST
    go_wp2_with fail
    refine (wbyte_any w0.heap.size b _ 58 _ _ HW2.out (by have:=HL1.out;simp only [List.length_append,List.length_cons,List.length_nil] at this ⊢;omega)).mono ?_
    rintro e w3 ⟨rfl,hw3⟩
    have HW3:=hid (HW2.out.trans hw3)
    clear hw3
    obtain ⟨r0,r1,r2,r3,r4⟩:=oth_box HW3.out.oth hblt0
    have Hb3:=hid (Hbx.out.trans HW3.out.below)
    have HT3:=hid (HST.out _ _ HTx.out HW3.out.below)
    obtain ⟨bb,o,A,B,C,D,rfl,hbl,p0,p1,p2,p3,p4,Ha⟩:=Hl.out.shape Hb3.out k hltL
    go_wp2_with fail
    refine (Hih.out f _ (elt t k) _ b _ Ha.out HG.out Hb3.out HW3.out.isb HT3.out (by have:=HL1.out;simp only [List.length_append,List.length_cons,List.length_nil] at this ⊢;omega)).mono ?_
    rintro e w4 ⟨rfl,hw4⟩
    have H4:=hid (HW3.out.trans hw4)
    clear hw4
    go_wp2_with fail
    go_roundg (nK t - (k+1))
    case rel=>exact ⟨k+1,rfl,by omega,by go_num,H4.out.acc (by rw [HJ.out];simp)⟩
    case measure=>omega
  ·obtain rfl:k=nK t:=by omega
   have hm0:=HM.out (nK t) hk
   go_wp2_with fail
   refine (wbyte_any w0.heap.size b _ 125 _ wr HW.out (by simp only [List.length_append,List.length_cons,List.length_nil];omega)).mono ?_
   rintro e w2 ⟨rfl,hw2⟩
   have H2:=hid (HW.out.trans hw2)
   clear hw2
   go_wp2_with fail
   refine bodyPost_end (v:=.tuple #[]) (by simp [results,Tryz.results100,go_sem]) rfl ?_
   exact ⟨rfl,(HSx.out.trans H2.out).acc HE.out.symm⟩
end Go.Proofs.YtknakfpciccoaabGreatDoor
/- The walks of printValue and Print. -/
namespace Go.Proofs.YtknakfpciccoaabGreatDoor
open Go.RowKit
theorem leaf_len {t:T} (hf:Fits t):(leafW t).length+1≤6*leafBytes t:=by
 unfold leafW leafBytes
 by_cases k1:kindOf t=1
 ·rw [if_pos k1,if_pos k1];simp
 rw [if_neg k1,if_neg k1]
 by_cases k2:kindOf t=2
 ·rw [if_pos k2,if_pos k2];split<;>simp
 rw [if_neg k2,if_neg k2]
 by_cases k3:kindOf t=3
 ·rw [if_pos k3,if_pos k3]
  have:=Lib.itoa_length_le (nOf t) hf.n0 hf.n1
  omega
 rw [if_neg k3,if_neg k3]
 split
 ·have:=quoL_len (sOf t)
  omega
 ·simp
  omega
theorem joinL_len {g:T→List UInt8} {h:T→Nat} {t:T}:∀ k,(∀ i,i<k→(g (elt t i)).length+1≤6*h (elt t i))→(joinL g t k).length≤6*sumL h t k
 | 0,_=>by simp [joinL]
 | k+1,hh=>by
  have ih:=joinL_len k (fun i hi=>hh i (by omega))
  have hk:=hh k (by omega)
  have hc:((if k=0 then [] else [44]:List UInt8)).length≤1:=by split<;>simp
  simp only [joinL,sumL,List.length_append]
  omega
theorem joinO_len {g:T→List UInt8} {h:T→Nat} {t:T}:∀ k,(∀ i,i<k→(g (elt t i)).length+1≤6*h (elt t i))→(joinO g t k).length≤6*(sumK t k+sumL h t k)
 | 0,_=>by simp [joinO]
 | k+1,hh=>by
  have ih:=joinO_len k (fun i hi=>hh i (by omega))
  have hk:=hh k (by omega)
  have hc:((if k=0 then [] else [44]:List UInt8)).length≤1:=by split<;>simp
  have hq:=quoL_len (nam t k)
  simp only [joinO,sumL,sumK,List.length_append,List.length_cons]
  omega
theorem good_leafK {t:T} (h:leafGood t):kindOf t≠5∧kindOf t≠6:=by
 obtain ⟨_,_,h⟩:=h
 rcases h with ⟨h,_⟩ | ⟨h,_⟩ | ⟨h,_⟩ | ⟨h,_⟩<;>omega
theorem wr_len {w:World}:∀ (m f:Nat) (v:Value) (t:T),At w f v t→Good m t→(wrT m t).length+1≤6*bytesT m t
 | 0,f,v,t,h,hg=>by
  obtain ⟨g,La,Ka,Lc,Kc,_,_,hf,_⟩:=h.open
  exact leaf_len hf
 | m+1,f,v,t,h,hg=>by
  obtain ⟨g,La,Ka,Lc,Kc,_,_,hf,hl,_⟩:=h.open
  rcases hg with hg | ⟨_,_,he,hk⟩
  ·obtain ⟨k5,k6⟩:=good_leafK hg
   unfold wrT bytesT
   rw [if_neg k5,if_neg k6,if_neg k5,if_neg k6]
   exact leaf_len hf
  ·have hi:∀ i,i<nL t→(wrT m (elt t i)).length+1≤6*bytesT m (elt t i):=fun i hi=>by
    obtain ⟨b,o,c0,c1,c2,c3,c4,_,_,_,_,_,_,_,ha⟩:=hl.out i hi
    exact wr_len m g _ _ ha.out (he i hi)
   unfold wrT bytesT
   rcases hk with ⟨k5,_⟩ | ⟨k6,hnk,_⟩
   ·rw [if_pos k5,if_pos k5]
    have:=joinL_len (g:=wrT m) (h:=bytesT m) (nL t) hi
    simp only [List.length_cons,List.length_append,List.length_nil]
    omega
   ·have k5:kindOf t≠5:=by omega
    rw [if_neg k5,if_pos k6,if_neg k5,if_pos k6,hnk]
    have:=joinO_len (g:=wrT m) (h:=bytesT m) (nL t) hi
    simp only [List.length_cons,List.length_append,List.length_nil]
    omega
set_option maxHeartbeats 4000000 in
set_option maxRecDepth 100000 in
theorem print_step {Tb:World→Prop} (hF:FmtSaid Tb) (w0:World) (hS:Stays Tb w0.heap.size) (m:Nat) (ih:PrSaid Tb w0 m):PrSaid Tb w0 (m+1):=by
 intro f v t acc b w h hg hb hi hT hl
 obtain ⟨g,La,Ka,Lc,Kc,rfl,rfl,hf,hl',hk'⟩:=h.open
 rcases hg with hg | ⟨g1,g2,he,hk⟩
 ·obtain ⟨k5,k6⟩:=good_leafK hg
  rw [wrT_leaf k5 k6] at hl ⊢
  exact print_leaf hF w0 hS t hg hf acc b w La Ka Lc Kc hb hi hT hl
 clear g1 g2
 have HS:=hid (WrP.start hi hb.size)
 have HB1:Hid (Below w.heap.size w (w.alloc (.cells #[.int .i64 (kindOf t),.int .i64 (nOf t),.string (sOf t),.slice La (nL t) Lc,.slice Ka (nK t) Kc] 36))):=(Below.refl _ _).alloc (Nat.le_refl _) _
 have HS1:=hid (HS.out.keep HB1.out)
 have HT1:=hid (hS _ _ hT (HB1.out.mono hb.size))
 have Hb1:=hid (hb.trans HS1.out.below)
 rcases hk with ⟨hk,g3⟩ | ⟨hk,hnk,g4,g5⟩
 ·have e1:(kindOf t==1)=false:=by rw [hk];rfl
  have e2:(kindOf t==2)=false:=by rw [hk];rfl
  have e3:(kindOf t==3)=false:=by rw [hk];rfl
  have e4:(kindOf t==4)=false:=by rw [hk];rfl
  have e5:(kindOf t==5)=true:=by rw [hk];rfl
  have HW:Hid (wrT (m+1) t=91::(joinL (wrT m) t (nL t)++[93])):=by show _=_;rw [wrT,if_pos hk]
  rw [HW.out] at hl ⊢
  have HP:=hid (printList_any w0 hS m ih g La Lc t acc b _ hl'.out hf.l1 he Hb1.out HS1.out.isb HT1.out (by simp only [List.length_cons,List.length_append,List.length_nil] at hl;omega))
  clear hk hl g3 he hi hT hb hf hl' hk' ih hS hF h
  go_enter Tryz.func65,Tryz.ntmps65
  go_wp2_with fail
  refine HP.out.mono ?_
  rintro e w2 ⟨rfl,hw2⟩
  have H2:=hid (HS1.out.trans hw2)
  clear hw2 HP
  go_wp2_with fail
  refine bodyPost_end (v:=.tuple #[]) (by simp [results,Tryz.results65,go_sem]) rfl ?_
  exact ⟨rfl,H2.out⟩
 ·have e1:(kindOf t==1)=false:=by rw [hk];rfl
  have e2:(kindOf t==2)=false:=by rw [hk];rfl
  have e3:(kindOf t==3)=false:=by rw [hk];rfl
  have e4:(kindOf t==4)=false:=by rw [hk];rfl
  have e5:(kindOf t==5)=false:=by rw [hk];rfl
  have e6:(kindOf t==6)=true:=by rw [hk];rfl
  have HW:Hid (wrT (m+1) t=123::(joinO (wrT m) t (nK t)++[125])):=by show _=_;rw [wrT,if_neg (by omega),if_pos hk]
  rw [HW.out] at hl ⊢
  have HP:=hid (printObject_any w0 hS m ih g La Ka Lc Kc t acc b _ hl'.out hk'.out hf.l1 (by rw [hnk];exact hf.l1) hnk he Hb1.out HS1.out.isb HT1.out (by simp only [List.length_cons,List.length_append,List.length_nil] at hl;omega))
  clear hk hl g4 g5 hnk he hi hT hb hf hl' hk' ih hS hF h
  go_enter Tryz.func65,Tryz.ntmps65
  go_wp2_with fail
  refine HP.out.mono ?_
  rintro e w2 ⟨rfl,hw2⟩
  have H2:=hid (HS1.out.trans hw2)
  clear hw2 HP
  go_wp2_with fail
  refine bodyPost_end (v:=.tuple #[]) (by simp [results,Tryz.results65,go_sem]) rfl ?_
  exact ⟨rfl,H2.out⟩
theorem print_any {Tb:World→Prop} (hF:FmtSaid Tb) (w0:World) (hS:Stays Tb w0.heap.size):∀ m,PrSaid Tb w0 m
 | 0=>by
  intro f v t acc b w h hg hb hi hT hl
  obtain ⟨g,La,Ka,Lc,Kc,rfl,rfl,hf,_,_⟩:=h.open
  exact print_leaf hF w0 hS t hg hf acc b w La Ka Lc Kc hb hi hT hl
 | m+1=>print_step hF w0 hS m (print_any hF w0 hS m)
def ansS (ok:Bool) (l:List UInt8):ByteArray:=if ok then baL l else ⟨#[]⟩
def ansF (ok:Bool):Int:=if ok then 0 else 5
set_option maxHeartbeats 4000000 in
set_option maxRecDepth 100000 in
theorem tPrint_any {Tb:World→Prop} (hV:ValidSaid Tb) (hF:FmtSaid Tb) (hL:Lies Tb) (f:Nat) (v:Value) (t:T) (w:World) (h:At w f v t) (hT:Tb w) :
  Calls Tryz.prog 41 #[v] w fun e w'=>e=.returned (.tuple #[.string (ansS (isV t) (wrT 12 t)),.int .i64 (ansF (isV t))])∧Below w.heap.size w w':=by
 have HA:=hid h
 have HT:=hid hT
 have HF:=hid hF
 have HL:=hid hL
 have HV:=hid hV
 obtain ⟨f1,La,Ka,Lc,Kc,hf1,rfl,hf,hl,hk⟩:=h.open
 clear h hf hf1 hl hk hT hF hL hV
 have HB1:Hid (Below w.heap.size w (w.alloc (.cells #[.int .i64 (kindOf t),.int .i64 (nOf t),.string (sOf t),.slice La (nL t) Lc,.slice Ka (nK t) Kc] 36))):=(Below.refl _ _).alloc (Nat.le_refl _) _
 have HI:=hid (isValue_any HV.out HL.out f _ t _ (HA.out.keep HB1.out) (HL.out w HT.out _ _ HT.out HB1.out))
 go_enter Tryz.func41,Tryz.ntmps41
 go_wp2_with fail
 refine HI.out.mono ?_
 rintro e w2 ⟨rfl,b2⟩
 have HB2:Hid (Below (w.heap.size+1) (w.alloc (.cells #[.int .i64 (kindOf t),.int .i64 (nOf t),.string (sOf t),.slice La (nL t) Lc,.slice Ka (nK t) Kc] 36)) w2):=b2.mono (by simp)
 obtain ⟨q0,q1,q2,q3,q4,hz,hbw⟩:=box_facts HB2.out
 have Hbw:=hid hbw
 clear b2 hbw HI
 cases hi:isV t with
 | false =>
  have Hi:=hid hi
  clear hi
  go_wp2_with fail
  go_ret2
  exact ⟨by rw [Hi.out];rfl,Hbw.out⟩
 | true =>
  have Hi:=hid hi
  have HG:=hid ((isV_iff t).1 hi)
  have HT2:=hid (HL.out w HT.out _ _ HT.out Hbw.out)
  have HA2:=hid (HA.out.keep Hbw.out)
  have HW:=hid (wr_len 12 f _ t HA2.out HG.out.1)
  have HFr:Hid (Lib.IsBuilderF 108 5 w2.heap.size w2.heap.size (Lib.byteCells []) (w2.alloc (.cells #[.pointer none,.slice none 0 0] 108))):=Lib.IsBuilderF.of (Lib.fresh_isBuilder 108 5 w2)
  have HBa:Hid (Below w2.heap.size w2 (w2.alloc (.cells #[.pointer none,.slice none 0 0] 108))):=(Below.refl _ _).alloc (Nat.le_refl _) _
  have HP:=hid (print_any HF.out w2 (HL.out w2 HT2.out) 12 f _ t [] w2.heap.size _ HA2.out HG.out.1 HBa.out HFr.out (HL.out w2 HT2.out _ _ HT2.out HBa.out) (by have:=HW.out;have:=HG.out.2;simp only [List.length_nil];omega))
  clear hi
  go_wp2_with fail
  refine HP.out.mono ?_
  rintro e w3 ⟨rfl,hw3⟩
  have H3:=hid hw3
  have HB3:=hid (Hbw.out.trans ((HBa.out.trans hw3.below).mono (Nat.le_of_lt hz)))
  clear hw3 HP
  go_wp2_with fail
  refine (string_any w2.heap.size w2.heap.size _ _ H3.out.isb H3.out.lo').mono ?_
  rintro e w4 ⟨rfl,b4⟩
  have HB4:=hid (HB3.out.trans (b4.mono (Nat.le_of_lt hz)))
  clear b4
  go_wp2_with fail
  go_ret2
  exact ⟨by rw [Hi.out];rfl,HB4.out⟩
end Go.Proofs.YtknakfpciccoaabGreatDoor
/- The walk of printed. -/
namespace Go.Proofs.YtknakfpciccoaabGreatDoor
open Go.RowKit
def prT (t:T):ByteArray:=ansS (isV t) (wrT 12 t)
def prL (d:T):Nat→List Value
 | 0=>[]
 | k+1=>prL d k++[.string (prT (elt d k))]
set_option maxHeartbeats 4000000 in
set_option maxRecDepth 100000 in
theorem printed_docs {Tb:World→Prop} (hV:ValidSaid Tb) (hF:FmtSaid Tb) (hL:Lies Tb) (d:T) (f:Nat) (La:Option Addr) (Lc:Nat) (w:World) (hl:ElemsAt w f La d) (hn:nL d≤1000000) (hT:Tb w) :
  Calls Tryz.prog 24 #[.slice La (nL d) Lc] w fun e w'=>Below w.heap.size w w'∧∃ sv,e=.returned sv∧w'.ownsRow w.heap.size 9 1 sv (nL d) (prL d (nL d)):=by
 obtain ⟨iS,hiS,zS0,zS1,zS2⟩:=info_parts infoS
 have Hl:=hid hl
 have HP:Hid (∀ (v:Value) (t:T) (w:World),At w f v t→Tb w→Calls Tryz.prog 41 #[v] w fun e w'=>e=.returned (.tuple #[.string (prT t),.int .i64 (ansF (isV t))])∧Below w.heap.size w w'):=fun v t w h hT=>tPrint_any hV hF hL f v t w h hT
 have HT:Hid (∀ w':World,Below w.heap.size w w'→Tb w'):=fun w' hb=>hL w hT w w' hT hb
 clear hl hT hL hV hF
 go_enter Tryz.func24,Tryz.ntmps24
 go_wp2_with fail
 go_loopg [3,10] (nL d) (fun g o i wr=>∃ (k:Nat),g=nL d - k∧k≤nL d∧i=.int .i64 k∧Hid (wr.ownsRow w.heap.size 9 1 o k (prL d k))∧Hid (Below w.heap.size w wr))
 case atStart=>exact ⟨0,rfl,Nat.zero_le _,rfl,World.ownsRow_nil _ _ _ _,Below.refl _ _⟩
 case round =>
  obtain ⟨k,rfl,hk,rfl,HR,HB⟩:=hrel
  by_cases hlt:k<nL d
  ·obtain ⟨bb,oo,A,B,C,D,rfl,hbl,p0,p1,p2,p3,p4,Ha⟩:=Hl.out.shape HB.out k hlt
   have HBi:Hid (Below wr.heap.size wr (wr.alloc (.cells #[.int .i64 (kindOf (elt d k)),.int .i64 (nOf (elt d k)),.string (sOf (elt d k)),.slice A (nL (elt d k)) B,.slice C (nK (elt d k)) D] 36))):=(Below.refl _ _).alloc (Nat.le_refl _) _
   have HB2:=hid (HB.out.trans (HBi.out.mono HB.out.size))
   have HC:=hid (HP.out _ (elt d k) _ (Ha.out.keep HB2.out) (HT.out _ HB2.out))
   go_wp2_with fail
   refine HC.out.mono ?_
   rintro e w2 ⟨rfl,b2⟩
   have HB3:=hid (HB2.out.trans (b2.mono HB2.out.size))
   have HB4:=hid (HB3.out.alloc HB3.out.size (.cells #[.string (prT (elt d k))] 9))
   have HR4:Hid ((w2.alloc (.cells #[.string (prT (elt d k))] 9)).ownsRow w.heap.size 9 1 u3 k (prL d k)):=rowH_move (rowH_move HR.out fun b _ h2=>(b2.block b (Nat.lt_of_lt_of_le h2 HBi.out.size)).trans (HBi.out.block b h2)) fun b _ h2=>((Below.refl w2.heap.size w2).alloc (Nat.le_refl _) (.cells #[.string (prT (elt d k))] 9)).block b h2
   have HSrc:Hid (Src Tryz.prog 1 28 (.slice (some ⟨w2.heap.size,0,none⟩) 1 1) 1 [.string (prT (elt d k))] (w2.alloc (.cells #[.string (prT (elt d k))] 9))):=Src.ofSlice _ Tryz.underlying28 ⟨w2.heap.size,0,none⟩ 1 1 [.string (prT (elt d k))] (by simp) (World.news_of_block (heap_alloc_new w2 _)) (by simp [Value.oneCell'])
   have hlo:=HB4.out.size
   clear b2 HC
   go_wp2_with (at_builtin;refine wpList_append_src _ rfl (.tmp 19) (.tmp 21) 28 28 rfl w.heap.size 9 iS _ 1 16 Tryz.underlying28 hiS zS0 zS1 zS2 rfl u3 k (prL d k) rfl HR4.out (.slice (some ⟨w2.heap.size,0,none⟩) 1 1) 1 [.string (prT (elt d k))] rfl HSrc.out (by unfold maxLen;omega) (by omega) hlo ?_;intro v' w6 hO6 hG6 hat6)
   have HO6:Hid (w6.ownsRow w.heap.size 9 1 v' (k+1) (prL d (k+1))):=hO6
   have HB6:=hid (below_grown HB4.out HR4.out (Nat.le_refl _) hlo hG6)
   clear hO6 hG6 hat6
   go_wp2_with fail
   go_roundg (nL d - (k+1))
   case rel=>exact ⟨k+1,rfl,by omega,by go_num,HO6,HB6⟩
   case measure=>omega
  ·obtain rfl:k=nL d:=by omega
   go_wp2_with fail
   go_ret
   exact ⟨HB.out,_,rfl,HR.out⟩
theorem cx_some {xs:List Value} {j:Nat} (h:j<xs.length):xs[j]?=some (cx xs j):=by unfold cx;rw [List.getElem?_eq_getElem h];rfl
theorem Held.elems {w0:World} {f:Nat} {hv:Value} {l:List T} {xs:List Value} {wr:World} (h:Held w0 f hv l xs wr):∃ La Lc,hv=.slice La l.length Lc∧ElemsAt wr f La (mkT 5 0 ByteArray.empty l []):=by
 have hx:xs.length=l.length*5:=h.row.1
 rcases h.row.2 with ⟨rfl,hn⟩ | ⟨g,cap,cur,rfl,hb0,hg,rest⟩
 ·refine ⟨none,0,by rw [hn],fun i hi=>?_⟩
  rw [nL_mk] at hi
  omega
 ·refine ⟨_,_,rfl,fun i hi=>?_⟩
  rw [nL_mk] at hi
  have hc:∀ j,j<5→wr.cell? ⟨g,i*5+j,none⟩=some (cx xs (i*5+j)):=fun j hj=>row_cell h.row (cx_some (by omega))
  have e:elt (mkT 5 0 ByteArray.empty l []) i=l[i]:=by rw [elt_mk,List.getD_eq_getElem?_getD,List.getElem?_eq_getElem hi];rfl
  refine ⟨g,0,cx xs (i*5),cx xs (i*5+1),cx xs (i*5+2),cx xs (i*5+3),cx xs (i*5+4),rfl,(Array.getElem?_eq_some_iff.1 hg).1,(by rw [Nat.zero_add];exact hc 0 (by omega)),(by rw [Nat.zero_add];exact hc 1 (by omega)),(by rw [Nat.zero_add];exact hc 2 (by omega)),(by rw [Nat.zero_add];exact hc 3 (by omega)),(by rw [Nat.zero_add];exact hc 4 (by omega)),?_⟩
  rw [e]
  exact At.keep h.low (h.at_ i hi)
end Go.Proofs.YtknakfpciccoaabGreatDoor
/- Values as bytes, pure: what is written; a row of bytes of one's own that grows. -/
namespace Go.Proofs.YtknakfpciccoaabGreatDoor
open Go.RowKit
def byAt (n:Int) (k:Nat):UInt8:=UInt8.ofNat (n / 256 ^ k % 256).toNat
theorem byAt_toNat (n:Int) (k:Nat):((byAt n k).toNat:Int)=n / 256 ^ k % 256:=by
 unfold byAt
 rw [UInt8.toNat_ofNat']
 have h0:=Int.emod_nonneg (n / 256 ^ k) (show (256:Int)≠0 by decide)
 have h1:=Int.emod_lt_of_pos (n / 256 ^ k) (show (0:Int)<256 by decide)
 omega
theorem by_eq {a b:UInt8} (h:(a.toNat:Int)=b.toNat):a=b:=UInt8.toNat_inj.1 (by omega)
def beL (n:Int):Nat→List UInt8
 | 0=>[]
 | k+1=>byAt n k::beL n k
theorem beL_len (n:Int):∀ k,(beL n k).length=k
 | 0=>rfl
 | k+1=>by simp [beL,beL_len n k]
theorem pow_dvd (k:Nat) (h:k<8):∃ c:Int,(18446744073709551616:Int)=256 ^ k*(256*c):=by
 have:∀ k:Fin 8,(18446744073709551616:Int)=256 ^ k.1*(256*(256 ^ (7 - k.1))):=by decide
 exact ⟨_,this ⟨k,h⟩⟩
theorem byAt_wrap (n:Int) (k:Nat) (h:k<8):byAt (n % 18446744073709551616) k=byAt n k:=by
 apply by_eq
 rw [byAt_toNat,byAt_toNat]
 obtain ⟨c,hc⟩:=pow_dvd k h
 have hp:(256:Int) ^ k≠0:=by
  have:(0:Int)<256 ^ k:=Int.pow_pos (by decide)
  omega
 have e:=Int.emod_add_mul_ediv n 18446744073709551616
 generalize n % 18446744073709551616=r at e ⊢
 generalize n / 18446744073709551616=q at e
 rw [← e,hc,Int.mul_assoc,Int.add_mul_ediv_left _ _ hp,Int.mul_assoc,Int.add_mul_emod_self_left]
theorem beL_wrap (n:Int):∀ k,k≤8→beL (n % 18446744073709551616) k=beL n k
 | 0,_=>rfl
 | k+1,h=>by rw [beL,beL,byAt_wrap n k (by omega),beL_wrap n k (by omega)]
def kindB (t:T):UInt8:=byAt (kindOf t) 0
def leafE (t:T):List UInt8 :=
 kindB t::(if kindOf t=2 then [byAt (nOf t) 0] else if kindOf t=3 then beL (nOf t) 8 else if kindOf t=4 then beL (sOf t).size 4++(sOf t).data.toList else [])
def nameE (t:T) (k:Nat):List UInt8:=if kindOf t=6 then beL (nam t k).size 2++(nam t k).data.toList else []
def catB (g:T→List UInt8) (t:T):Nat→List UInt8
 | 0=>[]
 | k+1=>catB g t k++(nameE t k++g (elt t k))
def boxE (t:T) (body:List UInt8):List UInt8:=kindB t::(beL body.length 4++body)
def encT:Nat→T→List UInt8
 | 0,t=>leafE t
 | m+1,t=>if kindOf t=5∨kindOf t=6 then boxE t (catB (encT m) t (nL t)) else leafE t
theorem encT_leaf {m:Nat} {t:T} (h5:kindOf t≠5) (h6:kindOf t≠6):encT m t=leafE t:=by
 cases m with
 | zero=>rfl
 | succ m=>unfold encT;rw [if_neg (by omega)]
theorem encT_box {m:Nat} {t:T} (h:kindOf t=5∨kindOf t=6):encT (m+1) t=boxE t (catB (encT m) t (nL t)):=by rw [encT,if_pos h]
theorem catB_mono (g : T → List UInt8) (t : T) {k n : Nat} (h : k ≤ n) : (catB g t k).length ≤ (catB g t n).length := by
  induction n with
  | zero => have : k = 0 := by omega
            subst this; exact Nat.le_refl _
  | succ n ih =>
    by_cases e : k = n + 1
    · subst e; exact Nat.le_refl _
    · have := ih (by omega)
      simp only [catB, List.length_append]
      omega
theorem leafE_len {t:T} (h:leafGood t):(leafE t).length=leafBytes t:=by
 obtain ⟨_,_,h⟩:=h
 unfold leafE leafBytes
 rcases h with ⟨h,_⟩ | ⟨h,_⟩ | ⟨h,_⟩ | ⟨h,_⟩<;>simp [h,beL_len]
 omega
theorem catB_len5 {g:T→List UInt8} {h:T→Nat} {t:T} (h5:kindOf t≠6):∀ k,(∀ i,i<k→(g (elt t i)).length=h (elt t i))→(catB g t k).length=sumL h t k
 | 0,_=>rfl
 | k+1,hh=>by
  have ih:=catB_len5 h5 k (fun i hi=>hh i (by omega))
  have hk:=hh k (by omega)
  simp only [catB,sumL,nameE,if_neg h5,List.length_append,List.length_nil]
  omega
theorem catB_len6 {g:T→List UInt8} {h:T→Nat} {t:T} (h6:kindOf t=6):∀ k,(∀ i,i<k→(g (elt t i)).length=h (elt t i))→(catB g t k).length=sumK t k+sumL h t k
 | 0,_=>rfl
 | k+1,hh=>by
  have ih:=catB_len6 h6 k (fun i hi=>hh i (by omega))
  have hk:=hh k (by omega)
  have e:(nam t k).data.toList.length=(nam t k).size:=rfl
  simp only [catB,sumL,sumK,nameE,if_pos h6,List.length_append,beL_len]
  omega
theorem encT_len:∀ (m:Nat) (t:T),Good m t→(encT m t).length=bytesT m t
 | 0,t,hg=>leafE_len hg
 | m+1,t,hg=>by
  rcases hg with hg | ⟨_,_,he,hk⟩
  ·have k5:kindOf t≠5∧kindOf t≠6:=by
    obtain ⟨_,_,h⟩:=hg
    rcases h with ⟨h,_⟩ | ⟨h,_⟩ | ⟨h,_⟩ | ⟨h,_⟩<;>omega
   unfold encT bytesT
   rw [if_neg (by omega),if_neg k5.1,if_neg k5.2]
   exact leafE_len hg
  ·have hi:∀ i,i<nL t→(encT m (elt t i)).length=bytesT m (elt t i):=fun i hi=>encT_len m _ (he i hi)
   unfold encT bytesT
   rcases hk with ⟨k5,_⟩ | ⟨k6,hnk,_⟩
   ·rw [if_pos (.inl k5),if_pos k5]
    have:=catB_len5 (g:=encT m) (h:=bytesT m) (by omega) (nL t) hi
    simp only [boxE,List.length_cons,List.length_append,beL_len]
    omega
   ·rw [if_pos (.inr k6),if_neg (by omega),if_pos k6,hnk]
    have:=catB_len6 (g:=encT m) (h:=bytesT m) k6 (nL t) hi
    simp only [boxE,List.length_cons,List.length_append,beL_len]
    omega
theorem infoBE:(Tryz.prog.info? 5).map (fun i=>(i.zero,i.size,i.bytes))=some (some (.int .u8 0),1,1):=by kernel_rfl
structure QG (w0:World) (r:Value) (w:World) (r':Value) (acc:List UInt8) (w':World):Prop where
 row:w'.ownsRow w0.heap.size 5 1 r' acc.length (bytesV acc)
 grown:w.grownBy w' r.ownBlock
 own:r'.ownBlock=r.ownBlock∨∃ b,r'.ownBlock=some b∧w.heap.size≤b
theorem ownBlock_lt {w:World} {lo:Nat} {e:TypeId} {size n:Nat} {v:Value} {xs:List Value} (h:w.ownsRow lo e size v n xs) {b:Nat} (hb:v.ownBlock=some b):lo≤b∧b<w.heap.size:=by
 rcases h.2 with ⟨rfl,_⟩ | ⟨g,cap,cur,rfl,hb0,hg,rest⟩
 ·cases hb
 ·have:b=g:=by simpa [Value.ownBlock] using hb.symm
  subst this
  exact ⟨hb0,(Array.getElem?_eq_some_iff.1 hg).1⟩
theorem rowE_move {w w':World} {lo:Nat} {e:TypeId} {size n:Nat} {v:Value} {xs:List Value} (h:w.ownsRow lo e size v n xs) (hb:∀ b,lo≤b→b<w.heap.size→w'.heap[b]?=w.heap[b]?):w'.ownsRow lo e size v n xs:=by
 refine ⟨h.1,?_⟩
 rcases h.2 with hn | ⟨g,cap,cur,rfl,hb0,hg,rest⟩
 ·exact .inl hn
 ·exact .inr ⟨g,cap,cur,rfl,hb0,(hb g hb0 (Array.getElem?_eq_some_iff.1 hg).1).trans hg,rest⟩
theorem grown_refl (w:World) (r:Option Nat):w.grownBy w r:=⟨rfl,rfl,rfl,Nat.le_refl _,fun _ _ _=>rfl⟩
theorem QG.refl {w0 w:World} {r:Value} {acc:List UInt8} (h:w.ownsRow w0.heap.size 5 1 r acc.length (bytesV acc)):QG w0 r w r acc w:=⟨h,grown_refl w _,.inl rfl⟩
theorem QG.trans {w0 w w1 w2:World} {r r1 r2:Value} {a1 a2:List UInt8} (h:QG w0 r w r1 a1 w1) (k:QG w0 r1 w1 r2 a2 w2):QG w0 r w r2 a2 w2:=by
 refine ⟨k.row,⟨k.grown.os.trans h.grown.os,k.grown.tape.trans h.grown.tape,k.grown.output.trans h.grown.output,Nat.le_trans h.grown.size k.grown.size,fun b hb hne=>?_⟩,?_⟩
 ·rw [k.grown.block b (Nat.lt_of_lt_of_le hb h.grown.size) ?_,h.grown.block b hb hne]
  intro e
  rcases h.own with h1 | ⟨c,h1,h2⟩
  ·rw [h1] at e;exact hne e
  ·rw [h1] at e
   simp only [Option.some.injEq] at e
   omega
 ·rcases k.own with k1 | ⟨c,k1,k2⟩
  ·rcases h.own with h1 | ⟨c,h1,h2⟩
   ·exact .inl (k1.trans h1)
   ·exact .inr ⟨c,k1.trans h1,h2⟩
  ·exact .inr ⟨c,k1,Nat.le_trans h.grown.size k2⟩
theorem QG.acc {w0 w w1:World} {r r1:Value} {a a':List UInt8} (h:QG w0 r w r1 a w1) (e:a=a'):QG w0 r w r1 a' w1:=e ▸ h
theorem QG.keep {w0 w w1 w2:World} {r r1:Value} {a1:List UInt8} (h:QG w0 r w r1 a1 w1) (k:Below w1.heap.size w1 w2):QG w0 r w r1 a1 w2 :=
 ⟨rowE_move h.row fun b _ h2=>k.block b h2,⟨k.os.trans h.grown.os,k.tape.trans h.grown.tape,k.output.trans h.grown.output,Nat.le_trans h.grown.size k.size,fun b hb hne=>(k.block b (Nat.lt_of_lt_of_le hb h.grown.size)).trans (h.grown.block b hb hne)⟩,h.own⟩
theorem QG.grow {w0 w w1 w2:World} {r r1 r2:Value} {acc l:List UInt8} (h:QG w0 r w r1 acc w1) (hO:w2.ownsRow w0.heap.size 5 1 r2 (acc.length+l.length) (bytesV acc++bytesV l)) (hG:w1.grownBy w2 r1.ownBlock) (hat:r2.ownBlock=r1.ownBlock∨r2.ownBlock=some w1.heap.size):QG w0 r w r2 (acc++l) w2 :=
 h.trans ⟨by rw [List.length_append,bytesV_append];exact hO,hG,hat.imp id fun h=>⟨_,h,Nat.le_refl _⟩⟩
theorem QG.below {w0 w w1:World} {r r1:Value} {a a1:List UInt8} (h:QG w0 r w r1 a1 w1) (hr:w.ownsRow w0.heap.size 5 1 r a.length (bytesV a)) (hb:Below w0.heap.size w0 w):Below w0.heap.size w0 w1 :=
 ⟨h.grown.os.trans hb.os,h.grown.tape.trans hb.tape,h.grown.output.trans hb.output,Nat.le_trans hb.size h.grown.size,fun k hk=>(h.grown.block k (Nat.lt_of_lt_of_le hk hb.size) (fun e=>by have:=(ownBlock_lt hr e.symm).1;omega)).trans (hb.block k hk)⟩
theorem QG.box {w0 w w1:World} {r r1:Value} {a a1:List UInt8} {c0 c1 c2 c3 c4:Value} (hr:w.ownsRow w0.heap.size 5 1 r a.length (bytesV a)) (h:QG w0 r (w.alloc (.cells #[c0,c1,c2,c3,c4] 36)) r1 a1 w1) :
  w1.cell? ⟨w.heap.size,0,none⟩=some c0∧w1.cell? ⟨w.heap.size,1,none⟩=some c1∧w1.cell? ⟨w.heap.size,2,none⟩=some c2∧w1.cell? ⟨w.heap.size,3,none⟩=some c3∧w1.cell? ⟨w.heap.size,4,none⟩=some c4∧w.heap.size<w1.heap.size:=by
 have hz:=h.grown.size
 have hb:w1.heap[w.heap.size]?=(w.alloc (.cells #[c0,c1,c2,c3,c4] 36)).heap[w.heap.size]?:=h.grown.block w.heap.size (by simp) (fun e=>by have:=(ownBlock_lt hr e.symm).2;omega)
 refine ⟨?_,?_,?_,?_,?_,by simp at hz;omega⟩
 ·rw [World.cell?_of_block (a:=⟨w.heap.size,0,none⟩) hb];simp [go_sem]
 ·rw [World.cell?_of_block (a:=⟨w.heap.size,1,none⟩) hb];simp [go_sem]
 ·rw [World.cell?_of_block (a:=⟨w.heap.size,2,none⟩) hb];simp [go_sem]
 ·rw [World.cell?_of_block (a:=⟨w.heap.size,3,none⟩) hb];simp [go_sem]
 ·rw [World.cell?_of_block (a:=⟨w.heap.size,4,none⟩) hb];simp [go_sem]
theorem builtE_cell (w:World) (l:List UInt8) (j:Nat) (u:Value) (hj:(bytesV l)[j]?=some u):(w.alloc (.cells (bytesV l).toArray 5)).cell? ((⟨w.heap.size,0,none⟩:Addr).add j)=some u:=by
 have e0:(w.alloc (.cells (bytesV l).toArray 5)).heap[w.heap.size]?=some (.cells (bytesV l).toArray 5):=by show (w.heap.push _)[w.heap.size]?=_;simp
 have e1:((⟨w.heap.size,0,none⟩:Addr).add j)=⟨w.heap.size,j,none⟩:=by simp [Addr.add];intro h;exact h.symm
 rw [e1]
 unfold World.cell?
 rw [e0]
 show (if _ then none else (bytesV l).toArray[j]?)=some u
 rw [if_neg (by simp)]
 simpa using hj
theorem srcE_built (w:World) (l:List UInt8):Src Tryz.prog 1 98 (.slice (some ⟨w.heap.size,0,none⟩) l.length l.length) l.length (bytesV l) (w.alloc (.cells (bytesV l).toArray 5)) :=
 Src.ofSlice _ Tryz.underlying98 ⟨w.heap.size,0,none⟩ l.length l.length (bytesV l) (by rw [bytesV_length];omega) (builtE_cell w l) (fun u hu=>by obtain ⟨b,_,rfl⟩:=List.mem_map.1 hu;rfl)
end Go.Proofs.YtknakfpciccoaabGreatDoor
/- Bytes and values, pure: what was written is read as it was, and what was read is written so. -/
namespace Go.Proofs.YtknakfpciccoaabGreatDoor
open Go.RowKit
theorem ba_extT {a b:ByteArray} (h:a.data.toList=b.data.toList):a=b:=by
 apply ByteArray.ext
 exact Array.toList_inj.1 h
theorem baL_self (s:ByteArray):baL s.data.toList=s:=by
 apply ba_extT
 simp [baL]
def canT:Nat→T→T
 | 0,t=>mkT (kindOf t) (nOf t) (sOf t) [] []
 | m+1,t=>mkT (kindOf t) (nOf t) (sOf t) ((lOf t).map (canT m)) (kOf t)
theorem canT_kind (m:Nat) (t:T):kindOf (canT m t)=kindOf t:=by cases m<;>rfl
theorem canT_n (m:Nat) (t:T):nOf (canT m t)=nOf t:=by cases m<;>rfl
theorem canT_s (m:Nat) (t:T):sOf (canT m t)=sOf t:=by cases m<;>rfl
theorem canT_nL (m:Nat) (t:T):nL (canT (m+1) t)=nL t:=by unfold nL;rw [canT,lOf_mk,List.length_map]
theorem canT_kOf (m:Nat) (t:T):kOf (canT (m+1) t)=kOf t:=by rw [canT,kOf_mk]
theorem canT_nK (m:Nat) (t:T):nK (canT (m+1) t)=nK t:=by unfold nK;rw [canT_kOf]
theorem canT_nam (m:Nat) (t:T):nam (canT (m+1) t)=nam t:=by funext i;unfold nam;rw [canT_kOf]
theorem canT_elt (m:Nat) (t:T) {i:Nat} (h:i<nL t):elt (canT (m+1) t) i=canT m (elt t i):=by
 have h':i<(lOf t).length:=h
 unfold elt
 rw [canT,lOf_mk]
 simp [List.getD_eq_getElem?_getD,h']
theorem nil_of {α:Type} {l:List α} (h:l.length=0):l=[]:=List.eq_nil_of_length_eq_zero h
theorem canT_leaf (m:Nat) {t:T} (h:nL t=0) (k:nK t=0):canT m t=leafT (kindOf t) (nOf t) (sOf t):=by
 cases m with
 | zero=>rfl
 | succ m =>
  have h1:lOf t=[]:=nil_of h
  have h2:kOf t=[]:=nil_of k
  rw [canT,h1,h2]
  rfl
end Go.Proofs.YtknakfpciccoaabGreatDoor
/- Bytes and values, pure: what was written is read as it was. -/
namespace Go.Proofs.YtknakfpciccoaabGreatDoor
open Go.RowKit
theorem dropC {α:Type} {l:List α} {k:Nat} {d:α} (h:k<l.length):l.drop k=l.getD k d::l.drop (k+1):=by
 rw [List.drop_eq_getElem_cons h]
 simp [List.getD_eq_getElem?_getD,h]
end Go.Proofs.YtknakfpciccoaabGreatDoor
/- Bytes and values, pure: a value and itself, read anew. -/
namespace Go.Proofs.YtknakfpciccoaabGreatDoor
open Go.RowKit
theorem namesF_can (m:Nat) (t:T):∀ k,namesF (canT (m+1) t) k=namesF t k
 | 0=>rfl
 | k+1=>by rw [namesF,namesF,namesF_can m t k,canT_nam]
theorem dupIn_can (m:Nat) (t:T) (i:Nat):∀ k,dupIn (canT (m+1) t) i k=dupIn t i k
 | 0=>rfl
 | k+1=>by rw [dupIn,dupIn,dupIn_can m t i k,canT_nam]
theorem dupTo_can (m:Nat) (t:T):∀ k,dupTo (canT (m+1) t) k=dupTo t k
 | 0=>rfl
 | k+1=>by rw [dupTo,dupTo,dupTo_can m t k,dupIn_can]
theorem noText_can (m:Nat) (t:T):noText (canT m t)=noText t:=by unfold noText;rw [canT_s]
theorem leaf_can (m:Nat) {t:T} (h:leafGood t):leafGood (canT m t):=by
 have e:=canT_leaf m h.1 h.2.1
 have hl:nL (canT m t)=0:=by rw [e];rfl
 have hk:nK (canT m t)=0:=by rw [e];rfl
 obtain ⟨_,_,h⟩:=h
 refine ⟨hl,hk,?_⟩
 rw [canT_kind,canT_n,canT_s,noText_can]
 exact h
theorem good_can:∀ (m:Nat) (t:T),Good m t→Good m (canT m t)
 | 0,t,h=>leaf_can 0 h
 | m+1,t,h=>by
  rcases h with h | ⟨h1,h2,he,hk⟩
  ·exact .inl (leaf_can (m+1) h)
  ·refine .inr ⟨by rw [canT_n];exact h1,by rw [noText_can];exact h2,fun i hi=>?_,?_⟩
   ·rw [canT_nL] at hi
    rw [canT_elt m t hi]
    exact good_can m _ (he i hi)
   ·rw [canT_kind,canT_nK,canT_nL,namesF_can,dupTo_can]
    exact hk
end Go.Proofs.YtknakfpciccoaabGreatDoor
