import Derived.Test.YtknakfpciccoaabGreatDoorZL15
import Derived.Test.YtknakfpciccoaabGreatDoorZL2
import Derived.Lib.ItoaLen
import Derived.Test.YtknakfpciccoaabGreatDoorProg
import Derived.Test.YtknakfpciccoaabGreatDoorZL3
import Derived.Test.YtknakfpciccoaabGreatDoorZL4
import Derived.Test.YtknakfpciccoaabGreatDoorZL12
import Derived.Deep.RegionHeldLaw
import Derived.Deep.RegionLaw
import Derived.Test.YtknakfpciccoaabGreatDoorZL1
/- The walks of printList, printObject, printValue. -/
set_option maxHeartbeats 4000000
set_option maxRecDepth 100000
namespace Go.Proofs.YtknakfpciccoaabGreatDoor
open Go.RowKit
theorem tK.blt {B b:Nat} {acc:List UInt8} {w w':World} (h:tK B b acc w w'):b<w'.heap.size:=h.Iy.elim (fun x=>x.lt) (fun x=>x.lt)
theorem Aa {w wr:World} {b:Nat} {c0 c1 c2 c3 c4:Value} (ho:Lib.OthersKept 5 (some b) (w.alloc (.cells #[c0,c1,c2,c3,c4] 36)) wr) (hb:b<w.heap.size) :
  wr.cell? ⟨w.heap.size,0,none⟩=some c0/\wr.cell? ⟨w.heap.size,1,none⟩=some c1/\wr.cell? ⟨w.heap.size,2,none⟩=some c2/\wr.cell? ⟨w.heap.size,3,none⟩=some c3/\wr.cell? ⟨w.heap.size,4,none⟩=some c4:=by
 have e0:(w.alloc (.cells #[c0,c1,c2,c3,c4] 36)).heap[w.heap.size]?=some (.cells #[c0,c1,c2,c3,c4] 36):=by show (w.heap.push _)[w.heap.size]?=_;simp
 have e:=ho w.heap.size _ e0 (by simp;omega) (fun c fz h=>by injection h with _ h2;exact absurd h2 (by decide));refine ⟨?_,?_,?_,?_,?_⟩<;>simp [World.cell?,e]
theorem C9 {Tb:World->Prop} (w0:World) (hS:eG Tb w0.heap.size) (m:Nat) (ih:Bn Tb w0 m) (f:Nat) (La:Option Addr) (Lc:Nat) (t:T) (acc:List UInt8) (b:Nat) (w:World)
  (hl:bK w0 f La t) (hn:nL t<=1759218604442) (hg:∀ i,i<nL t->fJ m (elt t i)) (hb:Below w0.heap.size w0 w) (h:Lib.IsBuilderF 108 5 w0.heap.size b (Lib.byteCells acc) w) (hT:Tb w)
  (hlen:acc.length+(fq (dG m) t (nL t)).length+2<=100000000) :
  Calls Tryz.prog 99 #[.pointer (some ⟨b,0,none⟩),.slice La (nL t) Lc] w (Ej w0.heap.size b (acc++(91::(fq (dG m) t (nL t)++[93]))) w):=by
 have HS:=aj (tK.start h hb.size);have HST:=aj hS;have LX:=aj ih;have Hl:=aj hl;have Hg:=aj hg;have Hb:=aj hb;have HT:=aj hT;have HM:Hid (∀ k,k<=nL t->(fq (dG m) t k).length+acc.length+2<=100000000):=aj (fun k hk=>by have:=MN (dG m) t hk;omega);have HE:Hid (acc++(91::(fq (dG m) t (nL t)++[93]))=acc++[91]++fq (dG m) t (nL t)++[93]):=by show _=_;simp
 have hl0:acc.length<=100000000:=by omega
 clear h hS ih hl hg hb hT hlen;go_in;go_wp2_with fail;refine (dL w0.heap.size b acc 91 w w HS.out (by omega)).mono ?_;rintro e w1 ⟨rfl,hw1⟩;have H1:=aj hw1;clear hw1;go_wp2_with fail;go_loopg [10] (nL t) (fun g i wr=>∃ k:Nat,g=nL t - k/\k<=nL t/\i=.int .i64 k/\Hid (tK w0.heap.size b (acc++[91]++fq (dG m) t k) w wr))
 case atStart=>exact ⟨0,rfl,Nat.zero_le _,rfl,H1.out.acc (by simp [fq])⟩
 case round =>
  obtain ⟨k,rfl,hk,rfl,HW⟩:=hrel;have nR:=aj (Hb.out.trans HW.out.below);have HTr:=aj (HST.out _ _ HT.out HW.out.below);by_cases hlt:k<nL t
  ·obtain ⟨bb,o,A,B,C,D,rfl,hbl,p0,p1,p2,p3,p4,Ha⟩:=Hl.out.shape nR.out k hlt;have HM1:=aj (HM.out (k+1) hlt);have hm0:=HM.out k hk;have HG:=aj (Hg.out k hlt);have hblt:=HW.out.blt;have hB1:Below wr.heap.size wr (wr.alloc (vC (elt t k) A B C D)):=aQ _ _;have HB1:=aj hB1;have HW1:=aj (HW.out.keep hB1);have HT1:=aj (HST.out _ _ HTr.out (hB1.mono HW.out.lo'));have Hb1:=aj (Hb.out.trans HW1.out.below);clear hB1;by_cases hk0:k=0
   ·have HJ:Hid (fq (dG m) t (k+1)=fq (dG m) t k++dG m (elt t k)):=by show fq (dG m) t k++_=_;rw [if_pos hk0];simp
    subst hk0;simp only [Nat.zero_mul,Nat.add_zero] at p0 p1 p2 p3 p4;go_wp2_with fail;refine (LX.out f _ (elt t 0) (acc++[91]++fq (dG m) t 0) b _ Ha.out HG.out Hb1.out HW1.out.Iy HT1.out (by have:=HM1.out;rw [HJ.out] at this;simp only [List.length_append,List.length_cons,List.length_nil] at this ⊢;omega)).mono ?_;rintro e w2 ⟨rfl,hw2⟩;have H2:=aj (HW1.out.trans hw2);clear hw2;go_wp2_with fail;go_roundg (nL t - (0+1))
    case rel=>exact ⟨0+1,rfl,by omega,by go_num,H2.out.acc (by rw [HJ.out];simp)⟩
    case measure=>omega
   ·have HJ:Hid (fq (dG m) t (k+1)=fq (dG m) t k++([44]++dG m (elt t k))):=by show fq (dG m) t k++_=_;rw [if_neg hk0]
    have y0:0<k:=by omega
    have y1:(0:Int)<(k:Int):=by omega
    clear hk0;go_wp2_with fail;refine (dL w0.heap.size b _ 44 w _ HW1.out (by simp only [List.length_append,List.length_cons,List.length_nil];omega)).mono ?_;rintro e w2 ⟨rfl,hw2⟩;obtain ⟨r0,r1,r2,r3,r4⟩:=Aa hw2.oth hblt;have HW2:=aj (HW1.out.trans hw2);have HT2:=aj (HST.out _ _ HT1.out hw2.below);have Hb2:=aj (Hb.out.trans HW2.out.below);clear hw2;go_wp2_with fail;refine (LX.out f _ (elt t k) (acc++[91]++fq (dG m) t k++[44]) b _ Ha.out HG.out Hb2.out HW2.out.Iy HT2.out (by have:=HM1.out;rw [HJ.out] at this;simp only [List.length_append,List.length_cons,List.length_nil] at this ⊢;omega)).mono ?_;rintro e w3 ⟨rfl,hw3⟩;have H3:=aj (HW2.out.trans hw3);clear hw3;go_wp2_with fail;go_roundg (nL t - (k+1))
    case rel=>exact ⟨k+1,rfl,by omega,by go_num,H3.out.acc (by rw [HJ.out];simp)⟩
    case measure=>omega
  ·obtain rfl:k=nL t:=by omega
   have hm0:=HM.out (nL t) hk;go_wp2_with fail;refine (dL w0.heap.size b _ 93 w wr HW.out (by simp only [List.length_append,List.length_cons,List.length_nil];omega)).mono ?_;rintro e w2 ⟨rfl,hw2⟩;have H2:=aj (HW.out.trans hw2);clear hw2;go_wp2_with fail;refine bodyPost_end (v:=.tuple #[]) (by simp [results,Tryz.results99,go_sem]) rfl ?_;exact ⟨rfl,H2.out.acc HE.out.symm⟩
theorem zC {Tb:World->Prop} (w0:World) (hS:eG Tb w0.heap.size) (m:Nat) (ih:Bn Tb w0 m) (f:Nat) (La Ka:Option Addr) (Lc Kc:Nat) (t:T) (acc:List UInt8) (b:Nat) (w:World)
  (hl:bK w0 f La t) (hkn:ji w0 Ka t) (hn:nL t<=1759218604442) (hn':nK t<=1759218604442) (hnk:nK t=nL t) (hg:∀ i,i<nL t->fJ m (elt t i)) (hb:Below w0.heap.size w0 w) (h:Lib.IsBuilderF 108 5 w0.heap.size b (Lib.byteCells acc) w) (hT:Tb w)
  (hlen:acc.length+(fV (dG m) t (nK t)).length+2<=100000000) :
  Calls Tryz.prog 100 #[.pointer (some ⟨b,0,none⟩),.agg #[.int .i64 (ah t),.int .i64 (au t),.string (ay t),.slice La (nL t) Lc,.slice Ka (nK t) Kc]] w (Ej w0.heap.size b (acc++(123::(fV (dG m) t (nK t)++[125]))) w):=by
 have HS:=aj (tK.start h hb.size);have U8:=HS.out.blt;have HB1:=aj (aQ w (vC t La Lc Ka Kc));have HSx:=aj (HS.out.keep HB1.out);have HX0:=aj (tK.start HSx.out.Iy HSx.out.lo');have HTx:=aj (hS _ _ hT (HB1.out.mono hb.size));have Hbx:=aj (hb.trans HSx.out.below);have HST:=aj hS;have LX:=aj ih;have Hl:=aj hl;have HK:=aj hkn;have Hg:=aj hg;have HNK:=aj hnk;have HM:Hid (∀ k,k<=nK t->(fV (dG m) t k).length+acc.length+2<=100000000):=aj (fun k hk=>by have:=MO (dG m) t hk;omega);have HE:Hid (acc++(123::(fV (dG m) t (nK t)++[125]))=acc++[123]++fV (dG m) t (nK t)++[125]):=by show _=_;simp
 have hl0:acc.length<=100000000:=by omega
 clear h hS ih hl hkn hg hb hT hlen HS hnk;go_in;go_wp2_with fail;refine (dL w0.heap.size b acc 123 _ _ HX0.out (by omega)).mono ?_;rintro e w1 ⟨rfl,hw1⟩;obtain ⟨r0,r1,r2,r3,r4⟩:=Aa hw1.oth U8;have H1:=aj hw1;clear hw1 HX0;go_wp2_with fail;clear r0 r1 r2 r3 r4;go_loopg [11] (nK t) (fun g i wr=>∃ k:Nat,g=nK t - k/\k<=nK t/\i=.int .i64 k/\Hid (tK w0.heap.size b (acc++[123]++fV (dG m) t k) (w.alloc (vC t La Lc Ka Kc)) wr))
 case atStart=>exact ⟨0,rfl,Nat.zero_le _,rfl,H1.out.acc (by simp [fV])⟩
 case round =>
  obtain ⟨k,rfl,hk,rfl,HW⟩:=hrel;have nR:=aj (Hbx.out.trans HW.out.below);by_cases hlt:k<nK t
  ·obtain ⟨kb,ko,rfl,hkb,hks,hkc⟩:=HK.out.keep nR.out k hlt;have rZ:k<nL t:=by have:=HNK.out;omega
   have HM1:=aj (HM.out (k+1) hlt);have hm0:=HM.out k hk;have HG:=aj (Hg.out k rZ)
   have PK:Hid (∀ (xW:List UInt8) (w2:World),tK w0.heap.size b xW (w.alloc (vC t La Lc (some ⟨kb,ko,none⟩) Kc)) w2->xW.length+(dK (bR t k)).length<=100000000->Calls Tryz.prog 98 #[.pointer (some ⟨b,0,none⟩),.string (bR t k)] w2 (Ej w0.heap.size b (xW++dK (bR t k)) w2)) :=
    aj (fun xW w2 h2 hl2=>uP w0.heap.size b xW (bR t k) w2 h2.Iy h2.lo' hl2 hks)
   by_cases hk0:k=0
   ·have HJ:Hid (fV (dG m) t (k+1)=fV (dG m) t k++(dK (bR t k)++(58::dG m (elt t k)))):=by show fV (dG m) t k++_=_;rw [if_pos hk0];simp
    have fO:Hid ((fV (dG m) t k).length+(dK (bR t k)).length+(dG m (elt t k)).length+acc.length+3<=100000000):=by show _<=_;have:=HM1.out;rw [HJ.out] at this;simp only [List.length_append,List.length_cons] at this;omega
    subst hk0;simp only [Nat.add_zero] at hkc;go_wp2_with fail;refine (PK.out (acc++[123]++fV (dG m) t 0) _ HW.out (by have:=fO.out;simp only [List.length_append,List.length_cons,List.length_nil] at this ⊢;omega)).mono ?_;rintro e w2 ⟨rfl,hw2⟩;have HW2:=aj (HW.out.trans hw2);clear hw2 hkc PK;go_wp2_with fail;refine (dL w0.heap.size b _ 58 _ _ HW2.out (by have:=fO.out;simp only [List.length_append,List.length_cons,List.length_nil] at this ⊢;omega)).mono ?_;rintro e w3 ⟨rfl,hw3⟩;have HW3:=aj (HW2.out.trans hw3);clear hw3;obtain ⟨r0,r1,r2,r3,r4⟩:=Aa HW3.out.oth U8;have Hb3:=aj (Hbx.out.trans HW3.out.below);have HT3:=aj (HST.out _ _ HTx.out HW3.out.below);obtain ⟨bb,o,A,B,C,D,rfl,hbl,p0,p1,p2,p3,p4,Ha⟩:=Hl.out.shape Hb3.out 0 rZ;simp only [Nat.zero_mul,Nat.add_zero] at p0 p1 p2 p3 p4;go_wp2_with fail;refine (LX.out f _ (elt t 0) _ b _ Ha.out HG.out Hb3.out HW3.out.Iy HT3.out (by have:=fO.out;simp only [List.length_append,List.length_cons,List.length_nil] at this ⊢;omega)).mono ?_;rintro e w4 ⟨rfl,hw4⟩;have H4:=aj (HW3.out.trans hw4);clear hw4;go_wp2_with fail;go_roundg (nK t - (0+1))
    case rel=>exact ⟨0+1,rfl,by omega,by go_num,H4.out.acc (by rw [HJ.out];simp)⟩
    case measure=>omega
   ·have HJ:Hid (fV (dG m) t (k+1)=fV (dG m) t k++([44]++(dK (bR t k)++(58::dG m (elt t k))))):=by show fV (dG m) t k++_=_;rw [if_neg hk0]
    have fO:Hid ((fV (dG m) t k).length+(dK (bR t k)).length+(dG m (elt t k)).length+acc.length+4<=100000000):=by show _<=_;have:=HM1.out;rw [HJ.out] at this;simp only [List.length_append,List.length_cons,List.length_nil] at this;omega
    have y0:0<k:=by omega
    have y1:(0:Int)<(k:Int):=by omega
    clear hk0;go_wp2_with fail;refine (dL w0.heap.size b _ 44 _ _ HW.out (by have:=fO.out;simp only [List.length_append,List.length_cons,List.length_nil] at this ⊢;omega)).mono ?_;rintro e w1' ⟨rfl,afh⟩;have HW1:=aj (HW.out.trans afh);clear afh hkc;go_wp2_with fail;refine (PK.out (acc++[123]++fV (dG m) t k++[44]) _ HW1.out (by have:=fO.out;simp only [List.length_append,List.length_cons,List.length_nil] at this ⊢;omega)).mono ?_;rintro e w2 ⟨rfl,hw2⟩;have HW2:=aj (HW1.out.trans hw2);clear hw2 PK;go_wp2_with fail;refine (dL w0.heap.size b _ 58 _ _ HW2.out (by have:=fO.out;simp only [List.length_append,List.length_cons,List.length_nil] at this ⊢;omega)).mono ?_;rintro e w3 ⟨rfl,hw3⟩;have HW3:=aj (HW2.out.trans hw3);clear hw3;obtain ⟨r0,r1,r2,r3,r4⟩:=Aa HW3.out.oth U8;have Hb3:=aj (Hbx.out.trans HW3.out.below);have HT3:=aj (HST.out _ _ HTx.out HW3.out.below);obtain ⟨bb,o,A,B,C,D,rfl,hbl,p0,p1,p2,p3,p4,Ha⟩:=Hl.out.shape Hb3.out k rZ;go_wp2_with fail;refine (LX.out f _ (elt t k) _ b _ Ha.out HG.out Hb3.out HW3.out.Iy HT3.out (by have:=fO.out;simp only [List.length_append,List.length_cons,List.length_nil] at this ⊢;omega)).mono ?_;rintro e w4 ⟨rfl,hw4⟩;have H4:=aj (HW3.out.trans hw4);clear hw4;go_wp2_with fail;go_roundg (nK t - (k+1))
    case rel=>exact ⟨k+1,rfl,by omega,by go_num,H4.out.acc (by rw [HJ.out];simp)⟩
    case measure=>omega
  ·obtain rfl:k=nK t:=by omega
   have hm0:=HM.out (nK t) hk;go_wp2_with fail;refine (dL w0.heap.size b _ 125 _ wr HW.out (by simp only [List.length_append,List.length_cons,List.length_nil];omega)).mono ?_;rintro e w2 ⟨rfl,hw2⟩;have H2:=aj (HW.out.trans hw2);clear hw2;go_wp2_with fail;refine bodyPost_end (v:=.tuple #[]) (by simp [results,Tryz.results100,go_sem]) rfl ?_;exact ⟨rfl,(HSx.out.trans H2.out).acc HE.out.symm⟩
theorem JR {t:T} (hf:zk t):(fB t).length+1<=6*dJ t:=by
 unfold fB dJ;by_cases k1:ah t=1
 ·rw [if_pos k1,if_pos k1];simp
 rw [if_neg k1,if_neg k1];by_cases k2:ah t=2
 ·rw [if_pos k2,if_pos k2];split<;>simp
 rw [if_neg k2,if_neg k2];by_cases k3:ah t=3
 ·rw [if_pos k3,if_pos k3];have:=Lib.itoa_length_le (au t) hf.n0 hf.n1;omega
 rw [if_neg k3,if_neg k3];split
 ·have:=JO (ay t);omega
 ·simp;omega
theorem Em {g:T->List UInt8} {h:T->Nat} {t:T}:∀ k,(∀ i,i<k->(g (elt t i)).length+1<=6*h (elt t i))->(fq g t k).length<=6*fI h t k
 | 0,_=>by simp [fq]
 | k+1,hh=>by
  have ih:=Em k (fun i hi=>hh i (by omega));have hk:=hh k (by omega);have hc:((if k=0 then [] else [44]:List UInt8)).length<=1:=by split<;>simp
  simp only [fq,fI,List.length_append];omega
theorem En {g:T->List UInt8} {h:T->Nat} {t:T}:∀ k,(∀ i,i<k->(g (elt t i)).length+1<=6*h (elt t i))->(fV g t k).length<=6*(kg t k+fI h t k)
 | 0,_=>by simp [fV]
 | k+1,hh=>by
  have ih:=En k (fun i hi=>hh i (by omega));have hk:=hh k (by omega);have hc:((if k=0 then [] else [44]:List UInt8)).length<=1:=by split<;>simp
  have hq:=JO (bR t k);simp only [fV,fI,kg,List.length_append,List.length_cons];omega
theorem iI {t:T} (h:bg t):ah t≠5/\ah t≠6:=by
 obtain ⟨_,_,h⟩:=h;rcases h with ⟨h,_⟩ | ⟨h,_⟩ | ⟨h,_⟩ | ⟨h,_⟩<;>omega
theorem U9 {w:World}:∀ (m f:Nat) (v:Value) (t:T),At w f v t->fJ m t->(dG m t).length+1<=6*aK m t
 | 0,f,v,t,h,hg=>by
  obtain ⟨g,La,Ka,Lc,Kc,_,_,hf,_⟩:=h.open;exact JR hf
 | m+1,f,v,t,h,hg=>by
  obtain ⟨g,La,Ka,Lc,Kc,_,_,hf,hl,_⟩:=h.open;rcases hg with hg | ⟨_,_,he,hk⟩
  ·obtain ⟨k5,k6⟩:=iI hg;unfold dG aK;rw [if_neg k5,if_neg k6,if_neg k5,if_neg k6];exact JR hf
  ·have hi:∀ i,i<nL t->(dG m (elt t i)).length+1<=6*aK m (elt t i):=fun i hi=>by
    obtain ⟨b,o,c0,c1,c2,c3,c4,_,_,_,_,_,_,_,ha⟩:=hl.out i hi;exact U9 m g _ _ ha.out (he i hi)
   unfold dG aK;rcases hk with ⟨k5,_⟩ | ⟨k6,hnk,_⟩
   ·rw [if_pos k5,if_pos k5];have:=Em (g:=dG m) (h:=aK m) (nL t) hi;simp only [List.length_cons,List.length_append,List.length_nil];omega
   ·have k5:ah t≠5:=by omega
    rw [if_neg k5,if_pos k6,if_neg k5,if_pos k6,hnk];have:=En (g:=dG m) (h:=aK m) (nL t) hi;simp only [List.length_cons,List.length_append,List.length_nil];omega
theorem MS {Tb:World->Prop} (hF:qD Tb) (w0:World) (hS:eG Tb w0.heap.size) (m:Nat) (ih:Bn Tb w0 m):Bn Tb w0 (m+1):=by
 intro f v t acc b w h hg hb hi hT hl;obtain ⟨g,La,Ka,Lc,Kc,rfl,rfl,hf,hl',hk'⟩:=h.open;rcases hg with hg | ⟨g1,g2,he,hk⟩
 ·obtain ⟨k5,k6⟩:=iI hg;rw [pX k5 k6] at hl ⊢;exact Bo hF w0 hS t hg hf acc b w La Ka Lc Kc hb hi hT hl
 clear g1 g2;have HS:=aj (tK.start hi hb.size);have HB1:=aj (aQ w (vC t La Lc Ka Kc));have C8:=aj (HS.out.keep HB1.out);have HT1:=aj (hS _ _ hT (HB1.out.mono hb.size));have Hb1:=aj (hb.trans C8.out.below);rcases hk with ⟨hk,g3⟩ | ⟨hk,hnk,g4,g5⟩
 ·have e1:(ah t==1)=false:=by rw [hk];rfl
  have e2:(ah t==2)=false:=by rw [hk];rfl
  have e3:(ah t==3)=false:=by rw [hk];rfl
  have e4:(ah t==4)=false:=by rw [hk];rfl
  have e5:(ah t==5)=true:=by rw [hk];rfl
  have HW:Hid (dG (m+1) t=91::(fq (dG m) t (nL t)++[93])):=by show _=_;rw [dG,if_pos hk]
  rw [HW.out] at hl ⊢;have HP:=aj (C9 w0 hS m ih g La Lc t acc b _ hl'.out hf.l1 he Hb1.out C8.out.Iy HT1.out (by simp only [List.length_cons,List.length_append,List.length_nil] at hl;omega));clear hk hl g3 he hi hT hb hf hl' hk' ih hS hF h;go_in;go_wp2_with fail;refine HP.out.mono ?_;rintro e w2 ⟨rfl,hw2⟩;have H2:=aj (C8.out.trans hw2);clear hw2 HP;go_wp2_with fail;refine bodyPost_end (v:=.tuple #[]) (by simp [results,Tryz.results65,go_sem]) rfl ?_;exact ⟨rfl,H2.out⟩
 ·have e1:(ah t==1)=false:=by rw [hk];rfl
  have e2:(ah t==2)=false:=by rw [hk];rfl
  have e3:(ah t==3)=false:=by rw [hk];rfl
  have e4:(ah t==4)=false:=by rw [hk];rfl
  have e5:(ah t==5)=false:=by rw [hk];rfl
  have e6:(ah t==6)=true:=by rw [hk];rfl
  have HW:Hid (dG (m+1) t=123::(fV (dG m) t (nK t)++[125])):=by show _=_;rw [dG,if_neg (by omega),if_pos hk]
  rw [HW.out] at hl ⊢;have HP:=aj (zC w0 hS m ih g La Ka Lc Kc t acc b _ hl'.out hk'.out hf.l1 (by rw [hnk];exact hf.l1) hnk he Hb1.out C8.out.Iy HT1.out (by simp only [List.length_cons,List.length_append,List.length_nil] at hl;omega));clear hk hl g4 g5 hnk he hi hT hb hf hl' hk' ih hS hF h;go_in;go_wp2_with fail;refine HP.out.mono ?_;rintro e w2 ⟨rfl,hw2⟩;have H2:=aj (C8.out.trans hw2);clear hw2 HP;go_wp2_with fail;refine bodyPost_end (v:=.tuple #[]) (by simp [results,Tryz.results65,go_sem]) rfl ?_;exact ⟨rfl,H2.out⟩
theorem Eo {Tb:World->Prop} (hF:qD Tb) (w0:World) (hS:eG Tb w0.heap.size):∀ m,Bn Tb w0 m
 | 0=>by
  intro f v t acc b w h hg hb hi hT hl;obtain ⟨g,La,Ka,Lc,Kc,rfl,rfl,hf,_,_⟩:=h.open;exact Bo hF w0 hS t hg hf acc b w La Ka Lc Kc hb hi hT hl
 | m+1=>MS hF w0 hS m (Eo hF w0 hS m)
def afi (ok:Bool) (l:List UInt8):ByteArray:=if ok then aY l else ⟨#[]⟩
def afj (ok:Bool):Int:=if ok then 0 else 5
theorem MU {Tb:World->Prop} (hV:bJ Tb) (hF:qD Tb) (hL:aS Tb) (f:Nat) (v:Value) (t:T) (w:World) (h:At w f v t) (hT:Tb w) :
  Calls Tryz.prog 41 #[v] w fun e w'=>e=.returned (.tuple #[.string (afi (IL t) (dG 12 t)),.int .i64 (afj (IL t))])/\Below w.heap.size w w':=by
 have HA:=aj h;have HT:=aj hT;have HF:=aj hF;have HL:=aj hL;have HV:=aj hV;obtain ⟨f1,La,Ka,Lc,Kc,hf1,rfl,hf,hl,hk⟩:=h.open;clear h hf hf1 hl hk hT hF hL hV;have HB1:=aj (aQ w (vC t La Lc Ka Kc));have HI:=aj (yK HV.out HL.out f _ t _ (HA.out.keep HB1.out) (HL.out w HT.out _ _ HT.out HB1.out));go_in;go_wp2_with fail;refine HI.out.mono ?_;rintro e w2 ⟨rfl,b2⟩;have HB2:Hid (Below (w.heap.size+1) (w.alloc (vC t La Lc Ka Kc)) w2):=b2.mono (by simp);obtain ⟨q0,q1,q2,q3,q4,hz,hbw⟩:=dB HB2.out;have gQ:=aj hbw;clear b2 hbw HI;cases hi:IL t with
 | false =>
  have Hi:=aj hi;clear hi;go_wp2_with fail;go_ret2;exact ⟨by rw [Hi.out];rfl,gQ.out⟩
 | true =>
  have Hi:=aj hi;have HG:=aj ((sV t).1 hi);have HT2:=aj (HL.out w HT.out _ _ HT.out gQ.out);have HA2:=aj (HA.out.keep gQ.out);have HW:=aj (U9 12 f _ t HA2.out HG.out.1);have HFr:Hid (Lib.IsBuilderF 108 5 w2.heap.size w2.heap.size (Lib.byteCells []) (w2.alloc (.cells #[.pointer none,.slice none 0 0] 108))):=Lib.IsBuilderF.of (Lib.fresh_isBuilder 108 5 w2);have fF:=aj (aQ w2 (.cells #[.pointer none,.slice none 0 0] 108));have HP:=aj (Eo HF.out w2 (HL.out w2 HT2.out) 12 f _ t [] w2.heap.size _ HA2.out HG.out.1 fF.out HFr.out (HL.out w2 HT2.out _ _ HT2.out fF.out) (by have:=HW.out;have:=HG.out.2;simp only [List.length_nil];omega));clear hi;go_wp2_with fail;refine HP.out.mono ?_;rintro e w3 ⟨rfl,hw3⟩;have H3:=aj hw3;have HB3:=aj (gQ.out.trans ((fF.out.trans hw3.below).mono (Nat.le_of_lt hz)));clear hw3 HP;go_wp2_with fail;refine (uX w2.heap.size w2.heap.size _ _ H3.out.Iy H3.out.lo').mono ?_;rintro e w4 ⟨rfl,b4⟩;have bT:=aj (HB3.out.trans (b4.mono (Nat.le_of_lt hz)));clear b4;go_wp2_with fail;go_ret2;exact ⟨by rw [Hi.out];rfl,bT.out⟩
def PN (t:T):ByteArray:=afi (IL t) (dG 12 t)
def Va (d:T):Nat->List Value
 | 0=>[]
 | k+1=>Va d k++[.string (PN (elt d k))]
theorem wO {Tb:World->Prop} (hV:bJ Tb) (hF:qD Tb) (hL:aS Tb) (d:T) (f:Nat) (La:Option Addr) (Lc:Nat) (w:World) (hl:bK w f La d) (hn:nL d<=1000000) (hT:Tb w) :
  Calls Tryz.prog 24 #[.slice La (nL d) Lc] w fun e w'=>Below w.heap.size w w'/\∃ sv,e=.returned sv/\w'.ownsRow w.heap.size 9 1 sv (nL d) (Va d (nL d)):=by
 obtain ⟨iS,YS,YT,zS1,Yo⟩:=info_parts aaI;have Hl:=aj hl;have HP:Hid (∀ (v:Value) (t:T) (w:World),At w f v t->Tb w->Calls Tryz.prog 41 #[v] w fun e w'=>e=.returned (.tuple #[.string (PN t),.int .i64 (afj (IL t))])/\Below w.heap.size w w'):=fun v t w h hT=>MU hV hF hL f v t w h hT;have HT:Hid (∀ w':World,Below w.heap.size w w'->Tb w'):=fun w' hb=>hL w hT w w' hT hb;clear hl hT hL hV hF;go_in;go_wp2_with fail;go_loopg [3,10] (nL d) (fun g o i wr=>∃ (k:Nat),g=nL d - k/\k<=nL d/\i=.int .i64 k/\Hid (wr.ownsRow w.heap.size 9 1 o k (Va d k))/\Hid (Below w.heap.size w wr))
 case atStart=>exact ⟨0,rfl,Nat.zero_le _,rfl,World.ownsRow_nil _ _ _ _,Below.refl _ _⟩
 case round =>
  obtain ⟨k,rfl,hk,rfl,HR,HB⟩:=hrel;by_cases hlt:k<nL d
  ·obtain ⟨bb,oo,A,B,C,D,rfl,hbl,p0,p1,p2,p3,p4,Ha⟩:=Hl.out.shape HB.out k hlt;have vO:=aj (aQ wr (vC (elt d k) A B C D));have HB2:=aj (HB.out.trans (vO.out.mono HB.out.size));have HC:=aj (HP.out _ (elt d k) _ (Ha.out.keep HB2.out) (HT.out _ HB2.out));go_wp2_with fail;refine HC.out.mono ?_;rintro e w2 ⟨rfl,b2⟩;have HB3:=aj (HB2.out.trans (b2.mono HB2.out.size));have bT:=aj (HB3.out.alloc HB3.out.size (.cells #[.string (PN (elt d k))] 9));have HR4:Hid ((w2.alloc (.cells #[.string (PN (elt d k))] 9)).ownsRow w.heap.size 9 1 u3 k (Va d k)):=iO (iO HR.out fun b _ h2=>(b2.block b (Nat.lt_of_lt_of_le h2 vO.out.size)).trans (vO.out.block b h2)) fun b _ h2=>((Below.refl w2.heap.size w2).alloc (Nat.le_refl _) (.cells #[.string (PN (elt d k))] 9)).block b h2;have qy:Hid (Src Tryz.prog 1 28 (.slice (some ⟨w2.heap.size,0,none⟩) 1 1) 1 [.string (PN (elt d k))] (w2.alloc (.cells #[.string (PN (elt d k))] 9))):=Src.ofSlice _ Tryz.underlying28 ⟨w2.heap.size,0,none⟩ 1 1 [.string (PN (elt d k))] (by simp) (World.news_of_block (heap_alloc_new w2 _)) (by simp [Value.oneCell']);have hlo:=bT.out.size;clear b2 HC;go_wp2_with (at_builtin;refine aD _ rfl (.tmp 19) (.tmp 21) 28 28 rfl w.heap.size 9 iS _ 1 16 Tryz.underlying28 YS YT zS1 Yo rfl u3 k (Va d k) rfl HR4.out (.slice (some ⟨w2.heap.size,0,none⟩) 1 1) 1 [.string (PN (elt d k))] rfl qy.out (by unfold maxLen;omega) (by omega) hlo ?_;intro v' w6 pV lZ dW)
   have HO6:Hid (w6.ownsRow w.heap.size 9 1 v' (k+1) (Va d (k+1))):=pV;have iq:=aj (bY bT.out HR4.out (Nat.le_refl _) hlo lZ);clear pV lZ dW;go_wp2_with fail;go_roundg (nL d - (k+1))
   case rel=>exact ⟨k+1,rfl,by omega,by go_num,HO6,iq⟩
   case measure=>omega
  ·obtain rfl:k=nL d:=by omega
   go_wp2_with fail;go_ret;exact ⟨HB.out,_,rfl,HR.out⟩
theorem dR {xs:List Value} {j:Nat} (h:j<xs.length):xs[j]?=some (cx xs j):=by unfold cx;rw [List.getElem?_eq_getElem h];rfl
theorem uh.elems {w0:World} {f:Nat} {hv:Value} {l:List T} {xs:List Value} {wr:World} (h:uh w0 f hv l xs wr):∃ La Lc,hv=.slice La l.length Lc/\bK wr f La (aX 5 0 ByteArray.empty l []):=by
 have hx:xs.length=l.length*5:=h.row.1;rcases h.row.2 with ⟨rfl,hn⟩ | ⟨g,cap,cur,rfl,hb0,hg,rest⟩
 ·refine ⟨none,0,by rw [hn],fun i hi=>?_⟩;rw [aI] at hi;omega
 ·refine ⟨_,_,rfl,fun i hi=>?_⟩;rw [aI] at hi;have hc:∀ j,j<5->wr.cell? ⟨g,i*5+j,none⟩=some (cx xs (i*5+j)):=fun j hj=>aW h.row (dR (by omega));have e:elt (aX 5 0 ByteArray.empty l []) i=l[i]:=by rw [iR,List.getD_eq_getElem?_getD,List.getElem?_eq_getElem hi];rfl
  refine ⟨g,0,cx xs (i*5),cx xs (i*5+1),cx xs (i*5+2),cx xs (i*5+3),cx xs (i*5+4),rfl,(Array.getElem?_eq_some_iff.1 hg).1,(by rw [Nat.zero_add];exact hc 0 (by omega)),(by rw [Nat.zero_add];exact hc 1 (by omega)),(by rw [Nat.zero_add];exact hc 2 (by omega)),(by rw [Nat.zero_add];exact hc 3 (by omega)),(by rw [Nat.zero_add];exact hc 4 (by omega)),?_⟩;rw [e];exact At.keep h.low (h.at_ i hi)
def nJ (n:Int) (k:Nat):UInt8:=UInt8.ofNat (n / 256 ^ k % 256).toNat
theorem qE (n:Int) (k:Nat):((nJ n k).toNat:Int)=n / 256 ^ k % 256:=by
 unfold nJ;rw [UInt8.toNat_ofNat'];have h0:=Int.emod_nonneg (n / 256 ^ k) (show (256:Int)≠0 by decide);have h1:=Int.emod_lt_of_pos (n / 256 ^ k) (show (0:Int)<256 by decide);omega
theorem afl {a b:UInt8} (h:(a.toNat:Int)=b.toNat):a=b:=UInt8.toNat_inj.1 (by omega)
def oW (n:Int):Nat->List UInt8
 | 0=>[]
 | k+1=>nJ n k::oW n k
theorem eD (n:Int):∀ k,(oW n k).length=k
 | 0=>rfl
 | k+1=>by simp [oW,eD n k]
theorem Y6 (k:Nat) (h:k<8):∃ c:Int,(18446744073709551616:Int)=256 ^ k*(256*c):=by
 have:∀ k:Fin 8,(18446744073709551616:Int)=256 ^ k.1*(256*(256 ^ (7 - k.1))):=by decide
 exact ⟨_,this ⟨k,h⟩⟩
theorem Rw (n:Int) (k:Nat) (h:k<8):nJ (n % 18446744073709551616) k=nJ n k:=by
 apply afl;rw [qE,qE];obtain ⟨c,hc⟩:=Y6 k h
 have hp:(256:Int) ^ k≠0:=by
  have:(0:Int)<256 ^ k:=Int.pow_pos (by decide);omega
 have e:=Int.emod_add_mul_ediv n 18446744073709551616;generalize n % 18446744073709551616=r at e ⊢;generalize n / 18446744073709551616=q at e;rw [<- e,hc,Int.mul_assoc,Int.add_mul_ediv_left _ _ hp,Int.mul_assoc,Int.add_mul_emod_self_left]
theorem JU (n:Int):∀ k,k<=8->oW (n % 18446744073709551616) k=oW n k
 | 0,_=>rfl
 | k+1,h=>by rw [oW,oW,Rw n k (by omega),JU n k (by omega)]
def dM (t:T):UInt8:=nJ (ah t) 0
def mV (t:T):List UInt8 :=
 dM t::(if ah t=2 then [nJ (au t) 0] else if ah t=3 then oW (au t) 8 else if ah t=4 then oW (ay t).size 4++(ay t).data.toList else [])
def JV (t:T) (k:Nat):List UInt8:=if ah t=6 then oW (bR t k).size 2++(bR t k).data.toList else []
def iJ (g:T->List UInt8) (t:T):Nat->List UInt8
 | 0=>[]
 | k+1=>iJ g t k++(JV t k++g (elt t k))
def JW (t:T) (body:List UInt8):List UInt8:=dM t::(oW body.length 4++body)
def fA:Nat->T->List UInt8
 | 0,t=>mV t
 | m+1,t=>if ah t=5\/ah t=6 then JW t (iJ (fA m) t (nL t)) else mV t
theorem Rx {m:Nat} {t:T} (h5:ah t≠5) (h6:ah t≠6):fA m t=mV t:=by
 cases m with
 | zero=>rfl
 | succ m=>unfold fA;rw [if_neg (by omega)]
theorem Vb {m:Nat} {t:T} (h:ah t=5\/ah t=6):fA (m+1) t=JW t (iJ (fA m) t (nL t)):=by rw [fA,if_pos h]
theorem Ry (g : T -> List UInt8) (t : T) {k n : Nat} (h : k <= n) : (iJ g t k).length <= (iJ g t n).length := by
  induction n with
  | zero => have : k = 0 := by omega
            subst this; exact Nat.le_refl _
  | succ n ih =>
    by_cases e : k = n + 1
    · subst e; exact Nat.le_refl _
    · have := ih (by omega);simp only [iJ, List.length_append];omega
theorem Ep {t:T} (h:bg t):(mV t).length=dJ t:=by
 obtain ⟨_,_,h⟩:=h;unfold mV dJ;rcases h with ⟨h,_⟩ | ⟨h,_⟩ | ⟨h,_⟩ | ⟨h,_⟩<;>simp [h,eD];omega
theorem Er {g:T->List UInt8} {h:T->Nat} {t:T} (h5:ah t≠6):∀ k,(∀ i,i<k->(g (elt t i)).length=h (elt t i))->(iJ g t k).length=fI h t k
 | 0,_=>rfl
 | k+1,hh=>by
  have ih:=Er h5 k (fun i hi=>hh i (by omega));have hk:=hh k (by omega);simp only [iJ,fI,JV,if_neg h5,List.length_append,List.length_nil];omega
theorem Es {g:T->List UInt8} {h:T->Nat} {t:T} (h6:ah t=6):∀ k,(∀ i,i<k->(g (elt t i)).length=h (elt t i))->(iJ g t k).length=kg t k+fI h t k
 | 0,_=>rfl
 | k+1,hh=>by
  have ih:=Es h6 k (fun i hi=>hh i (by omega));have hk:=hh k (by omega);have e:(bR t k).data.toList.length=(bR t k).size:=rfl;simp only [iJ,fI,kg,JV,if_pos h6,List.length_append,eD];omega
theorem Bp:∀ (m:Nat) (t:T),fJ m t->(fA m t).length=aK m t
 | 0,t,hg=>Ep hg
 | m+1,t,hg=>by
  rcases hg with hg | ⟨_,_,he,hk⟩
  ·have k5:ah t≠5/\ah t≠6:=by
    obtain ⟨_,_,h⟩:=hg;rcases h with ⟨h,_⟩ | ⟨h,_⟩ | ⟨h,_⟩ | ⟨h,_⟩<;>omega
   unfold fA aK;rw [if_neg (by omega),if_neg k5.1,if_neg k5.2];exact Ep hg
  ·have hi:∀ i,i<nL t->(fA m (elt t i)).length=aK m (elt t i):=fun i hi=>Bp m _ (he i hi);unfold fA aK;rcases hk with ⟨k5,_⟩ | ⟨k6,hnk,_⟩
   ·rw [if_pos (.inl k5),if_pos k5];have:=Er (g:=fA m) (h:=aK m) (by omega) (nL t) hi;simp only [JW,List.length_cons,List.length_append,eD];omega
   ·rw [if_pos (.inr k6),if_neg (by omega),if_pos k6,hnk];have:=Es (g:=fA m) (h:=aK m) k6 (nL t) hi;simp only [JW,List.length_cons,List.length_append,eD];omega
theorem Gv:(Tryz.prog.info? 5).map (fun i=>(i.zero,i.size,i.bytes))=some (some (.int .u8 0),1,1):=by kernel_rfl
structure QG (w0:World) (r:Value) (w:World) (r':Value) (acc:List UInt8) (w':World):Prop where
 row:w'.ownsRow w0.heap.size 5 1 r' acc.length (aM acc)
 grown:w.grownBy w' r.ownBlock
 own:r'.ownBlock=r.ownBlock\/∃ b,r'.ownBlock=some b/\w.heap.size<=b
theorem yU {w:World} {lo:Nat} {e:TypeId} {size n:Nat} {v:Value} {xs:List Value} (h:w.ownsRow lo e size v n xs) {b:Nat} (hb:v.ownBlock=some b):lo<=b/\b<w.heap.size:=by
 rcases h.2 with ⟨rfl,_⟩ | ⟨g,cap,cur,rfl,hb0,hg,rest⟩
 ·cases hb
 ·have:b=g:=by simpa [Value.ownBlock] using hb.symm
  subst this;exact ⟨hb0,(Array.getElem?_eq_some_iff.1 hg).1⟩
theorem Rz {w w':World} {lo:Nat} {e:TypeId} {size n:Nat} {v:Value} {xs:List Value} (h:w.ownsRow lo e size v n xs) (hb:∀ b,lo<=b->b<w.heap.size->w'.heap[b]?=w.heap[b]?):w'.ownsRow lo e size v n xs:=by
 refine ⟨h.1,?_⟩;rcases h.2 with hn | ⟨g,cap,cur,rfl,hb0,hg,rest⟩
 ·exact .inl hn
 ·exact .inr ⟨g,cap,cur,rfl,hb0,(hb g hb0 (Array.getElem?_eq_some_iff.1 hg).1).trans hg,rest⟩
theorem MV (w:World) (r:Option Nat):w.grownBy w r:=⟨rfl,rfl,rfl,Nat.le_refl _,fun _ _ _=>rfl⟩
theorem QG.refl {w0 w:World} {r:Value} {acc:List UInt8} (h:w.ownsRow w0.heap.size 5 1 r acc.length (aM acc)):QG w0 r w r acc w:=⟨h,MV w _,.inl rfl⟩
theorem QG.trans {w0 w w1 w2:World} {r r1 r2:Value} {a1 a2:List UInt8} (h:QG w0 r w r1 a1 w1) (k:QG w0 r1 w1 r2 a2 w2):QG w0 r w r2 a2 w2:=by
 refine ⟨k.row,⟨k.grown.os.trans h.grown.os,k.grown.tape.trans h.grown.tape,k.grown.output.trans h.grown.output,Nat.le_trans h.grown.size k.grown.size,fun b hb hne=>?_⟩,?_⟩
 ·rw [k.grown.block b (Nat.lt_of_lt_of_le hb h.grown.size) ?_,h.grown.block b hb hne];intro e;rcases h.own with h1 | ⟨c,h1,h2⟩
  ·rw [h1] at e;exact hne e
  ·rw [h1] at e;simp only [Option.some.injEq] at e;omega
 ·rcases k.own with k1 | ⟨c,k1,k2⟩
  ·rcases h.own with h1 | ⟨c,h1,h2⟩
   ·exact .inl (k1.trans h1)
   ·exact .inr ⟨c,k1.trans h1,h2⟩
  ·exact .inr ⟨c,k1,Nat.le_trans h.grown.size k2⟩
theorem QG.acc {w0 w w1:World} {r r1:Value} {a a':List UInt8} (h:QG w0 r w r1 a w1) (e:a=a'):QG w0 r w r1 a' w1:=e ▸ h
theorem QG.keep {w0 w w1 w2:World} {r r1:Value} {a1:List UInt8} (h:QG w0 r w r1 a1 w1) (k:Below w1.heap.size w1 w2):QG w0 r w r1 a1 w2 :=
 ⟨Rz h.row fun b _ h2=>k.block b h2,⟨k.os.trans h.grown.os,k.tape.trans h.grown.tape,k.output.trans h.grown.output,Nat.le_trans h.grown.size k.size,fun b hb hne=>(k.block b (Nat.lt_of_lt_of_le hb h.grown.size)).trans (h.grown.block b hb hne)⟩,h.own⟩
theorem QG.grow {w0 w w1 w2:World} {r r1 r2:Value} {acc l:List UInt8} (h:QG w0 r w r1 acc w1) (hO:w2.ownsRow w0.heap.size 5 1 r2 (acc.length+l.length) (aM acc++aM l)) (hG:w1.grownBy w2 r1.ownBlock) (hat:r2.ownBlock=r1.ownBlock\/r2.ownBlock=some w1.heap.size):QG w0 r w r2 (acc++l) w2 :=
 h.trans ⟨by rw [List.length_append,uL];exact hO,hG,hat.imp id fun h=>⟨_,h,Nat.le_refl _⟩⟩
theorem QG.below {w0 w w1:World} {r r1:Value} {a a1:List UInt8} (h:QG w0 r w r1 a1 w1) (hr:w.ownsRow w0.heap.size 5 1 r a.length (aM a)) (hb:Below w0.heap.size w0 w):Below w0.heap.size w0 w1 :=
 ⟨h.grown.os.trans hb.os,h.grown.tape.trans hb.tape,h.grown.output.trans hb.output,Nat.le_trans hb.size h.grown.size,fun k hk=>(h.grown.block k (Nat.lt_of_lt_of_le hk hb.size) (fun e=>by have:=(yU hr e.symm).1;omega)).trans (hb.block k hk)⟩
theorem QG.box {w0 w w1:World} {r r1:Value} {a a1:List UInt8} {c0 c1 c2 c3 c4:Value} (hr:w.ownsRow w0.heap.size 5 1 r a.length (aM a)) (h:QG w0 r (w.alloc (.cells #[c0,c1,c2,c3,c4] 36)) r1 a1 w1) :
  w1.cell? ⟨w.heap.size,0,none⟩=some c0/\w1.cell? ⟨w.heap.size,1,none⟩=some c1/\w1.cell? ⟨w.heap.size,2,none⟩=some c2/\w1.cell? ⟨w.heap.size,3,none⟩=some c3/\w1.cell? ⟨w.heap.size,4,none⟩=some c4/\w.heap.size<w1.heap.size:=by
 have hz:=h.grown.size;have hb:w1.heap[w.heap.size]?=(w.alloc (.cells #[c0,c1,c2,c3,c4] 36)).heap[w.heap.size]?:=h.grown.block w.heap.size (by simp) (fun e=>by have:=(yU hr e.symm).2;omega);refine ⟨?_,?_,?_,?_,?_,by simp at hz;omega⟩
 ·rw [World.cell?_of_block (a:=⟨w.heap.size,0,none⟩) hb];simp [go_sem]
 ·rw [World.cell?_of_block (a:=⟨w.heap.size,1,none⟩) hb];simp [go_sem]
 ·rw [World.cell?_of_block (a:=⟨w.heap.size,2,none⟩) hb];simp [go_sem]
 ·rw [World.cell?_of_block (a:=⟨w.heap.size,3,none⟩) hb];simp [go_sem]
 ·rw [World.cell?_of_block (a:=⟨w.heap.size,4,none⟩) hb];simp [go_sem]
theorem JX (w:World) (l:List UInt8) (j:Nat) (u:Value) (hj:(aM l)[j]?=some u):(w.alloc (.cells (aM l).toArray 5)).cell? ((⟨w.heap.size,0,none⟩:Addr).add j)=some u:=by
 have e0:(w.alloc (.cells (aM l).toArray 5)).heap[w.heap.size]?=some (.cells (aM l).toArray 5):=by show (w.heap.push _)[w.heap.size]?=_;simp
 have e1:((⟨w.heap.size,0,none⟩:Addr).add j)=⟨w.heap.size,j,none⟩:=by simp [Addr.add];intro h;exact h.symm
 rw [e1];unfold World.cell?;rw [e0];show (if _ then none else (aM l).toArray[j]?)=some u;rw [if_neg (by simp)];simpa using hj
theorem qF (w:World) (l:List UInt8):Src Tryz.prog 1 98 (.slice (some ⟨w.heap.size,0,none⟩) l.length l.length) l.length (aM l) (w.alloc (.cells (aM l).toArray 5)) :=
 Src.ofSlice _ Tryz.underlying98 ⟨w.heap.size,0,none⟩ l.length l.length (aM l) (by rw [gV];omega) (JX w l) (fun u hu=>by obtain ⟨b,_,rfl⟩:=List.mem_map.1 hu;rfl)
theorem PO {a b:ByteArray} (h:a.data.toList=b.data.toList):a=b:=by
 apply ByteArray.ext;exact Array.toList_inj.1 h
theorem Vd (s:ByteArray):aY s.data.toList=s:=by
 apply PO;simp [aY]
def dS:Nat->T->T
 | 0,t=>aX (ah t) (au t) (ay t) [] []
 | m+1,t=>aX (ah t) (au t) (ay t) ((zL t).map (dS m)) (kQ t)
theorem Et (m:Nat) (t:T):ah (dS m t)=ah t:=by cases m<;>rfl
theorem Ve (m:Nat) (t:T):au (dS m t)=au t:=by cases m<;>rfl
theorem Vf (m:Nat) (t:T):ay (dS m t)=ay t:=by cases m<;>rfl
theorem PS (m:Nat) (t:T):nL (dS (m+1) t)=nL t:=by unfold nL;rw [dS,uT,List.length_map]
theorem JY (m:Nat) (t:T):kQ (dS (m+1) t)=kQ t:=by rw [dS,rJ]
theorem Y7 (m:Nat) (t:T):nK (dS (m+1) t)=nK t:=by unfold nK;rw [JY]
theorem JZ (m:Nat) (t:T):bR (dS (m+1) t)=bR t:=by funext i;unfold bR;rw [JY]
theorem Vg (m:Nat) (t:T) {i:Nat} (h:i<nL t):elt (dS (m+1) t) i=dS m (elt t i):=by
 have h':i<(zL t).length:=h;unfold elt;rw [dS,uT];simp [List.getD_eq_getElem?_getD,h']
theorem Bq {α:Type} {l:List α} (h:l.length=0):l=[]:=List.eq_nil_of_length_eq_zero h
theorem xX (m:Nat) {t:T} (h:nL t=0) (k:nK t=0):dS m t=cK (ah t) (au t) (ay t):=by
 cases m with
 | zero=>rfl
 | succ m =>
  have h1:zL t=[]:=Bq h;have h2:kQ t=[]:=Bq k;rw [dS,h1,h2];rfl
theorem PU {α:Type} {l:List α} {k:Nat} {d:α} (h:k<l.length):l.drop k=l.getD k d::l.drop (k+1):=by
 rw [List.drop_eq_getElem_cons h];simp [List.getD_eq_getElem?_getD,h]
theorem Br (m:Nat) (t:T):∀ k,gF (dS (m+1) t) k=gF t k
 | 0=>rfl
 | k+1=>by rw [gF,gF,Br m t k,JZ]
theorem Eu (m:Nat) (t:T) (i:Nat):∀ k,qR (dS (m+1) t) i k=qR t i k
 | 0=>rfl
 | k+1=>by rw [qR,qR,Eu m t i k,JZ]
theorem Ev (m:Nat) (t:T):∀ k,iP (dS (m+1) t) k=iP t k
 | 0=>rfl
 | k+1=>by rw [iP,iP,Ev m t k,Eu]
theorem Bt (m:Nat) (t:T):bF (dS m t)=bF t:=by unfold bF;rw [Vf]
theorem J2 (m:Nat) {t:T} (h:bg t):bg (dS m t):=by
 have e:=xX m h.1 h.2.1;have hl:nL (dS m t)=0:=by rw [e];rfl
 have hk:nK (dS m t)=0:=by rw [e];rfl
 obtain ⟨_,_,h⟩:=h;refine ⟨hl,hk,?_⟩;rw [Et,Ve,Vf,Bt];exact h
theorem J3:∀ (m:Nat) (t:T),fJ m t->fJ m (dS m t)
 | 0,t,h=>J2 0 h
 | m+1,t,h=>by
  rcases h with h | ⟨h1,h2,he,hk⟩
  ·exact .inl (J2 (m+1) h)
  ·refine .inr ⟨by rw [Ve];exact h1,by rw [Bt];exact h2,fun i hi=>?_,?_⟩
   ·rw [PS] at hi;rw [Vg m t hi];exact J3 m _ (he i hi)
   ·rw [Et,Y7,PS,Br,Ev];exact hk
end Go.Proofs.YtknakfpciccoaabGreatDoor
