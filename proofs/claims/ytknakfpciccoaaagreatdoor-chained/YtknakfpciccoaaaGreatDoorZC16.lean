import Derived.Test.YtknakfpciccoaaaGreatDoorZC15
import Derived.Test.YtknakfpciccoaaaGreatDoorZC2
import Derived.Lib.ItoaLen
import Derived.Test.YtknakfpciccoaaaGreatDoorProg
import Derived.Test.YtknakfpciccoaaaGreatDoorZC3
import Derived.Test.YtknakfpciccoaaaGreatDoorZC4
import Derived.Test.YtknakfpciccoaaaGreatDoorZC12
import Derived.Deep.RegionHeldLaw
import Derived.Deep.RegionLaw
import Derived.Test.YtknakfpciccoaaaGreatDoorZC1
/- The walks of printList, printObject, printValue. -/
set_option maxHeartbeats 4000000
set_option maxRecDepth 100000
namespace Go.Proofs.YtknakfpciccoaaaGreatDoor
open Go.RowKit
theorem vL.blt {B b:Nat} {acc:List UInt8} {w w':World} (h:vL B b acc w w'):b<w'.heap.size:=h.Nn.elim (fun x=>x.lt) (fun x=>x.lt)
theorem Av {w wr:World} {b:Nat} {c0 c1 c2 c3 c4:Value} (ho:Lib.OthersKept 5 (some b) (w.alloc (.cells #[c0,c1,c2,c3,c4] 25)) wr) (hb:b<w.heap.size) :
  wr.cell? ⟨w.heap.size,0,none⟩=some c0/\wr.cell? ⟨w.heap.size,1,none⟩=some c1/\wr.cell? ⟨w.heap.size,2,none⟩=some c2/\wr.cell? ⟨w.heap.size,3,none⟩=some c3/\wr.cell? ⟨w.heap.size,4,none⟩=some c4:=by
 have e0:(w.alloc (.cells #[c0,c1,c2,c3,c4] 25)).heap[w.heap.size]?=some (.cells #[c0,c1,c2,c3,c4] 25):=by show (w.heap.push _)[w.heap.size]?=_;simp
 have e:=ho w.heap.size _ e0 (by simp;omega) (fun c fz h=>by injection h with _ h2;exact absurd h2 (by decide));refine ⟨?_,?_,?_,?_,?_⟩<;>simp [World.cell?,e]
theorem DK {Tb:World->Prop} (w0:World) (hS:dZ Tb w0.heap.size) (m:Nat) (ih:BP Tb w0 m) (f:Nat) (La:Option Addr) (Lc:Nat) (t:T) (acc:List UInt8) (b:Nat) (w:World)
  (hl:bJ w0 f La t) (hn:nL t<=1759218604442) (hg:∀ i,i<nL t->dD m (elt t i)) (hb:Below w0.heap.size w0 w) (h:Lib.IsBuilderF 65 5 w0.heap.size b (Lib.byteCells acc) w) (hT:Tb w)
  (hlen:acc.length+(dL (bL m) t (nL t)).length+2<=100000000) :
  Calls Tryz.prog 78 #[.pointer (some ⟨b,0,none⟩),.slice La (nL t) Lc] w (EH w0.heap.size b (acc++(91::(dL (bL m) t (nL t)++[93]))) w):=by
 have HS:=ak (vL.start h hb.size);have HST:=ak hS;have MF:=ak ih;have Hl:=ak hl;have Hg:=ak hg;have Hb:=ak hb;have HT:=ak hT;have HM:Hid (∀ k,k<=nL t->(dL (bL m) t k).length+acc.length+2<=100000000):=ak (fun k hk=>by have:=Nk (bL m) t hk;omega);have HE:Hid (acc++(91::(dL (bL m) t (nL t)++[93]))=acc++[91]++dL (bL m) t (nL t)++[93]):=by show _=_;simp
 have hl0:acc.length<=100000000:=by omega
 clear h hS ih hl hg hb hT hlen;go_in;go_wp2_with fail;refine (dH w0.heap.size b acc 91 w w HS.out (by omega)).mono ?_;rintro e w1 ⟨rfl,hw1⟩;have H1:=ak hw1;clear hw1;go_wp2_with fail;go_loopg [10] (nL t) (fun g i wr=>∃ k:Nat,g=nL t - k/\k<=nL t/\i=.int .i64 k/\Hid (vL w0.heap.size b (acc++[91]++dL (bL m) t k) w wr))
 case atStart=>exact ⟨0,rfl,Nat.zero_le _,rfl,H1.out.acc (by simp [dL])⟩
 case round =>
  obtain ⟨k,rfl,hk,rfl,HW⟩:=hrel;have qb:=ak (Hb.out.trans HW.out.below);have HTr:=ak (HST.out _ _ HT.out HW.out.below);by_cases hlt:k<nL t
  ·obtain ⟨bb,o,A,B,C,D,rfl,hbl,p0,p1,p2,p3,p4,Ha⟩:=Hl.out.shape qb.out k hlt;have HM1:=ak (HM.out (k+1) hlt);have hm0:=HM.out k hk;have HG:=ak (Hg.out k hlt);have hblt:=HW.out.blt;have hB1:Below wr.heap.size wr (wr.alloc (vC (elt t k) A B C D)):=aY _ _;have HB1:=ak hB1;have HW1:=ak (HW.out.keep hB1);have HT1:=ak (HST.out _ _ HTr.out (hB1.mono HW.out.lo'));have Hb1:=ak (Hb.out.trans HW1.out.below);clear hB1;by_cases hk0:k=0
   ·have HJ:Hid (dL (bL m) t (k+1)=dL (bL m) t k++bL m (elt t k)):=by show dL (bL m) t k++_=_;rw [if_pos hk0];simp
    subst hk0;simp only [Nat.zero_mul,Nat.add_zero] at p0 p1 p2 p3 p4;go_wp2_with fail;refine (MF.out f _ (elt t 0) (acc++[91]++dL (bL m) t 0) b _ Ha.out HG.out Hb1.out HW1.out.Nn HT1.out (by have:=HM1.out;rw [HJ.out] at this;simp only [List.length_append,List.length_cons,List.length_nil] at this ⊢;omega)).mono ?_;rintro e w2 ⟨rfl,hw2⟩;have H2:=ak (HW1.out.trans hw2);clear hw2;go_wp2_with fail;go_roundg (nL t - (0+1))
    case rel=>exact ⟨0+1,rfl,by omega,by go_num,H2.out.acc (by rw [HJ.out];simp)⟩
    case measure=>omega
   ·have HJ:Hid (dL (bL m) t (k+1)=dL (bL m) t k++([44]++bL m (elt t k))):=by show dL (bL m) t k++_=_;rw [if_neg hk0]
    have y0:0<k:=by omega
    have y1:(0:Int)<(k:Int):=by omega
    clear hk0;go_wp2_with fail;refine (dH w0.heap.size b _ 44 w _ HW1.out (by simp only [List.length_append,List.length_cons,List.length_nil];omega)).mono ?_;rintro e w2 ⟨rfl,hw2⟩;obtain ⟨r0,r1,r2,r3,r4⟩:=Av hw2.oth hblt;have HW2:=ak (HW1.out.trans hw2);have HT2:=ak (HST.out _ _ HT1.out hw2.below);have Hb2:=ak (Hb.out.trans HW2.out.below);clear hw2;go_wp2_with fail;refine (MF.out f _ (elt t k) (acc++[91]++dL (bL m) t k++[44]) b _ Ha.out HG.out Hb2.out HW2.out.Nn HT2.out (by have:=HM1.out;rw [HJ.out] at this;simp only [List.length_append,List.length_cons,List.length_nil] at this ⊢;omega)).mono ?_;rintro e w3 ⟨rfl,hw3⟩;have H3:=ak (HW2.out.trans hw3);clear hw3;go_wp2_with fail;go_roundg (nL t - (k+1))
    case rel=>exact ⟨k+1,rfl,by omega,by go_num,H3.out.acc (by rw [HJ.out];simp)⟩
    case measure=>omega
  ·obtain rfl:k=nL t:=by omega
   have hm0:=HM.out (nL t) hk;go_wp2_with fail;refine (dH w0.heap.size b _ 93 w wr HW.out (by simp only [List.length_append,List.length_cons,List.length_nil];omega)).mono ?_;rintro e w2 ⟨rfl,hw2⟩;have H2:=ak (HW.out.trans hw2);clear hw2;go_wp2_with fail;refine bodyPost_end (v:=.tuple #[]) (by simp [results,Tryz.results78,go_sem]) rfl ?_;exact ⟨rfl,H2.out.acc HE.out.symm⟩
theorem zR {Tb:World->Prop} (w0:World) (hS:dZ Tb w0.heap.size) (m:Nat) (ih:BP Tb w0 m) (f:Nat) (La Ka:Option Addr) (Lc Kc:Nat) (t:T) (acc:List UInt8) (b:Nat) (w:World)
  (hl:bJ w0 f La t) (hkn:jl w0 Ka t) (hn:nL t<=1759218604442) (hn':nK t<=1759218604442) (hnk:nK t=nL t) (hg:∀ i,i<nL t->dD m (elt t i)) (hb:Below w0.heap.size w0 w) (h:Lib.IsBuilderF 65 5 w0.heap.size b (Lib.byteCells acc) w) (hT:Tb w)
  (hlen:acc.length+(eZ (bL m) t (nK t)).length+2<=100000000) :
  Calls Tryz.prog 79 #[.pointer (some ⟨b,0,none⟩),.agg #[.int .i64 (aj t),.int .i64 (av t),.string (ay t),.slice La (nL t) Lc,.slice Ka (nK t) Kc]] w (EH w0.heap.size b (acc++(123::(eZ (bL m) t (nK t)++[125]))) w):=by
 have HS:=ak (vL.start h hb.size);have Vy:=HS.out.blt;have HB1:=ak (aY w (vC t La Lc Ka Kc));have HSx:=ak (HS.out.keep HB1.out);have HX0:=ak (vL.start HSx.out.Nn HSx.out.lo');have HTx:=ak (hS _ _ hT (HB1.out.mono hb.size));have Hbx:=ak (hb.trans HSx.out.below);have HST:=ak hS;have MF:=ak ih;have Hl:=ak hl;have HK:=ak hkn;have Hg:=ak hg;have HNK:=ak hnk;have HM:Hid (∀ k,k<=nK t->(eZ (bL m) t k).length+acc.length+2<=100000000):=ak (fun k hk=>by have:=Nl (bL m) t hk;omega);have HE:Hid (acc++(123::(eZ (bL m) t (nK t)++[125]))=acc++[123]++eZ (bL m) t (nK t)++[125]):=by show _=_;simp
 have hl0:acc.length<=100000000:=by omega
 clear h hS ih hl hkn hg hb hT hlen HS hnk;go_in;go_wp2_with fail;refine (dH w0.heap.size b acc 123 _ _ HX0.out (by omega)).mono ?_;rintro e w1 ⟨rfl,hw1⟩;obtain ⟨r0,r1,r2,r3,r4⟩:=Av hw1.oth Vy;have H1:=ak hw1;clear hw1 HX0;go_wp2_with fail;clear r0 r1 r2 r3 r4;go_loopg [11] (nK t) (fun g i wr=>∃ k:Nat,g=nK t - k/\k<=nK t/\i=.int .i64 k/\Hid (vL w0.heap.size b (acc++[123]++eZ (bL m) t k) (w.alloc (vC t La Lc Ka Kc)) wr))
 case atStart=>exact ⟨0,rfl,Nat.zero_le _,rfl,H1.out.acc (by simp [eZ])⟩
 case round =>
  obtain ⟨k,rfl,hk,rfl,HW⟩:=hrel;have qb:=ak (Hbx.out.trans HW.out.below);by_cases hlt:k<nK t
  ·obtain ⟨kb,ko,rfl,hkb,hks,hkc⟩:=HK.out.keep qb.out k hlt;have sN:k<nL t:=by have:=HNK.out;omega
   have HM1:=ak (HM.out (k+1) hlt);have hm0:=HM.out k hk;have HG:=ak (Hg.out k sN)
   have Qk:Hid (∀ (yx:List UInt8) (w2:World),vL w0.heap.size b yx (w.alloc (vC t La Lc (some ⟨kb,ko,none⟩) Kc)) w2->yx.length+(cO (bO t k)).length<=100000000->Calls Tryz.prog 77 #[.pointer (some ⟨b,0,none⟩),.string (bO t k)] w2 (EH w0.heap.size b (yx++cO (bO t k)) w2)) :=
    ak (fun yx w2 h2 hl2=>vv w0.heap.size b yx (bO t k) w2 h2.Nn h2.lo' hl2 hks)
   by_cases hk0:k=0
   ·have HJ:Hid (eZ (bL m) t (k+1)=eZ (bL m) t k++(cO (bO t k)++(58::bL m (elt t k)))):=by show eZ (bL m) t k++_=_;rw [if_pos hk0];simp
    have fK:Hid ((eZ (bL m) t k).length+(cO (bO t k)).length+(bL m (elt t k)).length+acc.length+3<=100000000):=by show _<=_;have:=HM1.out;rw [HJ.out] at this;simp only [List.length_append,List.length_cons] at this;omega
    subst hk0;simp only [Nat.add_zero] at hkc;go_wp2_with fail;refine (Qk.out (acc++[123]++eZ (bL m) t 0) _ HW.out (by have:=fK.out;simp only [List.length_append,List.length_cons,List.length_nil] at this ⊢;omega)).mono ?_;rintro e w2 ⟨rfl,hw2⟩;have HW2:=ak (HW.out.trans hw2);clear hw2 hkc Qk;go_wp2_with fail;refine (dH w0.heap.size b _ 58 _ _ HW2.out (by have:=fK.out;simp only [List.length_append,List.length_cons,List.length_nil] at this ⊢;omega)).mono ?_;rintro e w3 ⟨rfl,hw3⟩;have HW3:=ak (HW2.out.trans hw3);clear hw3;obtain ⟨r0,r1,r2,r3,r4⟩:=Av HW3.out.oth Vy;have Hb3:=ak (Hbx.out.trans HW3.out.below);have HT3:=ak (HST.out _ _ HTx.out HW3.out.below);obtain ⟨bb,o,A,B,C,D,rfl,hbl,p0,p1,p2,p3,p4,Ha⟩:=Hl.out.shape Hb3.out 0 sN;simp only [Nat.zero_mul,Nat.add_zero] at p0 p1 p2 p3 p4;go_wp2_with fail;refine (MF.out f _ (elt t 0) _ b _ Ha.out HG.out Hb3.out HW3.out.Nn HT3.out (by have:=fK.out;simp only [List.length_append,List.length_cons,List.length_nil] at this ⊢;omega)).mono ?_;rintro e w4 ⟨rfl,hw4⟩;have H4:=ak (HW3.out.trans hw4);clear hw4;go_wp2_with fail;go_roundg (nK t - (0+1))
    case rel=>exact ⟨0+1,rfl,by omega,by go_num,H4.out.acc (by rw [HJ.out];simp)⟩
    case measure=>omega
   ·have HJ:Hid (eZ (bL m) t (k+1)=eZ (bL m) t k++([44]++(cO (bO t k)++(58::bL m (elt t k))))):=by show eZ (bL m) t k++_=_;rw [if_neg hk0]
    have fK:Hid ((eZ (bL m) t k).length+(cO (bO t k)).length+(bL m (elt t k)).length+acc.length+4<=100000000):=by show _<=_;have:=HM1.out;rw [HJ.out] at this;simp only [List.length_append,List.length_cons,List.length_nil] at this;omega
    have y0:0<k:=by omega
    have y1:(0:Int)<(k:Int):=by omega
    clear hk0;go_wp2_with fail;refine (dH w0.heap.size b _ 44 _ _ HW.out (by have:=fK.out;simp only [List.length_append,List.length_cons,List.length_nil] at this ⊢;omega)).mono ?_;rintro e w1' ⟨rfl,aeX⟩;have HW1:=ak (HW.out.trans aeX);clear aeX hkc;go_wp2_with fail;refine (Qk.out (acc++[123]++eZ (bL m) t k++[44]) _ HW1.out (by have:=fK.out;simp only [List.length_append,List.length_cons,List.length_nil] at this ⊢;omega)).mono ?_;rintro e w2 ⟨rfl,hw2⟩;have HW2:=ak (HW1.out.trans hw2);clear hw2 Qk;go_wp2_with fail;refine (dH w0.heap.size b _ 58 _ _ HW2.out (by have:=fK.out;simp only [List.length_append,List.length_cons,List.length_nil] at this ⊢;omega)).mono ?_;rintro e w3 ⟨rfl,hw3⟩;have HW3:=ak (HW2.out.trans hw3);clear hw3;obtain ⟨r0,r1,r2,r3,r4⟩:=Av HW3.out.oth Vy;have Hb3:=ak (Hbx.out.trans HW3.out.below);have HT3:=ak (HST.out _ _ HTx.out HW3.out.below);obtain ⟨bb,o,A,B,C,D,rfl,hbl,p0,p1,p2,p3,p4,Ha⟩:=Hl.out.shape Hb3.out k sN;go_wp2_with fail;refine (MF.out f _ (elt t k) _ b _ Ha.out HG.out Hb3.out HW3.out.Nn HT3.out (by have:=fK.out;simp only [List.length_append,List.length_cons,List.length_nil] at this ⊢;omega)).mono ?_;rintro e w4 ⟨rfl,hw4⟩;have H4:=ak (HW3.out.trans hw4);clear hw4;go_wp2_with fail;go_roundg (nK t - (k+1))
    case rel=>exact ⟨k+1,rfl,by omega,by go_num,H4.out.acc (by rw [HJ.out];simp)⟩
    case measure=>omega
  ·obtain rfl:k=nK t:=by omega
   have hm0:=HM.out (nK t) hk;go_wp2_with fail;refine (dH w0.heap.size b _ 125 _ wr HW.out (by simp only [List.length_append,List.length_cons,List.length_nil];omega)).mono ?_;rintro e w2 ⟨rfl,hw2⟩;have H2:=ak (HW.out.trans hw2);clear hw2;go_wp2_with fail;refine bodyPost_end (v:=.tuple #[]) (by simp [results,Tryz.results79,go_sem]) rfl ?_;exact ⟨rfl,(HSx.out.trans H2.out).acc HE.out.symm⟩
theorem Kg {t:T} (hf:zI t):(eD t).length+1<=6*dG t:=by
 unfold eD dG;by_cases k1:aj t=1
 ·rw [if_pos k1,if_pos k1];simp
 rw [if_neg k1,if_neg k1];by_cases k2:aj t=2
 ·rw [if_pos k2,if_pos k2];split<;>simp
 rw [if_neg k2,if_neg k2];by_cases k3:aj t=3
 ·rw [if_pos k3,if_pos k3];have:=Lib.itoa_length_le (av t) hf.n0 hf.n1;omega
 rw [if_neg k3,if_neg k3];split
 ·have:=J9 (ay t);omega
 ·simp;omega
theorem EK {g:T->List UInt8} {h:T->Nat} {t:T}:∀ k,(∀ i,i<k->(g (elt t i)).length+1<=6*h (elt t i))->(dL g t k).length<=6*fG h t k
 | 0,_=>by simp [dL]
 | k+1,hh=>by
  have ih:=EK k (fun i hi=>hh i (by omega));have hk:=hh k (by omega);have hc:((if k=0 then [] else [44]:List UInt8)).length<=1:=by split<;>simp
  simp only [dL,fG,List.length_append];omega
theorem EL {g:T->List UInt8} {h:T->Nat} {t:T}:∀ k,(∀ i,i<k->(g (elt t i)).length+1<=6*h (elt t i))->(eZ g t k).length<=6*(kD t k+fG h t k)
 | 0,_=>by simp [eZ]
 | k+1,hh=>by
  have ih:=EL k (fun i hi=>hh i (by omega));have hk:=hh k (by omega);have hc:((if k=0 then [] else [44]:List UInt8)).length<=1:=by split<;>simp
  have hq:=J9 (bO t k);simp only [eZ,fG,kD,List.length_append,List.length_cons];omega
theorem iD {t:T} (h:aW t):aj t≠5/\aj t≠6:=by
 obtain ⟨_,_,h⟩:=h;rcases h with ⟨h,_⟩ | ⟨h,_⟩ | ⟨h,_⟩ | ⟨h,_⟩<;>omega
theorem Vz {w:World}:∀ (m f:Nat) (v:Value) (t:T),At w f v t->dD m t->(bL m t).length+1<=6*aI m t
 | 0,f,v,t,h,hg=>by
  obtain ⟨g,La,Ka,Lc,Kc,_,_,hf,_⟩:=h.open;exact Kg hf
 | m+1,f,v,t,h,hg=>by
  obtain ⟨g,La,Ka,Lc,Kc,_,_,hf,hl,_⟩:=h.open;rcases hg with hg | ⟨_,_,he,hk⟩
  ·obtain ⟨k5,k6⟩:=iD hg;unfold bL aI;rw [if_neg k5,if_neg k6,if_neg k5,if_neg k6];exact Kg hf
  ·have hi:∀ i,i<nL t->(bL m (elt t i)).length+1<=6*aI m (elt t i):=fun i hi=>by
    obtain ⟨b,o,c0,c1,c2,c3,c4,_,_,_,_,_,_,_,ha⟩:=hl.out i hi;exact Vz m g _ _ ha.out (he i hi)
   unfold bL aI;rcases hk with ⟨k5,_⟩ | ⟨k6,hnk,_⟩
   ·rw [if_pos k5,if_pos k5];have:=EK (g:=bL m) (h:=aI m) (nL t) hi;simp only [List.length_cons,List.length_append,List.length_nil];omega
   ·have k5:aj t≠5:=by omega
    rw [if_neg k5,if_pos k6,if_neg k5,if_pos k6,hnk];have:=EL (g:=bL m) (h:=aI m) (nL t) hi;simp only [List.length_cons,List.length_append,List.length_nil];omega
theorem Ns {Tb:World->Prop} (hF:qE Tb) (w0:World) (hS:dZ Tb w0.heap.size) (m:Nat) (ih:BP Tb w0 m):BP Tb w0 (m+1):=by
 intro f v t acc b w h hg hb hi hT hl;obtain ⟨g,La,Ka,Lc,Kc,rfl,rfl,hf,hl',hk'⟩:=h.open;rcases hg with hg | ⟨g1,g2,he,hk⟩
 ·obtain ⟨k5,k6⟩:=iD hg;rw [pO k5 k6] at hl ⊢;exact BQ hF w0 hS t hg hf acc b w La Ka Lc Kc hb hi hT hl
 clear g1 g2;have HS:=ak (vL.start hi hb.size);have HB1:=ak (aY w (vC t La Lc Ka Kc));have zl:=ak (HS.out.keep HB1.out);have HT1:=ak (hS _ _ hT (HB1.out.mono hb.size));have Hb1:=ak (hb.trans zl.out.below);rcases hk with ⟨hk,g3⟩ | ⟨hk,hnk,g4,g5⟩
 ·have e1:(aj t==1)=false:=by rw [hk];rfl
  have e2:(aj t==2)=false:=by rw [hk];rfl
  have e3:(aj t==3)=false:=by rw [hk];rfl
  have e4:(aj t==4)=false:=by rw [hk];rfl
  have e5:(aj t==5)=true:=by rw [hk];rfl
  have HW:Hid (bL (m+1) t=91::(dL (bL m) t (nL t)++[93])):=by show _=_;rw [bL,if_pos hk]
  rw [HW.out] at hl ⊢;have HP:=ak (DK w0 hS m ih g La Lc t acc b _ hl'.out hf.l1 he Hb1.out zl.out.Nn HT1.out (by simp only [List.length_cons,List.length_append,List.length_nil] at hl;omega));clear hk hl g3 he hi hT hb hf hl' hk' ih hS hF h;go_in;go_wp2_with fail;refine HP.out.mono ?_;rintro e w2 ⟨rfl,hw2⟩;have H2:=ak (zl.out.trans hw2);clear hw2 HP;go_wp2_with fail;refine bodyPost_end (v:=.tuple #[]) (by simp [results,Tryz.results41,go_sem]) rfl ?_;exact ⟨rfl,H2.out⟩
 ·have e1:(aj t==1)=false:=by rw [hk];rfl
  have e2:(aj t==2)=false:=by rw [hk];rfl
  have e3:(aj t==3)=false:=by rw [hk];rfl
  have e4:(aj t==4)=false:=by rw [hk];rfl
  have e5:(aj t==5)=false:=by rw [hk];rfl
  have e6:(aj t==6)=true:=by rw [hk];rfl
  have HW:Hid (bL (m+1) t=123::(eZ (bL m) t (nK t)++[125])):=by show _=_;rw [bL,if_neg (by omega),if_pos hk]
  rw [HW.out] at hl ⊢;have HP:=ak (zR w0 hS m ih g La Ka Lc Kc t acc b _ hl'.out hk'.out hf.l1 (by rw [hnk];exact hf.l1) hnk he Hb1.out zl.out.Nn HT1.out (by simp only [List.length_cons,List.length_append,List.length_nil] at hl;omega));clear hk hl g4 g5 hnk he hi hT hb hf hl' hk' ih hS hF h;go_in;go_wp2_with fail;refine HP.out.mono ?_;rintro e w2 ⟨rfl,hw2⟩;have H2:=ak (zl.out.trans hw2);clear hw2 HP;go_wp2_with fail;refine bodyPost_end (v:=.tuple #[]) (by simp [results,Tryz.results41,go_sem]) rfl ?_;exact ⟨rfl,H2.out⟩
theorem EM {Tb:World->Prop} (hF:qE Tb) (w0:World) (hS:dZ Tb w0.heap.size):∀ m,BP Tb w0 m
 | 0=>by
  intro f v t acc b w h hg hb hi hT hl;obtain ⟨g,La,Ka,Lc,Kc,rfl,rfl,hf,_,_⟩:=h.open;exact BQ hF w0 hS t hg hf acc b w La Ka Lc Kc hb hi hT hl
 | m+1=>Ns hF w0 hS m (EM hF w0 hS m)
def aeY (ok:Bool) (l:List UInt8):ByteArray:=if ok then bP l else ⟨#[]⟩
def aeZ (ok:Bool):Int:=if ok then 0 else 5
theorem Nt {Tb:World->Prop} (hV:bF Tb) (hF:qE Tb) (hL:aV Tb) (f:Nat) (v:Value) (t:T) (w:World) (h:At w f v t) (hT:Tb w) :
  Calls Tryz.prog 13 #[v] w fun e w'=>e=.returned (.tuple #[.string (aeY (Di t) (bL 12 t)),.int .i64 (aeZ (Di t))])/\Below w.heap.size w w':=by
 have HA:=ak h;have HT:=ak hT;have HF:=ak hF;have HL:=ak hL;have HV:=ak hV;obtain ⟨f1,La,Ka,Lc,Kc,hf1,rfl,hf,hl,hk⟩:=h.open;clear h hf hf1 hl hk hT hF hL hV;have HB1:=ak (aY w (vC t La Lc Ka Kc));have HI:=ak (yV HV.out HL.out f _ t _ (HA.out.keep HB1.out) (HL.out w HT.out _ _ HT.out HB1.out));go_in;go_wp2_with fail;refine HI.out.mono ?_;rintro e w2 ⟨rfl,b2⟩;have HB2:Hid (Below (w.heap.size+1) (w.alloc (vC t La Lc Ka Kc)) w2):=b2.mono (by simp);obtain ⟨q0,q1,q2,q3,q4,hz,hbw⟩:=dz HB2.out;have iq:=ak hbw;clear b2 hbw HI;cases hi:Di t with
 | false =>
  have Hi:=ak hi;clear hi;go_wp2_with fail;go_ret2;exact ⟨by rw [Hi.out];rfl,iq.out⟩
 | true =>
  have Hi:=ak hi;have HG:=ak ((nI t).1 hi);have HT2:=ak (HL.out w HT.out _ _ HT.out iq.out);have HA2:=ak (HA.out.keep iq.out);have HW:=ak (Vz 12 f _ t HA2.out HG.out.1);have HFr:Hid (Lib.IsBuilderF 65 5 w2.heap.size w2.heap.size (Lib.byteCells []) (w2.alloc (.cells #[.pointer none,.slice none 0 0] 65))):=Lib.IsBuilderF.of (Lib.fresh_isBuilder 65 5 w2);have fT:=ak (aY w2 (.cells #[.pointer none,.slice none 0 0] 65));have HP:=ak (EM HF.out w2 (HL.out w2 HT2.out) 12 f _ t [] w2.heap.size _ HA2.out HG.out.1 fT.out HFr.out (HL.out w2 HT2.out _ _ HT2.out fT.out) (by have:=HW.out;have:=HG.out.2;simp only [List.length_nil];omega));clear hi;go_wp2_with fail;refine HP.out.mono ?_;rintro e w3 ⟨rfl,hw3⟩;have H3:=ak hw3;have HB3:=ak (iq.out.trans ((fT.out.trans hw3.below).mono (Nat.le_of_lt hz)));clear hw3 HP;go_wp2_with fail;refine (Br w2.heap.size w2.heap.size _ _ H3.out.Nn H3.out.lo').mono ?_;rintro e w4 ⟨rfl,b4⟩;have bT:=ak (HB3.out.trans (b4.mono (Nat.le_of_lt hz)));clear b4;go_wp2_with fail;go_ret2;exact ⟨by rw [Hi.out];rfl,bT.out⟩
def qY (t:T):ByteArray:=aeY (Di t) (bL 12 t)
def VE (d:T):Nat->List Value
 | 0=>[]
 | k+1=>VE d k++[.string (qY (elt d k))]
theorem wZ {Tb:World->Prop} (hV:bF Tb) (hF:qE Tb) (hL:aV Tb) (d:T) (f:Nat) (La:Option Addr) (Lc:Nat) (w:World) (hl:bJ w f La d) (hn:nL d<=1000000) (hT:Tb w) :
  Calls Tryz.prog 64 #[.slice La (nL d) Lc] w fun e w'=>Below w.heap.size w w'/\∃ sv,e=.returned sv/\w'.ownsRow w.heap.size 9 1 sv (nL d) (VE d (nL d)):=by
 obtain ⟨iS,YS,YT,zS1,Yo⟩:=info_parts aaz;have Hl:=ak hl;have HP:Hid (∀ (v:Value) (t:T) (w:World),At w f v t->Tb w->Calls Tryz.prog 13 #[v] w fun e w'=>e=.returned (.tuple #[.string (qY t),.int .i64 (aeZ (Di t))])/\Below w.heap.size w w'):=fun v t w h hT=>Nt hV hF hL f v t w h hT;have HT:Hid (∀ w':World,Below w.heap.size w w'->Tb w'):=fun w' hb=>hL w hT w w' hT hb;clear hl hT hL hV hF;go_in;go_wp2_with fail;go_loopg [3,10] (nL d) (fun g o i wr=>∃ (k:Nat),g=nL d - k/\k<=nL d/\i=.int .i64 k/\Hid (wr.ownsRow w.heap.size 9 1 o k (VE d k))/\Hid (Below w.heap.size w wr))
 case atStart=>exact ⟨0,rfl,Nat.zero_le _,rfl,World.ownsRow_nil _ _ _ _,Below.refl _ _⟩
 case round =>
  obtain ⟨k,rfl,hk,rfl,HR,HB⟩:=hrel;by_cases hlt:k<nL d
  ·obtain ⟨bb,oo,A,B,C,D,rfl,hbl,p0,p1,p2,p3,p4,Ha⟩:=Hl.out.shape HB.out k hlt;have vY:=ak (aY wr (vC (elt d k) A B C D));have HB2:=ak (HB.out.trans (vY.out.mono HB.out.size));have HC:=ak (HP.out _ (elt d k) _ (Ha.out.keep HB2.out) (HT.out _ HB2.out));go_wp2_with fail;refine HC.out.mono ?_;rintro e w2 ⟨rfl,b2⟩;have HB3:=ak (HB2.out.trans (b2.mono HB2.out.size));have bT:=ak (HB3.out.alloc HB3.out.size (.cells #[.string (qY (elt d k))] 9));have HR4:Hid ((w2.alloc (.cells #[.string (qY (elt d k))] 9)).ownsRow w.heap.size 9 1 u3 k (VE d k)):=iO (iO HR.out fun b _ h2=>(b2.block b (Nat.lt_of_lt_of_le h2 vY.out.size)).trans (vY.out.block b h2)) fun b _ h2=>((Below.refl w2.heap.size w2).alloc (Nat.le_refl _) (.cells #[.string (qY (elt d k))] 9)).block b h2;have sK:Hid (Src Tryz.prog 1 23 (.slice (some ⟨w2.heap.size,0,none⟩) 1 1) 1 [.string (qY (elt d k))] (w2.alloc (.cells #[.string (qY (elt d k))] 9))):=Src.ofSlice _ Tryz.underlying23 ⟨w2.heap.size,0,none⟩ 1 1 [.string (qY (elt d k))] (by simp) (World.news_of_block (heap_alloc_new w2 _)) (by simp [Value.oneCell']);have hlo:=bT.out.size;clear b2 HC;go_wp2_with (at_builtin;refine aG _ rfl (.tmp 19) (.tmp 21) 23 23 rfl w.heap.size 9 iS _ 1 16 Tryz.underlying23 YS YT zS1 Yo rfl u3 k (VE d k) rfl HR4.out (.slice (some ⟨w2.heap.size,0,none⟩) 1 1) 1 [.string (qY (elt d k))] rfl sK.out (by unfold maxLen;omega) (by omega) hlo ?_;intro v' w6 qX nu dV)
   have HO6:Hid (w6.ownsRow w.heap.size 9 1 v' (k+1) (VE d (k+1))):=qX;have iN:=ak (dx bT.out HR4.out (Nat.le_refl _) hlo nu);clear qX nu dV;go_wp2_with fail;go_roundg (nL d - (k+1))
   case rel=>exact ⟨k+1,rfl,by omega,by go_num,HO6,iN⟩
   case measure=>omega
  ·obtain rfl:k=nL d:=by omega
   go_wp2_with fail;go_ret;exact ⟨HB.out,_,rfl,HR.out⟩
theorem dR {xs:List Value} {j:Nat} (h:j<xs.length):xs[j]?=some (cx xs j):=by unfold cx;rw [List.getElem?_eq_getElem h];rfl
theorem uJ.elems {w0:World} {f:Nat} {hv:Value} {l:List T} {xs:List Value} {wr:World} (h:uJ w0 f hv l xs wr):∃ La Lc,hv=.slice La l.length Lc/\bJ wr f La (aO 5 0 ByteArray.empty l []):=by
 have hx:xs.length=l.length*5:=h.row.1;rcases h.row.2 with ⟨rfl,hn⟩ | ⟨g,cap,cur,rfl,hb0,hg,rest⟩
 ·refine ⟨none,0,by rw [hn],fun i hi=>?_⟩;rw [aN] at hi;omega
 ·refine ⟨_,_,rfl,fun i hi=>?_⟩;rw [aN] at hi;have hc:∀ j,j<5->wr.cell? ⟨g,i*5+j,none⟩=some (cx xs (i*5+j)):=fun j hj=>aX h.row (dR (by omega));have e:elt (aO 5 0 ByteArray.empty l []) i=l[i]:=by rw [iQ,List.getD_eq_getElem?_getD,List.getElem?_eq_getElem hi];rfl
  refine ⟨g,0,cx xs (i*5),cx xs (i*5+1),cx xs (i*5+2),cx xs (i*5+3),cx xs (i*5+4),rfl,(Array.getElem?_eq_some_iff.1 hg).1,(by rw [Nat.zero_add];exact hc 0 (by omega)),(by rw [Nat.zero_add];exact hc 1 (by omega)),(by rw [Nat.zero_add];exact hc 2 (by omega)),(by rw [Nat.zero_add];exact hc 3 (by omega)),(by rw [Nat.zero_add];exact hc 4 (by omega)),?_⟩;rw [e];exact At.keep h.low (h.at_ i hi)
def nC (n:Int) (k:Nat):UInt8:=UInt8.ofNat (n / 256 ^ k % 256).toNat
theorem qF (n:Int) (k:Nat):((nC n k).toNat:Int)=n / 256 ^ k % 256:=by
 unfold nC;rw [UInt8.toNat_ofNat'];have h0:=Int.emod_nonneg (n / 256 ^ k) (show (256:Int)≠0 by decide);have h1:=Int.emod_lt_of_pos (n / 256 ^ k) (show (0:Int)<256 by decide);omega
theorem ae1 {a b:UInt8} (h:(a.toNat:Int)=b.toNat):a=b:=UInt8.toNat_inj.1 (by omega)
def oO (n:Int):Nat->List UInt8
 | 0=>[]
 | k+1=>nC n k::oO n k
theorem dX (n:Int):∀ k,(oO n k).length=k
 | 0=>rfl
 | k+1=>by simp [oO,dX n k]
theorem Y8 (k:Nat) (h:k<8):∃ c:Int,(18446744073709551616:Int)=256 ^ k*(256*c):=by
 have:∀ k:Fin 8,(18446744073709551616:Int)=256 ^ k.1*(256*(256 ^ (7 - k.1))):=by decide
 exact ⟨_,this ⟨k,h⟩⟩
theorem R4 (n:Int) (k:Nat) (h:k<8):nC (n % 18446744073709551616) k=nC n k:=by
 apply ae1;rw [qF,qF];obtain ⟨c,hc⟩:=Y8 k h
 have hp:(256:Int) ^ k≠0:=by
  have:(0:Int)<256 ^ k:=Int.pow_pos (by decide);omega
 have e:=Int.emod_add_mul_ediv n 18446744073709551616;generalize n % 18446744073709551616=r at e ⊢;generalize n / 18446744073709551616=q at e;rw [<- e,hc,Int.mul_assoc,Int.add_mul_ediv_left _ _ hp,Int.mul_assoc,Int.add_mul_emod_self_left]
theorem Kh (n:Int):∀ k,k<=8->oO (n % 18446744073709551616) k=oO n k
 | 0,_=>rfl
 | k+1,h=>by rw [oO,oO,R4 n k (by omega),Kh n k (by omega)]
def dI (t:T):UInt8:=nC (aj t) 0
def mK (t:T):List UInt8 :=
 dI t::(if aj t=2 then [nC (av t) 0] else if aj t=3 then oO (av t) 8 else if aj t=4 then oO (ay t).size 4++(ay t).data.toList else [])
def Ki (t:T) (k:Nat):List UInt8:=if aj t=6 then oO (bO t k).size 2++(bO t k).data.toList else []
def iG (g:T->List UInt8) (t:T):Nat->List UInt8
 | 0=>[]
 | k+1=>iG g t k++(Ki t k++g (elt t k))
def Kj (t:T) (body:List UInt8):List UInt8:=dI t::(oO body.length 4++body)
def eT:Nat->T->List UInt8
 | 0,t=>mK t
 | m+1,t=>if aj t=5\/aj t=6 then Kj t (iG (eT m) t (nL t)) else mK t
theorem R5 {m:Nat} {t:T} (h5:aj t≠5) (h6:aj t≠6):eT m t=mK t:=by
 cases m with
 | zero=>rfl
 | succ m=>unfold eT;rw [if_neg (by omega)]
theorem VF {m:Nat} {t:T} (h:aj t=5\/aj t=6):eT (m+1) t=Kj t (iG (eT m) t (nL t)):=by rw [eT,if_pos h]
theorem R6 (g : T -> List UInt8) (t : T) {k n : Nat} (h : k <= n) : (iG g t k).length <= (iG g t n).length := by
  induction n with
  | zero => have : k = 0 := by omega
            subst this; exact Nat.le_refl _
  | succ n ih =>
    by_cases e : k = n + 1
    · subst e; exact Nat.le_refl _
    · have := ih (by omega);simp only [iG, List.length_append];omega
theorem EN {t:T} (h:aW t):(mK t).length=dG t:=by
 obtain ⟨_,_,h⟩:=h;unfold mK dG;rcases h with ⟨h,_⟩ | ⟨h,_⟩ | ⟨h,_⟩ | ⟨h,_⟩<;>simp [h,dX];omega
theorem EO {g:T->List UInt8} {h:T->Nat} {t:T} (h5:aj t≠6):∀ k,(∀ i,i<k->(g (elt t i)).length=h (elt t i))->(iG g t k).length=fG h t k
 | 0,_=>rfl
 | k+1,hh=>by
  have ih:=EO h5 k (fun i hi=>hh i (by omega));have hk:=hh k (by omega);simp only [iG,fG,Ki,if_neg h5,List.length_append,List.length_nil];omega
theorem EP {g:T->List UInt8} {h:T->Nat} {t:T} (h6:aj t=6):∀ k,(∀ i,i<k->(g (elt t i)).length=h (elt t i))->(iG g t k).length=kD t k+fG h t k
 | 0,_=>rfl
 | k+1,hh=>by
  have ih:=EP h6 k (fun i hi=>hh i (by omega));have hk:=hh k (by omega);have e:(bO t k).data.toList.length=(bO t k).size:=rfl;simp only [iG,fG,kD,Ki,if_pos h6,List.length_append,dX];omega
theorem BR:∀ (m:Nat) (t:T),dD m t->(eT m t).length=aI m t
 | 0,t,hg=>EN hg
 | m+1,t,hg=>by
  rcases hg with hg | ⟨_,_,he,hk⟩
  ·have k5:aj t≠5/\aj t≠6:=by
    obtain ⟨_,_,h⟩:=hg;rcases h with ⟨h,_⟩ | ⟨h,_⟩ | ⟨h,_⟩ | ⟨h,_⟩<;>omega
   unfold eT aI;rw [if_neg (by omega),if_neg k5.1,if_neg k5.2];exact EN hg
  ·have hi:∀ i,i<nL t->(eT m (elt t i)).length=aI m (elt t i):=fun i hi=>BR m _ (he i hi);unfold eT aI;rcases hk with ⟨k5,_⟩ | ⟨k6,hnk,_⟩
   ·rw [if_pos (.inl k5),if_pos k5];have:=EO (g:=eT m) (h:=aI m) (by omega) (nL t) hi;simp only [Kj,List.length_cons,List.length_append,dX];omega
   ·rw [if_pos (.inr k6),if_neg (by omega),if_pos k6,hnk];have:=EP (g:=eT m) (h:=aI m) k6 (nL t) hi;simp only [Kj,List.length_cons,List.length_append,dX];omega
theorem GX:(Tryz.prog.info? 5).map (fun i=>(i.zero,i.size,i.bytes))=some (some (.int .u8 0),1,1):=by kernel_rfl
structure QG (w0:World) (r:Value) (w:World) (r':Value) (acc:List UInt8) (w':World):Prop where
 row:w'.ownsRow w0.heap.size 5 1 r' acc.length (aK acc)
 grown:w.grownBy w' r.ownBlock
 own:r'.ownBlock=r.ownBlock\/∃ b,r'.ownBlock=some b/\w.heap.size<=b
theorem zm {w:World} {lo:Nat} {e:TypeId} {size n:Nat} {v:Value} {xs:List Value} (h:w.ownsRow lo e size v n xs) {b:Nat} (hb:v.ownBlock=some b):lo<=b/\b<w.heap.size:=by
 rcases h.2 with ⟨rfl,_⟩ | ⟨g,cap,cur,rfl,hb0,hg,rest⟩
 ·cases hb
 ·have:b=g:=by simpa [Value.ownBlock] using hb.symm
  subst this;exact ⟨hb0,(Array.getElem?_eq_some_iff.1 hg).1⟩
theorem R8 {w w':World} {lo:Nat} {e:TypeId} {size n:Nat} {v:Value} {xs:List Value} (h:w.ownsRow lo e size v n xs) (hb:∀ b,lo<=b->b<w.heap.size->w'.heap[b]?=w.heap[b]?):w'.ownsRow lo e size v n xs:=by
 refine ⟨h.1,?_⟩;rcases h.2 with hn | ⟨g,cap,cur,rfl,hb0,hg,rest⟩
 ·exact .inl hn
 ·exact .inr ⟨g,cap,cur,rfl,hb0,(hb g hb0 (Array.getElem?_eq_some_iff.1 hg).1).trans hg,rest⟩
theorem Nu (w:World) (r:Option Nat):w.grownBy w r:=⟨rfl,rfl,rfl,Nat.le_refl _,fun _ _ _=>rfl⟩
theorem QG.refl {w0 w:World} {r:Value} {acc:List UInt8} (h:w.ownsRow w0.heap.size 5 1 r acc.length (aK acc)):QG w0 r w r acc w:=⟨h,Nu w _,.inl rfl⟩
theorem QG.trans {w0 w w1 w2:World} {r r1 r2:Value} {a1 a2:List UInt8} (h:QG w0 r w r1 a1 w1) (k:QG w0 r1 w1 r2 a2 w2):QG w0 r w r2 a2 w2:=by
 refine ⟨k.row,⟨k.grown.os.trans h.grown.os,k.grown.tape.trans h.grown.tape,k.grown.output.trans h.grown.output,Nat.le_trans h.grown.size k.grown.size,fun b hb hne=>?_⟩,?_⟩
 ·rw [k.grown.block b (Nat.lt_of_lt_of_le hb h.grown.size) ?_,h.grown.block b hb hne];intro e;rcases h.own with h1 | ⟨c,h1,h2⟩
  ·rw [h1] at e;exact hne e
  ·rw [h1] at e;simp only [Option.some.injEq] at e;omega
 ·rcases k.own with k1 | ⟨c,k1,k2⟩
  ·rcases h.own with h1 | ⟨c,h1,h2⟩
   ·exact .inl (k1.trans h1)
   ·exact .inr ⟨c,k1.trans h1,h2⟩
  ·exact .inr ⟨c,k1,Nat.le_trans h.grown.size k2⟩
theorem QG.acc {w0 w w1:World} {r r1:Value} {a a':List UInt8} (h:QG w0 r w r1 a w1) (e:a=a'):QG w0 r w r1 a' w1:=e ▸ h
theorem QG.keep {w0 w w1 w2:World} {r r1:Value} {a1:List UInt8} (h:QG w0 r w r1 a1 w1) (k:Below w1.heap.size w1 w2):QG w0 r w r1 a1 w2 :=
 ⟨R8 h.row fun b _ h2=>k.block b h2,⟨k.os.trans h.grown.os,k.tape.trans h.grown.tape,k.output.trans h.grown.output,Nat.le_trans h.grown.size k.size,fun b hb hne=>(k.block b (Nat.lt_of_lt_of_le hb h.grown.size)).trans (h.grown.block b hb hne)⟩,h.own⟩
theorem QG.grow {w0 w w1 w2:World} {r r1 r2:Value} {acc l:List UInt8} (h:QG w0 r w r1 acc w1) (hO:w2.ownsRow w0.heap.size 5 1 r2 (acc.length+l.length) (aK acc++aK l)) (hG:w1.grownBy w2 r1.ownBlock) (hat:r2.ownBlock=r1.ownBlock\/r2.ownBlock=some w1.heap.size):QG w0 r w r2 (acc++l) w2 :=
 h.trans ⟨by rw [List.length_append,uZ];exact hO,hG,hat.imp id fun h=>⟨_,h,Nat.le_refl _⟩⟩
theorem QG.below {w0 w w1:World} {r r1:Value} {a a1:List UInt8} (h:QG w0 r w r1 a1 w1) (hr:w.ownsRow w0.heap.size 5 1 r a.length (aK a)) (hb:Below w0.heap.size w0 w):Below w0.heap.size w0 w1 :=
 ⟨h.grown.os.trans hb.os,h.grown.tape.trans hb.tape,h.grown.output.trans hb.output,Nat.le_trans hb.size h.grown.size,fun k hk=>(h.grown.block k (Nat.lt_of_lt_of_le hk hb.size) (fun e=>by have:=(zm hr e.symm).1;omega)).trans (hb.block k hk)⟩
theorem QG.box {w0 w w1:World} {r r1:Value} {a a1:List UInt8} {c0 c1 c2 c3 c4:Value} (hr:w.ownsRow w0.heap.size 5 1 r a.length (aK a)) (h:QG w0 r (w.alloc (.cells #[c0,c1,c2,c3,c4] 25)) r1 a1 w1) :
  w1.cell? ⟨w.heap.size,0,none⟩=some c0/\w1.cell? ⟨w.heap.size,1,none⟩=some c1/\w1.cell? ⟨w.heap.size,2,none⟩=some c2/\w1.cell? ⟨w.heap.size,3,none⟩=some c3/\w1.cell? ⟨w.heap.size,4,none⟩=some c4/\w.heap.size<w1.heap.size:=by
 have hz:=h.grown.size;have hb:w1.heap[w.heap.size]?=(w.alloc (.cells #[c0,c1,c2,c3,c4] 25)).heap[w.heap.size]?:=h.grown.block w.heap.size (by simp) (fun e=>by have:=(zm hr e.symm).2;omega);refine ⟨?_,?_,?_,?_,?_,by simp at hz;omega⟩
 ·rw [World.cell?_of_block (a:=⟨w.heap.size,0,none⟩) hb];simp [go_sem]
 ·rw [World.cell?_of_block (a:=⟨w.heap.size,1,none⟩) hb];simp [go_sem]
 ·rw [World.cell?_of_block (a:=⟨w.heap.size,2,none⟩) hb];simp [go_sem]
 ·rw [World.cell?_of_block (a:=⟨w.heap.size,3,none⟩) hb];simp [go_sem]
 ·rw [World.cell?_of_block (a:=⟨w.heap.size,4,none⟩) hb];simp [go_sem]
theorem Kk (w:World) (l:List UInt8) (j:Nat) (u:Value) (hj:(aK l)[j]?=some u):(w.alloc (.cells (aK l).toArray 5)).cell? ((⟨w.heap.size,0,none⟩:Addr).add j)=some u:=by
 have e0:(w.alloc (.cells (aK l).toArray 5)).heap[w.heap.size]?=some (.cells (aK l).toArray 5):=by show (w.heap.push _)[w.heap.size]?=_;simp
 have e1:((⟨w.heap.size,0,none⟩:Addr).add j)=⟨w.heap.size,j,none⟩:=by simp [Addr.add];intro h;exact h.symm
 rw [e1];unfold World.cell?;rw [e0];show (if _ then none else (aK l).toArray[j]?)=some u;rw [if_neg (by simp)];simpa using hj
theorem qG (w:World) (l:List UInt8):Src Tryz.prog 1 63 (.slice (some ⟨w.heap.size,0,none⟩) l.length l.length) l.length (aK l) (w.alloc (.cells (aK l).toArray 5)) :=
 Src.ofSlice _ Tryz.underlying63 ⟨w.heap.size,0,none⟩ l.length l.length (aK l) (by rw [gQ];omega) (Kk w l) (fun u hu=>by obtain ⟨b,_,rfl⟩:=List.mem_map.1 hu;rfl)
theorem Ql {a b:ByteArray} (h:a.data.toList=b.data.toList):a=b:=by
 apply ByteArray.ext;exact Array.toList_inj.1 h
theorem VG (s:ByteArray):bP s.data.toList=s:=by
 apply Ql;simp [bP]
def bH:Nat->T->T
 | 0,t=>aO (aj t) (av t) (ay t) [] []
 | m+1,t=>aO (aj t) (av t) (ay t) ((lH t).map (bH m)) (jZ t)
theorem ER (m:Nat) (t:T):aj (bH m t)=aj t:=by cases m<;>rfl
theorem VH (m:Nat) (t:T):av (bH m t)=av t:=by cases m<;>rfl
theorem VI (m:Nat) (t:T):ay (bH m t)=ay t:=by cases m<;>rfl
theorem Qm (m:Nat) (t:T):nL (bH (m+1) t)=nL t:=by unfold nL;rw [bH,rV,List.length_map]
theorem Kl (m:Nat) (t:T):jZ (bH (m+1) t)=jZ t:=by rw [bH,qg]
theorem Y9 (m:Nat) (t:T):nK (bH (m+1) t)=nK t:=by unfold nK;rw [Kl]
theorem Km (m:Nat) (t:T):bO (bH (m+1) t)=bO t:=by funext i;unfold bO;rw [Kl]
theorem VJ (m:Nat) (t:T) {i:Nat} (h:i<nL t):elt (bH (m+1) t) i=bH m (elt t i):=by
 have h':i<(lH t).length:=h;unfold elt;rw [bH,rV];simp [List.getD_eq_getElem?_getD,h']
theorem BS {α:Type} {l:List α} (h:l.length=0):l=[]:=List.eq_nil_of_length_eq_zero h
theorem yA (m:Nat) {t:T} (h:nL t=0) (k:nK t=0):bH m t=dh (aj t) (av t) (ay t):=by
 cases m with
 | zero=>rfl
 | succ m =>
  have h1:lH t=[]:=BS h;have h2:jZ t=[]:=BS k;rw [bH,h1,h2];rfl
theorem Qn {α:Type} {l:List α} {k:Nat} {d:α} (h:k<l.length):l.drop k=l.getD k d::l.drop (k+1):=by
 rw [List.drop_eq_getElem_cons h];simp [List.getD_eq_getElem?_getD,h]
theorem BU (m:Nat) (t:T):∀ k,gy (bH (m+1) t) k=gy t k
 | 0=>rfl
 | k+1=>by rw [gy,gy,BU m t k,Km]
theorem ES (m:Nat) (t:T) (i:Nat):∀ k,qU (bH (m+1) t) i k=qU t i k
 | 0=>rfl
 | k+1=>by rw [qU,qU,ES m t i k,Km]
theorem ET (m:Nat) (t:T):∀ k,iP (bH (m+1) t) k=iP t k
 | 0=>rfl
 | k+1=>by rw [iP,iP,ET m t k,ES]
theorem BX (m:Nat) (t:T):bn (bH m t)=bn t:=by unfold bn;rw [VI]
theorem Kn (m:Nat) {t:T} (h:aW t):aW (bH m t):=by
 have e:=yA m h.1 h.2.1;have hl:nL (bH m t)=0:=by rw [e];rfl
 have hk:nK (bH m t)=0:=by rw [e];rfl
 obtain ⟨_,_,h⟩:=h;refine ⟨hl,hk,?_⟩;rw [ER,VH,VI,BX];exact h
theorem Ko:∀ (m:Nat) (t:T),dD m t->dD m (bH m t)
 | 0,t,h=>Kn 0 h
 | m+1,t,h=>by
  rcases h with h | ⟨h1,h2,he,hk⟩
  ·exact .inl (Kn (m+1) h)
  ·refine .inr ⟨by rw [VH];exact h1,by rw [BX];exact h2,fun i hi=>?_,?_⟩
   ·rw [Qm] at hi;rw [VJ m t hi];exact Ko m _ (he i hi)
   ·rw [ER,Y9,Qm,BU,ET];exact hk
end Go.Proofs.YtknakfpciccoaaaGreatDoor
