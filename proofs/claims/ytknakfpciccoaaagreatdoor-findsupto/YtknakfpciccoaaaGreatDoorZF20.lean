import Derived.Test.YtknakfpciccoaaaGreatDoorZF19
import Derived.Test.YtknakfpciccoaaaGreatDoorZF11
import Derived.Lib.ItoaLen
import Derived.Test.YtknakfpciccoaaaGreatDoorProg
import Derived.Test.YtknakfpciccoaaaGreatDoorZF3
import Derived.Test.YtknakfpciccoaaaGreatDoorZF4
import Derived.Test.YtknakfpciccoaaaGreatDoorZF17
import Derived.Deep.RegionHeldLaw
import Derived.Deep.RegionLaw
import Derived.Test.YtknakfpciccoaaaGreatDoorZF7
import Derived.Lib.QuoteLoop
/- The walks of printObject, printValue and Print. -/
set_option maxHeartbeats 4000000
set_option maxRecDepth 100000
namespace Go.Proofs.YtknakfpciccoaaaGreatDoor
open Go.RowKit
theorem yU {Tb:World->Prop} (w0:World) (hS:dB Tb w0.heap.size) (m:Nat) (ih:AL Tb w0 m) (f:Nat) (La Ka:Option Addr) (Lc Kc:Nat) (t:T) (acc:List UInt8) (b:Nat) (w:World)
  (hl:bC w0 f La t) (hkn:gI w0 Ka t) (hn:nL t<=1759218604442) (hn':nK t<=1759218604442) (hnk:nK t=nL t) (hg:∀ i,i<nL t->fJ m (elt t i)) (hb:Below w0.heap.size w0 w) (h:Lib.IsBuilderF 65 5 w0.heap.size b (Lib.byteCells acc) w) (hT:Tb w)
  (hlen:acc.length+(bW (dD m) t (nK t)).length+2<=100000000) :
  Calls Tryz.prog 79 #[.pointer (some ⟨b,0,none⟩),.agg #[.int .i64 (ah t),.int .i64 (aB t),.string (aF t),.slice La (nL t) Lc,.slice Ka (nK t) Kc]] w (Dw w0.heap.size b (acc++(123::(bW (dD m) t (nK t)++[125]))) w):=by
 have HS:=aj (uh.start h hb.size);have SC:=HS.out.blt;have HB1:=aj (bG w (vC t La Lc Ka Kc));have X3:=aj (HS.out.keep HB1.out);have HX0:=aj (uh.start X3.out.Ko X3.out.lo');have WW:=aj (hS _ _ hT (HB1.out.mono hb.size));have WX:=aj (hb.trans X3.out.below);have HST:=aj hS;have sN:=aj ih;have Hl:=aj hl;have HK:=aj hkn;have Hg:=aj hg;have UG:=aj hnk;have HM:Hid (∀ k,k<=nK t->(bW (dD m) t k).length+acc.length+2<=100000000):=aj (fun k hk=>by have:=AB (dD m) t hk;omega);have HE:Hid (acc++(123::(bW (dD m) t (nK t)++[125]))=acc++[123]++bW (dD m) t (nK t)++[125]):=by show _=_;simp
 have hl0:acc.length<=100000000:=by omega
 clear h hS ih hl hkn hg hb hT hlen HS hnk;go_in;go_wp2_with fail;refine (bR w0.heap.size b acc 123 _ _ HX0.out (by omega)).mono ?_;rintro e w1 ⟨rfl,hw1⟩;obtain ⟨r0,r1,r2,r3,r4⟩:=zI hw1.JR SC;have H1:=aj hw1;clear hw1 HX0;go_wp2_with fail;clear r0 r1 r2 r3 r4;go_loopg [11] (nK t) (fun g i wr=>∃ k:Nat,g=nK t - k/\k<=nK t/\i=.int .i64 k/\Hid (uh w0.heap.size b (acc++[123]++bW (dD m) t k) (w.alloc (vC t La Lc Ka Kc)) wr))
 case atStart=>exact ⟨0,rfl,Nat.zero_le _,rfl,H1.out.acc (by simp [bW])⟩
 case round =>
  obtain ⟨k,rfl,hk,rfl,HW⟩:=hrel;have pR:=aj (WX.out.trans HW.out.below);by_cases hlt:k<nK t
  ·obtain ⟨kb,ko,rfl,hkb,hks,hkc⟩:=HK.out.keep pR.out k hlt;have Fz:k<nL t:=by have:=UG.out;omega
   have Z8:=aj (HM.out (k+1) hlt);have hm0:=HM.out k hk;have HG:=aj (Hg.out k Fz)
   have NJ:Hid (∀ (xA:List UInt8) (w2:World),uh w0.heap.size b xA (w.alloc (vC t La Lc (some ⟨kb,ko,none⟩) Kc)) w2->xA.length+(jV (bf t k)).length<=100000000->Calls Tryz.prog 77 #[.pointer (some ⟨b,0,none⟩),.string (bf t k)] w2 (Dw w0.heap.size b (xA++jV (bf t k)) w2)) :=
    aj (fun xA w2 h2 hl2=>tF w0.heap.size b xA (bf t k) w2 h2.Ko h2.lo' hl2 hks)
   by_cases hk0:k=0
   ·have HJ:Hid (bW (dD m) t (k+1)=bW (dD m) t k++(jV (bf t k)++(58::dD m (elt t k)))):=by show bW (dD m) t k++_=_;rw [if_pos hk0];simp
    have aQ:Hid ((bW (dD m) t k).length+(jV (bf t k)).length+(dD m (elt t k)).length+acc.length+3<=100000000):=by show _<=_;have:=Z8.out;rw [HJ.out] at this;simp only [List.length_append,List.length_cons] at this;omega
    subst hk0;simp only [Nat.add_zero] at hkc;go_wp2_with fail;refine (NJ.out (acc++[123]++bW (dD m) t 0) _ HW.out (by have:=aQ.out;simp only [List.length_append,List.length_cons,List.length_nil] at this ⊢;omega)).mono ?_;rintro e w2 ⟨rfl,hw2⟩;have HW2:=aj (HW.out.trans hw2);clear hw2 hkc NJ;go_wp2_with fail;refine (bR w0.heap.size b _ 58 _ _ HW2.out (by have:=aQ.out;simp only [List.length_append,List.length_cons,List.length_nil] at this ⊢;omega)).mono ?_;rintro e w3 ⟨rfl,hw3⟩;have HW3:=aj (HW2.out.trans hw3);clear hw3;obtain ⟨r0,r1,r2,r3,r4⟩:=zI HW3.out.JR SC;have Hb3:=aj (WX.out.trans HW3.out.below);have HT3:=aj (HST.out _ _ WW.out HW3.out.below);obtain ⟨bb,o,A,B,C,D,rfl,hbl,p0,p1,p2,p3,p4,Ha⟩:=Hl.out.shape Hb3.out 0 Fz;simp only [Nat.zero_mul,Nat.add_zero] at p0 p1 p2 p3 p4;go_wp2_with fail;refine (sN.out f _ (elt t 0) _ b _ Ha.out HG.out Hb3.out HW3.out.Ko HT3.out (by have:=aQ.out;simp only [List.length_append,List.length_cons,List.length_nil] at this ⊢;omega)).mono ?_;rintro e w4 ⟨rfl,hw4⟩;have H4:=aj (HW3.out.trans hw4);clear hw4;go_wp2_with fail;go_roundg (nK t - (0+1))
    case rel=>exact ⟨0+1,rfl,by omega,by go_num,H4.out.acc (by rw [HJ.out];simp)⟩
    case measure=>omega
   ·have HJ:Hid (bW (dD m) t (k+1)=bW (dD m) t k++([44]++(jV (bf t k)++(58::dD m (elt t k))))):=by show bW (dD m) t k++_=_;rw [if_neg hk0]
    have aQ:Hid ((bW (dD m) t k).length+(jV (bf t k)).length+(dD m (elt t k)).length+acc.length+4<=100000000):=by show _<=_;have:=Z8.out;rw [HJ.out] at this;simp only [List.length_append,List.length_cons,List.length_nil] at this;omega
    have y0:0<k:=by omega
    have y1:(0:Int)<(k:Int):=by omega
    clear hk0;go_wp2_with fail;refine (bR w0.heap.size b _ 44 _ _ HW.out (by have:=aQ.out;simp only [List.length_append,List.length_cons,List.length_nil] at this ⊢;omega)).mono ?_;rintro e w1' ⟨rfl,Z9⟩;have HW1:=aj (HW.out.trans Z9);clear Z9 hkc;go_wp2_with fail;refine (NJ.out (acc++[123]++bW (dD m) t k++[44]) _ HW1.out (by have:=aQ.out;simp only [List.length_append,List.length_cons,List.length_nil] at this ⊢;omega)).mono ?_;rintro e w2 ⟨rfl,hw2⟩;have HW2:=aj (HW1.out.trans hw2);clear hw2 NJ;go_wp2_with fail;refine (bR w0.heap.size b _ 58 _ _ HW2.out (by have:=aQ.out;simp only [List.length_append,List.length_cons,List.length_nil] at this ⊢;omega)).mono ?_;rintro e w3 ⟨rfl,hw3⟩;have HW3:=aj (HW2.out.trans hw3);clear hw3;obtain ⟨r0,r1,r2,r3,r4⟩:=zI HW3.out.JR SC;have Hb3:=aj (WX.out.trans HW3.out.below);have HT3:=aj (HST.out _ _ WW.out HW3.out.below);obtain ⟨bb,o,A,B,C,D,rfl,hbl,p0,p1,p2,p3,p4,Ha⟩:=Hl.out.shape Hb3.out k Fz;go_wp2_with fail;refine (sN.out f _ (elt t k) _ b _ Ha.out HG.out Hb3.out HW3.out.Ko HT3.out (by have:=aQ.out;simp only [List.length_append,List.length_cons,List.length_nil] at this ⊢;omega)).mono ?_;rintro e w4 ⟨rfl,hw4⟩;have H4:=aj (HW3.out.trans hw4);clear hw4;go_wp2_with fail;go_roundg (nK t - (k+1))
    case rel=>exact ⟨k+1,rfl,by omega,by go_num,H4.out.acc (by rw [HJ.out];simp)⟩
    case measure=>omega
  ·obtain rfl:k=nK t:=by omega
   have hm0:=HM.out (nK t) hk;go_wp2_with fail;refine (bR w0.heap.size b _ 125 _ wr HW.out (by simp only [List.length_append,List.length_cons,List.length_nil];omega)).mono ?_;rintro e w2 ⟨rfl,hw2⟩;have H2:=aj (HW.out.trans hw2);clear hw2;go_wp2_with fail;refine bodyPost_end (v:=.tuple #[]) (by simp [results,Tryz.results79,go_sem]) rfl ?_;exact ⟨rfl,(X3.out.trans H2.out).acc HE.out.symm⟩
theorem IK {t:T} (hf:Cu t):(eU t).length+1<=6*cZ t:=by
 unfold eU cZ;by_cases k1:ah t=1
 ·rw [if_pos k1,if_pos k1];simp
 rw [if_neg k1,if_neg k1];by_cases k2:ah t=2
 ·rw [if_pos k2,if_pos k2];split<;>simp
 rw [if_neg k2,if_neg k2];by_cases k3:ah t=3
 ·rw [if_pos k3,if_pos k3];have:=Lib.itoa_length_le (aB t) hf.n0 hf.n1;omega
 rw [if_neg k3,if_neg k3];split
 ·have:=GV (aF t);omega
 ·simp;omega
theorem Ed {g:T->List UInt8} {h:T->Nat} {t:T}:∀ k,(∀ i,i<k->(g (elt t i)).length+1<=6*h (elt t i))->(cO g t k).length<=6*dY h t k
 | 0,_=>by simp [cO]
 | k+1,hh=>by
  have ih:=Ed k (fun i hi=>hh i (by omega));have hk:=hh k (by omega);have hc:((if k=0 then [] else [44]:List UInt8)).length<=1:=by split<;>simp
  simp only [cO,dY,List.length_append];omega
theorem Ee {g:T->List UInt8} {h:T->Nat} {t:T}:∀ k,(∀ i,i<k->(g (elt t i)).length+1<=6*h (elt t i))->(bW g t k).length<=6*(pK t k+dY h t k)
 | 0,_=>by simp [bW]
 | k+1,hh=>by
  have ih:=Ee k (fun i hi=>hh i (by omega));have hk:=hh k (by omega);have hc:((if k=0 then [] else [44]:List UInt8)).length<=1:=by split<;>simp
  have hq:=GV (bf t k);simp only [bW,dY,pK,List.length_append,List.length_cons];omega
theorem qj {t:T} (h:bF t):ah t≠5/\ah t≠6:=by
 obtain ⟨_,_,h⟩:=h;rcases h with ⟨h,_⟩ | ⟨h,_⟩ | ⟨h,_⟩ | ⟨h,_⟩<;>omega
theorem KX {w:World}:∀ (m f:Nat) (v:Value) (t:T),At w f v t->fJ m t->(dD m t).length+1<=6*aN m t
 | 0,f,v,t,h,hg=>by
  obtain ⟨g,La,Ka,Lc,Kc,_,_,hf,_⟩:=h.open;exact IK hf
 | m+1,f,v,t,h,hg=>by
  obtain ⟨g,La,Ka,Lc,Kc,_,_,hf,hl,_⟩:=h.open;rcases hg with hg | ⟨_,_,he,hk⟩
  ·obtain ⟨k5,k6⟩:=qj hg;unfold dD aN;rw [if_neg k5,if_neg k6,if_neg k5,if_neg k6];exact IK hf
  ·have hi:∀ i,i<nL t->(dD m (elt t i)).length+1<=6*aN m (elt t i):=fun i hi=>by
    obtain ⟨b,o,c0,c1,c2,c3,c4,_,_,_,_,_,_,_,ha⟩:=hl.out i hi;exact KX m g _ _ ha.out (he i hi)
   unfold dD aN;rcases hk with ⟨k5,_⟩ | ⟨k6,hnk,_⟩
   ·rw [if_pos k5,if_pos k5];have:=Ed (g:=dD m) (h:=aN m) (nL t) hi;simp only [List.length_cons,List.length_append,List.length_nil];omega
   ·have k5:ah t≠5:=by omega
    rw [if_neg k5,if_pos k6,if_neg k5,if_pos k6,hnk];have:=Ee (g:=dD m) (h:=aN m) (nL t) hi;simp only [List.length_cons,List.length_append,List.length_nil];omega
theorem KY {Tb:World->Prop} (hF:pU Tb) (w0:World) (hS:dB Tb w0.heap.size) (m:Nat) (ih:AL Tb w0 m):AL Tb w0 (m+1):=by
 intro f v t acc b w h hg hb hi hT hl;obtain ⟨g,La,Ka,Lc,Kc,rfl,rfl,hf,hl',hk'⟩:=h.open;rcases hg with hg | ⟨g1,g2,he,hk⟩
 ·obtain ⟨k5,k6⟩:=qj hg;rw [GX k5 k6] at hl ⊢;exact AO hF w0 hS t hg hf acc b w La Ka Lc Kc hb hi hT hl
 clear g1 g2;have HS:=aj (uh.start hi hb.size);have HB1:=aj (bG w (vC t La Lc Ka Kc));have Dy:=aj (HS.out.keep HB1.out);have HT1:=aj (hS _ _ hT (HB1.out.mono hb.size));have Hb1:=aj (hb.trans Dy.out.below);rcases hk with ⟨hk,g3⟩ | ⟨hk,hnk,g4,g5⟩
 ·have e1:(ah t==1)=false:=by rw [hk];rfl
  have e2:(ah t==2)=false:=by rw [hk];rfl
  have e3:(ah t==3)=false:=by rw [hk];rfl
  have e4:(ah t==4)=false:=by rw [hk];rfl
  have e5:(ah t==5)=true:=by rw [hk];rfl
  have HW:Hid (dD (m+1) t=91::(cO (dD m) t (nL t)++[93])):=by show _=_;rw [dD,if_pos hk]
  rw [HW.out] at hl ⊢;have HP:=aj (CU w0 hS m ih g La Lc t acc b _ hl'.out hf.l1 he Hb1.out Dy.out.Ko HT1.out (by simp only [List.length_cons,List.length_append,List.length_nil] at hl;omega));clear hk hl g3 he hi hT hb hf hl' hk' ih hS hF h;go_in;go_wp2_with fail;refine HP.out.mono ?_;rintro e w2 ⟨rfl,hw2⟩;have H2:=aj (Dy.out.trans hw2);clear hw2 HP;go_wp2_with fail;refine bodyPost_end (v:=.tuple #[]) (by simp [results,Tryz.results41,go_sem]) rfl ?_;exact ⟨rfl,H2.out⟩
 ·have e1:(ah t==1)=false:=by rw [hk];rfl
  have e2:(ah t==2)=false:=by rw [hk];rfl
  have e3:(ah t==3)=false:=by rw [hk];rfl
  have e4:(ah t==4)=false:=by rw [hk];rfl
  have e5:(ah t==5)=false:=by rw [hk];rfl
  have e6:(ah t==6)=true:=by rw [hk];rfl
  have HW:Hid (dD (m+1) t=123::(bW (dD m) t (nK t)++[125])):=by show _=_;rw [dD,if_neg (by omega),if_pos hk]
  rw [HW.out] at hl ⊢;have HP:=aj (yU w0 hS m ih g La Ka Lc Kc t acc b _ hl'.out hk'.out hf.l1 (by rw [hnk];exact hf.l1) hnk he Hb1.out Dy.out.Ko HT1.out (by simp only [List.length_cons,List.length_append,List.length_nil] at hl;omega));clear hk hl g4 g5 hnk he hi hT hb hf hl' hk' ih hS hF h;go_in;go_wp2_with fail;refine HP.out.mono ?_;rintro e w2 ⟨rfl,hw2⟩;have H2:=aj (Dy.out.trans hw2);clear hw2 HP;go_wp2_with fail;refine bodyPost_end (v:=.tuple #[]) (by simp [results,Tryz.results41,go_sem]) rfl ?_;exact ⟨rfl,H2.out⟩
theorem Ef {Tb:World->Prop} (hF:pU Tb) (w0:World) (hS:dB Tb w0.heap.size):∀ m,AL Tb w0 m
 | 0=>by
  intro f v t acc b w h hg hb hi hT hl;obtain ⟨g,La,Ka,Lc,Kc,rfl,rfl,hf,_,_⟩:=h.open;exact AO hF w0 hS t hg hf acc b w La Ka Lc Kc hb hi hT hl
 | m+1=>KY hF w0 hS m (Ef hF w0 hS m)
def X4 (ok:Bool) (l:List UInt8):ByteArray:=if ok then bY l else ⟨#[]⟩
def aac (ok:Bool):Int:=if ok then 0 else 5
theorem KZ {Tb:World->Prop} (hV:dL Tb) (hF:pU Tb) (hL:fG Tb) (f:Nat) (v:Value) (t:T) (w:World) (h:At w f v t) (hT:Tb w) :
  Calls Tryz.prog 13 #[v] w fun e w'=>e=.returned (.tuple #[.string (X4 (DN t) (dD 12 t)),.int .i64 (aac (DN t))])/\Below w.heap.size w w':=by
 have HA:=aj h;have HT:=aj hT;have HF:=aj hF;have HL:=aj hL;have HV:=aj hV;obtain ⟨f1,La,Ka,Lc,Kc,hf1,rfl,hf,hl,hk⟩:=h.open;clear h hf hf1 hl hk hT hF hL hV;have HB1:=aj (bG w (vC t La Lc Ka Kc));have HI:=aj (yj HV.out HL.out f _ t _ (HA.out.keep HB1.out) (HL.out w HT.out _ _ HT.out HB1.out));go_in;go_wp2_with fail;refine HI.out.mono ?_;rintro e w2 ⟨rfl,b2⟩;have HB2:Hid (Below (w.heap.size+1) (w.alloc (vC t La Lc Ka Kc)) w2):=b2.mono (by simp);obtain ⟨q0,q1,q2,q3,q4,hz,hbw⟩:=aI HB2.out;have dH:=aj hbw;clear b2 hbw HI;cases hi:DN t with
 | false =>
  have Hi:=aj hi;clear hi;go_wp2_with fail;go_ret2;exact ⟨by rw [Hi.out];rfl,dH.out⟩
 | true =>
  have Hi:=aj hi;have HG:=aj ((kr t).1 hi);have HT2:=aj (HL.out w HT.out _ _ HT.out dH.out);have HA2:=aj (HA.out.keep dH.out);have HW:=aj (KX 12 f _ t HA2.out HG.out.1);have HFr:Hid (Lib.IsBuilderF 65 5 w2.heap.size w2.heap.size (Lib.byteCells []) (w2.alloc (.cells #[.pointer none,.slice none 0 0] 65))):=Lib.IsBuilderF.of (Lib.fresh_isBuilder 65 5 w2);have jQ:=aj (bG w2 (.cells #[.pointer none,.slice none 0 0] 65));have HP:=aj (Ef HF.out w2 (HL.out w2 HT2.out) 12 f _ t [] w2.heap.size _ HA2.out HG.out.1 jQ.out HFr.out (HL.out w2 HT2.out _ _ HT2.out jQ.out) (by have:=HW.out;have:=HG.out.2;simp only [List.length_nil];omega));clear hi;go_wp2_with fail;refine HP.out.mono ?_;rintro e w3 ⟨rfl,hw3⟩;have H3:=aj hw3;have HB3:=aj (dH.out.trans ((jQ.out.trans hw3.below).mono (Nat.le_of_lt hz)));clear hw3 HP;go_wp2_with fail;refine (Aw w2.heap.size w2.heap.size _ _ H3.out.Ko H3.out.lo').mono ?_;rintro e w4 ⟨rfl,b4⟩;have bO:=aj (HB3.out.trans (b4.mono (Nat.le_of_lt hz)));clear b4;go_wp2_with fail;go_ret2;exact ⟨by rw [Hi.out];rfl,bO.out⟩
def vW (t:T):ByteArray:=X4 (DN t) (dD 12 t)
def J4 (d:T):Nat->List Value
 | 0=>[]
 | k+1=>J4 d k++[.string (vW (elt d k))]
theorem FH {Tb:World->Prop} (hV:dL Tb) (hF:pU Tb) (hL:fG Tb) (d:T) (f:Nat) (La:Option Addr) (Lc:Nat) (w:World) (hl:bC w f La d) (hn:nL d<=1000000) (hT:Tb w) :
  Calls Tryz.prog 64 #[.slice La (nL d) Lc] w fun e w'=>Below w.heap.size w w'/\∃ sv,e=.returned sv/\w'.ownsRow w.heap.size 9 1 sv (nL d) (J4 d (nL d)):=by
 obtain ⟨iS,Rk,Rl,Rm,Rn⟩:=info_parts Dz;have Hl:=aj hl;have HP:Hid (∀ (v:Value) (t:T) (w:World),At w f v t->Tb w->Calls Tryz.prog 13 #[v] w fun e w'=>e=.returned (.tuple #[.string (vW t),.int .i64 (aac (DN t))])/\Below w.heap.size w w'):=fun v t w h hT=>KZ hV hF hL f v t w h hT;have HT:Hid (∀ w':World,Below w.heap.size w w'->Tb w'):=fun w' hb=>hL w hT w w' hT hb;clear hl hT hL hV hF;go_in;go_wp2_with fail;go_loopg [3,10] (nL d) (fun g o i wr=>∃ (k:Nat),g=nL d - k/\k<=nL d/\i=.int .i64 k/\Hid (wr.ownsRow w.heap.size 9 1 o k (J4 d k))/\Hid (Below w.heap.size w wr))
 case atStart=>exact ⟨0,rfl,Nat.zero_le _,rfl,World.ownsRow_nil _ _ _ _,Below.refl _ _⟩
 case round =>
  obtain ⟨k,rfl,hk,rfl,HR,HB⟩:=hrel;by_cases hlt:k<nL d
  ·obtain ⟨bb,oo,A,B,C,D,rfl,hbl,p0,p1,p2,p3,p4,Ha⟩:=Hl.out.shape HB.out k hlt;have sG:=aj (bG wr (vC (elt d k) A B C D));have HB2:=aj (HB.out.trans (sG.out.mono HB.out.size));have HC:=aj (HP.out _ (elt d k) _ (Ha.out.keep HB2.out) (HT.out _ HB2.out));go_wp2_with fail;refine HC.out.mono ?_;rintro e w2 ⟨rfl,b2⟩;have HB3:=aj (HB2.out.trans (b2.mono HB2.out.size));have bO:=aj (HB3.out.alloc HB3.out.size (.cells #[.string (vW (elt d k))] 9));have HR4:Hid ((w2.alloc (.cells #[.string (vW (elt d k))] 9)).ownsRow w.heap.size 9 1 u3 k (J4 d k)):=dQ (dQ HR.out fun b _ h2=>(b2.block b (Nat.lt_of_lt_of_le h2 sG.out.size)).trans (sG.out.block b h2)) fun b _ h2=>((Below.refl w2.heap.size w2).alloc (Nat.le_refl _) (.cells #[.string (vW (elt d k))] 9)).block b h2;have qd:Hid (Src Tryz.prog 1 23 (.slice (some ⟨w2.heap.size,0,none⟩) 1 1) 1 [.string (vW (elt d k))] (w2.alloc (.cells #[.string (vW (elt d k))] 9))):=Src.ofSlice _ Tryz.underlying23 ⟨w2.heap.size,0,none⟩ 1 1 [.string (vW (elt d k))] (by simp) (World.news_of_block (heap_alloc_new w2 _)) (by simp [Value.oneCell']);have hlo:=bO.out.size;clear b2 HC;go_wp2_with (at_builtin;refine ay _ rfl (.tmp 19) (.tmp 21) 23 23 rfl w.heap.size 9 iS _ 1 16 Tryz.underlying23 Rk Rl Rm Rn rfl u3 k (J4 d k) rfl HR4.out (.slice (some ⟨w2.heap.size,0,none⟩) 1 1) 1 [.string (vW (elt d k))] rfl qd.out (by unfold maxLen;omega) (by omega) hlo ?_;intro v' w6 gU gQ bI)
   have Vu:Hid (w6.ownsRow w.heap.size 9 1 v' (k+1) (J4 d (k+1))):=gU;have pX:=aj (jo bO.out HR4.out (Nat.le_refl _) hlo gQ);clear gU gQ bI;go_wp2_with fail;go_roundg (nL d - (k+1))
   case rel=>exact ⟨k+1,rfl,by omega,by go_num,Vu,pX⟩
   case measure=>omega
  ·obtain rfl:k=nL d:=by omega
   go_wp2_with fail;go_ret;exact ⟨HB.out,_,rfl,HR.out⟩
theorem mg {xs:List Value} {j:Nat} (h:j<xs.length):xs[j]?=some (cx xs j):=by unfold cx;rw [List.getElem?_eq_getElem h];rfl
theorem rJ.elems {w0:World} {f:Nat} {hv:Value} {l:List T} {xs:List Value} {wr:World} (h:rJ w0 f hv l xs wr):∃ La Lc,hv=.slice La l.length Lc/\bC wr f La (dU 5 0 ByteArray.empty l []):=by
 have hx:xs.length=l.length*5:=h.row.1;rcases h.row.2 with ⟨rfl,hn⟩ | ⟨g,cap,cur,rfl,hb0,hg,rest⟩
 ·refine ⟨none,0,by rw [hn],fun i hi=>?_⟩;rw [cK] at hi;omega
 ·refine ⟨_,_,rfl,fun i hi=>?_⟩;rw [cK] at hi;have hc:∀ j,j<5->wr.cell? ⟨g,i*5+j,none⟩=some (cx xs (i*5+j)):=fun j hj=>jH h.row (mg (by omega));have e:elt (dU 5 0 ByteArray.empty l []) i=l[i]:=by rw [pO,List.getD_eq_getElem?_getD,List.getElem?_eq_getElem hi];rfl
  refine ⟨g,0,cx xs (i*5),cx xs (i*5+1),cx xs (i*5+2),cx xs (i*5+3),cx xs (i*5+4),rfl,(Array.getElem?_eq_some_iff.1 hg).1,(by rw [Nat.zero_add];exact hc 0 (by omega)),(by rw [Nat.zero_add];exact hc 1 (by omega)),(by rw [Nat.zero_add];exact hc 2 (by omega)),(by rw [Nat.zero_add];exact hc 3 (by omega)),(by rw [Nat.zero_add];exact hc 4 (by omega)),?_⟩;rw [e];exact At.keep h.low (h.at_ i hi)
def jr (n:Int) (k:Nat):UInt8:=UInt8.ofNat (n / 256 ^ k % 256).toNat
theorem mW (n:Int) (k:Nat):((jr n k).toNat:Int)=n / 256 ^ k % 256:=by
 unfold jr;rw [UInt8.toNat_ofNat'];have h0:=Int.emod_nonneg (n / 256 ^ k) (show (256:Int)≠0 by decide);have h1:=Int.emod_lt_of_pos (n / 256 ^ k) (show (0:Int)<256 by decide);omega
theorem aad {a b:UInt8} (h:(a.toNat:Int)=b.toNat):a=b:=UInt8.toNat_inj.1 (by omega)
def jS (n:Int):Nat->List UInt8
 | 0=>[]
 | k+1=>jr n k::jS n k
theorem bE (n:Int):∀ k,(jS n k).length=k
 | 0=>rfl
 | k+1=>by simp [jS,bE n k]
theorem Vv (k:Nat) (h:k<8):∃ c:Int,(18446744073709551616:Int)=256 ^ k*(256*c):=by
 have:∀ k:Fin 8,(18446744073709551616:Int)=256 ^ k.1*(256*(256 ^ (7 - k.1))):=by decide
 exact ⟨_,this ⟨k,h⟩⟩
theorem O8 (n:Int) (k:Nat) (h:k<8):jr (n % 18446744073709551616) k=jr n k:=by
 apply aad;rw [mW,mW];obtain ⟨c,hc⟩:=Vv k h
 have hp:(256:Int) ^ k≠0:=by
  have:(0:Int)<256 ^ k:=Int.pow_pos (by decide);omega
 have e:=Int.emod_add_mul_ediv n 18446744073709551616;generalize n % 18446744073709551616=r at e ⊢;generalize n / 18446744073709551616=q at e;rw [<- e,hc,Int.mul_assoc,Int.add_mul_ediv_left _ _ hp,Int.mul_assoc,Int.add_mul_emod_self_left]
theorem IL (n:Int):∀ k,k<=8->jS (n % 18446744073709551616) k=jS n k
 | 0,_=>rfl
 | k+1,h=>by rw [jS,jS,O8 n k (by omega),IL n k (by omega)]
def aX (t:T):UInt8:=jr (ah t) 0
def gM (t:T):List UInt8 :=
 aX t::(if ah t=2 then [jr (aB t) 0] else if ah t=3 then jS (aB t) 8 else if ah t=4 then jS (aF t).size 4++(aF t).data.toList else [])
def Bq (t:T) (k:Nat):List UInt8:=if ah t=6 then jS (bf t k).size 2++(bf t k).data.toList else []
def dW (g:T->List UInt8) (t:T):Nat->List UInt8
 | 0=>[]
 | k+1=>dW g t k++(Bq t k++g (elt t k))
def yV (t:T) (body:List UInt8):List UInt8:=aX t::(jS body.length 4++body)
def bK:Nat->T->List UInt8
 | 0,t=>gM t
 | m+1,t=>if ah t=5\/ah t=6 then yV t (dW (bK m) t (nL t)) else gM t
theorem Eh {m:Nat} {t:T} (h5:ah t≠5) (h6:ah t≠6):bK m t=gM t:=by
 cases m with
 | zero=>rfl
 | succ m=>unfold bK;rw [if_neg (by omega)]
theorem IQ {m:Nat} {t:T} (h:ah t=5\/ah t=6):bK (m+1) t=yV t (dW (bK m) t (nL t)):=by rw [bK,if_pos h]
theorem Ei (g : T -> List UInt8) (t : T) {k n : Nat} (h : k <= n) : (dW g t k).length <= (dW g t n).length := by
  induction n with
  | zero => have : k = 0 := by omega
            subst this; exact Nat.le_refl _
  | succ n ih =>
    by_cases e : k = n + 1
    · subst e; exact Nat.le_refl _
    · have := ih (by omega);simp only [dW, List.length_append];omega
theorem Ej {t:T} (h:bF t):(gM t).length=cZ t:=by
 obtain ⟨_,_,h⟩:=h;unfold gM cZ;rcases h with ⟨h,_⟩ | ⟨h,_⟩ | ⟨h,_⟩ | ⟨h,_⟩<;>simp [h,bE];omega
theorem El {g:T->List UInt8} {h:T->Nat} {t:T} (h5:ah t≠6):∀ k,(∀ i,i<k->(g (elt t i)).length=h (elt t i))->(dW g t k).length=dY h t k
 | 0,_=>rfl
 | k+1,hh=>by
  have ih:=El h5 k (fun i hi=>hh i (by omega));have hk:=hh k (by omega);simp only [dW,dY,Bq,if_neg h5,List.length_append,List.length_nil];omega
theorem Em {g:T->List UInt8} {h:T->Nat} {t:T} (h6:ah t=6):∀ k,(∀ i,i<k->(g (elt t i)).length=h (elt t i))->(dW g t k).length=pK t k+dY h t k
 | 0,_=>rfl
 | k+1,hh=>by
  have ih:=Em h6 k (fun i hi=>hh i (by omega));have hk:=hh k (by omega);have e:(bf t k).data.toList.length=(bf t k).size:=rfl;simp only [dW,dY,pK,Bq,if_pos h6,List.length_append,bE];omega
theorem Br:∀ (m:Nat) (t:T),fJ m t->(bK m t).length=aN m t
 | 0,t,hg=>Ej hg
 | m+1,t,hg=>by
  rcases hg with hg | ⟨_,_,he,hk⟩
  ·have k5:ah t≠5/\ah t≠6:=by
    obtain ⟨_,_,h⟩:=hg;rcases h with ⟨h,_⟩ | ⟨h,_⟩ | ⟨h,_⟩ | ⟨h,_⟩<;>omega
   unfold bK aN;rw [if_neg (by omega),if_neg k5.1,if_neg k5.2];exact Ej hg
  ·have hi:∀ i,i<nL t->(bK m (elt t i)).length=aN m (elt t i):=fun i hi=>Br m _ (he i hi);unfold bK aN;rcases hk with ⟨k5,_⟩ | ⟨k6,hnk,_⟩
   ·rw [if_pos (.inl k5),if_pos k5];have:=El (g:=bK m) (h:=aN m) (by omega) (nL t) hi;simp only [yV,List.length_cons,List.length_append,bE];omega
   ·rw [if_pos (.inr k6),if_neg (by omega),if_pos k6,hnk];have:=Em (g:=bK m) (h:=aN m) k6 (nL t) hi;simp only [yV,List.length_cons,List.length_append,bE];omega
theorem FI:(Tryz.prog.info? 5).map (fun i=>(i.zero,i.size,i.bytes))=some (some (.int .u8 0),1,1):=by kernel_rfl
structure QG (w0:World) (r:Value) (w:World) (r':Value) (acc:List UInt8) (w':World):Prop where
 row:w'.ownsRow w0.heap.size 5 1 r' acc.length (aA acc)
 grown:w.grownBy w' r.ownBlock
 own:r'.ownBlock=r.ownBlock\/∃ b,r'.ownBlock=some b/\w.heap.size<=b
theorem yw {w:World} {lo:Nat} {e:TypeId} {size n:Nat} {v:Value} {xs:List Value} (h:w.ownsRow lo e size v n xs) {b:Nat} (hb:v.ownBlock=some b):lo<=b/\b<w.heap.size:=by
 rcases h.2 with ⟨rfl,_⟩ | ⟨g,cap,cur,rfl,hb0,hg,rest⟩
 ·cases hb
 ·have:b=g:=by simpa [Value.ownBlock] using hb.symm
  subst this;exact ⟨hb0,(Array.getElem?_eq_some_iff.1 hg).1⟩
theorem O9 {w w':World} {lo:Nat} {e:TypeId} {size n:Nat} {v:Value} {xs:List Value} (h:w.ownsRow lo e size v n xs) (hb:∀ b,lo<=b->b<w.heap.size->w'.heap[b]?=w.heap[b]?):w'.ownsRow lo e size v n xs:=by
 refine ⟨h.1,?_⟩;rcases h.2 with hn | ⟨g,cap,cur,rfl,hb0,hg,rest⟩
 ·exact .inl hn
 ·exact .inr ⟨g,cap,cur,rfl,hb0,(hb g hb0 (Array.getElem?_eq_some_iff.1 hg).1).trans hg,rest⟩
theorem K7 (w:World) (r:Option Nat):w.grownBy w r:=⟨rfl,rfl,rfl,Nat.le_refl _,fun _ _ _=>rfl⟩
theorem QG.refl {w0 w:World} {r:Value} {acc:List UInt8} (h:w.ownsRow w0.heap.size 5 1 r acc.length (aA acc)):QG w0 r w r acc w:=⟨h,K7 w _,.inl rfl⟩
theorem QG.trans {w0 w w1 w2:World} {r r1 r2:Value} {a1 a2:List UInt8} (h:QG w0 r w r1 a1 w1) (k:QG w0 r1 w1 r2 a2 w2):QG w0 r w r2 a2 w2:=by
 refine ⟨k.row,⟨k.grown.os.trans h.grown.os,k.grown.tape.trans h.grown.tape,k.grown.output.trans h.grown.output,Nat.le_trans h.grown.size k.grown.size,fun b hb hne=>?_⟩,?_⟩
 ·rw [k.grown.block b (Nat.lt_of_lt_of_le hb h.grown.size) ?_,h.grown.block b hb hne];intro e;rcases h.own with h1 | ⟨c,h1,h2⟩
  ·rw [h1] at e;exact hne e
  ·rw [h1] at e;simp only [Option.some.injEq] at e;omega
 ·rcases k.own with k1 | ⟨c,k1,k2⟩
  ·rcases h.own with h1 | ⟨c,h1,h2⟩
   ·exact .inl (k1.trans h1)
   ·exact .inr ⟨c,k1.trans h1,h2⟩
  ·exact .inr ⟨c,k1,Nat.le_trans h.grown.size k2⟩
theorem QG.acc {w0 w w1:World} {r r1:Value} {a a':List UInt8} (h:QG w0 r w r1 a w1) (e:a=a'):QG w0 r w r1 a' w1:=e ▸ h
theorem QG.keep {w0 w w1 w2:World} {r r1:Value} {a1:List UInt8} (h:QG w0 r w r1 a1 w1) (k:Below w1.heap.size w1 w2):QG w0 r w r1 a1 w2 :=
 ⟨O9 h.row fun b _ h2=>k.block b h2,⟨k.os.trans h.grown.os,k.tape.trans h.grown.tape,k.output.trans h.grown.output,Nat.le_trans h.grown.size k.size,fun b hb hne=>(k.block b (Nat.lt_of_lt_of_le hb h.grown.size)).trans (h.grown.block b hb hne)⟩,h.own⟩
theorem QG.grow {w0 w w1 w2:World} {r r1 r2:Value} {acc l:List UInt8} (h:QG w0 r w r1 acc w1) (hO:w2.ownsRow w0.heap.size 5 1 r2 (acc.length+l.length) (aA acc++aA l)) (hG:w1.grownBy w2 r1.ownBlock) (hat:r2.ownBlock=r1.ownBlock\/r2.ownBlock=some w1.heap.size):QG w0 r w r2 (acc++l) w2 :=
 h.trans ⟨by rw [List.length_append,kF];exact hO,hG,hat.imp id fun h=>⟨_,h,Nat.le_refl _⟩⟩
theorem QG.below {w0 w w1:World} {r r1:Value} {a a1:List UInt8} (h:QG w0 r w r1 a1 w1) (hr:w.ownsRow w0.heap.size 5 1 r a.length (aA a)) (hb:Below w0.heap.size w0 w):Below w0.heap.size w0 w1 :=
 ⟨h.grown.os.trans hb.os,h.grown.tape.trans hb.tape,h.grown.output.trans hb.output,Nat.le_trans hb.size h.grown.size,fun k hk=>(h.grown.block k (Nat.lt_of_lt_of_le hk hb.size) (fun e=>by have:=(yw hr e.symm).1;omega)).trans (hb.block k hk)⟩
theorem QG.box {w0 w w1:World} {r r1:Value} {a a1:List UInt8} {c0 c1 c2 c3 c4:Value} (hr:w.ownsRow w0.heap.size 5 1 r a.length (aA a)) (h:QG w0 r (w.alloc (.cells #[c0,c1,c2,c3,c4] 25)) r1 a1 w1) :
  w1.cell? ⟨w.heap.size,0,none⟩=some c0/\w1.cell? ⟨w.heap.size,1,none⟩=some c1/\w1.cell? ⟨w.heap.size,2,none⟩=some c2/\w1.cell? ⟨w.heap.size,3,none⟩=some c3/\w1.cell? ⟨w.heap.size,4,none⟩=some c4/\w.heap.size<w1.heap.size:=by
 have hz:=h.grown.size;have hb:w1.heap[w.heap.size]?=(w.alloc (.cells #[c0,c1,c2,c3,c4] 25)).heap[w.heap.size]?:=h.grown.block w.heap.size (by simp) (fun e=>by have:=(yw hr e.symm).2;omega);refine ⟨?_,?_,?_,?_,?_,by simp at hz;omega⟩
 ·rw [World.cell?_of_block (a:=⟨w.heap.size,0,none⟩) hb];simp [go_sem]
 ·rw [World.cell?_of_block (a:=⟨w.heap.size,1,none⟩) hb];simp [go_sem]
 ·rw [World.cell?_of_block (a:=⟨w.heap.size,2,none⟩) hb];simp [go_sem]
 ·rw [World.cell?_of_block (a:=⟨w.heap.size,3,none⟩) hb];simp [go_sem]
 ·rw [World.cell?_of_block (a:=⟨w.heap.size,4,none⟩) hb];simp [go_sem]
theorem IU (w:World) (l:List UInt8) (j:Nat) (u:Value) (hj:(aA l)[j]?=some u):(w.alloc (.cells (aA l).toArray 5)).cell? ((⟨w.heap.size,0,none⟩:Addr).add j)=some u:=by
 have e0:(w.alloc (.cells (aA l).toArray 5)).heap[w.heap.size]?=some (.cells (aA l).toArray 5):=by show (w.heap.push _)[w.heap.size]?=_;simp
 have e1:((⟨w.heap.size,0,none⟩:Addr).add j)=⟨w.heap.size,j,none⟩:=by simp [Addr.add];intro h;exact h.symm
 rw [e1];unfold World.cell?;rw [e0];show (if _ then none else (aA l).toArray[j]?)=some u;rw [if_neg (by simp)];simpa using hj
theorem qm (w:World) (l:List UInt8):Src Tryz.prog 1 63 (.slice (some ⟨w.heap.size,0,none⟩) l.length l.length) l.length (aA l) (w.alloc (.cells (aA l).toArray 5)) :=
 Src.ofSlice _ Tryz.underlying63 ⟨w.heap.size,0,none⟩ l.length l.length (aA l) (by rw [dO];omega) (IU w l) (fun u hu=>by obtain ⟨b,_,rfl⟩:=List.mem_map.1 hu;rfl)
end Go.Proofs.YtknakfpciccoaaaGreatDoor
/- Bytes and values, pure: what was written is read as it was. -/
namespace Go.Proofs.YtknakfpciccoaaaGreatDoor
open Go.RowKit
end Go.Proofs.YtknakfpciccoaaaGreatDoor
/- Texts and values, pure: what was written is read as it was: texts and numbers. -/
namespace Go.Proofs.YtknakfpciccoaaaGreatDoor
open Go.RowKit
theorem yx {a b:ByteArray}:∀ k,(∀ j,j<=k->bt a j=bt b j)->bV a k=bV b k
 | 0,_=>rfl
 | k+1,h=>by rw [bV,bV,yx k (fun j hj=>h j (by omega)),h (k+1) (Nat.le_refl _)]
theorem En {a b:ByteArray} (c:Int):∀ k,(∀ j,j<=k->bt a j=bt b j)->mI a c k=mI b c k
 | 0,_=>rfl
 | k+1,h=>by rw [mI,mI,En c k (fun j hj=>h j (by omega)),h (k+1) (Nat.le_refl _)]
theorem xB {a b:ByteArray} {n:Nat} {least c:Int} (hn:0<n) (h0:lI a n least c≠0) (hb:lI a n least c<=b.size) (h:∀ j,j<lI a n least c->bt a j=bt b j):lI b n least c=lI a n least c:=by
 have hn2:lI a n least c=n:=by
  unfold lI at h0 ⊢;split
  ·rename_i h1;rw [if_pos h1] at h0;exact absurd rfl h0
  ·rename_i h1;rw [if_neg h1] at h0;split
   ·rename_i h2;rw [if_pos h2] at h0;exact absurd rfl h0
   ·rename_i h2;rw [if_neg h2] at h0;split
    ·rename_i h3;rw [if_pos h3] at h0;exact absurd rfl h0
    ·rfl
 rw [hn2] at hb h;have e1:=yx (a:=a) (b:=b) (n - 1) (fun j hj=>h j (by omega));have e2:=En (a:=a) (b:=b) c (n - 1) (fun j hj=>h j (by omega));have ha:=h0;unfold lI at ha ⊢;rw [if_neg (by omega),<- e1,<- e2];split at ha
 ·exact absurd rfl ha
 ·rename_i h1;rw [if_neg h1]
theorem Pb {a b:ByteArray} (h0:aW a≠0) (hb:aW a<=b.size) (h:∀ j,j<aW a->bt a j=bt b j):aW b=aW a:=by
 have hb0:bt b 0=bt a 0:=(h 0 (by omega)).symm;unfold aW at h0 hb h ⊢;rw [hb0];split
 ·rfl
 ·rename_i h1;rw [if_neg h1] at h0 hb h;split
  ·rename_i h2;rw [if_pos h2] at h0 hb h;exact xB (by omega) h0 hb h
  ·rename_i h2;rw [if_neg h2] at h0 hb h;split
   ·rename_i h3;rw [if_pos h3] at h0 hb h;exact xB (by omega) h0 hb h
   ·rename_i h3;rw [if_neg h3] at h0 hb h;split
    ·rename_i h4;rw [if_pos h4] at h0 hb h;exact xB (by omega) h0 hb h
    ·rfl
theorem mX (l:List UInt8) (j:Nat):bt (bY l) j=(l.getD j 0).toNat:=by rw [uT,kQ]
end Go.Proofs.YtknakfpciccoaaaGreatDoor
/- Texts and values, pure: what was printed is parsed as it was. -/
namespace Go.Proofs.YtknakfpciccoaaaGreatDoor
open Go.RowKit
theorem xC {a l:List UInt8} (h0:a≠[]) (hu:aW (bY (a++l))=a.length):Lib.validD (a++l)=Lib.validD l:=by
 have hne:a++l≠[]:=by simp [h0]
 have hp:0<a.length:=List.length_pos_iff.2 h0;have hd:=tZ (bY (a++l));rw [kQ] at hd;have h2:=qR (bY (a++l));rw [<- hd,hu] at h2;rw [Lib.validD_step _ hne];split at h2
 ·omega
 ·rename_i h3;rw [if_neg h3,<- h2,List.drop_left]
theorem K8 {s:ByteArray} {n:Nat} {least c0 r:Int} (hs:n<=s.size) (hc:bV s (n - 1)=true) (hr:mI s c0 (n - 1)=r) (hb:bM least r=false):lI s n least c0=n:=by
 unfold lI;rw [if_neg (by omega),hc,hr,hb];simp
theorem kH {x:Int} (h0:0<=x) (h1:x<256):((x.toNat.toUInt8).toNat:Int)=x:=by
 rw [Nat.toUInt8,UInt8.toNat_ofNat'];omega
theorem IV {r:Int} (h0:0<=r) (h1:r<=1114111) (h2:r<55296\/57343<r) (l:List UInt8):aW (bY (Lib.encodeRune r++l))=(Lib.encodeRune r).length:=by
 by_cases c1:r<=127
 ·have e:Lib.encodeRune r=[r.toNat.toUInt8]:=by unfold Lib.encodeRune;rw [Lib.encodeRuneZ_one h0 c1];rfl
  have b0:=kH h0 (show r<256 by omega);rw [e];unfold aW;rw [mX,if_pos (by simp only [List.cons_append,List.getD_cons_zero];omega)];rfl
 ·by_cases c2:r<=2047
  ·have e:Lib.encodeRune r=[(192+r / 64).toNat.toUInt8,(128+r % 64).toNat.toUInt8]:=by unfold Lib.encodeRune;rw [Lib.encodeRuneZ_two (by omega) c2];rfl
   have b0:=kH (x:=192+r / 64) (by omega) (by omega);have b1:=kH (x:=128+r % 64) (by omega) (by omega);rw [e];generalize (192+r / 64).toNat.toUInt8=x0 at *;generalize (128+r % 64).toNat.toUInt8=x1 at *;have t0:bt (bY ([x0,x1]++l)) 0=x0.toNat:=by rw [mX];rfl
   have t1:bt (bY ([x0,x1]++l)) 1=x1.toNat:=by rw [mX];rfl
   unfold aW;rw [t0,if_neg (by omega),if_pos (by omega)];refine K8 (r:=r) (by rw [fA];simp) ?_ ?_ ?_
   ·simp only [bV,Bool.true_and];rw [t1,decide_eq_true (by omega),decide_eq_true (by omega)];rfl
   ·simp only [mI];rw [t1];omega
   ·unfold bM;simp;omega
  ·by_cases c3:r<=65535
   ·have e:Lib.encodeRune r=[(224+r / 4096).toNat.toUInt8,(128+r / 64 % 64).toNat.toUInt8,(128+r % 64).toNat.toUInt8]:=by unfold Lib.encodeRune;rw [Lib.encodeRuneZ_three (by omega)];rfl
    have b0:=kH (x:=224+r / 4096) (by omega) (by omega);have b1:=kH (x:=128+r / 64 % 64) (by omega) (by omega);have b2:=kH (x:=128+r % 64) (by omega) (by omega);rw [e];generalize (224+r / 4096).toNat.toUInt8=x0 at *;generalize (128+r / 64 % 64).toNat.toUInt8=x1 at *;generalize (128+r % 64).toNat.toUInt8=x2 at *;have t0:bt (bY ([x0,x1,x2]++l)) 0=x0.toNat:=by rw [mX];rfl
    have t1:bt (bY ([x0,x1,x2]++l)) 1=x1.toNat:=by rw [mX];rfl
    have t2:bt (bY ([x0,x1,x2]++l)) 2=x2.toNat:=by rw [mX];rfl
    unfold aW;rw [t0,if_neg (by omega),if_neg (by omega),if_pos (by omega)];refine K8 (r:=r) (by rw [fA];simp) ?_ ?_ ?_
    ·simp only [bV,Bool.true_and];rw [t1,t2,decide_eq_true (by omega),decide_eq_true (by omega),decide_eq_true (by omega),decide_eq_true (by omega)];rfl
    ·simp only [mI];rw [t1,t2];omega
    ·unfold bM;simp;omega
   ·have e:Lib.encodeRune r=[(240+r / 262144).toNat.toUInt8,(128+r / 4096 % 64).toNat.toUInt8,(128+r / 64 % 64).toNat.toUInt8,(128+r % 64).toNat.toUInt8]:=by unfold Lib.encodeRune;rw [Lib.encodeRuneZ_four (by omega) (by omega)];rfl
    have b0:=kH (x:=240+r / 262144) (by omega) (by omega);have b1:=kH (x:=128+r / 4096 % 64) (by omega) (by omega);have b2:=kH (x:=128+r / 64 % 64) (by omega) (by omega);have b3:=kH (x:=128+r % 64) (by omega) (by omega);rw [e];generalize (240+r / 262144).toNat.toUInt8=x0 at *;generalize (128+r / 4096 % 64).toNat.toUInt8=x1 at *;generalize (128+r / 64 % 64).toNat.toUInt8=x2 at *;generalize (128+r % 64).toNat.toUInt8=x3 at *;have t0:bt (bY ([x0,x1,x2,x3]++l)) 0=x0.toNat:=by rw [mX];rfl
    have t1:bt (bY ([x0,x1,x2,x3]++l)) 1=x1.toNat:=by rw [mX];rfl
    have t2:bt (bY ([x0,x1,x2,x3]++l)) 2=x2.toNat:=by rw [mX];rfl
    have t3:bt (bY ([x0,x1,x2,x3]++l)) 3=x3.toNat:=by rw [mX];rfl
    unfold aW;rw [t0,if_neg (by omega),if_neg (by omega),if_neg (by omega),if_pos (by omega)];refine K8 (r:=r) (by rw [fA];simp) ?_ ?_ ?_
    ·simp only [bV,Bool.true_and];rw [t1,t2,t3,decide_eq_true (by omega),decide_eq_true (by omega),decide_eq_true (by omega),decide_eq_true (by omega),decide_eq_true (by omega),decide_eq_true (by omega)];rfl
    ·simp only [mI];rw [t1,t2,t3];omega
    ·unfold bM;simp;omega
theorem NK (r:Int):Lib.encodeRune r≠[]:=by
 unfold Lib.encodeRune Lib.encodeRuneZ;split
 ·simp
 ·split
  ·simp
  ·split
   ·simp
   ·split<;>simp
theorem Pd (r:Int):(Lib.encodeRune r).length<=4:=by
 unfold Lib.encodeRune;rw [List.length_map];exact Lib.encodeRuneZ_length_le r
theorem Pe {r:Nat} (h:r<128):(Lib.encodeRune (r:Int)).length=1:=by
 unfold Lib.encodeRune;rw [List.length_map,Lib.encodeRuneZ_one (by omega) (by omega)];rfl
theorem SE {s:ByteArray} {i a r e:Nat} (ha:a<65536) (h:low s i a=some (r,e)):i<=e/\r<=1114111/\(r<55296\/57343<r):=by
 unfold low at h;split at h
 ·simp only [Option.some.injEq,Prod.mk.injEq] at h;omega
 ·split at h
  ·cases h
  ·split at h
   ·cases hh:lJ s (i+2) with
    | none=>rw [hh] at h;cases h
    | some b =>
     rw [hh] at h;simp only [Option.bind_some] at h;split at h
     ·cases h
     ·simp only [Option.some.injEq,Prod.mk.injEq] at h;omega
   ·cases h
theorem SF {s:ByteArray} {i r e:Nat} (h:kM s i=some (r,e)):(∀ l,Lib.validD (Lib.encodeRune (r:Int)++l)=Lib.validD l)/\i+(Lib.encodeRune (r:Int)).length<=e:=by
 have esc:∀ c,c<128->i+2<=e->r=c->(∀ l,Lib.validD (Lib.encodeRune (r:Int)++l)=Lib.validD l)/\i+(Lib.encodeRune (r:Int)).length<=e:=by
  intro c hc he hr;subst hr;exact ⟨fun l=>xC (NK _) (IV (by omega) (by omega) (by omega) l),by rw [Pe hc];omega⟩
 by_cases GH:cB s i=92
 ·unfold kM at h;rw [if_pos GH] at h;unfold dw at h;split at h
  ·rename_i hh;simp only [Option.some.injEq,Prod.mk.injEq] at h;exact esc (cB s (i+1)) (by omega) (by omega) (by omega)
  ·split at h
   ·simp only [Option.some.injEq,Prod.mk.injEq] at h;exact esc 8 (by omega) (by omega) (by omega)
   ·split at h
    ·simp only [Option.some.injEq,Prod.mk.injEq] at h;exact esc 12 (by omega) (by omega) (by omega)
    ·split at h
     ·simp only [Option.some.injEq,Prod.mk.injEq] at h;exact esc 10 (by omega) (by omega) (by omega)
     ·split at h
      ·simp only [Option.some.injEq,Prod.mk.injEq] at h;exact esc 13 (by omega) (by omega) (by omega)
      ·split at h
       ·simp only [Option.some.injEq,Prod.mk.injEq] at h;exact esc 9 (by omega) (by omega) (by omega)
       ·split at h
        ·cases hx:lJ s (i+1+1) with
         | none=>rw [hx] at h;cases h
         | some a =>
          rw [hx] at h;simp only [Option.bind_some] at h;have h1:=eZ hx;have h2:=SE (by omega) h;have h3:=Pd (r:Int);exact ⟨fun l=>xC (NK _) (IV (by omega) (by omega) (by omega) l),by omega⟩
        ·cases h
 ·by_cases hi:i<s.size
  ·by_cases hb:cB s i<32\/aW (nE s i)=0
   ·rw [Aj hi GH hb] at h;cases h
   ·obtain ⟨r',h1,h2,h3⟩:=Dr hi GH (by omega) (by omega);rw [h1] at h;simp only [Option.some.injEq,Prod.mk.injEq] at h;obtain ⟨rfl,rfl⟩:=h
    have hl:(s.extract i (i+aW (nE s i))).data.toList.length=aW (nE s i):=by
     rw [kN,List.length_take,List.length_drop];have:s.data.toList.length=s.size:=rfl;omega
    rw [h2];refine ⟨fun l=>xC (by intro e;rw [e] at hl;simp at hl;omega) ?_,by omega⟩;rw [hl];refine Pb (by omega) (by rw [fA,List.length_append,hl];omega) fun j hj=>?_;rw [Kg,mX,uT]
    congr 1
    simp only [List.getD_eq_getElem?_getD];rw [List.getElem?_append_left (by omega),kN,List.getElem?_take,if_pos hj,List.getElem?_drop]
  ·rw [GI (by omega)] at h;cases h
theorem Eo {s:ByteArray}:∀ {n i:Nat} {l:List UInt8} {e:Nat},kP s n i=some (l,e)->Lib.validD l=true/\i+l.length+1<=e
 | 0,i,l,e,h=>by cases h
 | n+1,i,l,e,h=>by
  rw [kP] at h;split at h
  ·simp only [Option.some.injEq,Prod.mk.injEq] at h;obtain ⟨rfl,rfl⟩:=h;exact ⟨rfl,by simp⟩
  ·cases hl:kM s i with
   | none=>rw [hl] at h;cases h
   | some p =>
    rw [hl] at h;simp only [Option.bind_some] at h;cases ht:kP s n p.2 with
    | none=>rw [ht] at h;cases h
    | some q =>
     rw [ht] at h;simp only [Option.map_some,Option.some.injEq,Prod.mk.injEq] at h;obtain ⟨rfl,rfl⟩:=h;obtain ⟨h1,h2⟩:=SF (r:=p.1) (e:=p.2) hl;obtain ⟨h3,h4⟩:=Eo (l:=q.1) (e:=q.2) ht;exact ⟨by rw [h1];exact h3,by rw [List.length_append];omega⟩
theorem Ep {s:ByteArray} {i:Nat} {x:ByteArray} {e:Nat} (h:fF s i=some (x,e)):J8 x=true/\i+x.size+2<=e:=by
 unfold fF at h;split at h
 ·cases ht:kP s (s.size+1) (i+1) with
  | none=>rw [ht] at h;cases h
  | some q =>
   rw [ht] at h;simp only [Option.map_some,Option.some.injEq,Prod.mk.injEq] at h;obtain ⟨rfl,rfl⟩:=h;obtain ⟨h1,h2⟩:=Eo (l:=q.1) (e:=q.2) ht;refine ⟨by unfold J8;rw [kQ];exact h1,by rw [fA];omega⟩
 ·cases h
end Go.Proofs.YtknakfpciccoaaaGreatDoor
