import Derived.Test.YtknakfpciccoaaaGreatDoorZF15
import Derived.Deep.RegionHeld3
import Derived.Lib.Split
/- The walks of tests: isInOrder, hasAmongValues. -/
set_option maxHeartbeats 4000000
set_option maxRecDepth 100000
namespace Go.Proofs.YtknakfpciccoaaaGreatDoor
open Go.RowKit
theorem Vo {a b:ByteArray} (h:a.data.toList=b.data.toList):a=b:=by
 apply ByteArray.ext;exact Array.toList_inj.1 h
theorem aT {a b:ByteArray} (h:a=b):(a.toList==b.data.toList)=true:=by rw [h,ByteArray.toList_eq];exact beq_self_eq_true _
theorem au {a b:ByteArray} (h:¬ a=b):(a.toList==b.data.toList)=false:=by
 rw [beq_eq_false_iff_ne];intro e;apply h;rw [ByteArray.toList_eq] at e;exact Vo e
theorem CO (op:ByteArray) (j:T) (A C:Option Addr) (B D:Nat) (n:Int) (w:World) :
  Calls Tryz.prog 344 #[.agg #[.string op,.int .i64 (ah j),.int .i64 (aB j),.string (aF j),.slice A (nL j) B,.slice C (nK j) D,.slice none 0 0],.int .i64 n] w fun e w'=>e=.returned (.bool (gq op n))/\Below w.heap.size w w':=by
 have HB:=aj (bG w (.cells #[.string op,.int .i64 (ah j),.int .i64 (aB j),.string (aF j),.slice A (nL j) B,.slice C (nK j) D,.slice none 0 0] 293));by_cases yP:op=oQ
 ·have acy:(op.toList==[36,103,116,101])=true:=aT yP;have HR:Hid (gq op n=(n==0 || decide (0<n))):=by show _=_;unfold gq;rw [if_pos yP]
  clear yP;by_cases h0:n=0
  ·subst h0;go_in;go_wp2_with fail;go_ret;exact ⟨av (by rw [HR.out];rfl),HB.out⟩
  ·have e0:(n==0)=false:=by simpa using h0
   clear h0;go_in;go_wp2_with fail;go_ret;exact ⟨av (by rw [HR.out,e0];rfl),HB.out⟩
 ·have acy:(op.toList==[36,103,116,101])=false:=au yP;by_cases UF:op=yN
  ·have eGt:(op.toList==[36,103,116])=true:=aT UF;have HR:Hid (gq op n=decide (0<n)):=by show _=_;unfold gq;rw [if_neg yP,if_pos UF]
   clear yP UF;go_in;go_wp2_with fail;go_ret;exact ⟨av (by rw [HR.out]),HB.out⟩
  ·have eGt:(op.toList==[36,103,116])=false:=au UF;by_cases Ip:op=qz
   ·have acz:(op.toList==[36,108,116,101])=true:=aT Ip;have HR:Hid (gq op n=(n==0 || decide (n<0))):=by show _=_;unfold gq;rw [if_neg yP,if_neg UF,if_pos Ip]
    clear yP UF Ip;by_cases h0:n=0
    ·subst h0;go_in;go_wp2_with fail;go_ret;exact ⟨av (by rw [HR.out];rfl),HB.out⟩
    ·have e0:(n==0)=false:=by simpa using h0
     clear h0;go_in;go_wp2_with fail;go_ret;exact ⟨av (by rw [HR.out,e0];rfl),HB.out⟩
   ·have acz:(op.toList==[36,108,116,101])=false:=au Ip;by_cases YZ:op=yO
    ·have eLt:(op.toList==[36,108,116])=true:=aT YZ;have HR:Hid (gq op n=decide (n<0)):=by show _=_;unfold gq;rw [if_neg yP,if_neg UF,if_neg Ip,if_pos YZ]
     clear yP UF Ip YZ;go_in;go_wp2_with fail;go_ret;exact ⟨av (by rw [HR.out]),HB.out⟩
    ·have eLt:(op.toList==[36,108,116])=false:=au YZ;have HR:Hid (gq op n=false):=by show _=_;unfold gq;rw [if_neg yP,if_neg UF,if_neg Ip,if_neg YZ]
     clear yP UF Ip YZ;go_in;go_wp2_with fail;go_ret;exact ⟨av (by rw [HR.out]),HB.out⟩
theorem KM (b:Nat) (f g:Nat) (v:T) (one:Value) (x:T) (A C:Option Addr) (B D:Nat) (w:World) (h0:w.cell? ⟨b,0,none⟩=some (.int .i64 (ah v))) (h1:w.cell? ⟨b,1,none⟩=some (.int .i64 (aB v))) (h2:w.cell? ⟨b,2,none⟩=some (.string (aF v))) (h3:w.cell? ⟨b,3,none⟩=some (.slice A (nL v) B)) (h4:w.cell? ⟨b,4,none⟩=some (.slice C (nK v) D)) (hb:b<w.heap.size)
  (ha:At w f (.agg #[.int .i64 (ah v),.int .i64 (aB v),.string (aF v),.slice A (nL v) B,.slice C (nK v) D]) v) (hx:At w g one x) (hf:f<=16) (ka:dZ v) (kx:dZ x) :
  Calls Tryz.prog 342 #[one,.pointer (some ⟨b,0,none⟩)] w fun e w'=>e=.returned (.bool (uK v x))/\Below w.heap.size w w':=by
 obtain ⟨g1,La,Ka,Lc,Kc,hg1,rfl,_,_,_⟩:=hx.open;have HB:=aj (bG w (vC x La Lc Ka Kc));have q0:=(HB.out.cell (p:=⟨b,0,none⟩) hb).trans h0;have q1:=(HB.out.cell (p:=⟨b,1,none⟩) hb).trans h1;have q2:=(HB.out.cell (p:=⟨b,2,none⟩) hb).trans h2;have q3:=(HB.out.cell (p:=⟨b,3,none⟩) hb).trans h3;have q4:=(HB.out.cell (p:=⟨b,4,none⟩) hb).trans h4;have HC:=aj (zG (ha.keep HB.out) (hx.keep HB.out) hf ka kx);clear h0 h1 h2 h3 h4 ha hx ka kx hg1;go_in;go_wp2_with fail;refine HC.out.mono ?_;rintro e w2 ⟨rfl,b2⟩;have HB2:=aj (HB.out.trans (b2.mono HB.out.size));clear b2;go_wp2_with fail;go_ret;exact ⟨rfl,HB2.out⟩
theorem D8 (op:ByteArray) (j:T) (A C:Option Addr) (B D:Nat) (gj f:Nat) (x:Value) (v:T) (w:World) (hj:At w gj (.agg #[.int .i64 (ah j),.int .i64 (aB j),.string (aF j),.slice A (nL j) B,.slice C (nK j) D]) j) (hv:At w f x v) (hf:f<=16) (kj:dZ j) (kv:dZ v) :
  Calls Tryz.prog 339 #[.agg #[.string op,.int .i64 (ah j),.int .i64 (aB j),.string (aF j),.slice A (nL j) B,.slice C (nK j) D,.slice none 0 0],x] w fun e w'=>e=.returned (.bool (bg (uK v) j (nL j)))/\Below w.heap.size w w':=by
 obtain ⟨g1,La,Ka,Lc,Kc,hg1,rfl,_,_,_⟩:=hv.open;obtain ⟨g2,A',C',B',D',hg2,he,hfj,hel,_⟩:=hj.open;simp only [Value.agg.injEq,Array.mk.injEq,List.cons.injEq,Value.slice.injEq,and_true,true_and] at he;obtain ⟨⟨rfl,rfl⟩,rfl,rfl⟩:=he;have HB1:=aj (bG w (.cells #[.string op,.int .i64 (ah j),.int .i64 (aB j),.string (aF j),.slice A (nL j) B,.slice C (nK j) D,.slice none 0 0] 293));have HB2:Hid (Below (w.heap.size+1) (w.alloc (.cells #[.string op,.int .i64 (ah j),.int .i64 (aB j),.string (aF j),.slice A (nL j) B,.slice C (nK j) D,.slice none 0 0] 293)) ((w.alloc (.cells #[.string op,.int .i64 (ah j),.int .i64 (aB j),.string (aF j),.slice A (nL j) B,.slice C (nK j) D,.slice none 0 0] 293)).alloc (vC v La Lc Ka Kc))):=(Below.refl _ _).alloc (by simp) _;have HB:=aj (HB1.out.trans (HB2.out.mono (by omega)))
 have HX:Hid (aK (w.heap.size+1) (.int .i64 (ah v)) (.int .i64 (aB v)) (.string (aF v)) (.slice La (nL v) Lc) (.slice Ka (nK v) Kc) ((w.alloc (.cells #[.string op,.int .i64 (ah j),.int .i64 (aB j),.string (aF j),.slice A (nL j) B,.slice C (nK j) D,.slice none 0 0] 293)).alloc (vC v La Lc Ka Kc))):=by
  constructor<;>simp [go_sem]
 have HC:=aj (nN (uK v) 342 (fun _ _=>rfl) (.pointer (some ⟨w.heap.size+1,0,none⟩)) g2 A B j _ (hel.out.keep HB.out) hfj.l1 (fun k hk wr y hb ha=>by
   have hbx:=HX.out.move hb.size (hb.block _ HX.out.lt);have hbw:=HB.out.trans (hb.mono HB.out.size);exact KM (w.heap.size+1) f g2 v y (elt j k) La Ka Lc Kc wr hbx.q0 hbx.q1 hbx.q2 hbx.q3 hbx.q4 hbx.lt (hv.keep hbw) ha hf kv (kj.elt hk)))
 clear hv hj hel kj kv hfj hg1 hg2;go_in;go_wp2_with fail;refine HC.out.mono ?_;rintro e w2 ⟨rfl,b2⟩;have HB3:=aj (HB.out.trans (b2.mono HB.out.size));clear b2;go_wp2_with fail;go_ret;exact ⟨rfl,HB3.out⟩
def Bf (m:Nat) (p:ByteArray×T) (v:T):Bool :=
 if p.1=qb then uK v p.2 else if p.1=qc then bg (uK v) p.2 (nL p.2)
   else if p.1=jc then (ah v==5&&((nL v:Int)==aB p.2)) else if p.1=jE then ah v==aB p.2
   else if p.1=kY then (ah v==5&&bg (fun e=>(iO p.2).all fun q=>lC m q e true) v (nL v))
   else (ah v==ah p.2&&gq p.1 (bq 16 v p.2))
structure OQ (b:Nat) (c0 c1 c2 c3 c4 c5 c6:Value) (w:World):Prop where
 q0:w.cell? ⟨b,0,none⟩=some c0
 q1:w.cell? ⟨b,1,none⟩=some c1
 q2:w.cell? ⟨b,2,none⟩=some c2
 q3:w.cell? ⟨b,3,none⟩=some c3
 q4:w.cell? ⟨b,4,none⟩=some c4
 q5:w.cell? ⟨b,5,none⟩=some c5
 q6:w.cell? ⟨b,6,none⟩=some c6
 lt:b<w.heap.size
theorem OQ.keep {b:Nat} {c0 c1 c2 c3 c4 c5 c6:Value} {w w':World} (h:OQ b c0 c1 c2 c3 c4 c5 c6 w) (hb:Below w.heap.size w w'):OQ b c0 c1 c2 c3 c4 c5 c6 w' :=
 ⟨(hb.cell (p:=⟨b,0,none⟩) h.lt).trans h.q0,(hb.cell (p:=⟨b,1,none⟩) h.lt).trans h.q1,(hb.cell (p:=⟨b,2,none⟩) h.lt).trans h.q2,(hb.cell (p:=⟨b,3,none⟩) h.lt).trans h.q3,(hb.cell (p:=⟨b,4,none⟩) h.lt).trans h.q4,(hb.cell (p:=⟨b,5,none⟩) h.lt).trans h.q5,(hb.cell (p:=⟨b,6,none⟩) h.lt).trans h.q6,Nat.lt_of_lt_of_le h.lt hb.size⟩
theorem aK.stay {b:Nat} {c0 c1 c2 c3 c4:Value} {w w':World} (h:aK b c0 c1 c2 c3 c4 w) (hb:Below w.heap.size w w'):aK b c0 c1 c2 c3 c4 w':=h.move hb.size (hb.block _ h.lt)
theorem OT {w:World} {f g:Nat} {va vb:Value} {a b:T} (h:At w f va a) (h':At w g vb b) (hf:f<=16) (ka:dZ a) (kb:dZ b) :
  Calls Tryz.prog 58 #[va,vb] w fun e w'=>e=.returned (.int .i64 (bq 16 a b))/\Below w.heap.size w w':=by
 have:=yu f g va vb a b w h h' (ka.1 f) (kb.1 f);rw [<- xq f 16 a b h.Xp hf] at this;exact this
theorem Fp (m:Nat) (op:ByteArray) (j:T) (A C:Option Addr) (B D:Nat) (gj f:Nat) (x:Value) (v:T) (w:World) (hop:¬ ji op) (hj:At w gj (.agg #[.int .i64 (ah j),.int .i64 (aB j),.string (aF j),.slice A (nL j) B,.slice C (nK j) D]) j) (hv:At w f x v) (hf:f<=16) (kj:dZ j) (kv:dZ v) :
  Calls Tryz.prog 340 #[.agg #[.string op,.int .i64 (ah j),.int .i64 (aB j),.string (aF j),.slice A (nL j) B,.slice C (nK j) D,.slice none 0 0],x] w fun e w'=>e=.returned (.bool (Bf m (op,j) v))/\Below w.heap.size w w':=by
 obtain ⟨g1,La,Ka,Lc,Kc,hg1,rfl,Gq,_,_⟩:=hv.open;have hnl:=Gq.l1;have HB:Hid (Below w.heap.size w ((w.alloc (.cells #[.string op,.int .i64 (ah j),.int .i64 (aB j),.string (aF j),.slice A (nL j) B,.slice C (nK j) D,.slice none 0 0] 293)).alloc (vC v La Lc Ka Kc))):=(bG _ _).alloc (by simp) _;have HJ:=aj (hj.keep HB.out);have HV:=aj (hv.keep HB.out);have JX:=aj kj;have Fq:=aj kv;have qG:¬ op=kY:=fun h=>hop (.inr h);clear hj hv kj kv Gq hg1 hop;by_cases JY:op=qb
 ·have eEq:(op.toList==[36,101,113])=true:=aT JY;have HR:Hid (Bf m (op,j) v=uK v j):=by show _=_;unfold Bf;rw [if_pos JY]
  have HC:=aj (zG HV.out HJ.out hf Fq.out JX.out);clear JY qG;go_in;go_wp2_with fail;refine HC.out.mono ?_;rintro e w2 ⟨rfl,b2⟩;have HB3:=aj (HB.out.trans (b2.mono HB.out.size));clear b2;go_wp2_with fail;go_ret;exact ⟨av (by rw [HR.out]),HB3.out⟩
 have eEq:(op.toList==[36,101,113])=false:=au JY;by_cases Ns:op=qc
 ·have eIn:(op.toList==[36,105,110])=true:=aT Ns;have HR:Hid (Bf m (op,j) v=bg (uK v) j (nL j)):=by show _=_;unfold Bf;rw [if_neg JY,if_pos Ns]
  have HC:=aj (D8 op j A C B D gj f _ v ((w.alloc (.cells #[.string op,.int .i64 (ah j),.int .i64 (aB j),.string (aF j),.slice A (nL j) B,.slice C (nK j) D,.slice none 0 0] 293)).alloc (vC v La Lc Ka Kc)) HJ.out HV.out hf JX.out Fq.out);clear JY qG Ns;go_in;go_wp2_with fail;refine HC.out.mono ?_;rintro e w2 ⟨rfl,b2⟩;have HB3:=aj (HB.out.trans (b2.mono HB.out.size));clear b2;go_wp2_with fail;go_ret;exact ⟨av (by rw [HR.out]),HB3.out⟩
 have eIn:(op.toList==[36,105,110])=false:=au Ns;by_cases qA:op=jc
 ·have WO:(op.toList==[36,115,105,122,101])=true:=aT qA;have HR:Hid (Bf m (op,j) v=(ah v==5&&((nL v:Int)==aB j))):=by show _=_;unfold Bf;rw [if_neg JY,if_neg Ns,if_pos qA]
  clear JY qG Ns qA;cases h5:ah v==5 with
  | true =>
   have H5:=aj h5;go_in;go_wp2_with fail;go_ret;exact ⟨av (by rw [HR.out,H5.out];rfl),HB.out⟩
  | false =>
   have H5:=aj h5;go_in;go_wp2_with fail;go_ret;exact ⟨av (by rw [HR.out,H5.out];rfl),HB.out⟩
 have WO:(op.toList==[36,115,105,122,101])=false:=au qA;by_cases tK:op=jE
 ·have WQ:(op.toList==[36,107,105,110,100])=true:=aT tK;have HR:Hid (Bf m (op,j) v=(ah v==aB j)):=by show _=_;unfold Bf;rw [if_neg JY,if_neg Ns,if_neg qA,if_pos tK]
  clear JY qG Ns qA tK;go_in;go_wp2_with fail;go_ret;exact ⟨av (by rw [HR.out]),HB.out⟩
 have WQ:(op.toList==[36,107,105,110,100])=false:=au tK;have acA:(op.toList==[36,97,110,121])=false:=au qG;have HR:Hid (Bf m (op,j) v=(ah v==ah j&&gq op (bq 16 v j))):=by show _=_;unfold Bf;rw [if_neg JY,if_neg Ns,if_neg qA,if_neg tK,if_neg qG]
 clear JY qG Ns qA tK
 have H7:Hid (OQ w.heap.size (.string op) (.int .i64 (ah j)) (.int .i64 (aB j)) (.string (aF j)) (.slice A (nL j) B) (.slice C (nK j) D) (.slice none 0 0) ((w.alloc (.cells #[.string op,.int .i64 (ah j),.int .i64 (aB j),.string (aF j),.slice A (nL j) B,.slice C (nK j) D,.slice none 0 0] 293)).alloc (vC v La Lc Ka Kc))):=by
  constructor<;>simp [go_sem]
 have H5:Hid (aK (w.heap.size+1) (.int .i64 (ah v)) (.int .i64 (aB v)) (.string (aF v)) (.slice La (nL v) Lc) (.slice Ka (nK v) Kc) ((w.alloc (.cells #[.string op,.int .i64 (ah j),.int .i64 (aB j),.string (aF j),.slice A (nL j) B,.slice C (nK j) D,.slice none 0 0] 293)).alloc (vC v La Lc Ka Kc))):=by
  constructor<;>simp [go_sem]
 cases hkk:ah v==ah j with
 | false =>
  have Hkk:=aj hkk;go_in;go_wp2_with fail;go_quiet (fail);go_wp2_with fail;go_ret;exact ⟨av (by rw [HR.out,Hkk.out];rfl),below_drewN HB.out _⟩
 | true =>
  have Hkk:=aj hkk;have WR:=aj (ak ((w.alloc (.cells #[.string op,.int .i64 (ah j),.int .i64 (aB j),.string (aF j),.slice A (nL j) B,.slice C (nK j) D,.slice none 0 0] 293)).alloc (vC v La Lc Ka Kc)));have HC:=aj (OT (HV.out.keep WR.out) (HJ.out.keep WR.out) hf Fq.out JX.out);generalize bq 16 v j=cc at HC HR;have HO:=aj (fun w'=>CO op j A C B D cc w');have H7d:=aj (H7.out.keep WR.out);have H5d:=aj (H5.out.stay WR.out);have Iq:=aj (HB.out.drew);go_in;go_wp2_with fail
  have iX:Hid (∀ wx,OQ w.heap.size (.string op) (.int .i64 (ah j)) (.int .i64 (aB j)) (.string (aF j)) (.slice A (nL j) B) (.slice C (nK j) D) (.slice none 0 0) wx->aK (w.heap.size+1) (.int .i64 (ah v)) (.int .i64 (aB v)) (.string (aF v)) (.slice La (nL v) Lc) (.slice Ka (nK v) Kc) wx->(fun wx=>wx.cell? ⟨w.heap.size,0,none⟩=some (.string op)/\wx.cell? ⟨w.heap.size,1,none⟩=some (.int .i64 (ah j))/\wx.cell? ⟨w.heap.size,2,none⟩=some (.int .i64 (aB j))/\wx.cell? ⟨w.heap.size,3,none⟩=some (.string (aF j))/\wx.cell? ⟨w.heap.size,4,none⟩=some (.slice A (nL j) B)/\wx.cell? ⟨w.heap.size,5,none⟩=some (.slice C (nK j) D)/\wx.cell? ⟨w.heap.size,6,none⟩=some (.slice none 0 0)/\wx.cell? ⟨w.heap.size+1,0,none⟩=some (.int .i64 (ah v))/\wx.cell? ⟨w.heap.size+1,1,none⟩=some (.int .i64 (aB v))/\wx.cell? ⟨w.heap.size+1,2,none⟩=some (.string (aF v))/\wx.cell? ⟨w.heap.size+1,3,none⟩=some (.slice La (nL v) Lc)/\wx.cell? ⟨w.heap.size+1,4,none⟩=some (.slice Ka (nK v) Kc)) wx):=fun wx a b=>⟨a.q0,a.q1,a.q2,a.q3,a.q4,a.q5,a.q6,b.q0,b.q1,b.q2,b.q3,b.q4⟩;have qH:=aj (iX.out _ H7d.out H5d.out)
  go_region_held3 (fun wx=>wx.cell? ⟨w.heap.size,0,none⟩=some (.string op)/\wx.cell? ⟨w.heap.size,1,none⟩=some (.int .i64 (ah j))/\wx.cell? ⟨w.heap.size,2,none⟩=some (.int .i64 (aB j))/\wx.cell? ⟨w.heap.size,3,none⟩=some (.string (aF j))/\wx.cell? ⟨w.heap.size,4,none⟩=some (.slice A (nL j) B)/\wx.cell? ⟨w.heap.size,5,none⟩=some (.slice C (nK j) D)/\wx.cell? ⟨w.heap.size,6,none⟩=some (.slice none 0 0)/\wx.cell? ⟨w.heap.size+1,0,none⟩=some (.int .i64 (ah v))/\wx.cell? ⟨w.heap.size+1,1,none⟩=some (.int .i64 (aB v))/\wx.cell? ⟨w.heap.size+1,2,none⟩=some (.string (aF v))/\wx.cell? ⟨w.heap.size+1,3,none⟩=some (.slice La (nL v) Lc)/\wx.cell? ⟨w.heap.size+1,4,none⟩=some (.slice Ka (nK v) Kc)) (first | exact ZP | exact ZQ | exact qH.out) (first | (go_at_call 58;refine HC.out.mono ?_;rintro e w3 ⟨rfl,b3⟩;have H73:=aj (H7d.out.keep b3);have H53:=aj (H5d.out.stay b3);have ZQ:=iX.out _ H73.out H53.out) | (go_at_call 344;refine (HO.out _).mono ?_;rintro e w4 ⟨rfl,b4⟩;have ZP:=iX.out _ (H73.out.keep b4) (H53.out.stay b4)));have HBf:=aj ((Iq.out.trans (b3.mono Iq.out.size)).trans (b4.mono (Iq.out.trans (b3.mono Iq.out.size)).size));clear b3 b4 ZQ ZP;go_wp2_with fail;go_ret;exact ⟨av (by rw [HR.out,Hkk.out];rfl),HBf.out⟩
def kZ (m:Nat):Prop:=∀ (tv:Value) (ps:List (ByteArray×T)) (f:Nat) (x:Value) (v:T) (there:Bool) (w:World),kE w m tv ps->At w f x v->f<=16->dZ v ->
  Calls Tryz.prog 334 #[tv,x,.bool there] w fun e w'=>e=.returned (.bool (uw m ps v there))/\Below w.heap.size w w'
theorem CP (m:Nat) (ih:kZ m) (op:ByteArray) (j:T) (inn:Value) (f:Nat) (x:Value) (v:T) (w:World) (hi:kE w m inn (iO j)) (hv:At w f x v) (hf:f<=16) (kv:dZ v) :
  Calls Tryz.prog 343 #[.agg #[.string op,.int .i64 0,.int .i64 0,.string ⟨#[]⟩,.slice none 0 0,.slice none 0 0,inn],x] w fun e w'=>e=.returned (.bool (uw m (iO j) v true))/\Below w.heap.size w w':=by
 obtain ⟨g1,La,Ka,Lc,Kc,hg1,rfl,_,_,_⟩:=hv.open;have HB:Hid (Below w.heap.size w ((w.alloc (.cells #[.string op,.int .i64 0,.int .i64 0,.string ⟨#[]⟩,.slice none 0 0,.slice none 0 0,inn] 293)).alloc (vC v La Lc Ka Kc))):=(bG _ _).alloc (by simp) _;have HC:=aj (ih inn (iO j) f _ v true ((w.alloc (.cells #[.string op,.int .i64 0,.int .i64 0,.string ⟨#[]⟩,.slice none 0 0,.slice none 0 0,inn] 293)).alloc (vC v La Lc Ka Kc)) (hi.keep HB.out) (hv.keep HB.out) hf kv);clear hi hv ih kv hg1;generalize uw m (iO j) v true=r at HC;go_in;go_wp2_with fail;refine HC.out.mono ?_;rintro e w2 ⟨rfl,b2⟩;have HB3:=aj (HB.out.trans (b2.mono HB.out.size));clear b2;go_wp2_with fail;go_ret;exact ⟨rfl,HB3.out⟩
theorem Ir (m:Nat) (ih:kZ m) (op:ByteArray) (j:T) (inn:Value) (f:Nat) (x:Value) (v:T) (w:World) (qG:op=kY) (hi:kE w m inn (iO j)) (hv:At w f x v) (hf:f<=16) (kv:dZ v) :
  Calls Tryz.prog 340 #[.agg #[.string op,.int .i64 0,.int .i64 0,.string ⟨#[]⟩,.slice none 0 0,.slice none 0 0,inn],x] w fun e w'=>e=.returned (.bool (Bf m (op,j) v))/\Below w.heap.size w w':=by
 obtain ⟨g1,La,Ka,Lc,Kc,hg1,rfl,Gq,hel,_⟩:=hv.open;have hnl:=Gq.l1;have HB:Hid (Below w.heap.size w ((w.alloc (.cells #[.string op,.int .i64 0,.int .i64 0,.string ⟨#[]⟩,.slice none 0 0,.slice none 0 0,inn] 293)).alloc (vC v La Lc Ka Kc))):=(bG _ _).alloc (by simp) _;have JY:¬ op=qb:=by rw [qG];decide
 have Ns:¬ op=qc:=by rw [qG];decide
 have qA:¬ op=jc:=by rw [qG];decide
 have tK:¬ op=jE:=by rw [qG];decide
 have HR:Hid (Bf m (op,j) v=(ah v==5&&bg (fun e=>uw m (iO j) e true) v (nL v))):=by show _=_;unfold Bf;rw [if_neg JY,if_neg Ns,if_neg qA,if_neg tK,if_pos qG];rfl
 have eEq:(op.toList==[36,101,113])=false:=au JY;have eIn:(op.toList==[36,105,110])=false:=au Ns;have WO:(op.toList==[36,115,105,122,101])=false:=au qA;have WQ:(op.toList==[36,107,105,110,100])=false:=au tK;have acA:(op.toList==[36,97,110,121])=true:=aT qG;have HC:=aj (vM (fun e=>uw m (iO j) e true) 343 (fun _ _=>rfl) (.agg #[.string op,.int .i64 0,.int .i64 0,.string ⟨#[]⟩,.slice none 0 0,.slice none 0 0,inn]) g1 La Lc v ((w.alloc (.cells #[.string op,.int .i64 0,.int .i64 0,.string ⟨#[]⟩,.slice none 0 0,.slice none 0 0,inn] 293)).alloc (vC v La Lc Ka Kc)) (hel.out.keep HB.out) Gq.l1 (fun k hk wr y hb ha=>CP m ih op j inn g1 y (elt v k) wr (hi.keep (HB.out.trans (hb.mono HB.out.size))) ha (by omega) (kv.elt hk)));clear JY Ns qA tK qG hi hv hel kv ih Gq hg1;generalize bg (fun e=>uw m (iO j) e true) v (nL v)=r at HC HR;cases h5:ah v==5 with
 | true =>
  have H5:=aj h5;go_in;go_wp2_with fail;refine HC.out.mono ?_;rintro e w2 ⟨rfl,b2⟩;have HB3:=aj (HB.out.trans (b2.mono HB.out.size));clear b2;go_wp2_with fail;go_ret;exact ⟨av (by rw [HR.out,H5.out];rfl),HB3.out⟩
 | false =>
  have H5:=aj h5;go_in;go_wp2_with fail;go_ret;exact ⟨av (by rw [HR.out,H5.out];rfl),HB.out⟩
theorem jk {m:Nat} {op:ByteArray} {j v:T} {there:Bool} (h1:¬ op=yM) (h2:¬ op=mR) (h3:¬ op=mU) (h4:¬ op=eG):lC (m+1) (op,j) v there=(there&&Bf m (op,j) v):=by
 rw [lC,if_neg h1,if_neg h2,if_neg h3,if_neg h4];rfl
theorem KN (m:Nat) (op:ByteArray) (j:T) (A C:Option Addr) (B D:Nat) (gj f:Nat) (x:Value) (v:T) (there:Bool) (w:World) (hop:¬ ji op) (hj:At w gj (.agg #[.int .i64 (ah j),.int .i64 (aB j),.string (aF j),.slice A (nL j) B,.slice C (nK j) D]) j) (hv:At w f x v) (hf:f<=16) (kj:dZ j) (kv:dZ v) :
  Calls Tryz.prog 337 #[.agg #[.string op,.int .i64 (ah j),.int .i64 (aB j),.string (aF j),.slice A (nL j) B,.slice C (nK j) D,.slice none 0 0],x,.bool there] w fun e w'=>e=.returned (.bool (lC (m+1) (op,j) v there))/\Below w.heap.size w w':=by
 obtain ⟨g1,La,Ka,Lc,Kc,hg1,rfl,_,_,_⟩:=hv.open;have HB:Hid (Below w.heap.size w ((w.alloc (.cells #[.string op,.int .i64 (ah j),.int .i64 (aB j),.string (aF j),.slice A (nL j) B,.slice C (nK j) D,.slice none 0 0] 293)).alloc (vC v La Lc Ka Kc))):=(bG _ _).alloc (by simp) _;have HJ:=aj (hj.keep HB.out);have HV:=aj (hv.keep HB.out);have JX:=aj kj;have Fq:=aj kv;have HOp:=aj hop;have uy:¬ op=mU:=fun h=>hop (.inl h);clear hj hv kj kv hg1 hop;by_cases JZ:op=yM
 ·have eNe:(op.toList==[36,110,101])=true:=aT JZ;have HR:Hid (lC (m+1) (op,j) v there=!(there&&uK v j)):=by show _=_;rw [lC,if_pos JZ]
  have HC:=aj (zG HV.out HJ.out hf Fq.out JX.out);generalize uK v j=r at HC HR;clear JZ uy;cases there with
  | true =>
   go_in;go_wp2_with fail;refine HC.out.mono ?_;rintro e w2 ⟨rfl,b2⟩;have HB3:=aj (HB.out.trans (b2.mono HB.out.size));clear b2;go_wp2_with fail;go_ret;exact ⟨av (by rw [HR.out];rfl),HB3.out⟩
  | false =>
   go_in;go_wp2_with fail;go_ret;exact ⟨av (by rw [HR.out];rfl),HB.out⟩
 have eNe:(op.toList==[36,110,101])=false:=au JZ;by_cases vN:op=mR
 ·have ZR:(op.toList==[36,110,105,110])=true:=aT vN;have HR:Hid (lC (m+1) (op,j) v there=!(there&&bg (uK v) j (nL j))):=by show _=_;rw [lC,if_neg JZ,if_pos vN]
  have HC:=aj (D8 op j A C B D gj f _ v ((w.alloc (.cells #[.string op,.int .i64 (ah j),.int .i64 (aB j),.string (aF j),.slice A (nL j) B,.slice C (nK j) D,.slice none 0 0] 293)).alloc (vC v La Lc Ka Kc)) HJ.out HV.out hf JX.out Fq.out);generalize bg (uK v) j (nL j)=r at HC HR;clear JZ uy vN;cases there with
  | true =>
   go_in;go_wp2_with fail;refine HC.out.mono ?_;rintro e w2 ⟨rfl,b2⟩;have HB3:=aj (HB.out.trans (b2.mono HB.out.size));clear b2;go_wp2_with fail;go_ret;exact ⟨av (by rw [HR.out];rfl),HB3.out⟩
  | false =>
   go_in;go_wp2_with fail;go_ret;exact ⟨av (by rw [HR.out];rfl),HB.out⟩
 have ZR:(op.toList==[36,110,105,110])=false:=au vN;have ZT:(op.toList==[36,110,111,116])=false:=au uy;by_cases jF:op=eG
 ·have Nt:(op.toList==[36,101,120,105,115,116,115])=true:=aT jF;have HR:Hid (lC (m+1) (op,j) v there=(there==(aB j==1))):=by show _=_;rw [lC,if_neg JZ,if_neg vN,if_neg uy,if_pos jF]
  clear JZ uy vN jF;go_in;go_wp2_with fail;go_ret;exact ⟨av (by rw [HR.out]),HB.out⟩
 have Nt:(op.toList==[36,101,120,105,115,116,115])=false:=au jF;have HR:=aj (jk (m:=m) (j:=j) (v:=v) (there:=there) JZ vN uy jF);have HC:=aj (Fp m op j A C B D gj f _ v ((w.alloc (.cells #[.string op,.int .i64 (ah j),.int .i64 (aB j),.string (aF j),.slice A (nL j) B,.slice C (nK j) D,.slice none 0 0] 293)).alloc (vC v La Lc Ka Kc)) HOp.out HJ.out HV.out hf JX.out Fq.out);generalize Bf m (op,j) v=r at HC HR;clear JZ uy vN jF;cases there with
 | true =>
  go_in;go_wp2_with fail;refine HC.out.mono ?_;rintro e w2 ⟨rfl,b2⟩;have HB3:=aj (HB.out.trans (b2.mono HB.out.size));clear b2;go_wp2_with fail;go_ret;exact ⟨av (by rw [HR.out];rfl),HB3.out⟩
 | false =>
  go_in;go_wp2_with fail;go_ret;exact ⟨av (by rw [HR.out];rfl),HB.out⟩
theorem OU (m:Nat) (ih:kZ m) (op:ByteArray) (j:T) (inn:Value) (f:Nat) (x:Value) (v:T) (there:Bool) (w:World) (hop:ji op) (hi:kE w m inn (iO j)) (hv:At w f x v) (hf:f<=16) (kv:dZ v) :
  Calls Tryz.prog 337 #[.agg #[.string op,.int .i64 0,.int .i64 0,.string ⟨#[]⟩,.slice none 0 0,.slice none 0 0,inn],x,.bool there] w fun e w'=>e=.returned (.bool (lC (m+1) (op,j) v there))/\Below w.heap.size w w':=by
 obtain ⟨g1,La,Ka,Lc,Kc,hg1,rfl,_,_,_⟩:=hv.open;have HB:Hid (Below w.heap.size w ((w.alloc (.cells #[.string op,.int .i64 0,.int .i64 0,.string ⟨#[]⟩,.slice none 0 0,.slice none 0 0,inn] 293)).alloc (vC v La Lc Ka Kc))):=(bG _ _).alloc (by simp) _;have HI:=aj (hi.keep HB.out);have HV:=aj (hv.keep HB.out);have Fq:=aj kv;have Nu:=aj ih;clear hi hv kv hg1 ih;have JZ:¬ op=yM:=by rcases hop with h | h<;>(rw [h];decide)
 have vN:¬ op=mR:=by rcases hop with h | h<;>(rw [h];decide)
 have jF:¬ op=eG:=by rcases hop with h | h<;>(rw [h];decide)
 have eNe:(op.toList==[36,110,101])=false:=au JZ;have ZR:(op.toList==[36,110,105,110])=false:=au vN;have Nt:(op.toList==[36,101,120,105,115,116,115])=false:=au jF;by_cases uy:op=mU
 ·have ZT:(op.toList==[36,110,111,116])=true:=aT uy;have HR:Hid (lC (m+1) (op,j) v there=!(uw m (iO j) v there)):=by show _=_;rw [lC,if_neg JZ,if_neg vN,if_pos uy];rfl
  have HC:=aj (Nu.out inn (iO j) f _ v there ((w.alloc (.cells #[.string op,.int .i64 0,.int .i64 0,.string ⟨#[]⟩,.slice none 0 0,.slice none 0 0,inn] 293)).alloc (vC v La Lc Ka Kc)) HI.out HV.out hf Fq.out);generalize uw m (iO j) v there=r at HC HR;clear JZ uy vN jF hop;go_in;go_wp2_with fail;refine HC.out.mono ?_;rintro e w2 ⟨rfl,b2⟩;have HB3:=aj (HB.out.trans (b2.mono HB.out.size));clear b2;go_wp2_with fail;go_ret;exact ⟨av (by rw [HR.out]),HB3.out⟩
 have ZT:(op.toList==[36,110,111,116])=false:=au uy;have qG:op=kY:=hop.resolve_left uy;have HR:=aj (jk (m:=m) (j:=j) (v:=v) (there:=there) JZ vN uy jF);have HC:=aj (Ir m Nu.out op j inn f _ v ((w.alloc (.cells #[.string op,.int .i64 0,.int .i64 0,.string ⟨#[]⟩,.slice none 0 0,.slice none 0 0,inn] 293)).alloc (vC v La Lc Ka Kc)) qG HI.out HV.out hf Fq.out);generalize Bf m (op,j) v=r at HC HR;clear JZ uy vN jF hop qG;cases there with
 | true =>
  go_in;go_wp2_with fail;refine HC.out.mono ?_;rintro e w2 ⟨rfl,b2⟩;have HB3:=aj (HB.out.trans (b2.mono HB.out.size));clear b2;go_wp2_with fail;go_ret;exact ⟨av (by rw [HR.out];rfl),HB3.out⟩
 | false =>
  go_in;go_wp2_with fail;go_ret;exact ⟨av (by rw [HR.out];rfl),HB.out⟩
theorem R6 {α:Type} {p:α->Bool} {l:List α} {k:Nat} (h:k<l.length) (ht:(l.take k).all p=true):(l.take (k+1)).all p=p l[k]:=by
 rw [List.take_succ_eq_append_getElem h,List.all_append,ht];simp
theorem XR {α:Type} {p:α->Bool} {l:List α} {k:Nat} (h:k<l.length) (hp:p l[k]=false):l.all p=false:=by
 rw [List.all_eq_false];exact ⟨l[k],List.getElem_mem h,by rw [hp];simp⟩
theorem R9 (m:Nat) (ih:kZ m) (c0 c1 c2 c3 c4 c5 c6:Value) (p:ByteArray×T) (f:Nat) (x:Value) (v:T) (there:Bool) (w:World) (ht:lN w (m+1) c0 c1 c2 c3 c4 c5 c6 p) (hv:At w f x v) (hf:f<=16) (kv:dZ v) :
  Calls Tryz.prog 337 #[.agg #[c0,c1,c2,c3,c4,c5,c6],x,.bool there] w fun e w'=>e=.returned (.bool (lC (m+1) p v there))/\Below w.heap.size w w':=by
 obtain ⟨op,j⟩:=p;obtain ⟨rfl,_,⟨hi,rfl,rfl,rfl,rfl,rfl,hr⟩ | ⟨hi,rfl,g,A,B,C,D,hg,rfl,rfl,rfl,rfl,rfl,ha,hk⟩⟩:=ht
 ·exact OU m ih op j c6 f x v there w hi hr hv hf kv
 ·exact KN m op j A C B D g f x v there w hi ha hv hf hk kv
theorem lN.shape {w:World} {m:Nat} {c0 c1 c2 c3 c4 c5 c6:Value} {p:ByteArray×T} (h:lN w m c0 c1 c2 c3 c4 c5 c6 p):∃ s0 n1 n2 s3 A4 l4 k4 A5 l5 k5 A6 l6 k6,c0=.string s0/\c1=.int .i64 n1/\c2=.int .i64 n2/\c3=.string s3/\c4=.slice A4 l4 k4/\c5=.slice A5 l5 k5/\c6=.slice A6 l6 k6:=by
 cases m with
 | zero=>exact h.elim
 | succ m =>
  obtain ⟨h0,_,⟨_,h1,h2,h3,h4,h5,A,c,h6,_⟩ | ⟨_,h6,g,A,B,C,D,_,h1,h2,h3,h4,h5,_⟩⟩:=h
  ·exact ⟨_,_,_,_,_,_,_,_,_,_,_,_,_,h0,h1,h2,h3,h4,h5,h6⟩
  ·exact ⟨_,_,_,_,_,_,_,_,_,_,_,_,_,h0,h1,h2,h3,h4,h5,h6⟩
theorem OV (m:Nat) (ih:kZ m):kZ (m+1):=by
 intro tv ps f x v there w ht hv hf kv;obtain ⟨g1,La,Ka,Lc,Kc,hg1,rfl,_,_,_⟩:=hv.open;obtain ⟨A,c,rfl,hn,hrow⟩:=ht;have om:=aj hrow;have HV:=aj hv;have Fq:=aj kv;have Nu:=aj ih;clear hrow hv kv ih hg1;go_in;go_wp2_with fail;go_loopg [11] (ps.length) (fun g' i wr=>∃ k:Nat,g'=ps.length - k/\k<=ps.length/\i=.int .i64 k/\Hid (Below (w.heap.size+1) (w.alloc (vC v La Lc Ka Kc)) wr)/\Hid ((ps.take k).all (fun q=>lC (m+1) q v there)=true))
 case atStart=>exact ⟨0,rfl,Nat.zero_le _,rfl,Below.refl _ _,rfl⟩
 case round =>
  obtain ⟨k,rfl,hk,rfl,HB,HN⟩:=hrel;obtain ⟨q0,q1,q2,q3,q4,hz,hbw⟩:=aI HB.out;have dH:=aj hbw;clear hbw;by_cases hlt:k<ps.length
  ·obtain ⟨b,o,c0,c1,c2,c3,c4,c5,c6,rfl,hbl,p0,p1,p2,p3,p4,p5,p6,hr⟩:=om.out k hlt;have HT:=aj hr;obtain ⟨s0,n1,n2,s3,A4,l4,k4,A5,l5,k5,A6,l6,k6,rfl,rfl,rfl,rfl,rfl,rfl,rfl⟩:=hr.shape;replace p0:=(dH.out.cell (p:=⟨b,o+k*7,none⟩) hbl).trans p0;replace p1:=(dH.out.cell (p:=⟨b,o+k*7+1,none⟩) hbl).trans p1;replace p2:=(dH.out.cell (p:=⟨b,o+k*7+2,none⟩) hbl).trans p2;replace p3:=(dH.out.cell (p:=⟨b,o+k*7+3,none⟩) hbl).trans p3;replace p4:=(dH.out.cell (p:=⟨b,o+k*7+4,none⟩) hbl).trans p4;replace p5:=(dH.out.cell (p:=⟨b,o+k*7+5,none⟩) hbl).trans p5;replace p6:=(dH.out.cell (p:=⟨b,o+k*7+6,none⟩) hbl).trans p6;have HB2:=aj (bG wr (.cells #[.string s0,.int .i64 n1,.int .i64 n2,.string s3,.slice A4 l4 k4,.slice A5 l5 k5,.slice A6 l6 k6] 293));have HB3:=aj (dH.out.trans (HB2.out.mono dH.out.size));have HC:=aj (R9 m Nu.out _ _ _ _ _ _ _ ps[k] f _ v there _ (lN.keep HB3.out _ _ _ _ _ _ _ _ _ HT.out) (HV.out.keep HB3.out) hf Fq.out);have HA:=aj (R6 (p:=fun q=>lC (m+1) q v there) hlt HN.out);have HA2:=aj (fun h=>XR (p:=fun q=>lC (m+1) q v there) hlt h);clear hr HT;generalize lC (m+1) ps[k] v there=r at HC HA HA2;go_wp2_with fail;refine HC.out.mono ?_;rintro e w2 ⟨rfl,b2⟩;have bO:=aj (HB.out.trans ((HB2.out.trans (b2.mono HB2.out.size)).mono (by omega)));clear b2 HC;cases r with
   | true =>
    go_wp2_with fail;go_roundg (ps.length - (k+1))
    case rel=>exact ⟨k+1,rfl,by omega,by go_num,bO,HA⟩
    case measure=>omega
   | false =>
    have oM:=aj (HA2.out rfl);clear HA2;have jW:=aj (((Below.refl w.heap.size w).alloc (Nat.le_refl _) (vC v La Lc Ka Kc)).trans (bO.out.mono (by omega)));go_wp2_with fail;go_ret;exact ⟨av (by rw [uw,oM.out]),jW.out⟩
  ·obtain rfl:k=ps.length:=by omega
   have HR:Hid (uw (m+1) ps v there=true):=by have:=HN.out;rw [List.take_length] at this;exact this
   go_wp2_with fail;go_ret;exact ⟨av (by rw [HR.out]),dH.out⟩
theorem OW:kZ 0:=by
 intro tv ps f x v there w ht hv hf kv;obtain ⟨g1,La,Ka,Lc,Kc,hg1,rfl,_,_,_⟩:=hv.open;obtain ⟨A,c,rfl,hn,hrow⟩:=ht
 have h0:ps=[]:=by
  cases ps with
  | nil=>rfl
  | cons p ps =>
   obtain ⟨b,o,c0,c1,c2,c3,c4,c5,c6,_,_,_,_,_,_,_,_,_,hr⟩:=hrow 0 (by simp);exact hr.elim
 subst h0;have HB:=aj (bG w (vC v La Lc Ka Kc));clear hrow hv kv hg1 hn;simp only [List.length_nil];go_in;go_wp2_with fail;go_loopg [11] 1 (fun g' i wr=>i=.int .i64 0/\wr=w.alloc (vC v La Lc Ka Kc))
 case atStart=>exact ⟨rfl,rfl⟩
 case round =>
  obtain ⟨rfl,rfl⟩:=hrel;go_wp2_with fail;go_ret;exact ⟨rfl,HB.out⟩
theorem Bg:∀ m,kZ m
 | 0=>OW
 | m+1=>OV m (Bg m)
def jl:ByteArray:=⟨#[36,97,110,100]⟩
def oU:ByteArray:=⟨#[36,111,114]⟩
def jm:ByteArray:=⟨#[36,110,111,114]⟩
def aU (x:ByteArray):List ByteArray:=Lib.splitB ⟨#[46]⟩ 0 (Lib.countB x ⟨#[46]⟩) x
def qI (x:ByteArray):Bool:=Lib.hasPrefix x.data.toList [36]
def jO (j:T):List (ByteArray×T):=if ah j=6/\0<nK j/\qI (bf j 0)=true then iO j else [(qb,j)]
def Ea:T:=aR 0 0 ByteArray.empty
def WS (p:List ByteArray) (ps:List (ByteArray×T)) (doc:T):Bool:=match gJ p doc with
 | some r=>uw 16 ps r true
 | none=>uw 16 ps Ea false
theorem Iu {p:List ByteArray} {ps:List (ByteArray×T)} {doc r:T} (h:gJ p doc=some r):WS p ps doc=uw 16 ps r true:=by unfold WS;rw [h]
theorem Iw {p:List ByteArray} {ps:List (ByteArray×T)} {doc:T} (h:gJ p doc=none):WS p ps doc=uw 16 ps Ea false:=by unfold WS;rw [h]
def sP (g:T->T->Bool) (x:ByteArray) (j doc:T):Bool :=
 if x=jl then gB (fun y=>g y doc) j (nL j) else if x=oU then bg (fun y=>g y doc) j (nL j) else if x=jm then !(bg (fun y=>g y doc) j (nL j))
 else WS (aU x) (jO j) doc
def eO (p:Nat->Bool):Nat->Bool
 | 0=>true
 | k+1=>eO p k&&p k
def dN:Nat->T->T->Bool
 | 0,_,_=>true
 | m+1,t,doc=>eO (fun i=>sP (dN m) (bf t i) (elt t i) doc) (nK t)
def yQ (w:World) (R:Value->T->Prop) (v:Value) (j:T):Prop :=
 ∃ (A:Option Addr) (c:Nat),v=.slice A (nL j) c/\nL j<=1000000000/\∀ i,i<nL j->∃ b o u,A=some ⟨b,o,none⟩/\b<w.heap.size/\w.cell? ⟨b,o+i,none⟩=some u/\R u (elt j i)
theorem yQ.keep {w w':World} {R R':Value->T->Prop} {v:Value} {j:T} (h:yQ w R v j) (hb:Below w.heap.size w w') (hR:∀ u y,R u y->R' u y):yQ w' R' v j:=by
 obtain ⟨A,c,hv,hn,h⟩:=h;refine ⟨A,c,hv,hn,fun i hi=>?_⟩;obtain ⟨b,o,u,h0,hl,q,hr⟩:=h i hi;exact ⟨b,o,u,h0,Nat.lt_of_lt_of_le hl hb.size,(hb.cell (p:=⟨b,_,none⟩) hl).trans q,hR _ _ hr⟩
def rH (x:ByteArray):Prop:=¬ x=jl/\¬ x=oU/\¬ x=jm
def Bh (w:World) (R:Value->T->Prop) (u:Value) (x:ByteArray) (j:T):Prop :=
 (x=jl/\∃ v,u=.iface 238 v/\yQ w R v j)\/(x=oU/\∃ v,u=.iface 240 v/\yQ w R v j)\/(x=jm/\∃ v,u=.iface 241 v/\yQ w R v j) \/
 (rH x/\∃ pv tv,u=.iface 249 (.agg #[pv,tv])/\lM w pv (aU x)/\kE w 16 tv (jO j))
theorem Bh.keep {w w':World} {R R':Value->T->Prop} {u:Value} {x:ByteArray} {j:T} (h:Bh w R u x j) (hb:Below w.heap.size w w') (hR:∀ u y,R u y->R' u y):Bh w' R' u x j:=by
 rcases h with ⟨h1,v,h2,h3⟩ | ⟨h1,v,h2,h3⟩ | ⟨h1,v,h2,h3⟩ | ⟨h1,pv,tv,h2,h3,h4⟩
 ·exact .inl ⟨h1,v,h2,h3.keep hb hR⟩
 ·exact .inr (.inl ⟨h1,v,h2,h3.keep hb hR⟩)
 ·exact .inr (.inr (.inl ⟨h1,v,h2,h3.keep hb hR⟩))
 ·exact .inr (.inr (.inr ⟨h1,pv,tv,h2,h3.keep hb,h4.keep hb⟩))
def gK (w:World):Nat->Value->T->Prop
 | 0,_,_=>False
 | m+1,v,t=>∃ (A:Option Addr) (c:Nat),v=.slice A (nK t) c/\nK t<=1000000000/\∀ i,i<nK t->∃ b o u,A=some ⟨b,o,none⟩/\b<w.heap.size/\w.cell? ⟨b,o+i,none⟩=some u/\Bh w (gK w m) u (bf t i) (elt t i)
theorem gK.keep {w w':World} (hb:Below w.heap.size w w'):∀ (m:Nat) (v:Value) (t:T),gK w m v t->gK w' m v t
 | 0,_,_,h=>h
 | m+1,v,t,h=>by
  obtain ⟨A,c,hv,hn,h⟩:=h;refine ⟨A,c,hv,hn,fun i hi=>?_⟩;obtain ⟨b,o,u,h0,hl,q,hr⟩:=h i hi;exact ⟨b,o,u,h0,Nat.lt_of_lt_of_le hl hb.size,(hb.cell (p:=⟨b,_,none⟩) hl).trans q,hr.keep hb (gK.keep hb m)⟩
def nO (Tb:World->Prop) (m:Nat):Prop:=∀ (fv:Value) (t:T) (f:Nat) (x:Value) (doc:T) (w:World),gK w m fv t->At w f x doc->f<=16->dZ doc->Tb w ->
  Calls Tryz.prog 111 #[fv,x] w fun e w'=>e=.returned (.bool (dN m t doc))/\Below w.heap.size w w'
theorem Nv (w:World):At w 1 (.agg #[.int .i64 0,.int .i64 0,.string ⟨#[]⟩,.slice none 0 0,.slice none 0 0]) Ea:=by
 refine ⟨none,none,0,0,rfl,⟨by decide,by decide,by decide,by decide,?_,?_,?_⟩,fun i hi=>absurd hi (Nat.not_lt_zero i),fun i hi=>absurd hi (Nat.not_lt_zero i)⟩
 ·show (ByteArray.empty).size<=_;simp
 ·show 0<=_;omega
 ·show 0<=_;omega
theorem Nw:dZ Ea:=⟨fun f=>by
  cases f with
  | zero=>trivial
  | succ f=>exact ⟨fun h=>(by cases h),fun i hi=>absurd hi (Nat.not_lt_zero i)⟩,fun f=>by
  cases f with
  | zero=>trivial
  | succ f=>exact ⟨Nat.zero_le _,Nat.zero_le _,fun i hi=>absurd hi (Nat.not_lt_zero i),fun i hi=>absurd hi (Nat.not_lt_zero i)⟩⟩
theorem Fu {Tb:World->Prop} (hA:kX Tb) (hI:kW Tb) (hL:fG Tb) (y:ByteArray) (j:T) (pv tv:Value) (f:Nat) (x:Value) (doc:T) (w:World) (hp:lM w pv (aU y)) (ht:kE w 16 tv (jO j)) (hv:At w f x doc) (hf:f<=16) (kv:dZ doc) (hT:Tb w) :
  Calls Tryz.prog 335 #[.agg #[pv,tv],x] w fun e w'=>e=.returned (.bool (WS (aU y) (jO j) doc))/\Below w.heap.size w w':=by
 obtain ⟨g1,La,Ka,Lc,Kc,hg1,rfl,_,_,_⟩:=hv.open;obtain ⟨A1,cp,rfl,hp1,hp2⟩:=hp;obtain ⟨A2,ct,rfl,ht1,ht2⟩:=ht;have HB:Hid (Below w.heap.size w ((w.alloc (.cells #[.slice A1 (aU y).length cp,.slice A2 (jO j).length ct] 249)).alloc (vC doc La Lc Ka Kc))):=(bG _ _).alloc (by simp) _;have HP:Hid (lM w (.slice A1 (aU y).length cp) (aU y)):=⟨A1,cp,rfl,hp1,hp2⟩;have Vp:Hid (kE w 16 (.slice A2 (jO j).length ct) (jO j)):=⟨A2,ct,rfl,ht1,ht2⟩;have HC:=aj (R4 hA hI hL _ _ f _ doc _ _ (Below.refl _ _) (HP.out.keep HB.out) (hv.keep HB.out) kv (hL w hT _ _ hT HB.out));clear hp1 hp2 ht1 ht2 hv kv hT hA hI hL hg1;go_in;go_wp2_with fail;refine HC.out.mono ?_;rintro e w2 ⟨b2,⟨r,g,A,B,C,D,hr,hg,rfl,ha,hk⟩ | ⟨hr,rfl⟩⟩
 ·have HR:=aj (Iu (ps:=jO j) hr);have HB2:=aj (HB.out.trans (b2.mono HB.out.size));have q0:w2.cell? ⟨w.heap.size,1,none⟩=some (.slice A2 (jO j).length ct):=by rw [b2.cell (p:=⟨w.heap.size,1,none⟩) (by simp;omega)];simp [go_sem]
  have HB3:=aj (bG w2 (vC r A B C D));have bO:=aj (HB2.out.trans (HB3.out.mono HB2.out.size));have HH:=aj (Bg 16 _ _ g _ r true _ (Vp.out.keep bO.out) (ha.keep ((b2.trans (HB3.out.mono b2.size)))) (by omega) hk);have hlt:w.heap.size<w2.heap.size:=by have:=b2.size;simp at this;omega
  clear b2 ha hk hr HC;go_wp2_with fail;refine HH.out.mono ?_;rintro e w5 ⟨rfl,b5⟩;have jW:=aj (bO.out.trans (b5.mono bO.out.size));clear b5;go_wp2_with fail;go_ret;exact ⟨av (by rw [HR.out]),jW.out⟩
 ·have HR:=aj (Iw (ps:=jO j) hr);have HB2:=aj (HB.out.trans (b2.mono HB.out.size));have q0:w2.cell? ⟨w.heap.size,1,none⟩=some (.slice A2 (jO j).length ct):=by rw [b2.cell (p:=⟨w.heap.size,1,none⟩) (by simp;omega)];simp [go_sem]
  have HB3:=aj (bG w2 (.cells #[.int .i64 0,.int .i64 0,.string ⟨#[]⟩,.slice none 0 0,.slice none 0 0] 25));have bO:=aj (HB2.out.trans (HB3.out.mono HB2.out.size));have HH:=aj (Bg 16 _ _ 1 _ Ea false _ (Vp.out.keep bO.out) (Nv _) (by omega) Nw);have hlt:w.heap.size<w2.heap.size:=by have:=b2.size;simp at this;omega
  clear b2 hr HC;go_wp2_with fail;refine HH.out.mono ?_;rintro e w5 ⟨rfl,b5⟩;have jW:=aj (bO.out.trans (b5.mono bO.out.size));clear b5;go_wp2_with fail;go_ret;exact ⟨av (by rw [HR.out]),jW.out⟩
end Go.Proofs.YtknakfpciccoaaaGreatDoor
