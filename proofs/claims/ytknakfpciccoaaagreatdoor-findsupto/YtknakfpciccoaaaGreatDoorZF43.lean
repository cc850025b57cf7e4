import Derived.Test.YtknakfpciccoaaaGreatDoorZF41
import Derived.Test.YtknakfpciccoaaaGreatDoorZF42
import Derived.Test.YtknakfpciccoaaaGreatDoorZF23
/- The walk of step. -/
set_option maxHeartbeats 8000000
set_option maxRecDepth 100000
namespace Go.Proofs.YtknakfpciccoaaaGreatDoor
open Go.RowKit
def MK (w0:World) (pw:Nat) (a:Nat->Nat) (R:List (Value×Nat)) (e:Ending) (w':World):Prop:=e=.returned (.bool true)/\∃ O' Db R' S',pF O' w0 w' pw a Db R' S' S'/\(∀ i,i<2->uM (S' i))/\R'.length % 4=0/\R'.length<=R.length+4
theorem rT {S:Nat->fH} (h:∀ i,i<2->uM (S i)) {i:Nat} {T':fH} (ht:uM T'):∀ k,k<2->uM (upd S i T' k):=fun k hk=>by
 by_cases e:k=i
 ·subst e;rw [bX];exact ht
 ·rw [bB _ _ e];exact h k hk
theorem YH {Tb:World->Prop} (hA:dS Tb) {O:Nat->Nat} {w0 w:World} {pw:Nat} {a:Nat->Nat} {lv:Value} {R:List (Value×Nat)} {S:Nat->fH} (h:pF O w0 w pw a lv R S S) (hok:∀ i,i<2->uM (S i)) (Wp:R.length % 4=0) (Uo:R.length<=50000000) (hT:∀ w',Below w0.heap.size w0 w'->Tb w') (kd:Int) (nm tx:ByteArray) (hk:kd<=5) (hn:nm.size<=140737488355328) (ht:tx.size<=140737488355328) :
  Calls Tryz.prog 51 #[.pointer (some ⟨pw,0,none⟩),.agg #[.int .i64 kd,.bool false,.string nm,.string tx]] w (MK w0 pw a R):=by
 have Ie:=aj (bJ w (.cells #[.int .i64 kd,.bool false,.string nm,.string tx] 82));have HW:=aj (h.keep Ie.out)
 have HId:Hid (Df O (w.alloc (.cells #[.int .i64 kd,.bool false,.string nm,.string tx] 82)) w.heap.size kd false nm tx):=by
  refine ⟨?_,by simp,by simp [go_sem],by simp [go_sem],by simp [go_sem],by simp [go_sem]⟩;by_cases e:O w.heap.size=0
  ·exact e
  ·have:=(h.bnd _ e).2;omega
 have hi:0<2:=by omega
 have iX:Hid (∀ (O:Nat->Nat) (wy:World) (lv:Value) (R:List (Value×Nat)) (sp sr:Nat->fH),pF O w0 wy pw a lv R sp sr->Df O wy w.heap.size kd false nm tx->(wy.cell? ⟨pw,0,none⟩=some (.pointer (some ⟨a 0,0,none⟩))/\wy.cell? ⟨pw,2,none⟩=some (.pointer (some ⟨a 2,0,none⟩))/\wy.cell? ⟨w.heap.size,2,none⟩=some (.string nm)/\wy.cell? ⟨w.heap.size,3,none⟩=some (.string tx))):=fun O wy lv R sp sr hw hI=>⟨hw.ls.c0 0 (by omega),hw.ls.c0 2 (by omega),hI.2.2.2.2.1,hI.2.2.2.2.2⟩;have qK:=aj (HW.out.keep (ak _));have xV:=aj (HId.out.keep (ak _));have UO:Hid (∀ (O:Nat->Nat) (wy:World) (lv:Value) (R:List (Value×Nat)) (sp sr:Nat->fH),pF O w0 wy pw a lv R sp sr->Tb wy/\∀ w',Below w0.heap.size wy w'->Tb w'):=fun O wy lv R sp sr hw=>⟨hT _ hw.low,fun w' hb=>hT w' (hw.low.trans hb)⟩;have gT:=aj hok;have HA:=aj hA;have HR:=aj (And.intro Wp Uo);clear h hok hT hA Wp Uo;have qH:=aj (iX.out _ _ _ _ _ _ qK.out xV.out);obtain ⟨j0,j1,j2,j3⟩:=iX.out _ _ _ _ _ _ HW.out HId.out;by_cases k:kd=1
 ·have e1:(kd==1)=true:=by rw [k];rfl
  have lu:=aj (BL (qK.out.UQ hi) (fun b hb=>.inr hb) nm hn (gT.out 0 hi).len);have pJ:Hid (∀ (O':Nat->Nat) (wy:World) (sp:Nat->fH),pF O' w0 wy pw a lv R sp S->_):=fun O' wy sp hw=>yH (hw.UR hi) (fun b hb=>.inr hb) nm hn (gT.out 0 hi).len;have uI:=aj (rT gT.out (i:=0) ((gT.out 0 hi).cre nm));clear k;go_in;go_wp2_with fail;go_region_held3 (fun wy=>wy.cell? ⟨pw,0,none⟩=some (.pointer (some ⟨a 0,0,none⟩))/\wy.cell? ⟨pw,2,none⟩=some (.pointer (some ⟨a 2,0,none⟩))/\wy.cell? ⟨w.heap.size,2,none⟩=some (.string nm)/\wy.cell? ⟨w.heap.size,3,none⟩=some (.string tx)) (first | exact hc6 | exact kD | exact qH.out) (first | (go_at_call 37;refine lu.out.mono ?_;rintro e5 w5 ⟨rfl,hk5,hs5⟩;have qy:=aj (qK.out.prog hi hk5 hs5);have mq:=aj (xV.out.ext (by omega) hk5);have kD:=iX.out _ _ _ _ _ _ qy.out mq.out) | (go_at_call 89;refine (pJ.out _ w5 _ qy.out).mono ?_;rintro e6 w6 ⟨rfl,uJ,hs6⟩;have xW:=aj (qy.out.JN hi uJ hs6);have zh:=aj (mq.out.ext (by omega) uJ);have hc6:=iX.out _ _ _ _ _ _ xW.out zh.out));clear hk5 hs5 uJ hs6 kD hc6;go_wp2_with fail;go_ret;exact ⟨by simp,_,_,_,_,xW.out,uI.out,HR.out.1,by omega⟩
 have N1:=aj k;clear k;by_cases k:kd=2
 ·have e2:(kd==2)=true:=by rw [k];rfl
  have e1:(kd==1)=false:=by rw [k];rfl
  have lu:=aj (Tf (qK.out.UQ hi) nm hn (gT.out 0 hi).nd);have pJ:Hid (∀ (O':Nat->Nat) (wy:World) (sp:Nat->fH),pF O' w0 wy pw a lv R sp S->_):=fun O' wy sp hw=>ED (hw.UR hi) (fun b hb=>.inr hb) nm (gT.out 0 hi).len;have uI:=aj (rT gT.out (i:=0) ((gT.out 0 hi).del nm));clear k;go_in;go_wp2_with fail;go_region_held3 (fun wy=>wy.cell? ⟨pw,0,none⟩=some (.pointer (some ⟨a 0,0,none⟩))/\wy.cell? ⟨pw,2,none⟩=some (.pointer (some ⟨a 2,0,none⟩))/\wy.cell? ⟨w.heap.size,2,none⟩=some (.string nm)/\wy.cell? ⟨w.heap.size,3,none⟩=some (.string tx)) (first | exact hc6 | exact kD | exact qH.out) (first | (go_at_call 32;refine lu.out.mono ?_;rintro e5 w5 ⟨rfl,hk5,hs5⟩;have qy:=aj (qK.out.prog hi hk5 hs5);have mq:=aj (xV.out.ext (by omega) hk5);have kD:=iX.out _ _ _ _ _ _ qy.out mq.out) | (go_at_call 90;refine (pJ.out _ w5 _ qy.out).mono ?_;rintro e6 w6 ⟨rfl,uJ,hs6⟩;have xW:=aj (qy.out.JN hi uJ hs6);have zh:=aj (mq.out.ext (by omega) uJ);have hc6:=iX.out _ _ _ _ _ _ xW.out zh.out));clear hk5 hs5 uJ hs6 kD hc6;go_wp2_with fail;go_ret;exact ⟨by simp,_,_,_,_,xW.out,uI.out,HR.out.1,by omega⟩
 have N2:=aj k;clear k;by_cases k:kd=3
 ·have e3:(kd==3)=true:=by rw [k];rfl
  have e1:(kd==1)=false:=by rw [k];rfl
  have e2:(kd==2)=false:=by rw [k];rfl
  have lu:=aj (BM HA.out (qK.out.UQ hi) (fun b hb=>.inr hb) nm tx hn ht (gT.out 0 hi).docs (UO.out _ _ _ _ _ _ qK.out).1);have pJ:Hid (∀ (O':Nat->Nat) (wy:World) (sp:Nat->fH),pF O' w0 wy pw a lv R sp S->_):=fun O' wy sp hw=>yK (hw.UR hi) (fun b hb=>.inr hb) (gT.out 0 hi).len (gT.out 0 hi).docs (gT.out 0 hi).Og nm tx;have uI:=aj (rT gT.out (i:=0) ((gT.out 0 hi).ins nm tx));clear k;go_in;go_wp2_with fail;go_region_held3 (fun wy=>wy.cell? ⟨pw,0,none⟩=some (.pointer (some ⟨a 0,0,none⟩))/\wy.cell? ⟨pw,2,none⟩=some (.pointer (some ⟨a 2,0,none⟩))/\wy.cell? ⟨w.heap.size,2,none⟩=some (.string nm)/\wy.cell? ⟨w.heap.size,3,none⟩=some (.string tx)) (first | exact hc6 | exact kD | exact qH.out) (first | (go_at_call 38;refine lu.out.mono ?_;rintro e5 w5 ⟨rfl,hk5,hs5⟩;have qy:=aj (qK.out.prog hi hk5 hs5);have mq:=aj (xV.out.ext (by omega) hk5);have kD:=iX.out _ _ _ _ _ _ qy.out mq.out) | (go_at_call 91;refine (pJ.out _ w5 _ qy.out).mono ?_;rintro e6 w6 ⟨rfl,uJ,hs6⟩;have xW:=aj (qy.out.JN hi uJ hs6);have zh:=aj (mq.out.ext (by omega) uJ);have hc6:=iX.out _ _ _ _ _ _ xW.out zh.out));clear hk5 hs5 uJ hs6 kD hc6;go_wp2_with fail;go_ret;exact ⟨by simp,_,_,_,_,xW.out,uI.out,HR.out.1,by omega⟩
 have N3:=aj k;clear k;by_cases k:kd=4
 ·have e4:(kd==4)=true:=by rw [k];rfl
  have e1:(kd==1)=false:=by rw [k];rfl
  have e2:(kd==2)=false:=by rw [k];rfl
  have e3:(kd==3)=false:=by rw [k];rfl
  have lu:=aj (LQ HA.out (qK.out.UQ hi) nm tx hn ht (gT.out 0 hi).docs (UO.out _ _ _ _ _ _ qK.out).1);have pJ:Hid (∀ (wy:World),pF O w0 wy pw a lv R S S->_):=fun wy hw=>EP (hw.UR hi) (gT.out 0 hi).len (gT.out 0 hi).docs (gT.out 0 hi).Og nm tx;have Qi:=aj (zV (gT.out 0 hi).docs nm tx);generalize eB (S 0) nm tx=fe at lu pJ;generalize dI (S 0) nm tx=fl at lu pJ Qi;clear k;go_in;go_wp2_with fail;go_region_held3 (fun wy=>wy.cell? ⟨pw,0,none⟩=some (.pointer (some ⟨a 0,0,none⟩))/\wy.cell? ⟨pw,2,none⟩=some (.pointer (some ⟨a 2,0,none⟩))/\wy.cell? ⟨w.heap.size,2,none⟩=some (.string nm)/\wy.cell? ⟨w.heap.size,3,none⟩=some (.string tx)) (first | exact kD | exact qH.out) ((go_at_call 27;refine lu.out.mono ?_;rintro e5 w5 ⟨hb5,A5,c5,rfl,hO5⟩;have qy:=aj (qK.out.keep hb5);have mq:=aj (xV.out.keep hb5);have kD:=iX.out _ _ _ _ _ _ qy.out mq.out));have jW:=aj hb5;have HO5:=aj hO5;have Us:=aj (iX.out _ _ _ _ _ _ (qy.out.keep (ak _)) (mq.out.keep (ak _)));have Cq:=aj (pJ.out _ (qy.out.keep (ak _)));have adL:=aj hb5.drew;clear hb5 hO5 kD pJ lu;go_wp2_with fail
  go_region_held3 (fun wy=>wy.cell? ⟨pw,0,none⟩=some (.pointer (some ⟨a 0,0,none⟩))/\wy.cell? ⟨pw,2,none⟩=some (.pointer (some ⟨a 2,0,none⟩))/\wy.cell? ⟨w.heap.size,2,none⟩=some (.string nm)/\wy.cell? ⟨w.heap.size,3,none⟩=some (.string tx)) (first | exact hc6 | exact Us.out) ((go_at_call 92;refine Cq.out.mono ?_;rintro e6 w6 ⟨hb6,A6,c6,rfl,gU⟩;have xW:=aj ((qy.out.keep (ak _)).keep hb6);have zh:=aj ((mq.out.keep (ak _)).keep hb6);have hc6:=iX.out _ _ _ _ _ _ xW.out zh.out));have ML:Hid (Below w5.heap.size w5 w6):=(ak w5).trans hb6;have Vu:=aj gU;have MN:=aj (bP HO5.out fun b e=>ML.out.block b (HO5.out.lt b e).2);have HSm:=aj (tX _ _ _ w6 (JM.Gj MN.out (by have:=Qi.out;omega)) (JM.Gj gU (by have:=Qi.out;omega)));clear hb6 gU hc6 Cq Us;go_wp2_with fail;refine HSm.out.mono ?_;rintro e7 w7 ⟨rfl,b7⟩;have rE:=aj ((jW.out.trans (ML.out.mono jW.out.size)).trans (b7.mono (jW.out.trans (ML.out.mono jW.out.size)).size));have YI:=aj (bP MN.out fun b e=>b7.block b (MN.out.lt b e).2)
  have HKp:=aj (JL (Q:=fun b=>O b=5\/(w.alloc (.cells #[.int .i64 kd,.bool false,.string nm,.string tx] 82)).drew.heap.size<=b) ((qK.out.ls.keep rE.out).move (Nat.le_refl _) fun b _ hq _=>⟨.inl hq,rfl⟩) (fun b hb=>.inr (Nat.le_trans rE.out.size hb)) HR.out.1 (by have:=HR.out.2;omega) A5 fl.length c5 (by have:=Qi.out;omega) _ (mY YI.out (Nat.zero_le _)) (fun b e=>⟨.inr (YI.out.lt b e).1,fun q r hr e2=>by have h1:=(qK.out.ls.YD q r hr b e2).2;have h2:=(YI.out.lt b e).1;omega⟩));clear b7 HSm;go_wp2_with fail;refine HKp.out.mono ?_;rintro e8 w8 ⟨rfl,hk8,lv8,R8,hl8,hr8⟩;have HWf:=aj (qK.out.list (aP.after rE.out hk8) hl8);have Hr8:=aj hr8;clear hk8 hl8 HKp hr8;go_wp2_with fail;go_ret;exact ⟨by simp,_,_,_,_,HWf.out,gT.out,by rw [Hr8.out];have:=HR.out.1;omega,by rw [Hr8.out];omega⟩
 have N4:=aj k;clear k;by_cases k:kd=5
 ·have e5:(kd==5)=true:=by rw [k];rfl
  have e1:(kd==1)=false:=by rw [k];rfl
  have e2:(kd==2)=false:=by rw [k];rfl
  have e3:(kd==3)=false:=by rw [k];rfl
  have e4:(kd==4)=false:=by rw [k];rfl
  have lu:=aj (Jg HA.out (B:=w0.heap.size) (qK.out.UQ hi) (fun b hb hq=>by rcases hq with hq | hq;exact (qK.out.bnd b (by omega)).1;omega) nm tx hn ht (gT.out 0 hi).docs (UO.out _ _ _ _ _ _ qK.out).2);have pJ:Hid (∀ (O':Nat->Nat) (wy:World) (sp:Nat->fH),pF O' w0 wy pw a lv R sp S->_):=fun O' wy sp hw=>yJ (hw.UR hi) (fun b hb=>.inr hb) (gT.out 0 hi).len (gT.out 0 hi).docs (gT.out 0 hi).Og nm tx;have uI:=aj (rT gT.out (i:=0) ((gT.out 0 hi).rem nm tx));generalize eB (S 0) nm tx=fe at lu pJ;generalize (dI (S 0) nm tx).length=fn at lu pJ;clear k;go_in;go_wp2_with fail;go_region_held3 (fun wy=>wy.cell? ⟨pw,0,none⟩=some (.pointer (some ⟨a 0,0,none⟩))/\wy.cell? ⟨pw,2,none⟩=some (.pointer (some ⟨a 2,0,none⟩))/\wy.cell? ⟨w.heap.size,2,none⟩=some (.string nm)/\wy.cell? ⟨w.heap.size,3,none⟩=some (.string tx)) (first | exact kD | exact qH.out) ((go_at_call 31;refine lu.out.mono ?_;rintro e5 w5 ⟨rfl,hk5,hs5⟩;have qy:=aj (qK.out.prog hi hk5 hs5);have mq:=aj (xV.out.ext (by omega) hk5);have kD:=iX.out _ _ _ _ _ _ qy.out mq.out));have MO:=aj (qy.out.keep (ak _));have Da:=aj (mq.out.keep (ak _));have Us:=aj (iX.out _ _ _ _ _ _ MO.out Da.out);have Cq:=aj (pJ.out _ _ _ MO.out);clear hk5 hs5 kD pJ lu;go_wp2_with fail
  go_region_held3 (fun wy=>wy.cell? ⟨pw,0,none⟩=some (.pointer (some ⟨a 0,0,none⟩))/\wy.cell? ⟨pw,2,none⟩=some (.pointer (some ⟨a 2,0,none⟩))/\wy.cell? ⟨w.heap.size,2,none⟩=some (.string nm)/\wy.cell? ⟨w.heap.size,3,none⟩=some (.string tx)) (first | exact hc6 | exact Us.out) ((go_at_call 95;refine Cq.out.mono ?_;rintro e6 w6 ⟨rfl,uJ,hs6⟩;have xW:=aj (MO.out.JN hi uJ hs6);have zh:=aj (Da.out.ext (by omega) uJ);have hc6:=iX.out _ _ _ _ _ _ xW.out zh.out));clear uJ hs6 hc6 Cq Us;go_wp2_with fail;go_ret;exact ⟨by simp,_,_,_,_,xW.out,uI.out,HR.out.1,by omega⟩
 have n1:=N1.out;have n2:=N2.out;have n3:=N3.out;have n4:=N4.out;have e1:(kd==1)=false:=by rw [beq_eq_false_iff_ne];omega
 have e2:(kd==2)=false:=by rw [beq_eq_false_iff_ne];omega
 have e3:(kd==3)=false:=by rw [beq_eq_false_iff_ne];omega
 have e4:(kd==4)=false:=by rw [beq_eq_false_iff_ne];omega
 have e5:(kd==5)=false:=by rw [beq_eq_false_iff_ne];omega
 have e6:(kd==6)=false:=by rw [beq_eq_false_iff_ne];omega
 clear n1 n2 n3 n4 k;go_in;go_wp2_with fail;go_ret;exact ⟨rfl,_,_,_,_,HW.out,gT.out,HR.out.1,by omega⟩
theorem YJ {Tb:World->Prop} (hA:dS Tb) {O:Nat->Nat} {w0 w:World} {pw:Nat} {a:Nat->Nat} {lv:Value} {R:List (Value×Nat)} {S:Nat->fH} (h:pF O w0 w pw a lv R S S) (hok:∀ i,i<2->uM (S i)) (Wp:R.length % 4=0) (Uo:R.length<=50000000) (hT:∀ w',Below w0.heap.size w0 w'->Tb w') (kd:Int) (nm tx:ByteArray) (hk:kd<=5) (hn:nm.size<=140737488355328) (ht:tx.size<=140737488355328) :
  Calls Tryz.prog 51 #[.pointer (some ⟨pw,0,none⟩),.agg #[.int .i64 kd,.bool true,.string nm,.string tx]] w (MK w0 pw a R):=by
 have Ie:=aj (bJ w (.cells #[.int .i64 kd,.bool true,.string nm,.string tx] 82));have HW:=aj (h.keep Ie.out)
 have HId:Hid (Df O (w.alloc (.cells #[.int .i64 kd,.bool true,.string nm,.string tx] 82)) w.heap.size kd true nm tx):=by
  refine ⟨?_,by simp,by simp [go_sem],by simp [go_sem],by simp [go_sem],by simp [go_sem]⟩;by_cases e:O w.heap.size=0
  ·exact e
  ·have:=(h.bnd _ e).2;omega
 have hi:1<2:=by omega
 have iX:Hid (∀ (O:Nat->Nat) (wy:World) (lv:Value) (R:List (Value×Nat)) (sp sr:Nat->fH),pF O w0 wy pw a lv R sp sr->Df O wy w.heap.size kd true nm tx->(wy.cell? ⟨pw,1,none⟩=some (.pointer (some ⟨a 1,0,none⟩))/\wy.cell? ⟨pw,3,none⟩=some (.pointer (some ⟨a 3,0,none⟩))/\wy.cell? ⟨w.heap.size,2,none⟩=some (.string nm)/\wy.cell? ⟨w.heap.size,3,none⟩=some (.string tx))):=fun O wy lv R sp sr hw hI=>⟨hw.ls.c0 1 (by omega),hw.ls.c0 3 (by omega),hI.2.2.2.2.1,hI.2.2.2.2.2⟩;have qK:=aj (HW.out.keep (ak _));have xV:=aj (HId.out.keep (ak _));have UO:Hid (∀ (O:Nat->Nat) (wy:World) (lv:Value) (R:List (Value×Nat)) (sp sr:Nat->fH),pF O w0 wy pw a lv R sp sr->Tb wy/\∀ w',Below w0.heap.size wy w'->Tb w'):=fun O wy lv R sp sr hw=>⟨hT _ hw.low,fun w' hb=>hT w' (hw.low.trans hb)⟩;have gT:=aj hok;have HA:=aj hA;have HR:=aj (And.intro Wp Uo);clear h hok hT hA Wp Uo;have qH:=aj (iX.out _ _ _ _ _ _ qK.out xV.out);obtain ⟨j0,j1,j2,j3⟩:=iX.out _ _ _ _ _ _ HW.out HId.out;by_cases k:kd=1
 ·have e1:(kd==1)=true:=by rw [k];rfl
  have lu:=aj (BL (qK.out.UQ hi) (fun b hb=>.inr hb) nm hn (gT.out 1 hi).len);have pJ:Hid (∀ (O':Nat->Nat) (wy:World) (sp:Nat->fH),pF O' w0 wy pw a lv R sp S->_):=fun O' wy sp hw=>yH (hw.UR hi) (fun b hb=>.inr hb) nm hn (gT.out 1 hi).len;have uI:=aj (rT gT.out (i:=1) ((gT.out 1 hi).cre nm));clear k;go_in;go_wp2_with fail;go_region_held3 (fun wy=>wy.cell? ⟨pw,1,none⟩=some (.pointer (some ⟨a 1,0,none⟩))/\wy.cell? ⟨pw,3,none⟩=some (.pointer (some ⟨a 3,0,none⟩))/\wy.cell? ⟨w.heap.size,2,none⟩=some (.string nm)/\wy.cell? ⟨w.heap.size,3,none⟩=some (.string tx)) (first | exact hc6 | exact kD | exact qH.out) (first | (go_at_call 37;refine lu.out.mono ?_;rintro e5 w5 ⟨rfl,hk5,hs5⟩;have qy:=aj (qK.out.prog hi hk5 hs5);have mq:=aj (xV.out.ext (by omega) hk5);have kD:=iX.out _ _ _ _ _ _ qy.out mq.out) | (go_at_call 89;refine (pJ.out _ w5 _ qy.out).mono ?_;rintro e6 w6 ⟨rfl,uJ,hs6⟩;have xW:=aj (qy.out.JN hi uJ hs6);have zh:=aj (mq.out.ext (by omega) uJ);have hc6:=iX.out _ _ _ _ _ _ xW.out zh.out));clear hk5 hs5 uJ hs6 kD hc6;go_wp2_with fail;go_ret;exact ⟨by simp,_,_,_,_,xW.out,uI.out,HR.out.1,by omega⟩
 have N1:=aj k;clear k;by_cases k:kd=2
 ·have e2:(kd==2)=true:=by rw [k];rfl
  have e1:(kd==1)=false:=by rw [k];rfl
  have lu:=aj (Tf (qK.out.UQ hi) nm hn (gT.out 1 hi).nd);have pJ:Hid (∀ (O':Nat->Nat) (wy:World) (sp:Nat->fH),pF O' w0 wy pw a lv R sp S->_):=fun O' wy sp hw=>ED (hw.UR hi) (fun b hb=>.inr hb) nm (gT.out 1 hi).len;have uI:=aj (rT gT.out (i:=1) ((gT.out 1 hi).del nm));clear k;go_in;go_wp2_with fail;go_region_held3 (fun wy=>wy.cell? ⟨pw,1,none⟩=some (.pointer (some ⟨a 1,0,none⟩))/\wy.cell? ⟨pw,3,none⟩=some (.pointer (some ⟨a 3,0,none⟩))/\wy.cell? ⟨w.heap.size,2,none⟩=some (.string nm)/\wy.cell? ⟨w.heap.size,3,none⟩=some (.string tx)) (first | exact hc6 | exact kD | exact qH.out) (first | (go_at_call 32;refine lu.out.mono ?_;rintro e5 w5 ⟨rfl,hk5,hs5⟩;have qy:=aj (qK.out.prog hi hk5 hs5);have mq:=aj (xV.out.ext (by omega) hk5);have kD:=iX.out _ _ _ _ _ _ qy.out mq.out) | (go_at_call 90;refine (pJ.out _ w5 _ qy.out).mono ?_;rintro e6 w6 ⟨rfl,uJ,hs6⟩;have xW:=aj (qy.out.JN hi uJ hs6);have zh:=aj (mq.out.ext (by omega) uJ);have hc6:=iX.out _ _ _ _ _ _ xW.out zh.out));clear hk5 hs5 uJ hs6 kD hc6;go_wp2_with fail;go_ret;exact ⟨by simp,_,_,_,_,xW.out,uI.out,HR.out.1,by omega⟩
 have N2:=aj k;clear k;by_cases k:kd=3
 ·have e3:(kd==3)=true:=by rw [k];rfl
  have e1:(kd==1)=false:=by rw [k];rfl
  have e2:(kd==2)=false:=by rw [k];rfl
  have lu:=aj (BM HA.out (qK.out.UQ hi) (fun b hb=>.inr hb) nm tx hn ht (gT.out 1 hi).docs (UO.out _ _ _ _ _ _ qK.out).1);have pJ:Hid (∀ (O':Nat->Nat) (wy:World) (sp:Nat->fH),pF O' w0 wy pw a lv R sp S->_):=fun O' wy sp hw=>yK (hw.UR hi) (fun b hb=>.inr hb) (gT.out 1 hi).len (gT.out 1 hi).docs (gT.out 1 hi).Og nm tx;have uI:=aj (rT gT.out (i:=1) ((gT.out 1 hi).ins nm tx));clear k;go_in;go_wp2_with fail;go_region_held3 (fun wy=>wy.cell? ⟨pw,1,none⟩=some (.pointer (some ⟨a 1,0,none⟩))/\wy.cell? ⟨pw,3,none⟩=some (.pointer (some ⟨a 3,0,none⟩))/\wy.cell? ⟨w.heap.size,2,none⟩=some (.string nm)/\wy.cell? ⟨w.heap.size,3,none⟩=some (.string tx)) (first | exact hc6 | exact kD | exact qH.out) (first | (go_at_call 38;refine lu.out.mono ?_;rintro e5 w5 ⟨rfl,hk5,hs5⟩;have qy:=aj (qK.out.prog hi hk5 hs5);have mq:=aj (xV.out.ext (by omega) hk5);have kD:=iX.out _ _ _ _ _ _ qy.out mq.out) | (go_at_call 91;refine (pJ.out _ w5 _ qy.out).mono ?_;rintro e6 w6 ⟨rfl,uJ,hs6⟩;have xW:=aj (qy.out.JN hi uJ hs6);have zh:=aj (mq.out.ext (by omega) uJ);have hc6:=iX.out _ _ _ _ _ _ xW.out zh.out));clear hk5 hs5 uJ hs6 kD hc6;go_wp2_with fail;go_ret;exact ⟨by simp,_,_,_,_,xW.out,uI.out,HR.out.1,by omega⟩
 have N3:=aj k;clear k;by_cases k:kd=4
 ·have e4:(kd==4)=true:=by rw [k];rfl
  have e1:(kd==1)=false:=by rw [k];rfl
  have e2:(kd==2)=false:=by rw [k];rfl
  have e3:(kd==3)=false:=by rw [k];rfl
  have lu:=aj (LQ HA.out (qK.out.UQ hi) nm tx hn ht (gT.out 1 hi).docs (UO.out _ _ _ _ _ _ qK.out).1);have pJ:Hid (∀ (wy:World),pF O w0 wy pw a lv R S S->_):=fun wy hw=>EP (hw.UR hi) (gT.out 1 hi).len (gT.out 1 hi).docs (gT.out 1 hi).Og nm tx;have Qi:=aj (zV (gT.out 1 hi).docs nm tx);generalize eB (S 1) nm tx=fe at lu pJ;generalize dI (S 1) nm tx=fl at lu pJ Qi;clear k;go_in;go_wp2_with fail;go_region_held3 (fun wy=>wy.cell? ⟨pw,1,none⟩=some (.pointer (some ⟨a 1,0,none⟩))/\wy.cell? ⟨pw,3,none⟩=some (.pointer (some ⟨a 3,0,none⟩))/\wy.cell? ⟨w.heap.size,2,none⟩=some (.string nm)/\wy.cell? ⟨w.heap.size,3,none⟩=some (.string tx)) (first | exact kD | exact qH.out) ((go_at_call 27;refine lu.out.mono ?_;rintro e5 w5 ⟨hb5,A5,c5,rfl,hO5⟩;have qy:=aj (qK.out.keep hb5);have mq:=aj (xV.out.keep hb5);have kD:=iX.out _ _ _ _ _ _ qy.out mq.out));have jW:=aj hb5;have HO5:=aj hO5;have Us:=aj (iX.out _ _ _ _ _ _ (qy.out.keep (ak _)) (mq.out.keep (ak _)));have Cq:=aj (pJ.out _ (qy.out.keep (ak _)));have adL:=aj hb5.drew;clear hb5 hO5 kD pJ lu;go_wp2_with fail
  go_region_held3 (fun wy=>wy.cell? ⟨pw,1,none⟩=some (.pointer (some ⟨a 1,0,none⟩))/\wy.cell? ⟨pw,3,none⟩=some (.pointer (some ⟨a 3,0,none⟩))/\wy.cell? ⟨w.heap.size,2,none⟩=some (.string nm)/\wy.cell? ⟨w.heap.size,3,none⟩=some (.string tx)) (first | exact hc6 | exact Us.out) ((go_at_call 92;refine Cq.out.mono ?_;rintro e6 w6 ⟨hb6,A6,c6,rfl,gU⟩;have xW:=aj ((qy.out.keep (ak _)).keep hb6);have zh:=aj ((mq.out.keep (ak _)).keep hb6);have hc6:=iX.out _ _ _ _ _ _ xW.out zh.out));have ML:Hid (Below w5.heap.size w5 w6):=(ak w5).trans hb6;have Vu:=aj gU;have MN:=aj (bP HO5.out fun b e=>ML.out.block b (HO5.out.lt b e).2);have HSm:=aj (tX _ _ _ w6 (JM.Gj MN.out (by have:=Qi.out;omega)) (JM.Gj gU (by have:=Qi.out;omega)));clear hb6 gU hc6 Cq Us;go_wp2_with fail;refine HSm.out.mono ?_;rintro e7 w7 ⟨rfl,b7⟩;have rE:=aj ((jW.out.trans (ML.out.mono jW.out.size)).trans (b7.mono (jW.out.trans (ML.out.mono jW.out.size)).size));have YI:=aj (bP MN.out fun b e=>b7.block b (MN.out.lt b e).2)
  have HKp:=aj (JL (Q:=fun b=>O b=5\/(w.alloc (.cells #[.int .i64 kd,.bool true,.string nm,.string tx] 82)).drew.heap.size<=b) ((qK.out.ls.keep rE.out).move (Nat.le_refl _) fun b _ hq _=>⟨.inl hq,rfl⟩) (fun b hb=>.inr (Nat.le_trans rE.out.size hb)) HR.out.1 (by have:=HR.out.2;omega) A5 fl.length c5 (by have:=Qi.out;omega) _ (mY YI.out (Nat.zero_le _)) (fun b e=>⟨.inr (YI.out.lt b e).1,fun q r hr e2=>by have h1:=(qK.out.ls.YD q r hr b e2).2;have h2:=(YI.out.lt b e).1;omega⟩));clear b7 HSm;go_wp2_with fail;refine HKp.out.mono ?_;rintro e8 w8 ⟨rfl,hk8,lv8,R8,hl8,hr8⟩;have HWf:=aj (qK.out.list (aP.after rE.out hk8) hl8);have Hr8:=aj hr8;clear hk8 hl8 HKp hr8;go_wp2_with fail;go_ret;exact ⟨by simp,_,_,_,_,HWf.out,gT.out,by rw [Hr8.out];have:=HR.out.1;omega,by rw [Hr8.out];omega⟩
 have N4:=aj k;clear k;by_cases k:kd=5
 ·have e5:(kd==5)=true:=by rw [k];rfl
  have e1:(kd==1)=false:=by rw [k];rfl
  have e2:(kd==2)=false:=by rw [k];rfl
  have e3:(kd==3)=false:=by rw [k];rfl
  have e4:(kd==4)=false:=by rw [k];rfl
  have lu:=aj (Jg HA.out (B:=w0.heap.size) (qK.out.UQ hi) (fun b hb hq=>by rcases hq with hq | hq;exact (qK.out.bnd b (by omega)).1;omega) nm tx hn ht (gT.out 1 hi).docs (UO.out _ _ _ _ _ _ qK.out).2);have pJ:Hid (∀ (O':Nat->Nat) (wy:World) (sp:Nat->fH),pF O' w0 wy pw a lv R sp S->_):=fun O' wy sp hw=>yJ (hw.UR hi) (fun b hb=>.inr hb) (gT.out 1 hi).len (gT.out 1 hi).docs (gT.out 1 hi).Og nm tx;have uI:=aj (rT gT.out (i:=1) ((gT.out 1 hi).rem nm tx));generalize eB (S 1) nm tx=fe at lu pJ;generalize (dI (S 1) nm tx).length=fn at lu pJ;clear k;go_in;go_wp2_with fail;go_region_held3 (fun wy=>wy.cell? ⟨pw,1,none⟩=some (.pointer (some ⟨a 1,0,none⟩))/\wy.cell? ⟨pw,3,none⟩=some (.pointer (some ⟨a 3,0,none⟩))/\wy.cell? ⟨w.heap.size,2,none⟩=some (.string nm)/\wy.cell? ⟨w.heap.size,3,none⟩=some (.string tx)) (first | exact kD | exact qH.out) ((go_at_call 31;refine lu.out.mono ?_;rintro e5 w5 ⟨rfl,hk5,hs5⟩;have qy:=aj (qK.out.prog hi hk5 hs5);have mq:=aj (xV.out.ext (by omega) hk5);have kD:=iX.out _ _ _ _ _ _ qy.out mq.out));have MO:=aj (qy.out.keep (ak _));have Da:=aj (mq.out.keep (ak _));have Us:=aj (iX.out _ _ _ _ _ _ MO.out Da.out);have Cq:=aj (pJ.out _ _ _ MO.out);clear hk5 hs5 kD pJ lu;go_wp2_with fail
  go_region_held3 (fun wy=>wy.cell? ⟨pw,1,none⟩=some (.pointer (some ⟨a 1,0,none⟩))/\wy.cell? ⟨pw,3,none⟩=some (.pointer (some ⟨a 3,0,none⟩))/\wy.cell? ⟨w.heap.size,2,none⟩=some (.string nm)/\wy.cell? ⟨w.heap.size,3,none⟩=some (.string tx)) (first | exact hc6 | exact Us.out) ((go_at_call 95;refine Cq.out.mono ?_;rintro e6 w6 ⟨rfl,uJ,hs6⟩;have xW:=aj (MO.out.JN hi uJ hs6);have zh:=aj (Da.out.ext (by omega) uJ);have hc6:=iX.out _ _ _ _ _ _ xW.out zh.out));clear uJ hs6 hc6 Cq Us;go_wp2_with fail;go_ret;exact ⟨by simp,_,_,_,_,xW.out,uI.out,HR.out.1,by omega⟩
 have n1:=N1.out;have n2:=N2.out;have n3:=N3.out;have n4:=N4.out;have e1:(kd==1)=false:=by rw [beq_eq_false_iff_ne];omega
 have e2:(kd==2)=false:=by rw [beq_eq_false_iff_ne];omega
 have e3:(kd==3)=false:=by rw [beq_eq_false_iff_ne];omega
 have e4:(kd==4)=false:=by rw [beq_eq_false_iff_ne];omega
 have e5:(kd==5)=false:=by rw [beq_eq_false_iff_ne];omega
 have e6:(kd==6)=false:=by rw [beq_eq_false_iff_ne];omega
 clear n1 n2 n3 n4 k;go_in;go_wp2_with fail;go_ret;exact ⟨rfl,_,_,_,_,HW.out,gT.out,HR.out.1,by omega⟩
theorem Ut {Tb:World->Prop} (hA:dS Tb) {O:Nat->Nat} {w0 w:World} {pw:Nat} {a:Nat->Nat} {lv:Value} {R:List (Value×Nat)} {S:Nat->fH} (h:pF O w0 w pw a lv R S S) (hok:∀ i,i<2->uM (S i)) (Wp:R.length % 4=0) (Uo:R.length<=50000000) (hT:∀ w',Below w0.heap.size w0 w'->Tb w') (kd:Int) (ot:Bool) (nm tx:ByteArray) (hk:kd<=5) (hn:nm.size<=140737488355328) (ht:tx.size<=140737488355328) :
  Calls Tryz.prog 51 #[.pointer (some ⟨pw,0,none⟩),.agg #[.int .i64 kd,.bool ot,.string nm,.string tx]] w (MK w0 pw a R):=by
 cases ot with
 | false=>exact YH hA h hok Wp Uo hT kd nm tx hk hn ht
 | true=>exact YJ hA h hok Wp Uo hT kd nm tx hk hn ht
def lA:ByteArray:=⟨#[97]⟩
def lD:ByteArray:=⟨#[32,123,34,95,105,100,34,32,58,32,49,125,32]⟩
def lF:ByteArray:=⟨#[123,125]⟩
def lO:ByteArray:=⟨#[123,34,95,105,100,34,58,49,125]⟩
theorem Uu:nk [] lA=0:=by kernel_rfl
theorem Uv:je [(lA,[])] lA lD=0:=by kernel_rfl
theorem abq:eB [(lA,[tJ lD])] lA lF=0:=by kernel_rfl
theorem Xn:(dI [(lA,[tJ lD])] lA lF).map (fun t=>Value.string (vW t))=[.string lO]:=by kernel_rfl
theorem abr:za [] lA=[(lA,[])]:=by unfold za;rw [if_pos Uu];rfl
theorem abt:xG [(lA,[])] lA lD=[(lA,[tJ lD])]:=by
 unfold xG;rw [if_pos Uv];show qx [(lA,[])] lA ((iA [(lA,[])] lA).getD []++[tJ lD])=_;rw [iA,if_pos rfl,qx,if_pos rfl];rfl
theorem Qn {Tb:World->Prop} (hA:dS Tb) (w:World) (hT:∀ w',Below w.heap.size w w'->Tb w') :
  Calls Tryz.prog 48 #[.bool false] w fun e w'=>e=.returned (.bool true)/\Below w.heap.size w w':=by
 have HN:=aj (NQ w);have HA:=aj hA;have HT:=aj hT;have HS0:=aj (wM.new w (fun b=>w.heap.size<=b) (fun b hb=>hb));have HB1:Hid (Below w.heap.size w ((w.alloc (.map #[] 0)).alloc (.cells #[.map (some w.heap.size)] 102))):=iY _ _ _;clear hA hT;go_in;go_wp2_with fail;refine HN.out.mono ?_;rintro e w1 ⟨rfl,hw1⟩;rw [<- hw1] at HS0 HB1;have HC:=aj (BL HS0.out (fun b hb=>Nat.le_trans HB1.out.size hb) lA (by decide) (by decide));rw [Uu,abr] at HC;clear hw1 HN HS0;go_wp2_with fail;refine HC.out.mono ?_;rintro e w2 ⟨rfl,hk2,hs2⟩;have HB2:=aj (HB1.out.trans (hk2.below HB1.out.size));have HI:=aj (BM HA.out hs2 (fun b hb=>Nat.le_trans HB2.out.size hb) lA lD (by decide) (by decide) (fun r hr=>by obtain rfl:r=(lA,[]):=(by simpa using hr);exact Nat.zero_le _) (HT.out _ HB2.out));rw [Uv,abt] at HI;clear hk2 hs2 HC;go_wp2_with fail;refine HI.out.mono ?_;rintro e w3 ⟨rfl,hk3,hs3⟩;have HB3:=aj (HB2.out.trans (hk3.below HB2.out.size));have HF:=aj (LQ HA.out hs3 lA lF (by decide) (by decide) (fun r hr=>by obtain rfl:r=(lA,[tJ lD]):=(by simpa using hr);show 1<=60;omega) (HT.out _ HB3.out));have hln:(dI [(lA,[tJ lD])] lA lF).length=1:=by have:=congrArg List.length Xn;simpa using this
 rw [abq,Xn,hln] at HF;clear hk3 hs3 HI hln;go_wp2_with fail;refine HF.out.mono ?_;rintro e w4 ⟨b4,A,c,rfl,hO⟩;have bO:=aj (HB3.out.trans (b4.mono HB3.out.size));obtain ⟨g,cap,hv,_,_⟩:=hO.form (by omega);simp only [Value.slice.injEq] at hv;obtain ⟨rfl,_,rfl⟩:=hv;have q0:w4.cell? ⟨g,0,none⟩=some (.string lO):=by rw [hO.cellAt 0 (by omega)];rfl
 have ql:lO.toList=[123,34,95,105,100,34,58,49,125]:=by have h:=aT (a:=lO) (b:=lO) rfl;rw [beq_iff_eq] at h;exact h
 clear hO b4 HF;go_wp2_with fail;go_ret;exact ⟨rfl,bO.out⟩
structure PI (O:Nat->Nat) (w0 w:World) (pw:Nat) (a:Nat->Nat) (kx ks:Nat):Prop where
 low:Below w0.heap.size w0 w
 bnd:∀ b,O b≠0->w0.heap.size<=b/\b<w.heap.size
 own:O pw=5
 blk:∃ cs,w.heap[pw]?=some (.cells cs 78 (0,0))
 cs:∀ j,j<4->∃ u,w.cell? ⟨pw,j,none⟩=some u
 cx:∀ j,j<kx->w.cell? ⟨pw,j,none⟩=some (.pointer (some ⟨a j,0,none⟩))
 cy:∀ j,j<ks->w.cell? ⟨pw,2+j,none⟩=some (.pointer (some ⟨a (2+j),0,none⟩))
 c4:w.cell? ⟨pw,4,none⟩=some (.slice none 0 0)
 st:∀ j,j<kx->wM (fun b=>O b=1+j) w (a j) []
 rf:∀ j,j<ks->wu (fun b=>O b=3+j) w (a (2+j)) []
section
variable {O : Nat -> Nat} {w0 w w' : World} {pw : Nat} {a : Nat -> Nat} {kx ks : Nat}
theorem PI.pl (h:PI O w0 w pw a kx ks):pw<w.heap.size:=(h.bnd pw (by rw [h.own];omega)).2
theorem PI.fr (h:PI O w0 w pw a kx ks) (j:Nat):w.frozen? ⟨pw,j,none⟩=false:=by
 obtain ⟨cs,hc⟩:=h.blk;simp [World.frozen?,hc]
theorem PI.keep (h:PI O w0 w pw a kx ks) (hb:Below w.heap.size w w'):PI O w0 w' pw a kx ks:=by
 have hp:=hb.block pw h.pl;exact ⟨h.low.trans (hb.mono h.low.size),fun b hO=>⟨(h.bnd b hO).1,Nat.lt_of_lt_of_le (h.bnd b hO).2 hb.size⟩,h.own,h.blk.imp fun cs e=>hp.trans e,fun j hj=>(h.cs j hj).imp fun u e=>(aC hp j).trans e,fun j hj=>(aC hp j).trans (h.cx j hj),fun j hj=>(aC hp (2+j)).trans (h.cy j hj),(aC hp 4).trans h.c4,fun j hj=>(h.st j hj).keep hb,fun j hj=>(h.rf j hj).move hb.size fun b hl _=>hb.block b hl⟩
theorem PI.put (h:PI O w0 w pw a kx ks) (hb:Below w.heap.size w w') {j:Nat} (_hj0:j≠0) {c:Nat} (hc:c<4) (u:Value) :
  Below w0.heap.size w0 (w'.setCell ⟨pw,c,none⟩ u)/\(∀ b,ext O w j w' b≠0->w0.heap.size<=b/\b<(w'.setCell ⟨pw,c,none⟩ u).heap.size)/\ext O w j w' pw=5/\(∃ cs,(w'.setCell ⟨pw,c,none⟩ u).heap[pw]?=some (.cells cs 78 (0,0)))/\(∀ d,d<4->∃ v,(w'.setCell ⟨pw,c,none⟩ u).cell? ⟨pw,d,none⟩=some v)/\(∀ d v,d≠c->w.cell? ⟨pw,d,none⟩=some v->(w'.setCell ⟨pw,c,none⟩ u).cell? ⟨pw,d,none⟩=some v)/\(w'.setCell ⟨pw,c,none⟩ u).cell? ⟨pw,c,none⟩=some u/\(∀ b,b≠pw->(w'.setCell ⟨pw,c,none⟩ u).heap[b]?=w'.heap[b]?)/\(w'.setCell ⟨pw,c,none⟩ u).heap.size=w'.heap.size:=by
 obtain ⟨t1,t2,t3,t4⟩:=fE w' ⟨pw,c,none⟩ u;have hp:=hb.block pw h.pl;have JR:∀ b,b≠pw->(w'.setCell ⟨pw,c,none⟩ u).heap[b]?=w'.heap[b]?:=fun b hb=>Below.heap_setCell _ _ _ _ (by simpa using hb);obtain ⟨v0,hv0⟩:=h.cs c hc;have hsame:=World.cell?_setCell_same w' ⟨pw,c,none⟩ u ((aC hp c).trans hv0)
 have hoth:∀ d v,d≠c->w.cell? ⟨pw,d,none⟩=some v->(w'.setCell ⟨pw,c,none⟩ u).cell? ⟨pw,d,none⟩=some v:=fun d v hd hv=>by
  rw [World.cell?_setCell_other _ _ _ _ (by intro e;simp at e<;>first | exact hd e | exact hd e.symm)];exact (aC hp d).trans hv
 have ag8:=(h.bnd pw (by rw [h.own];omega)).1;have hlow:=h.low.trans (hb.mono h.low.size);have hs0:=h.low.size;have hs1:=hb.size;refine ⟨⟨t2.trans hlow.os,t3.trans hlow.tape,t4.trans hlow.output,by rw [t1];exact hlow.size,fun b hb0=>(JR b (by omega)).trans (hlow.block b hb0)⟩,fun b hO=>?_,(if_pos h.pl).trans h.own,?_,fun d hd=>?_,hoth,hsame,JR,t1⟩
 ·unfold ext at hO;rw [t1];by_cases e:b<w.heap.size
  ·rw [if_pos e] at hO;exact ⟨(h.bnd b hO).1,by omega⟩
  ·rw [if_neg e] at hO;by_cases e2:b<w'.heap.size
   ·exact ⟨by omega,e2⟩
   ·rw [if_neg e2] at hO;exact absurd rfl hO
 ·obtain ⟨cs,hcs⟩:=h.blk;exact ⟨cs.setIfInBounds c u,by simp [World.setCell,Array.getElem?_modify,hp.trans hcs]⟩
 ·by_cases e:d=c
  ·subst e;exact ⟨u,hsame⟩
  ·obtain ⟨v,hv⟩:=h.cs d hd;exact ⟨v,hoth d v e hv⟩
theorem PI.x (h:PI O w0 w pw a kx ks) (hk:kx<2) (hks:ks<=kx):∃ O' a',PI O' w0 (((w.alloc (.map #[] 0)).alloc (.cells #[.map (some w.heap.size)] 102)).setCell ⟨pw,kx,none⟩ (.pointer (some ⟨w.heap.size+1,0,none⟩))) pw a' (kx+1) ks:=by
 have hb:Below w.heap.size w ((w.alloc (.map #[] 0)).alloc (.cells #[.map (some w.heap.size)] 102)):=iY _ _ _;have hn:=wM.new w (fun b=>w.heap.size<=b) (fun b hb=>hb);generalize (w.alloc (.map #[] 0)).alloc (.cells #[.map (some w.heap.size)] 102)=w1 at hb hn ⊢;obtain ⟨k1,k2,k3,k4,k5,k6,k7,k8,k9⟩:=h.put hb (j:=1+kx) (by omega) (c:=kx) (by omega) (.pointer (some ⟨w.heap.size+1,0,none⟩));have hpl:=h.pl;have old:∀ b,b<w.heap.size->b≠pw->(w1.setCell ⟨pw,kx,none⟩ (.pointer (some ⟨w.heap.size+1,0,none⟩))).heap[b]?=w.heap[b]?:=fun b h1 h2=>(k8 b h2).trans (hb.block b h1);refine ⟨ext O w (1+kx) w1,upd a kx (w.heap.size+1),k1,k2,k3,k4,k5,fun j hj=>?_,fun j hj=>?_,k6 4 _ (by omega) h.c4,fun j hj=>?_,fun j hj=>?_⟩
 ·by_cases e:j=kx
  ·subst e;rw [bX];exact k7
  ·rw [bB _ _ e];exact k6 j _ e (h.cx j (by omega))
 ·rw [bB _ _ (by omega)];exact k6 (2+j) _ (by omega) (h.cy j hj)
 ·by_cases e:j=kx
  ·subst e;rw [bX];have h2:wM (fun b=>w.heap.size<=b) (w1.setCell ⟨pw,j,none⟩ (.pointer (some ⟨w.heap.size+1,0,none⟩))) (w.heap.size+1) []:=hn.move (by rw [k9];exact Nat.le_refl _) fun b _ hq=>k8 b (by omega);exact h2.mono fun b hl hq=>by rw [k9] at hl;exact wK hl (.inr hq)
  ·rw [bB _ _ e];exact ((h.st j (by omega)).mono (Q':=fun b=>ext O w (1+kx) w1 b=1+j) fun b hl hq=>(gP hl).trans hq).move (by rw [k9];exact hb.size) fun b hl hq=>old b hl (fun e2=>by have h3:=(gP (O:=O) (w':=w1) (j:=1+kx) hl).symm.trans hq;rw [e2,h.own] at h3;omega)
 ·rw [bB _ _ (by omega)];exact ((h.rf j hj).mono (Q':=fun b=>ext O w (1+kx) w1 b=3+j) fun b hl hq=>(gP hl).trans hq).move (by rw [k9];exact hb.size) fun b hl hq=>old b hl (fun e2=>by have h3:=(gP (O:=O) (w':=w1) (j:=1+kx) hl).symm.trans hq;rw [e2,h.own] at h3;omega)
theorem PI.s (h:PI O w0 w pw a kx ks) (hk:ks<2) (hx2:kx<=2):∃ O' a',PI O' w0 ((w.alloc (.cells #[.slice none 0 0] 130)).setCell ⟨pw,2+ks,none⟩ (.pointer (some ⟨w.heap.size,0,none⟩))) pw a' kx (ks+1):=by
 have hb:=bJ w (.cells #[.slice none 0 0] 130);have hn:=wu.new w (fun b=>w.heap.size<=b) (fun b hb=>hb);generalize w.alloc (.cells #[.slice none 0 0] 130)=w1 at hb hn ⊢;obtain ⟨k1,k2,k3,k4,k5,k6,k7,k8,k9⟩:=h.put hb (j:=3+ks) (by omega) (c:=2+ks) (by omega) (.pointer (some ⟨w.heap.size,0,none⟩));have hpl:=h.pl;have old:∀ b,b<w.heap.size->b≠pw->(w1.setCell ⟨pw,2+ks,none⟩ (.pointer (some ⟨w.heap.size,0,none⟩))).heap[b]?=w.heap[b]?:=fun b h1 h2=>(k8 b h2).trans (hb.block b h1);refine ⟨ext O w (3+ks) w1,upd a (2+ks) w.heap.size,k1,k2,k3,k4,k5,fun j hj=>?_,fun j hj=>?_,k6 4 _ (by omega) h.c4,fun j hj=>?_,fun j hj=>?_⟩
 ·rw [bB _ _ (by omega)];exact k6 j _ (by omega) (h.cx j hj)
 ·by_cases e:j=ks
  ·subst e;rw [bX];exact k7
  ·rw [bB _ _ (by omega)];exact k6 (2+j) _ (by omega) (h.cy j (by omega))
 ·rw [bB _ _ (by omega)];exact ((h.st j hj).mono (Q':=fun b=>ext O w (3+ks) w1 b=1+j) fun b hl hq=>(gP hl).trans hq).move (by rw [k9];exact hb.size) fun b hl hq=>old b hl (fun e2=>by have h3:=(gP (O:=O) (w':=w1) (j:=3+ks) hl).symm.trans hq;rw [e2,h.own] at h3;omega)
 ·by_cases e:j=ks
  ·subst e;rw [bX];have h2:wu (fun b=>w.heap.size<=b) (w1.setCell ⟨pw,2+j,none⟩ (.pointer (some ⟨w.heap.size,0,none⟩))) w.heap.size []:=hn.move (by rw [k9];exact Nat.le_refl _) fun b _ hq=>k8 b (by omega);exact h2.mono fun b hl hq=>by rw [k9] at hl;exact wK hl (.inr hq)
  ·rw [bB _ _ (by omega)];exact ((h.rf j (by omega)).mono (Q':=fun b=>ext O w (3+ks) w1 b=3+j) fun b hl hq=>(gP hl).trans hq).move (by rw [k9];exact hb.size) fun b hl hq=>old b hl (fun e2=>by have h3:=(gP (O:=O) (w':=w1) (j:=3+ks) hl).symm.trans hq;rw [e2,h.own] at h3;omega)
theorem PI.start (hb:Below w0.heap.size w0 w):PI (fun b=>if b=w.heap.size then 5 else 0) w0 (w.alloc (.cells #[.pointer none,.pointer none,.pointer none,.pointer none,.slice none 0 0] 78)) w.heap.size a 0 0:=by
 refine ⟨hb.alloc hb.size _,fun b hO=>?_,if_pos rfl,⟨_,heap_alloc_new w _⟩,fun j hj=>?_,fun j hj=>absurd hj (Nat.not_lt_zero j),fun j hj=>absurd hj (Nat.not_lt_zero j),by simp [go_sem],fun j hj=>absurd hj (Nat.not_lt_zero j),fun j hj=>absurd hj (Nat.not_lt_zero j)⟩
 ·have e:b=w.heap.size:=by by_cases e:b=w.heap.size;exact e;exact absurd (if_neg e) hO
  subst e;exact ⟨hb.size,by simp⟩
 ·rcases (show j=0\/j=1\/j=2\/j=3 by omega) with rfl | rfl | rfl | rfl<;>exact ⟨.pointer none,by simp [go_sem]⟩
theorem PI.woi (h:PI O w0 w pw a 2 2):pF O w0 w pw a (.slice none 0 0) [] (fun _=>[]) (fun _=>[]):=by
 refine ⟨h.low,h.bnd,⟨h.own,h.blk,fun i hi=>?_,h.c4,World.ownsRow_nil _ _ _ _,fun b e=>by simp [Value.ownBlock] at e,fun q r hr=>by simp at hr,fun q r hr=>by simp at hr⟩,fun i hi=>h.st i hi,fun i hi=>h.rf i hi⟩;rcases (show i=0\/i=1\/i=2\/i=3 by omega) with rfl | rfl | rfl | rfl
 ·exact h.cx 0 (by omega)
 ·exact h.cx 1 (by omega)
 ·exact h.cy 0 (by omega)
 ·exact h.cy 1 (by omega)
end
end Go.Proofs.YtknakfpciccoaaaGreatDoor
