import Derived.Test.YtknakfpciccoaaaGreatDoorZF28
import Derived.Test.YtknakfpciccoaaaGreatDoorZF15
import Derived.Test.YtknakfpciccoaaaGreatDoorZF24
import Derived.Test.YtknakfpciccoaaaGreatDoorZF17
import Derived.Test.YtknakfpciccoaaaGreatDoorZF4
import Derived.BigQuiet
import Derived.Deep.QuietTactic
import Derived.Test.YtknakfpciccoaaaGreatDoorZF3
import Derived.Deep.RegionHeld
import Derived.Test.YtknakfpciccoaaaGreatDoorZF27
/- The reference's follow. -/
set_option maxHeartbeats 8000000
set_option maxRecDepth 100000
namespace Go.Proofs.YtknakfpciccoaaaGreatDoor
open Go.RowKit
theorem L9 {w:World} {lo:Nat} {v:Value} {l:List ByteArray} (h:w.ownsRow lo 9 1 v l.length (l.map .string)):∃ A c,v=.slice A l.length c/\∀ i,i<l.length->∃ b o,A=some ⟨b,o,none⟩/\lo<=b/\b<w.heap.size/\l.getD i ByteArray.empty ∈ l/\w.cell? ⟨b,o+i,none⟩=some (.string (l.getD i ByteArray.empty)):=by
 obtain ⟨A,c,rfl⟩:=o8 h;refine ⟨A,c,rfl,fun i hi=>?_⟩;rcases h.2 with ⟨h',h0⟩ | ⟨g',cap',cur,h',hg,_⟩
 ·omega
 ·simp only [Value.slice.injEq,true_and] at h';obtain ⟨rfl,rfl⟩:=h';have e:l.getD i ByteArray.empty=l[i]:=by rw [List.getD_eq_getElem?_getD,List.getElem?_eq_getElem hi];rfl
  refine ⟨g',0,rfl,hg,(h.lt g' rfl).2,by rw [e];exact List.getElem_mem hi,?_⟩;rw [Nat.zero_add,h.cellAt i (by omega),e];simp [hi]
theorem yF {x:ByteArray}:∀ (k:Nat) (s:ByteArray),s.size<=x.size->∀ y ∈ Lib.splitB ⟨#[46]⟩ 0 k s,y.size<=x.size
 | 0,s,hs,y,hy=>by rw [Lib.splitB_zero,List.mem_singleton] at hy;rw [hy];exact hs
 | k+1,s,hs,y,hy=>by
  rw [Lib.splitB] at hy;split at hy
  ·rw [List.mem_singleton] at hy;rw [hy];exact hs
  ·rcases List.mem_cons.1 hy with hy | hy
   ·rw [hy];simp;omega
   ·exact yF k _ (by simp;omega) y hy
theorem Jl (x:ByteArray) (hx:x.size<=100000):(aU x).length<=1000000/\∀ y ∈ aU x,y.size<=1000000:=by
 refine ⟨?_,fun y hy=>Nat.le_trans (yF (x:=x) _ x (Nat.le_refl _) y hy) (by omega)⟩;have h1:=Lib.splitB_length_le ⟨#[46]⟩ 0 (Lib.countB x ⟨#[46]⟩) x;have h2:Lib.countB x ⟨#[46]⟩<=x.data.toList.length+1:=Lib.count_le _ _;have h3:x.data.toList.length=x.size:=by simp
 unfold aU;omega
theorem Jm (f:Nat) (v:Value) (t:T) (x:ByteArray) (w0 w:World) (hb0:Below w0.heap.size w0 w) (h:At w0 f v t) (hok:dZ t) (hx:x.size<=100000) (hp:fD x=true) :
  Calls Tryz.prog 212 #[v,.string x] w (Io w0 (aU x) t f w):=by
 have HB0:=aj hb0;have YX:=aj h;have HK0:=aj hok;have Ye:=aj (Jl x hx)
 have Hne:Hid (∀ y ∈ aU x,y.size≠0):=fun y hy e=>by
  unfold fD at hp;have:y=⟨#[]⟩:=by apply ByteArray.ext;exact Array.eq_empty_of_size_eq_zero e
  subst this;have:=xJ hy;cases hi:bT ⟨#[]⟩ (aU x) with
  | none=>rw [hi] at this;cases this
  | some k=>rw [hi] at hp;cases hp
 have zJ:=aj (fun w=>EA x w (by omega));have Hp:=aj hp;obtain ⟨g,La,Ka,Lc,Kc,hfg,rfl,hf,hl,hk⟩:=h.open;clear hb0 h hok hf hl hk hfg hp hx;generalize aU x=ps at Ye Hne zJ ⊢
 have HF0:Hid (FS w (.int .i64 (ah t)) (.int .i64 (aB t)) (.string (aF t)) (.slice La (nL t) Lc) (.slice Ka (nK t) Kc) ((w.alloc (.cells #[.int .i64 (ah t),.int .i64 (aB t),.string (aF t),.slice La (nL t) Lc,.slice Ka (nK t) Kc] 25)).alloc (.cells #[.int .i64 0,.int .i64 0,.string ⟨#[]⟩,.slice none 0 0,.slice none 0 0] 25))):=by
  refine ⟨((Below.refl _ _).alloc (Nat.le_refl _) _).alloc (by simp) _,?_,?_⟩
  ·constructor<;>simp [go_sem]
  ·constructor<;>simp [go_sem]
 go_in;go_wp2_with fail;refine (zJ.out _).mono ?_;rintro e w1 ⟨b1,hpost⟩
 obtain ⟨sv,rfl,hrow⟩:∃ sv,e=.returned (.tuple #[sv,.bool true])/\w1.ownsRow _ 9 1 sv ps.length (ps.map .string):=by
  rcases hpost with ⟨_,h⟩ | ⟨h,_⟩
  ·exact h
  ·rw [Hp.out] at h;cases h
 have WT:=aj (HF0.out.keep b1);obtain ⟨PA,pc,rfl,hps⟩:=L9 hrow;have hpl:=Ye.out.1;have HPS:=aj hps;clear b1 hrow hps hpost zJ HF0;go_wp2_with fail;go_loopg [8] (ps.length) (fun g i wr=>∃ (k:Nat) (tk:T) (gk:Nat) (A B C D:_),g=ps.length - k/\k<=ps.length/\i=.int .i64 k/\gk<=f/\Hid (At w0 gk (.agg #[.int .i64 (ah tk),.int .i64 (aB tk),.string (aF tk),.slice A (nL tk) B,.slice C (nK tk) D]) tk)/\Hid (dZ tk)/\Hid (gJ (ps.drop k) tk=gJ ps t)/\Hid (FS w (.int .i64 (ah tk)) (.int .i64 (aB tk)) (.string (aF tk)) (.slice A (nL tk) B) (.slice C (nK tk) D) wr)/\Hid (∀ b,w.heap.size+2<=b->b<w1.heap.size->wr.heap[b]?=w1.heap[b]?))
 case atStart=>exact ⟨0,t,f,La,Lc,Ka,Kc,rfl,Nat.zero_le _,rfl,Nat.le_refl _,YX,HK0,rfl,WT,fun b _ _=>rfl⟩
 case round =>
  obtain ⟨k,tk,gk,A,B,C,D,rfl,hk,rfl,WM,HA,HK,HE,HS,HU⟩:=hrel;by_cases hlt:k<ps.length
  ·obtain ⟨pb,po,rfl,Yf,hpb,hxm,hxc⟩:=HPS.out k hlt;have hxs:=Ye.out.2 _ hxm;have hxn:=Hne.out _ hxm;have HD:=aj (D6 hlt);have hxw:=(aC (HU.out pb (by simpa using Yf) hpb) (po+k)).trans hxc;generalize ps.getD k ByteArray.empty=y at hxs hxn hxw HD
   have hpw:pb<wr.heap.size:=by
    have:=Array.getElem?_eq_none_iff (xs:=wr.heap) (i:=pb);by_cases hq:pb<wr.heap.size
    ·exact hq
    ·have h1:=HU.out pb (by simpa using Yf) hpb;rw [Array.getElem?_eq_none_iff.2 (by omega),Array.getElem?_eq_getElem hpb] at h1;cases h1
   have hkl:(k:Int)<(ps.length:Int):=by omega
   have Ie:Hid (∀ wx:World,Below wr.heap.size wr wx->Below w0.heap.size w0 wx):=fun wx hb=>(HB0.out.trans (HS.out.low.mono HB0.out.size)).trans (hb.mono (HB0.out.trans (HS.out.low.mono HB0.out.size)).size);have HC:=aj (xL gk _ tk y wr.drew (HA.out.keep (Ie.out _ (ak wr))) hxn hxs HK.out.small.2)
   have iX:Hid (∀ wx:World,Below wr.heap.size wr wx->(wx.cell? ⟨w.heap.size,0,none⟩=some (.int .i64 (ah tk))/\wx.cell? ⟨w.heap.size,1,none⟩=some (.int .i64 (aB tk))/\wx.cell? ⟨w.heap.size,2,none⟩=some (.string (aF tk))/\wx.cell? ⟨w.heap.size,3,none⟩=some (.slice A (nL tk) B)/\wx.cell? ⟨w.heap.size,4,none⟩=some (.slice C (nK tk) D)/\wx.cell? ⟨pb,po+k,none⟩=some (.string y))):=fun wx hb=>by
    have hv:=HS.out.v;exact ⟨(hb.cell (p:=⟨w.heap.size,0,none⟩) hv.lt).trans hv.q0,(hb.cell (p:=⟨w.heap.size,1,none⟩) hv.lt).trans hv.q1,(hb.cell (p:=⟨w.heap.size,2,none⟩) hv.lt).trans hv.q2,(hb.cell (p:=⟨w.heap.size,3,none⟩) hv.lt).trans hv.q3,(hb.cell (p:=⟨w.heap.size,4,none⟩) hv.lt).trans hv.q4,(hb.cell (p:=⟨pb,po+k,none⟩) hpw).trans hxw⟩
   have qH:=aj (iX.out _ (ak wr));have HF:Hid (gJ ps t=(wL y tk).bind fun j=>gJ (ps.drop (k+1)) (elt tk j)):=by show _=_;rw [<- HE.out,HD.out];rfl
   clear hxc hxm Yf hpb HD hxw hxn hxs;cases hpl':wL y tk with
   | none =>
    rw [hpl'] at HC HF;have HN:Hid (gJ ps t=none):=HF.out;clear hpl' HF;simp only [jN] at HC;go_wp2_with fail;go_region_held3 (fun wx=>wx.cell? ⟨w.heap.size,0,none⟩=some (.int .i64 (ah tk))/\wx.cell? ⟨w.heap.size,1,none⟩=some (.int .i64 (aB tk))/\wx.cell? ⟨w.heap.size,2,none⟩=some (.string (aF tk))/\wx.cell? ⟨w.heap.size,3,none⟩=some (.slice A (nL tk) B)/\wx.cell? ⟨w.heap.size,4,none⟩=some (.slice C (nK tk) D)/\wx.cell? ⟨pb,po+k,none⟩=some (.string y)) (first | exact kD | exact qH.out) ((go_at_call 133;refine HC.out.mono ?_;rintro e5 w5 ⟨rfl,hb5⟩;have kD:=iX.out _ ((ak wr).trans hb5)));have HS2:=aj (HS.out.keep ((ak wr).trans hb5));clear hb5 kD qH iX HC;have HR2:=aj HS2.out.r;have HO:=aj (HS2.out.res (.int .i64 0) (.int .i64 0) (.string ⟨#[]⟩) (.slice none 0 0) (.slice none 0 0));have r0:=HR2.out.q0;have r1:=HR2.out.q1;have r2:=HR2.out.q2;have r3:=HR2.out.q3;have r4:=HR2.out.q4;have s0:=HR2.out.f0;have s1:=HR2.out.f1;have s2:=HR2.out.f2;have s3:=HR2.out.f3;have s4:=HR2.out.f4;unfold ny at HO;go_wp2_with fail;clear r0 r1 r2 r3 r4 s0 s1 s2 s3 s4;have sO:=aj HO.out.1;have r0:=sO.out.q0;have r1:=sO.out.q1;have r2:=sO.out.q2;have r3:=sO.out.q3;have r4:=sO.out.q4;refine bodyPost_ret (v:=.tuple #[.agg #[.int .i64 0,.int .i64 0,.string ⟨#[]⟩,.slice none 0 0,.slice none 0 0],.bool false]) (by simp [results,Tryz.results212,go_sem, *]) rfl ?_;exact ⟨HO.out.2,.inr ⟨HN.out,rfl⟩⟩
   | some j =>
    have hj:=KJ hpl' HK.out.names;rw [hpl'] at HC HF;have ru:Hid (gJ ps t=gJ (ps.drop (k+1)) (elt tk j)):=HF.out;clear hpl' HF;simp only [jN] at HC;obtain ⟨g',A',C',B',D',hg',hv',XQ,hel,_⟩:=HA.out.open;have hnl:=XQ.l1;simp only [Value.agg.injEq,Array.mk.injEq,List.cons.injEq,Value.slice.injEq,and_true,true_and] at hv';obtain ⟨⟨rfl,rfl⟩,rfl,rfl⟩:=hv';have CK:Hid (dZ (elt tk j)):=HK.out.elt hj;have OP:=aj hel.out;have hjl:(j:Int)<(nL tk:Int):=by omega
    have hj0:¬ (j:Int)<0:=by omega
    clear XQ hel;go_wp2_with fail;go_region_held3 (fun wx=>wx.cell? ⟨w.heap.size,0,none⟩=some (.int .i64 (ah tk))/\wx.cell? ⟨w.heap.size,1,none⟩=some (.int .i64 (aB tk))/\wx.cell? ⟨w.heap.size,2,none⟩=some (.string (aF tk))/\wx.cell? ⟨w.heap.size,3,none⟩=some (.slice A (nL tk) B)/\wx.cell? ⟨w.heap.size,4,none⟩=some (.slice C (nK tk) D)/\wx.cell? ⟨pb,po+k,none⟩=some (.string y)) (first | exact kD | exact qH.out) ((go_at_call 133;refine HC.out.mono ?_;rintro e5 w5 ⟨rfl,hb5⟩;have kD:=iX.out _ ((ak wr).trans hb5)));have Hb5:=aj ((ak wr).trans hb5);have HS2:=aj (HS.out.keep Hb5.out);have jW:=aj (Ie.out _ Hb5.out);clear hb5 kD qH iX HC Ie;obtain ⟨bb,oo,A2,B2,C2,D2,rfl,hbl,p0,p1,p2,p3,p4,Ha⟩:=OP.out.shape jW.out j hj;have oP:=aj HS2.out.v;have HP:=aj (HS2.out.put (.int .i64 (ah (elt tk j))) (.int .i64 (aB (elt tk j))) (.string (aF (elt tk j))) (.slice A2 (nL (elt tk j)) B2) (.slice C2 (nK (elt tk j)) D2))
    have HU2:Hid (∀ b,w.heap.size+2<=b->b<w1.heap.size->(ny w5 w.heap.size (.int .i64 (ah (elt tk j))) (.int .i64 (aB (elt tk j))) (.string (aF (elt tk j))) (.slice A2 (nL (elt tk j)) B2) (.slice C2 (nK (elt tk j)) D2)).heap[b]?=w1.heap[b]?):=fun b h1 h2=>by
     rw [uq w5 (by omega)];have h3:=HU.out b h1 h2
     have ac0:b<wr.heap.size:=by
      by_cases hq:b<wr.heap.size
      ·exact hq
      ·rw [Array.getElem?_eq_none_iff.2 (by omega),Array.getElem?_eq_getElem h2] at h3;cases h3
     exact (Hb5.out.block b ac0).trans h3
    have r0:=oP.out.q0;have r1:=oP.out.q1;have r2:=oP.out.q2;have r3:=oP.out.q3;have r4:=oP.out.q4;have s0:=oP.out.f0;have s1:=oP.out.f1;have s2:=oP.out.f2;have s3:=oP.out.f3;have s4:=oP.out.f4;unfold ny at HP HU2;go_wp2_with fail;clear r0 r1 r2 r3 r4 s0 s1 s2 s3 s4;go_roundg (ps.length - (k+1))
    case rel=>exact ⟨k+1,elt tk j,g',A2,B2,C2,D2,rfl,by omega,by go_num,by omega,Ha,CK,ru.out.symm,HP,HU2⟩
    case measure=>omega
  ·obtain rfl:k=ps.length:=by omega
   have hkl:¬ (ps.length:Int)<(ps.length:Int):=by omega
   have HF:Hid (gJ ps t=some tk):=by show _=_;rw [<- HE.out,List.drop_length];rfl
   have HR2:=aj HS.out.r;have oP:=aj HS.out.v;have HO:=aj (HS.out.res (.int .i64 (ah tk)) (.int .i64 (aB tk)) (.string (aF tk)) (.slice A (nL tk) B) (.slice C (nK tk) D));clear hlt HPS HU HE;have v0:=oP.out.q0;have v1:=oP.out.q1;have v2:=oP.out.q2;have v3:=oP.out.q3;have v4:=oP.out.q4;have r0:=HR2.out.q0;have r1:=HR2.out.q1;have r2:=HR2.out.q2;have r3:=HR2.out.q3;have r4:=HR2.out.q4;have s0:=HR2.out.f0;have s1:=HR2.out.f1;have s2:=HR2.out.f2;have s3:=HR2.out.f3;have s4:=HR2.out.f4;unfold ny at HO;go_wp2_with fail;clear r0 r1 r2 r3 r4 s0 s1 s2 s3 s4;have sO:=aj HO.out.1;have r0:=sO.out.q0;have r1:=sO.out.q1;have r2:=sO.out.q2;have r3:=sO.out.q3;have r4:=sO.out.q4;refine bodyPost_ret (v:=.tuple #[.agg #[.int .i64 (ah tk),.int .i64 (aB tk),.string (aF tk),.slice A (nL tk) B,.slice C (nK tk) D],.bool true]) (by simp [results,Tryz.results212,go_sem, *]) rfl ?_;exact ⟨HO.out.2,.inl ⟨tk,gk,A,B,C,D,HF.out,WM,rfl,HA.out,HK.out⟩⟩
theorem At.up1 {w:World}:∀ {f:Nat} {v:Value} {t:T},At w f v t->At w (f+1) v t:=by
 intro f
 induction f with
 | zero=>intro v t h;exact h.elim
 | succ f ih =>
  rintro v t ⟨La,Ka,Lc,Kc,rfl,hf,hl,hk⟩;refine ⟨La,Ka,Lc,Kc,rfl,hf,fun i hi=>?_,hk⟩;obtain ⟨b,o,c0,c1,c2,c3,c4,h0,hb,q0,q1,q2,q3,q4,ha⟩:=hl i hi;exact ⟨b,o,c0,c1,c2,c3,c4,h0,hb,q0,q1,q2,q3,q4,ih ha⟩
theorem At.up {w:World} {f:Nat} {v:Value} {t:T} (h:At w f v t):∀ {g:Nat},f<=g->At w g v t:=by
 intro g hg
 induction hg with
 | refl=>exact h
 | step _ ih=>exact ih.up1
theorem EB (a b:ByteArray) (w:World) :
  Calls Tryz.prog 171 #[.string a,.string b] w fun e w'=>e=.returned (.int .i64 (lV a b))/\w'=w:=by
 go_in;go_wp2
 all_goals (go_ret;refine ⟨?_,rfl⟩)
 ·exact aH (MQ (by assumption)).symm
 ·exact aH (MR (by assumption) (by assumption)).symm
 ·exact aH (ER (by assumption) (by assumption)).symm
theorem Tq (f:Nat) (v:Value) (t:T) (w:World) (h:At w f v t) :
  Calls Tryz.prog 81 #[v] w fun e w'=>e=.returned (.int .i64 (bn 16 t))/\Below w.heap.size w w':=by
 obtain ⟨f,La,Ka,Lc,Kc,rfl,rfl,hf,hl,hk⟩:=h.open;have H:=aj h;clear h;go_in;go_wp2_with fail;have hb:Below w.heap.size w (w.alloc (vC t La Lc Ka Kc)):=bG _ _;refine (QK 16 _ _ _ _ (H.out.keep hb) (by omega)).mono ?_;rintro e w2 ⟨rfl,hb2⟩;go_wp2_with fail;go_ret;exact ⟨rfl,hb.trans (hb2.mono (by simp))⟩
theorem PE (f:Nat):∀ (v:Value) (t:T) (w:World),At w f v t ->
  Calls Tryz.prog 83 #[v] w fun e w'=>e=.returned (.bool (bN f t))/\Below w.heap.size w w':=by
 induction f with
 | zero=>intro v t w h;exact h.elim
 | succ f ih =>
  intro v t w h;obtain ⟨g,La,Ka,Lc,Kc,hg,rfl,hf,hl,hk⟩:=h.open;obtain rfl:f=g:=by omega
  have hlen:=hf.l1;have AZ:=hf.m1;clear h hf;go_in;go_wp2_with fail;go_loopg [3,4] (nK t) (fun g i z wr=>∃ k:Nat,g=nK t - k/\k<=nK t/\i=.int .i64 k/\Hid (fq t k=false)/\Below (w.heap.size+1) (w.alloc (vC t La Lc Ka Kc)) wr)
  case atStart=>exact ⟨0,rfl,Nat.zero_le _,rfl,rfl,Below.refl _ _⟩
  case round =>
   obtain ⟨k,rfl,hk1,rfl,hd,hb⟩:=hrel;obtain ⟨q0,q1,q2,q3,q4,hz,hbw⟩:=aI hb;have Hb:=aj hb;clear hb;by_cases hlt:k<nK t
   ·obtain ⟨kb,ko,rfl,hkb,hks,hkc⟩:=hk.out.keep hbw k hlt;go_wp2_with fail;go_loopg [4] k (fun g z wx=>∃ j:Nat,g=k - j/\j<=k/\z=.int .i64 j/\Hid (mG t k j=false)/\Below (w.heap.size+1) (w.alloc (vC t La Lc (some ⟨kb,ko,none⟩) Kc)) wx)
    case atStart=>exact ⟨0,rfl,Nat.zero_le _,rfl,rfl,Hb.out⟩
    case round =>
     obtain ⟨j,rfl,hj,rfl,hdj,hbx⟩:=hrel;obtain ⟨x0,x1,x2,x3,x4,hzx,PG⟩:=aI hbx;have WX:=aj hbx;clear hbx;by_cases hjl:j<k
     ·obtain ⟨kb1,ko1,e1,agm,agn,agp⟩:=hk.out.keep PG k hlt;obtain ⟨kb2,ko2,e2,hkb2,agq,agr⟩:=hk.out.keep PG j (by omega);cases e1;cases e2;have b1:(j:Int)<(nK t:Int):=by omega
      have b2:(k:Int)<(nK t:Int):=by omega
      go_wp2_with fail;go_quiet (fail);go_wp2_with fail
      ·rename_i hq;go_ret;refine ⟨av ?_,?_⟩
       ·show true=(fq t (nK t) || bg (bN f) t (nL t));rw [Om hlt hjl hq];rfl
       ·exact below_drewN PG _
      ·rename_i hq;go_roundg (k - (j+1))
       case rel =>
        refine ⟨j+1,rfl,by omega,by go_num,?_,below_drewN WX.out _⟩;show (mG t k j || ((bf t k).toList==(bf t j).toList))=false;rw [hdj.out];simpa using hq
       case measure=>omega
     ·go_wp2_with fail;obtain rfl:j=k:=by omega
      go_roundg (nK t - (j+1))
      case rel =>
       refine ⟨j+1,rfl,by omega,by go_num,?_,WX.out⟩;show (fq t j || mG t j j)=false;rw [hd.out,hdj.out];rfl
      case measure=>omega
   ·go_wp2_with fail;obtain rfl:k=nK t:=by omega
    go_loopg [5,6] (nL t) (fun g i z wx=>∃ k:Nat,g=nL t - k/\k<=nL t/\i=.int .i64 k/\Hid (bg (bN f) t k=false)/\Below (w.heap.size+1) (w.alloc (vC t La Lc Ka Kc)) wx)
    case atStart=>exact ⟨0,rfl,Nat.zero_le _,rfl,rfl,Hb.out⟩
    case round =>
     obtain ⟨k,rfl,hk2,rfl,hd2,hbx⟩:=hrel;obtain ⟨x0,x1,x2,x3,x4,hzx,PG⟩:=aI hbx;have WX:=aj hbx;clear hbx;by_cases hlt2:k<nL t
     ·obtain ⟨b,o,c0,c1,c2,c3,c4,rfl,hbl,p0,p1,p2,p3,p4,Ha⟩:=hl.out.keep PG k hlt2;go_wp2_with fail;refine (ih _ _ _ Ha.out).mono ?_;rintro e w2 ⟨rfl,hb2⟩;have hb3:=aj (WX.out.trans (hb2.mono (by omega)));cases hv:bN f (elt t k) with
      | true =>
       go_wp2_with fail;go_ret;refine ⟨av ?_,(bG _ _).trans (hb3.out.mono (by omega))⟩;show true=(fq t (nK t) || bg (bN f) t (nL t));rw [uO hlt2 hv,Bool.or_true]
      | false =>
       go_wp2_with fail;go_roundg (nL t - (k+1))
       case rel =>
        refine ⟨k+1,rfl,by omega,by go_num,?_,hb3.out⟩;show (bg (bN f) t k || bN f (elt t k))=false;rw [hd2.out,hv];rfl
       case measure=>omega
     ·go_wp2_with fail;obtain rfl:k=nL t:=by omega
      go_ret;refine ⟨av ?_,PG⟩;show false=(fq t (nK t) || bg (bN f) t (nL t));rw [hd.out,hd2.out];rfl
theorem sEq (a b:ByteArray):(a.toList==b.toList)=true ↔ a=b:=by rw [beq_iff_eq];exact kg a b
theorem PK (f:Nat):∀ (g:Nat) (va vb:Value) (a b:T) (w:World),At w f va a->At w g vb b->Oo f a->Oo f b ->
  Calls Tryz.prog 134 #[va,vb] w fun e w'=>e=.returned (.int .i64 (iH f a b))/\Below w.heap.size w w':=by
 induction f with
 | zero=>intro g va vb a b w h;exact h.elim
 | succ f ih =>
  intro g va vb a b w h h' ka kb;obtain ⟨f1,La,Ka,Lc,Kc,hf1,rfl,hf,hl,hk⟩:=h.open;obtain rfl:f=f1:=by omega
  obtain ⟨g1,Ma,Na,Mc,Nc,hg1,rfl,hf',hl',hk'⟩:=h'.open;have hlen:=hf.l1;have hlen':=hf'.l1;have Vl:=aj ka;have Vm:=aj kb;clear h h' hf hf' hf1 hg1 ka kb;have sN:=aj ih;clear ih;by_cases k1:ah a=ah b
  ·have e1:(ah a != ah b)=false:=by simp [k1]
   by_cases k2:aB a=aB b/\aF a=aF b
   ·have e2:(aB a != aB b)=false:=by simp [k2.1]
    have e3:((aF a).toList==(aF b).toList)=true:=by rw [k2.2];simp
    have HR:Hid (iH (f+1) a b=jy (iH f) a b):=by show iH (f+1) a b=_;simp only [iH];rw [if_neg (by simp [k1]),if_neg (by simp [k2.1,k2.2])]
    have K1:=aj k1;clear k1 k2;go_in;go_wp2_with fail;go_loopg [5] (nL a) (fun g i wr=>∃ k:Nat,g=nL a - k/\k<=nL a/\k<=nL b/\i=.int .i64 k/\Hid (iq (iH f) a b k=0)/\Below (w.heap.size+2) ((w.alloc (vC a La Lc Ka Kc)).alloc (vC b Ma Mc Na Nc)) wr)
    case atStart=>exact ⟨0,rfl,Nat.zero_le _,Nat.zero_le _,rfl,rfl,Below.refl _ _⟩
    case round =>
     obtain ⟨k,rfl,hka,hkb,rfl,HO,hb⟩:=hrel;obtain ⟨⟨q0,q1,q2,q3,q4⟩,⟨r0,r1,r2,r3,r4⟩,hz,hbw⟩:=gV hb;have Hb:=aj hb;clear hb;have hz0:w.heap.size<wr.heap.size:=by omega
     by_cases hlt:k<nL a
     ·by_cases hlt':k<nL b
      ·obtain ⟨ba,oa,c0,c1,c2,c3,c4,rfl,hba,p0,p1,p2,p3,p4,Ha⟩:=hl.out.keep hbw k hlt;obtain ⟨bb,ob,d0,d1,d2,d3,d4,rfl,hbb,t0,t1,t2,t3,t4,Hc⟩:=hl'.out.keep hbw k hlt';have x1:(k:Int)<(nL a:Int):=by omega
       have x2:(k:Int)<(nL b:Int):=by omega
       by_cases k6:ah a=6
       ·have e6:(ah a==6)=true:=by simpa using k6
        have HS:=aj (rY (g:=iH f) (b:=b) HO.out);have na:k<nK a:=by rw [Vl.out.1 k6];exact hlt
        have nb:k<nK b:=by rw [Vm.out.1 (K1.out ▸ k6)];exact hlt'
        obtain ⟨ea,fa,rfl,hea,hsa,n0⟩:=hk.out.keep hbw k na;obtain ⟨eb,fb,rfl,heb,hsb,m0⟩:=hk'.out.keep hbw k nb;have x3:(k:Int)<(nK a:Int):=by omega
        have x4:(k:Int)<(nK b:Int):=by omega
        have K6:=aj k6;have bc:=rW (bf a k) (bf b k);clear k6;go_wp2_with fail;go_quiet ((go_at_call 171;exact Calls.quiet_of_same (EB _ _ _)));generalize hcc:lV (bf a k) (bf b k)=c at bc ⊢;have ZL:=aj hcc;clear hcc;have pY:Hid (Below wr.heap.size wr (wr.drewN nq)):=below_drewN (Below.refl _ _) nq;generalize wr.drewN nq=wq at pY ⊢;have Vn:=pY.out.size;have y0:=(pY.out.cell (p:=⟨w.heap.size,3,none⟩) hz0).trans q3;have y1:=(pY.out.cell (p:=⟨w.heap.size+1,3,none⟩) hz).trans r3;have u0:=(pY.out.cell (p:=⟨ba,oa+k*5,none⟩) hba).trans p0;have u1:=(pY.out.cell (p:=⟨ba,oa+k*5+1,none⟩) hba).trans p1;have u2:=(pY.out.cell (p:=⟨ba,oa+k*5+2,none⟩) hba).trans p2;have u3:=(pY.out.cell (p:=⟨ba,oa+k*5+3,none⟩) hba).trans p3;have u4:=(pY.out.cell (p:=⟨ba,oa+k*5+4,none⟩) hba).trans p4;have v0:=(pY.out.cell (p:=⟨bb,ob+k*5,none⟩) hbb).trans t0;have v1:=(pY.out.cell (p:=⟨bb,ob+k*5+1,none⟩) hbb).trans t1;have v2:=(pY.out.cell (p:=⟨bb,ob+k*5+2,none⟩) hbb).trans t2;have v3:=(pY.out.cell (p:=⟨bb,ob+k*5+3,none⟩) hbb).trans t3;have v4:=(pY.out.cell (p:=⟨bb,ob+k*5+4,none⟩) hbb).trans t4;have RX:=aj (Hb.out.trans (pY.out.mono (by omega)));have hz0':w.heap.size<wq.heap.size:=Nat.lt_of_lt_of_le hz0 Vn;have hz1':w.heap.size+1<wq.heap.size:=Nat.lt_of_lt_of_le hz Vn;have aco:ba<wq.heap.size:=Nat.lt_of_lt_of_le hba Vn;have acp:bb<wq.heap.size:=Nat.lt_of_lt_of_le hbb Vn;clear q0 q1 q2 q3 q4 r0 r1 r2 r3 r4 p0 p1 p2 p3 p4 t0 t1 t2 t3 t4 n0 m0;by_cases hc0:c=0
        ·subst hc0;have YW:=ZL;go_wp2_with fail;have HA1:=aj (Ha.out.keep ((pY.out).trans ((ak wq).mono pY.out.size)));have lu:=aj (Hc.out.keep ((pY.out).trans ((ak wq).mono pY.out.size)));have ZM:=aj (Vl.out.2 k hlt);have ZN:=aj (Vm.out.2 k hlt');have bd:=EU f (elt a k) (elt b k)
         have M4:Hid (∀ wx:World,Below wq.drew.heap.size wq.drew wx->wx.cell? ⟨w.heap.size,3,none⟩=some (.slice (some ⟨ba,oa,none⟩) (nL a) Lc)/\wx.cell? ⟨w.heap.size+1,3,none⟩=some (.slice (some ⟨bb,ob,none⟩) (nL b) Mc)/\wx.cell? ⟨ba,oa+k*5,none⟩=some c0/\wx.cell? ⟨ba,oa+k*5+1,none⟩=some c1/\wx.cell? ⟨ba,oa+k*5+2,none⟩=some c2/\wx.cell? ⟨ba,oa+k*5+3,none⟩=some c3/\wx.cell? ⟨ba,oa+k*5+4,none⟩=some c4/\wx.cell? ⟨bb,ob+k*5,none⟩=some d0/\wx.cell? ⟨bb,ob+k*5+1,none⟩=some d1/\wx.cell? ⟨bb,ob+k*5+2,none⟩=some d2/\wx.cell? ⟨bb,ob+k*5+3,none⟩=some d3/\wx.cell? ⟨bb,ob+k*5+4,none⟩=some d4):=by
          intro wx hx;have hh:=(ak wq).trans hx;refine ⟨?_,?_,?_,?_,?_,?_,?_,?_,?_,?_,?_,?_⟩
          all_goals (rw [hh.cell (p:=⟨_,_,none⟩) (by first | assumption | omega)];assumption)
         go_region_held (fun wx=>wx.cell? ⟨w.heap.size,3,none⟩=some (.slice (some ⟨ba,oa,none⟩) (nL a) Lc)/\wx.cell? ⟨w.heap.size+1,3,none⟩=some (.slice (some ⟨bb,ob,none⟩) (nL b) Mc)/\wx.cell? ⟨ba,oa+k*5,none⟩=some c0/\wx.cell? ⟨ba,oa+k*5+1,none⟩=some c1/\wx.cell? ⟨ba,oa+k*5+2,none⟩=some c2/\wx.cell? ⟨ba,oa+k*5+3,none⟩=some c3/\wx.cell? ⟨ba,oa+k*5+4,none⟩=some c4/\wx.cell? ⟨bb,ob+k*5,none⟩=some d0/\wx.cell? ⟨bb,ob+k*5+1,none⟩=some d1/\wx.cell? ⟨bb,ob+k*5+2,none⟩=some d2/\wx.cell? ⟨bb,ob+k*5+3,none⟩=some d3/\wx.cell? ⟨bb,ob+k*5+4,none⟩=some d4) (go_keep) ((go_at_call 134;refine (sN.out _ _ _ _ _ _ HA1.out lu.out ZM.out ZN.out).mono ?_;rintro e w2 ⟨rfl,hb2⟩;have hc2:=M4.out _ hb2));have HB2:=aj (RX.out.trans (((ak wq).trans hb2).mono (by omega)));clear hb2 hc2 HA1 lu;generalize hx:iH f (elt a k) (elt b k)=x at bd ⊢;have HS2:Hid (iq (iH f) a b (k+1)=x):=by show _=_;rw [HS.out,if_neg (fun h=>h.2 YW.out),hx]
         clear hx;by_cases hx0:x=0
         ·subst hx0;go_wp2_with fail;go_roundg (nL a - (k+1))
          case rel=>exact ⟨k+1,rfl,by omega,by omega,by go_num,HS2,HB2.out⟩
          case measure=>omega
         ·have ex:(x != 0)=true:=by simpa using hx0
          have HX:=aj hx0;clear hx0;go_wp2_with fail;go_ret;refine ⟨aH ?_,((bG _ _).alloc (by simp) _).trans (HB2.out.mono (by omega))⟩;rw [HR.out,jy,rX (j:=k+1) (by omega) (by rw [HS2.out];exact HX.out),HS2.out,if_pos HX.out]
        ·have ex:(c != 0)=true:=by simpa using hc0
         have HX:=aj hc0;clear hc0;have HS2:Hid (iq (iH f) a b (k+1)=c):=by show _=_;rw [HS.out,ZL.out,if_pos ⟨K6.out,HX.out⟩]
         go_wp2_with fail;go_ret;refine ⟨aH ?_,((bG _ _).alloc (by simp) _).trans (RX.out.mono (by omega))⟩;rw [HR.out,jy,rX (j:=k+1) (by omega) (by rw [HS2.out];exact HX.out),HS2.out,if_pos HX.out]
       ·have e6:(ah a==6)=false:=by simpa using k6
        have HS:=aj (rY HO.out);have K6:=aj k6;clear k6;go_wp2_with fail;have HA1:=aj (Ha.out.keep (ak wr));have lu:=aj (Hc.out.keep (ak wr));have ZM:=aj (Vl.out.2 k hlt);have ZN:=aj (Vm.out.2 k hlt');have bd:=EU f (elt a k) (elt b k)
        have M4:Hid (∀ wx:World,Below wr.drew.heap.size wr.drew wx->wx.cell? ⟨w.heap.size,3,none⟩=some (.slice (some ⟨ba,oa,none⟩) (nL a) Lc)/\wx.cell? ⟨w.heap.size+1,3,none⟩=some (.slice (some ⟨bb,ob,none⟩) (nL b) Mc)/\wx.cell? ⟨ba,oa+k*5,none⟩=some c0/\wx.cell? ⟨ba,oa+k*5+1,none⟩=some c1/\wx.cell? ⟨ba,oa+k*5+2,none⟩=some c2/\wx.cell? ⟨ba,oa+k*5+3,none⟩=some c3/\wx.cell? ⟨ba,oa+k*5+4,none⟩=some c4/\wx.cell? ⟨bb,ob+k*5,none⟩=some d0/\wx.cell? ⟨bb,ob+k*5+1,none⟩=some d1/\wx.cell? ⟨bb,ob+k*5+2,none⟩=some d2/\wx.cell? ⟨bb,ob+k*5+3,none⟩=some d3/\wx.cell? ⟨bb,ob+k*5+4,none⟩=some d4):=by
         intro wx hx;have hh:=(ak wr).trans hx;refine ⟨?_,?_,?_,?_,?_,?_,?_,?_,?_,?_,?_,?_⟩
         all_goals (rw [hh.cell (p:=⟨_,_,none⟩) (by first | assumption | omega)];assumption)
        go_region_held (fun wx=>wx.cell? ⟨w.heap.size,3,none⟩=some (.slice (some ⟨ba,oa,none⟩) (nL a) Lc)/\wx.cell? ⟨w.heap.size+1,3,none⟩=some (.slice (some ⟨bb,ob,none⟩) (nL b) Mc)/\wx.cell? ⟨ba,oa+k*5,none⟩=some c0/\wx.cell? ⟨ba,oa+k*5+1,none⟩=some c1/\wx.cell? ⟨ba,oa+k*5+2,none⟩=some c2/\wx.cell? ⟨ba,oa+k*5+3,none⟩=some c3/\wx.cell? ⟨ba,oa+k*5+4,none⟩=some c4/\wx.cell? ⟨bb,ob+k*5,none⟩=some d0/\wx.cell? ⟨bb,ob+k*5+1,none⟩=some d1/\wx.cell? ⟨bb,ob+k*5+2,none⟩=some d2/\wx.cell? ⟨bb,ob+k*5+3,none⟩=some d3/\wx.cell? ⟨bb,ob+k*5+4,none⟩=some d4) (go_keep) ((go_at_call 134;refine (sN.out _ _ _ _ _ _ HA1.out lu.out ZM.out ZN.out).mono ?_;rintro e w2 ⟨rfl,hb2⟩;have hc2:=M4.out _ hb2));have HB2:=aj (Hb.out.trans (((ak wr).trans hb2).mono (by omega)));clear hb2 hc2 HA1 lu;generalize hx:iH f (elt a k) (elt b k)=x at bd ⊢;have HS2:Hid (iq (iH f) a b (k+1)=x):=by show _=_;rw [HS.out,if_neg (fun h=>K6.out h.1),hx]
        clear hx;by_cases hx0:x=0
        ·subst hx0;go_wp2_with fail;go_roundg (nL a - (k+1))
         case rel=>exact ⟨k+1,rfl,by omega,by omega,by go_num,HS2,HB2.out⟩
         case measure=>omega
        ·have ex:(x != 0)=true:=by simpa using hx0
         have HX:=aj hx0;clear hx0;go_wp2_with fail;go_ret;refine ⟨aH ?_,((bG _ _).alloc (by simp) _).trans (HB2.out.mono (by omega))⟩;rw [HR.out,jy,rX (j:=k+1) (by omega) (by rw [HS2.out];exact HX.out),HS2.out,if_pos HX.out]
      ·have e6:(nL b:Int)<=(k:Int):=by omega
       have HE:Hid (iH (f+1) a b=jL (nL a) (nL b)):=by
        show iH (f+1) a b=_;rw [HR.out,jy,show min (nL a) (nL b)=k from by omega,HO.out];rfl
       go_wp2_with fail;refine (nG _ _ _).mono ?_;rintro e w2 ⟨rfl,rfl⟩;go_wp2_with fail;go_ret;exact ⟨aH (by rw [HE.out]),hbw⟩
     ·have e6:(nL a:Int)<=(k:Int):=by omega
      have HE:Hid (iH (f+1) a b=jL (nL a) (nL b)):=by
       show iH (f+1) a b=_;rw [HR.out,jy,show min (nL a) (nL b)=k from by omega,HO.out];rfl
      go_wp2_with fail;refine (nG _ _ _).mono ?_;rintro e w2 ⟨rfl,rfl⟩;go_wp2_with fail;go_ret;exact ⟨aH (by rw [HE.out]),hbw⟩
   ·have HR:Hid (iH (f+1) a b=jL (aB a) (aB b)+lV (aF a) (aF b)):=by
     show iH (f+1) a b=_;simp only [iH];rw [if_neg (by simp [k1]),if_pos (by by_cases h:aB a=aB b;exact Or.inr (fun h2=>k2 ⟨h,h2⟩);exact Or.inl h)]
    have b1:=rV (aB a) (aB b);have b2:=rW (aF a) (aF b)
    have cs:(aB a != aB b)=true\/(aB a != aB b)=false/\((aF a).toList==(aF b).toList)=false:=by
     by_cases h:aB a=aB b
     ·right
      refine ⟨by simp [h],?_⟩;cases hc:((aF a).toList==(aF b).toList) with
      | false=>rfl
      | true=>exact absurd ⟨h,(sEq _ _).1 hc⟩ k2
     ·left;simpa using h
    clear k1 k2;rcases cs with cs | ⟨cs,cs2⟩
    all_goals
     go_in;go_wp2_with fail;go_quiet (first | (go_at_call 170;exact Calls.quiet_of_same (nG _ _ _)) | (go_at_call 171;exact Calls.quiet_of_same (EB _ _ _)));go_wp2_with fail;go_ret;exact ⟨aH (by rw [HR.out]),below_drewN ((bG _ _).alloc (by simp) _) _⟩
  ·have e1:(ah a != ah b)=true:=by simpa using k1
   have HR:Hid (iH (f+1) a b=jL (ah a) (ah b)):=by show iH (f+1) a b=_;simp only [iH];rw [if_pos k1]
   clear k1;go_in;go_wp2_with fail;refine (nG _ _ _).mono ?_;rintro e w2 ⟨rfl,rfl⟩;go_wp2_with fail;go_ret;exact ⟨aH (by rw [HR.out]),(bG _ _).alloc (by simp) _⟩
def Gd (t:T):Prop:=∃ m,fJ m t
theorem Gd.elt {t:T} (h:Gd t) {i:Nat} (hi:i<nL t):Gd (elt t i):=by
 obtain ⟨m,h⟩:=h;cases m with
 | zero=>have:=h.1;omega
 | succ m =>
  rcases h with h | ⟨_,_,h,_⟩
  ·have:=h.1;omega
  ·exact ⟨m,h i hi⟩
theorem sJ {w:World} {f g:Nat} {va vb:Value} {a b:T} (h:At w f va a) (h':At w g vb b) (hf:f<=16) (ka:dZ a) (kb:dZ b) (ga:Gd a) (gb:Gd b) :
  Calls Tryz.prog 134 #[va,vb] w fun e w'=>e=.returned (.int .i64 (bq 16 a b))/\Below w.heap.size w w':=by
 obtain ⟨m,ga⟩:=ga;obtain ⟨m',gb⟩:=gb;rw [MW 16 m m' a b ga gb];exact PK 16 g va vb a b w (h.up hf) h' (ka.1 16) (kb.1 16)
def Tt (f:Nat):Prop:=∀ (m:Nat) (op:ByteArray) (xv:Value) (x:T) (g:Nat) (vv:Value) (v:T) (there:Bool) (w:World),At w f xv x->At w g vv v->f<=m->dZ x->dZ v->Gd x->(there=true->Gd v)->f<=16->g<=16->gX (dR m) op x=true->Calls Tryz.prog 243 #[.string op,xv,vv,.bool there] w fun e w'=>e=.returned (.bool (lC (m+1) (op,x) v there))/\Below w.heap.size w w'
def xM (f:Nat):Prop:=∀ (m:Nat) (xv:Value) (x:T) (g:Nat) (vv:Value) (v:T) (there:Bool) (w:World),At w f xv x->At w g vv v->f<=m->dZ x->dZ v->Gd x->(there=true->Gd v)->f<=16->g<=16->dR m x=true->Calls Tryz.prog 213 #[xv,vv,.bool there] w fun e w'=>e=.returned (.bool (uw m (iO x) v there))/\Below w.heap.size w w'
theorem EC (p:Nat->Bool):∀ n,(List.range n).all p=eO p n
 | 0=>rfl
 | n+1=>by rw [List.range_succ,List.all_append,EC p n,eO];simp
theorem VK (m:Nat) (x v:T) (there:Bool):uw m (iO x) v there=eO (fun i=>lC m (bf x i,elt x i) v there) (nK x):=by
 unfold uw iO;rw [List.all_map,<- EC];rfl
theorem BQ {p:Nat->Bool}:∀ {n},eO p n=true->∀ i,i<n->p i=true
 | n+1,h,i,hi=>by
  rw [eO,Bool.and_eq_true] at h;by_cases e:i=n
  ·subst e;exact h.2
  ·exact BQ h.1 i (by omega)
theorem Md (f:Nat) (ih:Tt f):xM (f+1):=by
 intro m xv x g vv v there w hx hv hm yG zQ BR J5 sW lQ hok;obtain ⟨m,rfl⟩:∃ m',m=m'+1:=⟨m - 1,by omega⟩
 have hA:eO (fun i=>gX (dR m) (bf x i) (elt x i)) (nK x)=true/\ah x=6:=by
  have h:((ah x==6&&decide (0<nK x))&&eO (fun i=>gX (dR m) (bf x i) (elt x i)) (nK x))=true:=hok;rw [Bool.and_eq_true,Bool.and_eq_true] at h;exact ⟨h.2,by simpa using h.1.1⟩
 have hnl:=yG.names hA.2;have hsm:=yG.small.1;have HX:=aj hx;have HV:=aj hv;obtain ⟨g1,La,Ka,Lc,Kc,hg,rfl,hfx,hl,hk⟩:=hx.open;obtain rfl:f=g1:=by omega
 obtain ⟨g2,Va,Vk,Vc,Wc,hg2,rfl,Gq,_,_⟩:=hv.open;have sG:Hid (Below w.heap.size w ((w.alloc (.cells #[.int .i64 (ah x),.int .i64 (aB x),.string (aF x),.slice La (nL x) Lc,.slice Ka (nK x) Kc] 25)).alloc (.cells #[.int .i64 (ah v),.int .i64 (aB v),.string (aF v),.slice Va (nL v) Vc,.slice Vk (nK v) Wc] 25))):=iY _ _ _;have HE:=aj (VK (m+1) x v there);have I7:=aj hA.1;have aaw:Hid (∀ (k:Nat) (w':World),k<nK x->Below w.heap.size w w'->∀ xe,At w' f xe (elt x k)->Calls Tryz.prog 243 #[.string (bf x k),xe,.agg #[.int .i64 (ah v),.int .i64 (aB v),.string (aF v),.slice Va (nL v) Vc,.slice Vk (nK v) Wc],.bool there] w' fun e w2=>e=.returned (.bool (lC (m+1) (bf x k,elt x k) v there))/\Below w'.heap.size w' w2):=fun k w' hk' hb xe hxe=>ih m (bf x k) xe (elt x k) _ _ v there w' hxe (At.keep hb HV.out) (by omega) (yG.elt (by omega)) zQ (BR.elt (by omega)) J5 (by omega) lQ (BQ I7.out k hk');have HK:=aj hk.out;have HL:=aj hl.out;have Hnl:=aj hnl;obtain ⟨n,hn⟩:∃ n,nK x=n:=⟨_,rfl⟩;have Hn:=aj hn;rw [hn] at sG hsm aaw HE Hnl;rw [hn];clear hx hv hm yG zQ BR J5 sW lQ hok hA hfx Gq hl hk hg hg2 ih hnl hn;go_in;go_wp2_with fail
 go_loopg [7] n (fun gh i wr=>∃ k:Nat,gh=n - k/\k<=n/\i=.int .i64 k/\Hid (Below (w.heap.size+2) ((w.alloc (.cells #[.int .i64 (ah x),.int .i64 (aB x),.string (aF x),.slice La (nL x) Lc,.slice Ka n Kc] 25)).alloc (.cells #[.int .i64 (ah v),.int .i64 (aB v),.string (aF v),.slice Va (nL v) Vc,.slice Vk (nK v) Wc] 25)) wr)/\Hid (eO (fun i=>lC (m+1) (bf x i,elt x i) v there) k=true))
 case atStart=>exact ⟨0,rfl,Nat.zero_le _,rfl,Below.refl _ _,rfl⟩
 case round =>
  obtain ⟨k,rfl,hk,rfl,nA,HAk⟩:=hrel;obtain ⟨⟨q0,q1,q2,q3,q4⟩,⟨y0,y1,y2,y3,y4⟩,hz,hbw⟩:=gV nA.out;have dH:=aj hbw;by_cases hlt:k<n
  ·obtain ⟨b,o,c0,c1,c2,c3,c4,rfl,hbl,p0,p1,p2,p3,p4,Ha⟩:=HL.out.keep hbw k (by have:=Hnl.out;omega);obtain ⟨b2,o2,rfl,hb2,hs2,p5⟩:=HK.out.keep hbw k (by rw [Hn.out];exact hlt);have hC:=aaw.out k wr.drew hlt (hbw.trans ((ak wr).mono hbw.size)) _ (At.keep (ak wr) Ha.out);have Y8:Hid (lC (m+1) (bf x k,elt x k) v there=false->uw (m+1) (iO x) v there=false):=fun h=>by rw [HE.out];exact nP (i:=k) h _ hlt
   have Pv:Hid (lC (m+1) (bf x k,elt x k) v there=true->eO (fun i=>lC (m+1) (bf x i,elt x i) v there) (k+1)=true):=fun h=>by rw [eO,HAk.out,h];rfl
   have HC:=aj hC;have x1:(k:Int)<(n:Int):=by omega
   have x2:(k:Int)<(nL x:Int):=by have:=Hnl.out;omega
   generalize lC (m+1) (bf x k,elt x k) v there=r at HC Y8 Pv;generalize bf x k=op at p5 HC;have iX:Hid (∀ wx:World,Below wr.heap.size wr wx->(wx.cell? ⟨w.heap.size,3,none⟩=some (.slice (some ⟨b,o,none⟩) (nL x) Lc)/\wx.cell? ⟨w.heap.size,4,none⟩=some (.slice (some ⟨b2,o2,none⟩) n Kc)/\wx.cell? ⟨w.heap.size+1,0,none⟩=some (.int .i64 (ah v))/\wx.cell? ⟨w.heap.size+1,1,none⟩=some (.int .i64 (aB v))/\wx.cell? ⟨w.heap.size+1,2,none⟩=some (.string (aF v))/\wx.cell? ⟨w.heap.size+1,3,none⟩=some (.slice Va (nL v) Vc)/\wx.cell? ⟨w.heap.size+1,4,none⟩=some (.slice Vk (nK v) Wc)/\wx.cell? ⟨b2,o2+k,none⟩=some (.string op)/\wx.cell? ⟨b,o+k*5,none⟩=some c0/\wx.cell? ⟨b,o+k*5+1,none⟩=some c1/\wx.cell? ⟨b,o+k*5+2,none⟩=some c2/\wx.cell? ⟨b,o+k*5+3,none⟩=some c3/\wx.cell? ⟨b,o+k*5+4,none⟩=some c4)):=fun wx hb=>⟨(hb.cell (p:=⟨w.heap.size,3,none⟩) (by show w.heap.size<_;omega)).trans q3,(hb.cell (p:=⟨w.heap.size,4,none⟩) (by show w.heap.size<_;omega)).trans q4,(hb.cell (p:=⟨w.heap.size+1,0,none⟩) hz).trans y0,(hb.cell (p:=⟨w.heap.size+1,1,none⟩) hz).trans y1,(hb.cell (p:=⟨w.heap.size+1,2,none⟩) hz).trans y2,(hb.cell (p:=⟨w.heap.size+1,3,none⟩) hz).trans y3,(hb.cell (p:=⟨w.heap.size+1,4,none⟩) hz).trans y4,(hb.cell (p:=⟨b2,o2+k,none⟩) hb2).trans p5,(hb.cell (p:=⟨b,o+k*5,none⟩) hbl).trans p0,(hb.cell (p:=⟨b,o+k*5+1,none⟩) hbl).trans p1,(hb.cell (p:=⟨b,o+k*5+2,none⟩) hbl).trans p2,(hb.cell (p:=⟨b,o+k*5+3,none⟩) hbl).trans p3,(hb.cell (p:=⟨b,o+k*5+4,none⟩) hbl).trans p4⟩
   have qH:=aj (iX.out _ (ak wr));clear hC p0 p1 p2 p3 p4 p5 hs2 Ha hbw hlt y0 y1 y2 y3 y4 q0 q1 q2;go_wp2_with fail;go_region_held3 (fun wx=>wx.cell? ⟨w.heap.size,3,none⟩=some (.slice (some ⟨b,o,none⟩) (nL x) Lc)/\wx.cell? ⟨w.heap.size,4,none⟩=some (.slice (some ⟨b2,o2,none⟩) n Kc)/\wx.cell? ⟨w.heap.size+1,0,none⟩=some (.int .i64 (ah v))/\wx.cell? ⟨w.heap.size+1,1,none⟩=some (.int .i64 (aB v))/\wx.cell? ⟨w.heap.size+1,2,none⟩=some (.string (aF v))/\wx.cell? ⟨w.heap.size+1,3,none⟩=some (.slice Va (nL v) Vc)/\wx.cell? ⟨w.heap.size+1,4,none⟩=some (.slice Vk (nK v) Wc)/\wx.cell? ⟨b2,o2+k,none⟩=some (.string op)/\wx.cell? ⟨b,o+k*5,none⟩=some c0/\wx.cell? ⟨b,o+k*5+1,none⟩=some c1/\wx.cell? ⟨b,o+k*5+2,none⟩=some c2/\wx.cell? ⟨b,o+k*5+3,none⟩=some c3/\wx.cell? ⟨b,o+k*5+4,none⟩=some c4) (first | exact kD | exact qH.out) ((go_at_call 243;refine HC.out.mono ?_;rintro e5 w5 ⟨rfl,hb5⟩;have kD:=iX.out _ ((ak wr).trans hb5)));have Hb5:=aj ((ak wr).trans hb5);have jW:=aj (nA.out.trans (Hb5.out.mono (by omega)));have ac1:=aj (dH.out.trans (Hb5.out.mono dH.out.size));clear hb5 kD qH iX HC;cases r with
   | true =>
    have HA2:=aj (Pv.out rfl);clear Y8 Pv;go_wp2_with fail;go_roundg (n - (k+1))
    case rel=>exact ⟨k+1,rfl,by omega,by go_num,jW,HA2⟩
    case measure=>omega
   | false =>
    have HF:=aj (Y8.out rfl);clear Y8 Pv;go_wp2_with fail;go_ret;exact ⟨by rw [HF.out];rfl,ac1.out⟩
  ·obtain rfl:k=n:=by omega
   have x1:¬ (k:Int)<(k:Int):=by omega
   clear hlt hbw y0 y1 y2 y3 y4;go_wp2_with fail;go_ret;exact ⟨by rw [HE.out,HAk.out];rfl,dH.out⟩
end Go.Proofs.YtknakfpciccoaaaGreatDoor
