import Derived.Test.YtknakfpciccoaaaGreatDoorZF9
import Derived.Test.YtknakfpciccoaaaGreatDoorZF6
import Derived.Test.YtknakfpciccoaaaGreatDoorZF4
import Derived.Test.YtknakfpciccoaaaGreatDoorZF7
import Derived.Test.YtknakfpciccoaaaGreatDoorZF8
/- The walks of the program's parser: value, depth, names that are there twice. -/
set_option maxHeartbeats 4000000
set_option maxRecDepth 100000
namespace Go.Proofs.YtknakfpciccoaaaGreatDoor
open Go.RowKit
theorem XB {Tb:World->Prop} (hD:bS Tb) (hN:dz Tb) (n:Nat) (s:ByteArray) (hs:s.size<=4000) (ih:tH Tb s n):tH Tb s (n+1):=by
 intro c i w hS h hT hi hn;have HB0:=aj (bG w (.cells #[.int .i64 0,.int .i64 0,.string ⟨#[]⟩,.slice none 0 0,.slice none 0 0] 25));have dA:Hid (aK w.heap.size (.int .i64 0) (.int .i64 0) (.string ⟨#[]⟩) (.slice none 0 0) (.slice none 0 0) (w.alloc (.cells #[.int .i64 0,.int .i64 0,.string ⟨#[]⟩,.slice none 0 0,.slice none 0 0] 25))):=bD w _ _ _ _ _;have hlc:=h.lt;have iL:=aj (h.keep HB0.out);have HT:=aj hT;have HS:=aj hS;have HD:=aj hD;have HN:=aj hN;have HI:=aj ih;have HK:=aj (qZ c s i _ iL.out hs hi);have hge:=eT s i;have hle:=fu hi;have HX:Hid (aS s (n+1) i=bH (aS s n) s (sk s i)):=by show _=_;rw [aS]
 clear h hT hS hD hN ih;go_in;go_wp2_with fail;refine HK.out.mono ?_;rintro e w1 ⟨rfl,B1,L1⟩;have aQ:=aj L1;have HR1:=aj (dA.out.move B1.size (B1.block _ dA.out.lt (by omega)));have HW1:=aj ((aG.of (c:=c) HB0.out).trans B1);have HT1:=aj (aG.stays HS.out HT.out HW1.out (Nat.le_of_lt hlc));have hz1:w.heap.size<w1.heap.size:=HR1.out.lt;have HC:=aj (Rs HD.out HN.out n s HI.out c HS.out (sk s i) w1 aQ.out HT1.out hs hle (by omega));clear B1 L1 HK dA HB0 iL;go_wp2_with fail;refine HC.out.mono ?_;rintro e w2 ⟨B2,⟨t,j,es,A,B,C,D,hz,rfl,hF,hSp,L2⟩ | ⟨hz,rfl⟩⟩
 ·have gG:=dV (n+1) i t j hi (HX.out.trans hz);have HL2:=aj L2;have HR2:=aj (HR1.out.move B2.size (B2.block _ HR1.out.lt (by omega)));have HW2:=aj (HW1.out.trans B2);have HZ:Hid (aS s (n+1) i=some (t,j)):=HX.out.trans hz;have HF:=aj hF;have UE:=aj hSp;have hz2:w.heap.size<w2.heap.size:=HR2.out.lt;have hc2:c<w2.heap.size:=HL2.out.lt;clear B2 L2 HR1 HW1 aQ HT1 hz HX hF hSp HC;have HB3:=aj (bG w2 (vC t A B C D));have DK:Hid (aK w2.heap.size (.int .i64 (ah t)) (.int .i64 (aB t)) (.string (aF t)) (.slice A (nL t) B) (.slice C (nK t) D) (w2.alloc (vC t A B C D))):=bD w2 _ _ _ _ _;have Cr:=aj (qZ c s j _ (HL2.out.keep HB3.out) hs gG.2);unfold fB at HF ⊢;go_wp2_with fail;refine Cr.out.mono ?_;rintro e w4 ⟨rfl,B4,L4⟩;have jM:=aj L4;have Ic:=aj (DK.out.move B4.size (B4.block _ DK.out.lt (by omega)));have YV:=(aG.of (c:=c) HB3.out).trans B4;have HR4:=aj (HR2.out.move YV.size (YV.block _ HR2.out.lt (by omega)));have XC:=aj (HW2.out.trans YV);have Xt:=aj (HF.out.move fun b hb=>YV.block b (UE.out.lies b hb).2 (by have:=(UE.out.lies b hb).1;omega));have ZE:=aj (UE.out.keep YV.size);clear B4 L4 YV Cr DK HB3 HR2 HW2 HF UE HL2;have r0:=HR4.out.q0;have r1:=HR4.out.q1;have r2:=HR4.out.q2;have r3:=HR4.out.q3;have r4:=HR4.out.q4;have s0:=HR4.out.f0;have s1:=HR4.out.f1;have s2:=HR4.out.f2;have s3:=HR4.out.f3;have s4:=HR4.out.f4;have t0:=Ic.out.q0;have t1:=Ic.out.q1;have t2:=Ic.out.q2;have t3:=Ic.out.q3;have t4:=Ic.out.q4
  go_wp2_with fail;refine bodyPost_ret (v:=.agg #[.int .i64 (ah t),.int .i64 (aB t),.string (aF t),.slice A (nL t) B,.slice C (nK t) D]) (by simp [results,Tryz.results100,go_sem, *]) rfl ?_;exact Nh HZ.out XC.out hlc hz1 Xt.out ZE.out jM.out
 ·have HW2:=aj (HW1.out.trans B2);have HZ:Hid (aS s (n+1) i=none):=HX.out.trans hz;clear B2 hz;go_wp2_with fail;exact ⟨rfl,HW2.out,Or.inr ⟨HZ.out,rfl⟩⟩
theorem WE {Tb:World->Prop} (hD:bS Tb) (hN:dz Tb) (s:ByteArray) (hs:s.size<=4000):∀ n,tH Tb s n
 | 0=>fun c i w _ _ _ hi hn=>by omega
 | n+1=>XB hD hN n s hs (WE hD hN s hs n)
theorem OG (f:Nat):∀ (v:Value) (t:T) (w:World),At w f v t->f<=100000 ->
  Calls Tryz.prog 101 #[v] w fun e w'=>e=.returned (.int .i64 (bn f t))/\Below w.heap.size w w':=by
 induction f with
 | zero=>intro v t w h;exact h.elim
 | succ f ih =>
  intro v t w h hm;obtain ⟨g,La,Ka,Lc,Kc,hg,rfl,hf,hl,hk⟩:=h.open;have hg2:g=f:=by omega
  subst hg2;have hlen:=hf.l1;clear h hf hk hg;by_cases h5:dJ t=true
  ·have e5:((ah t) != 5)=true/\((ah t != 6))=false\/((ah t) != 5)=false:=by
    simp only [dJ,Bool.or_eq_true,beq_iff_eq] at h5;rcases h5 with h5 | h5<;>simp [h5]
   have Hr:Hid (bn (g+1) t=jv (bn g) t (nL t)+1):=by show bn (g+1) t=_;simp only [bn,h5,if_true]
   clear h5;rcases e5 with ⟨e5,e6⟩ | e5
   all_goals
    go_in;go_wp2_with fail;go_loopg [3,5,17] (nL t) (fun g' n z i wr=>∃ k:Nat,g'=nL t - k/\k<=nL t/\i=.int .i64 k/\n=.int .i64 (jv (bn g) t k:Nat)/\Below (w.heap.size+1) (w.alloc (vC t La Lc Ka Kc)) wr)
    case atStart=>exact ⟨0,rfl,Nat.zero_le _,rfl,rfl,Below.refl _ _⟩
    case round =>
     obtain ⟨k,rfl,hk,rfl,rfl,hb⟩:=hrel;obtain ⟨q0,q1,q2,q3,q4,hz,hbw⟩:=aI hb;have Hb:=aj hb;clear hb;have hd0:=zZ (qM g) t k;by_cases hlt:k<nL t
     ·obtain ⟨b,o,A,B,C,D,rfl,hbl,p0,p1,p2,p3,p4,Ha⟩:=hl.out.shape hbw k hlt;have hd1:=qM g (elt t k);have Hs:Hid (jv (bn g) t (k+1)=max (jv (bn g) t k) (bn g (elt t k))):=rfl;have HB1:=aj (bG wr (vC (elt t k) A B C D));have HA1:=aj (Ha.out.keep (hbw.trans (HB1.out.mono hbw.size)));go_wp2_with fail;refine (ih _ _ _ HA1.out (by omega)).mono ?_;rintro e w2 ⟨rfl,hb2⟩;have hb3:=Hb.out.trans ((HB1.out.trans (hb2.mono HB1.out.size)).mono (by omega));go_wp2_with fail
      all_goals
       go_roundg (nL t - (k+1))
       case rel=>exact ⟨k+1,rfl,by omega,by go_num,by rw [Hs.out];go_num,hb3⟩
       case measure=>omega
     ·go_wp2_with fail;go_ret;have hk2:k=nL t:=by omega
      subst hk2;refine ⟨aH ?_,hbw⟩;rw [Hr.out];go_num
  ·have e5:((ah t) != 5)=true/\((ah t != 6))=true:=by
    simp only [dJ,Bool.or_eq_true,beq_iff_eq,not_or] at h5;simp [h5]
   obtain ⟨e5,e6⟩:=e5;have Hr:Hid (bn (g+1) t=0):=by show bn (g+1) t=_;simp only [bn];rw [if_neg h5]
   clear h5;go_in;go_wp2_with fail;go_ret;exact ⟨aH (by rw [Hr.out];rfl),bG _ _⟩
theorem CF (f:Nat):∀ (v:Value) (t:T) (w:World),At w f v t ->
  Calls Tryz.prog 102 #[v] w fun e w'=>e=.returned (.bool (bN f t))/\Below w.heap.size w w':=by
 induction f with
 | zero=>intro v t w h;exact h.elim
 | succ f ih =>
  intro v t w h;obtain ⟨g,La,Ka,Lc,Kc,hg,rfl,hf,hl,hk⟩:=h.open;obtain rfl:f=g:=by omega
  have hlen:=hf.l1;have AZ:=hf.m1;clear h hf;have HB0:=aj (bG w (vC t La Lc Ka Kc));have HD:=aj (tu Ka Kc t _ (hk.out.keep HB0.out) AZ);have Hr:Hid (bN (f+1) t=(fq t (nK t) || bg (bN f) t (nL t))):=rfl;generalize bN (f+1) t=r at Hr ⊢;cases hd:fq t (nK t) with
  | true =>
   rw [hd] at HD Hr;go_in;go_wp2_with fail;refine HD.out.mono ?_;rintro e w1 ⟨rfl,hb1⟩;have HB1:=aj (HB0.out.trans (hb1.mono HB0.out.size));clear hb1 HD;go_wp2_with fail;go_ret;exact ⟨av (by rw [Hr.out];rfl),HB1.out⟩
  | false =>
   rw [hd] at HD Hr;go_in;go_wp2_with fail;refine HD.out.mono ?_;rintro e w1 ⟨rfl,hb1⟩
   have HB1:Hid (Below (w.heap.size+1) (w.alloc (vC t La Lc Ka Kc)) w1):=by
    show Below _ _ _;have:(w.alloc (vC t La Lc Ka Kc)).heap.size=w.heap.size+1:=by simp
    rw [this] at hb1;exact hb1
   obtain ⟨y0,y1,y2,y3,y4,hzy,ace⟩:=aI HB1.out;clear hb1 HD HB0;go_wp2_with fail;go_loopg [4,12] (nL t) (fun g' z i wr=>∃ k:Nat,g'=nL t - k/\k<=nL t/\i=.int .i64 k/\Hid (bg (bN f) t k=false)/\Below (w.heap.size+1) (w.alloc (vC t La Lc Ka Kc)) wr)
   case atStart=>exact ⟨0,rfl,Nat.zero_le _,rfl,rfl,HB1.out⟩
   case round =>
    clear y0 y1 y2 y3 y4 hzy ace HB1;obtain ⟨k,rfl,hk2,rfl,hd2,hb⟩:=hrel;obtain ⟨q0,q1,q2,q3,q4,hz,hbw⟩:=aI hb;have Hb:=aj hb;clear hb;by_cases hlt:k<nL t
    ·obtain ⟨b,o,A,B,C,D,rfl,hbl,p0,p1,p2,p3,p4,Ha⟩:=hl.out.shape hbw k hlt;have HB2:=aj (bG wr (vC (elt t k) A B C D));have HA1:=aj (Ha.out.keep (hbw.trans (HB2.out.mono hbw.size)));go_wp2_with fail;refine (ih _ _ _ HA1.out).mono ?_;rintro e w2 ⟨rfl,hb2⟩;have HB3:=aj (Hb.out.trans ((HB2.out.trans (hb2.mono HB2.out.size)).mono (by omega)));have Ie:=aj (hbw.trans ((HB2.out.trans (hb2.mono HB2.out.size)).mono hbw.size));clear hb2;cases ht:bN f (elt t k) with
     | true =>
      have Hy:Hid (r=true):=by
       show r=true;rw [Hr.out,Bool.false_or];cases ha:bg (bN f) t (nL t) with
       | true=>rfl
       | false=>rw [(Gx.1 ha) k hlt] at ht;cases ht
      go_wp2_with fail;go_ret;exact ⟨av Hy.out.symm,Ie.out⟩
     | false =>
      have Hy:Hid (bg (bN f) t (k+1)=false):=by
       show (bg (bN f) t k || bN f (elt t k))=false;rw [hd2.out,ht];rfl
      go_wp2_with fail;go_roundg (nL t - (k+1))
      case rel=>exact ⟨k+1,rfl,by omega,by go_num,Hy,HB3.out⟩
      case measure=>omega
    ·obtain rfl:k=nL t:=by omega
     go_wp2_with fail;go_ret;exact ⟨av (by rw [Hr.out,hd2.out];rfl),hbw⟩
def vE:Nat->T->Prop
 | 0,_=>True
 | f+1,t=>(dJ t=false->nL t=0)/\nK t<=nL t/\∀ i,i<nL t->vE f (elt t i)
def kU:Nat->T->Nat
 | 0,_=>1
 | f+1,t=>1+dY (kU f) t (nL t)
theorem Vg (f:Nat) (t:T):1<=kU f t:=by cases f<;>simp only [kU]<;>omega
theorem Rt (g:T->Nat) (t:T):dY g t (nL t)=((UU t).map g).sum:=by
 rw [wR _ _ _ (Nat.le_refl _)];have:(UU t).take (nL t)=UU t:=List.take_length;rw [this]
theorem KC (f:Nat) (k n:Int) (s:ByteArray) (l:List T) (ks:List ByteArray):kU (f+1) (dU k n s l ks)=1+(l.map (kU f)).sum:=by rw [kU,Rt,zY]
theorem Ni {f:Nat} {k n:Int} {s:ByteArray} {l:List T} {ks:List ByteArray} (hk:k=5\/k=6) (hn:ks.length<=l.length) (hl:∀ x ∈ l,vE f x):vE (f+1) (dU k n s l ks):=by
 refine ⟨fun h=>?_,by rw [lU,cK];exact hn,fun i hi=>?_⟩
 ·unfold dJ at h;rw [dP] at h;rcases hk with rfl | rfl<;>simp at h
 ·rw [cK] at hi
  have:elt (dU k n s l ks) i=l[i]:=by
   unfold elt;rw [zY,List.getD_eq_getElem?_getD,List.getElem?_eq_getElem hi];rfl
  rw [this];exact hl _ (List.getElem_mem hi)
theorem OH (f:Nat) (k n:Int) (s:ByteArray):vE f (aR k n s):=by
 cases f with
 | zero=>trivial
 | succ f =>
  unfold aR;refine ⟨fun _=>by rw [cK];rfl,by rw [lU,cK];exact Nat.le_refl _,fun i hi=>?_⟩;rw [cK] at hi;simp at hi
theorem Ru (f:Nat) (k n:Int) (s:ByteArray):kU f (aR k n s)=1:=by
 cases f with
 | zero=>rfl
 | succ f=>unfold aR;rw [KC];rfl
theorem Fe {f:Nat->Option (T×Nat)} {s:ByteArray} {g:T->Nat} {P:T->Prop} (hf:∀ i t e,i<=s.size->f i=some (t,e)->i<e/\e<=s.size) (hg:∀ i t e,i<=s.size->f i=some (t,e)->g t<=e - i/\P t) (o:Bool):∀ (m i:Nat) (r:(List ByteArray×List T)×Nat),i<=s.size->zw f s o m i=some r->(r.1.2.map g).sum<=r.2 - i/\(∀ x ∈ r.1.2,P x)/\r.1.1.length<=r.1.2.length/\i<r.2/\r.2<=s.size
 | 0,i,r,_,h=>by cases h
 | m+1,i,r,hi,h=>by
  have gG:=zx hf o (m+1) i r hi h;rw [zw] at h;cases hk:iI s o i with
  | none=>rw [hk] at h;cases h
  | some p =>
   rw [hk] at h;simp only [Option.bind_some] at h;have h1:=kR hi hk;cases hq:f p.2 with
   | none=>rw [hq] at h;cases h
   | some q =>
    rw [hq] at h;simp only [Option.bind_some] at h;have h2:=hf p.2 q.1 q.2 h1.2.1 hq;have XD:=hg p.2 q.1 q.2 h1.2.1 hq;have h3:=eT s q.2;split at h
    ·rename_i hc;have h4:=aZ (s:=s) (i:=sk s q.2) (by omega);cases hr:zw f s o m (sk s q.2+1) with
     | none=>rw [hr] at h;cases h
     | some r' =>
      rw [hr] at h;simp only [Option.map_some,Option.some.injEq] at h;have h5:=Fe hf hg o m _ r' (by omega) hr;subst h;refine ⟨?_,?_,?_,gG⟩
      ·simp only [app,List.map_cons,List.sum_cons];omega
      ·intro x hx;simp only [app,List.mem_cons] at hx;rcases hx with rfl | hx
       ·exact XD.2
       ·exact h5.2.1 x hx
      ·simp only [app];cases o<;>simp<;>omega
    ·split at h
     ·simp only [Option.some.injEq] at h;subst h;refine ⟨?_,?_,?_,gG⟩
      ·simp only [app,List.map_cons,List.map_nil,List.sum_cons,List.sum_nil] at gG ⊢;omega
      ·intro x hx;simp only [app,List.mem_singleton] at hx;subst hx;exact XD.2
      ·simp only [app];cases o<;>simp
     ·cases h
theorem OI {f:Nat->Option (T×Nat)} {s:ByteArray} {n:Nat} (hf:∀ i t e,i<=s.size->f i=some (t,e)->i<e/\e<=s.size) (hg:∀ i t e,i<=s.size->f i=some (t,e)->kU n t<=e - i/\vE n t) {j:Nat} {t:T} {e:Nat} (hj:j<=s.size) (h:bH f s j=some (t,e)):kU (n+1) t<=e - j/\vE (n+1) t:=by
 have gG:=wS hf hj h
 have kV:∀ k m x,t=aR k m x->kU (n+1) t<=e - j/\vE (n+1) t:=by
  intro k m x hx;subst hx;rw [Ru];exact ⟨by omega,OH _ _ _ _⟩
 have kS:∀ (o:Bool) (k:Int),(k=5\/k=6)->cB s j<256->(fM f s o (j+1)).map (fun r=>(dU k 0 ByteArray.empty r.1.2 r.1.1,r.2))=some (t,e)->kU (n+1) t<=e - j/\vE (n+1) t:=by
  intro o k hk hc hh;have hj1:=aZ hc;have h3:=eT s (j+1);have h5:=fu (s:=s) (i:=j+1) (by omega);cases hb:fM f s o (j+1) with
  | none=>rw [hb] at hh;cases hh
  | some r =>
   rw [hb] at hh;simp only [Option.map_some,Option.some.injEq,Prod.mk.injEq] at hh;obtain ⟨rfl,rfl⟩:=hh;unfold fM at hb;split at hb
   ·simp only [Option.some.injEq] at hb;subst hb;rw [KC];refine ⟨?_,Ni hk (by simp) (by simp)⟩;simp only [List.map_nil,List.sum_nil];omega
   ·have:=Fe hf hg o _ _ r h5 hb;rw [KC];refine ⟨?_,Ni hk this.2.2.1 this.2.1⟩;have h6:=this.1;have h7:=this.2.2.2.1;omega
 unfold bH at h;split at h
 ·cases ht:fF s j with
  | none=>rw [ht] at h;cases h
  | some q =>
   rw [ht] at h;simp only [Option.map_some,Option.some.injEq,Prod.mk.injEq] at h;exact kV _ _ _ h.1.symm
 ·split at h
  ·exact kS _ _ (by omega) (by omega) h
  ·split at h
   ·exact kS _ _ (by omega) (by omega) h
   ·split at h
    ·cases ht:eY s j with
     | none=>rw [ht] at h;cases h
     | some q =>
      rw [ht] at h;simp only [Option.map_some,Option.some.injEq,Prod.mk.injEq] at h;exact kV _ _ _ h.1.symm
    ·split at h
     ·simp only [Option.some.injEq,Prod.mk.injEq] at h;exact kV _ _ _ h.1.symm
     ·split at h
      ·simp only [Option.some.injEq,Prod.mk.injEq] at h;exact kV _ _ _ h.1.symm
      ·split at h
       ·simp only [Option.some.injEq,Prod.mk.injEq] at h;exact kV _ _ _ h.1.symm
       ·cases h
theorem vF {s:ByteArray}:∀ (n i:Nat) (t:T) (e:Nat),i<=s.size->aS s n i=some (t,e)->kU n t<=e - i/\vE n t
 | 0,_,_,_,_,h=>by cases h
 | n+1,i,t,e,hi,h=>by
  rw [aS] at h;have:=OI (fun i t e=>dV n i t e) (fun i t e=>vF n i t e) (fu hi) h;have h2:=eT s i;exact ⟨by omega,this.2⟩
theorem Rv {w:World}:∀ {f:Nat} {v:Value} {t:T} {es:List jh},fC w f v t es->vE f t->es.length<=kU f t/\∀ e ∈ es,e.n<=kU f t/\e.m<=kU f t:=by
 intro f
 induction f with
 | zero=>intro v t es h;exact h.elim
 | succ f ih =>
  rintro v t es ⟨Lv,Kv,xs,sub,rfl,hf,hl,hk,hc,hn,rfl⟩ ⟨_,hkl,hg⟩;have hge:=G5 (g:=kU f) (t:=t) (fun t=>Vg f t) (nL t);rw [kU];refine ⟨?_,fun e he=>?_⟩
  ·have:=M7 (s:=sub) (g:=fun i=>kU f (elt t i)) (nL t) (fun i hi=>(ih (hc i hi) (hg i hi)).1);rw [<- AU] at this;rw [List.length_append,List.length_singleton];omega
  ·rw [List.mem_append] at he;rcases he with he | he
   ·obtain ⟨i,hi,hh⟩:=E5 he;have h1:=(ih (hc i hi) (hg i hi)).2 e hh;have h2:=G6 (g:=kU f) (t:=t) hi;omega
   ·simp only [List.mem_singleton] at he;subst he;simp only;omega
theorem wY {g:T->Nat} {t:T} {i:Nat}:∀ {k:Nat},i<k->g (elt t i)<=jv g t k
 | k+1,h=>by
  rw [jv];by_cases e:i=k
  ·subst e;omega
  ·have:=wY (g:=g) (t:=t) (i:=i) (k:=k) (by omega);omega
theorem Ig {w:World}:∀ {f n:Nat} {v:Value} {t:T} {es:List jh},fC w f v t es->vE f t->bn f t<=n->fC w (n+1) v t es:=by
 intro f
 induction f with
 | zero=>intro n v t es h;exact h.elim
 | succ f ih =>
  rintro n v t es ⟨Lv,Kv,xs,sub,rfl,hf,hl,hk,hc,hn,rfl⟩ ⟨hb,_,hg⟩ hd;refine ⟨Lv,Kv,xs,sub,rfl,hf,hl,hk,fun i hi=>?_,hn,rfl⟩;cases hbx:dJ t with
  | false =>
   have:=hb hbx;omega
  | true =>
   rw [bn,if_pos hbx] at hd;have h1:=wY (g:=bn f) (t:=t) hi;obtain ⟨m,rfl⟩:∃ m,n=m+1:=⟨n - 1,by omega⟩;exact ih (hc i hi) (hg i hi) (by omega)
section
variable {b : Option (ByteArray -> Option (T × ByteArray))} {s : ByteArray}
end
theorem jD (n:Int):IntKind.i64.wrap n=wrap64 n:=by rw [IntKind.wrap_i64,wrap64]
end Go.Proofs.YtknakfpciccoaaaGreatDoor
/- The walks of the checker: values, and a value. -/
namespace Go.Proofs.YtknakfpciccoaaaGreatDoor
open Go.RowKit
def zB (Tb:World->Prop) (c:Nat) (w0:World) (m:Nat):Prop:=∀ (f:Nat) (v:Value) (t:T) (l:Int) (w:World),
 At w0 f v t->Below w0.heap.size w0 w->fT c l w->Tb w->0<=l->l<=1048576 ->
  Calls Tryz.prog 73 #[.pointer (some ⟨c,0,none⟩),v,.int .i64 (12 - (m:Int))] w fun e w'=>ig c w (aM m t l) e w'
theorem A8 {Tb:World->Prop} (c:Nat) (hS:dB Tb c) (w0:World) (hN:w0.heap.size<=c) (m:Nat) (ih:zB Tb c w0 m) (f:Nat) (La:Option Addr) (Lc:Nat) (t:T) (l:Int) (w:World)
  (hl:bC w0 f La t) (hn:nL t<=1759218604442) (hb0:Below w0.heap.size w0 w) (h:fT c l w) (hT:Tb w) (l0:0<=l) (l1:l<=1048576) :
  Calls Tryz.prog 123 #[.pointer (some ⟨c,0,none⟩),.slice La (nL t) Lc,.int .i64 (12 - (m:Int))] w fun e w'=>ig c w (bU (aM m) t (nL t) l) e w':=by
 have H:=aj h;have HT:=aj hT;have Hl:=aj hl;have Hb0:=aj hb0;have sN:=aj ih;clear h hT hl hb0 ih;go_in;go_wp2_with fail;go_loopg [11] (nL t) (fun g i wr=>∃ (k:Nat) (x:Int),g=nL t - k/\k<=nL t/\i=.int .i64 k/\0<=x/\x<=1048576/\Hid (bU (aM m) t k l=some x)/\Hid (fT c x wr)/\Hid (aG c w wr))
 case atStart=>exact ⟨0,l,rfl,Nat.zero_le _,rfl,l0,l1,rfl,H,aG.refl _ _⟩
 case round =>
  obtain ⟨k,x,rfl,hk1,rfl,x0,x1,HX,HH,HB⟩:=hrel;have pR:=aj (Hb0.out.trans ((HB.out.below (Nat.le_of_lt H.out.lt)).mono hN));by_cases hlt:k<nL t
  ·obtain ⟨b,o,A,B,C,D,rfl,hbl,p0,p1,p2,p3,p4,Ha⟩:=Hl.out.shape pR.out k hlt;go_wp2_with fail;have B1:Below wr.heap.size wr (wr.alloc (vC (elt t k) A B C D)):=bG _ _;have HB1:=aj B1;clear B1;refine (sN.out f _ (elt t k) x _ Ha.out (pR.out.trans (HB1.out.mono (Nat.le_trans hN (Nat.le_of_lt HH.out.lt)))) (HH.out.keep HB1.out) (hS _ _ (hS _ _ HT.out (HB.out.below (Nat.le_of_lt H.out.lt))) (HB1.out.mono (Nat.le_of_lt HH.out.lt))) x0 x1).mono ?_;rintro e w2 ⟨B2,l',K2,hr⟩;have HB2:=aj ((aG.of HB1.out).trans B2);have Qs:=aj K2;clear B2 K2
   have step:bU (aM m) t (k+1) l=aM m (elt t k) x:=by
    show (bU (aM m) t k l).bind (aM m (elt t k))=_;rw [HX.out];rfl
   have zC:=aj step;clear step;rcases hr with ⟨hr,y0,y1,rfl⟩ | ⟨hr,rfl⟩
   ·have Hr:=aj hr;clear hr;go_wp2_with fail;go_roundg (nL t - (k+1))
    case rel=>exact ⟨k+1,l',rfl,by omega,by go_num,y0,y1,zC.out.trans Hr.out,Qs,HB.out.trans HB2.out⟩
    case measure=>omega
   ·have Hr:=aj hr;clear hr;go_wp2_with fail;go_ret;exact ⟨HB.out.trans HB2.out,l',Qs.out,Or.inr ⟨ET hlt (zC.out.trans Hr.out),rfl⟩⟩
  ·obtain rfl:k=nL t:=by omega
   go_wp2_with fail;go_ret;exact ⟨HB.out,x,HH.out,Or.inl ⟨HX.out,x0,x1,rfl⟩⟩
theorem Rw {Tb:World->Prop} (c:Nat) (hS:dB Tb c) (w0:World) (hN:w0.heap.size<=c) (m:Nat)  (f:Nat) (v:Value) (t:T) (l:Int) (w:World)
  (h:At w0 f v t) (hb0:Below w0.heap.size w0 w) (hH:fT c l w) (hT:Tb w) (l0:0<=l) (l1:l<=1048576) (hk0:ah t=1) :
  Calls Tryz.prog 73 #[.pointer (some ⟨c,0,none⟩),v,.int .i64 (12 - (m:Int))] w fun e w'=>ig c w (aM m t l) e w':=by
 obtain ⟨f,La,Ka,Lc,Kc,rfl,rfl,hf,hl,hk⟩:=h.open;have HB1:=aj (bG w (vC t La Lc Ka Kc));have iE:=aj (hH.keep HB1.out);have HT1:=aj (hS _ _ hT (HB1.out.mono (Nat.le_of_lt hH.lt)));have Hb1:=aj (hb0.trans (HB1.out.mono (Nat.le_trans hN (Nat.le_of_lt hH.lt))));have HA:=aj (h.keep Hb1.out);clear h hb0 hH hT hf hl hk
 have dA:Hid (aM m t l=if aB t=0/\aY t=true/\dX t=true then aV 1 l else none):=by
  show aM m t l=_;cases m<;>simp [aM,oz,hk0]
 have g1:(ah t==1)=true:=by rw [hk0];rfl
 clear hk0;by_cases n0:aB t=0
 ·have en:(aB t==0)=true:=by rw [n0];rfl
  by_cases s0:aY t=true
  ·have es:(aF t).toList.isEmpty=true:=s0;have N0:=aj n0;have S0:=aj s0;clear n0 s0;go_in;go_wp2_with fail;refine (jA _ _ _ _ HA.out).mono ?_;rintro e w2 ⟨rfl,B2⟩;have HB2:=aj B2;clear B2;cases hn:dX t with
   | false =>
    have HR:Hid (aM m t l=none):=by show aM m t l=none;rw [dA.out,if_neg (by rw [hn];simp)]
    clear hn;go_wp2_with fail;go_ret;exact ⟨(aG.of HB1.out).trans (aG.of HB2.out),l,iE.out.keep HB2.out,Or.inr ⟨HR.out,rfl⟩⟩
   | true =>
    have HR:Hid (aM m t l=aV 1 l):=by show aM m t l=_;rw [dA.out,if_pos (⟨N0.out,S0.out,hn⟩)]
    clear hn;go_wp2_with fail;refine (iy c l 1 w2 (iE.out.keep HB2.out) l0 l1 (by omega) (by omega)).mono ?_;rintro e w3 ⟨rfl,K3,B3⟩;have Cr:=aj K3;have HB3:=aj B3;clear K3 B3;by_cases h9:1<=l
    ·have HR2:Hid (aV 1 l=some (l - 1)):=by show aV 1 l=_;unfold aV;rw [if_pos h9]
     go_wp2_with fail;go_ret;exact ⟨((aG.of HB1.out).trans (aG.of HB2.out)).trans HB3.out,l - 1,Cr.out,Or.inl ⟨HR.out.trans HR2.out,by omega,by omega,rfl⟩⟩
    ·have HR2:Hid (aV 1 l=none):=by show aV 1 l=_;unfold aV;rw [if_neg h9]
     have hd:decide ((1:Int)<=l)=false:=decide_eq_false h9;clear h9;go_wp2_with fail;go_ret;exact ⟨((aG.of HB1.out).trans (aG.of HB2.out)).trans HB3.out,l - 1,Cr.out,Or.inr ⟨HR.out.trans HR2.out,rfl⟩⟩
  ·have es:(aF t).toList.isEmpty=false:=by simpa [aY] using s0
   have HR:Hid (aM m t l=none):=by show aM m t l=none;rw [dA.out,if_neg (by exact fun h=>s0 h.2.1)]
   clear n0 s0;go_in;go_wp2_with fail;go_ret;exact ⟨aG.of HB1.out,l,iE.out,Or.inr ⟨HR.out,rfl⟩⟩
 ·have en:(aB t==0)=false:=by simpa using n0
  have HR:Hid (aM m t l=none):=by show aM m t l=none;rw [dA.out,if_neg (by exact fun h=>n0 h.1)]
  clear n0;go_in;go_wp2_with fail;go_ret;exact ⟨aG.of HB1.out,l,iE.out,Or.inr ⟨HR.out,rfl⟩⟩
theorem Rx {Tb:World->Prop} (c:Nat) (hS:dB Tb c) (w0:World) (hN:w0.heap.size<=c) (m:Nat)  (f:Nat) (v:Value) (t:T) (l:Int) (w:World)
  (h:At w0 f v t) (hb0:Below w0.heap.size w0 w) (hH:fT c l w) (hT:Tb w) (l0:0<=l) (l1:l<=1048576) (hk0:ah t=2) :
  Calls Tryz.prog 73 #[.pointer (some ⟨c,0,none⟩),v,.int .i64 (12 - (m:Int))] w fun e w'=>ig c w (aM m t l) e w':=by
 obtain ⟨f,La,Ka,Lc,Kc,rfl,rfl,hf,hl,hk⟩:=h.open;have HB1:=aj (bG w (vC t La Lc Ka Kc));have iE:=aj (hH.keep HB1.out);have HT1:=aj (hS _ _ hT (HB1.out.mono (Nat.le_of_lt hH.lt)));have Hb1:=aj (hb0.trans (HB1.out.mono (Nat.le_trans hN (Nat.le_of_lt hH.lt))));have HA:=aj (h.keep Hb1.out);clear h hb0 hH hT hf hl hk
 have dA:Hid (aM m t l=if (aB t=0\/aB t=1)/\aY t=true/\dX t=true then aV 2 l else none):=by
  show aM m t l=_;cases m<;>simp [aM,oz,hk0]
 have g1:(ah t==1)=false:=by first | (rw [hk0];rfl) | (simp;omega)
 have g2:(ah t==2)=true:=by rw [hk0];rfl
 clear hk0;by_cases n0:aB t=0\/aB t=1
 ·have en:(aB t==0)=true\/(aB t==0)=false/\(aB t==1)=true:=by rcases n0 with h | h<;>simp [h]
  by_cases s0:aY t=true
  ·have es:(aF t).toList.isEmpty=true:=s0;have N0:=aj n0;have S0:=aj s0;clear n0 s0;rcases en with en | ⟨en,en1⟩
   all_goals
    go_in;go_wp2_with fail;refine (jA _ _ _ _ HA.out).mono ?_;rintro e w2 ⟨rfl,B2⟩;have HB2:=aj B2;clear B2;cases hn:dX t with
    | false =>
     have HR:Hid (aM m t l=none):=by show aM m t l=none;rw [dA.out,if_neg (by rw [hn];simp)]
     clear hn;go_wp2_with fail;go_ret;exact ⟨(aG.of HB1.out).trans (aG.of HB2.out),l,iE.out.keep HB2.out,Or.inr ⟨HR.out,rfl⟩⟩
    | true =>
     have HR:Hid (aM m t l=aV 2 l):=by show aM m t l=_;rw [dA.out,if_pos (⟨N0.out,S0.out,hn⟩)]
     clear hn;go_wp2_with fail;refine (iy c l 2 w2 (iE.out.keep HB2.out) l0 l1 (by omega) (by omega)).mono ?_;rintro e w3 ⟨rfl,K3,B3⟩;have Cr:=aj K3;have HB3:=aj B3;clear K3 B3;by_cases h9:2<=l
     ·have HR2:Hid (aV 2 l=some (l - 2)):=by show aV 2 l=_;unfold aV;rw [if_pos h9]
      go_wp2_with fail;go_ret;exact ⟨((aG.of HB1.out).trans (aG.of HB2.out)).trans HB3.out,l - 2,Cr.out,Or.inl ⟨HR.out.trans HR2.out,by omega,by omega,rfl⟩⟩
     ·have HR2:Hid (aV 2 l=none):=by show aV 2 l=_;unfold aV;rw [if_neg h9]
      have hd:decide ((2:Int)<=l)=false:=decide_eq_false h9;clear h9;go_wp2_with fail;go_ret;exact ⟨((aG.of HB1.out).trans (aG.of HB2.out)).trans HB3.out,l - 2,Cr.out,Or.inr ⟨HR.out.trans HR2.out,rfl⟩⟩
  ·have es:(aF t).toList.isEmpty=false:=by simpa [aY] using s0
   have HR:Hid (aM m t l=none):=by show aM m t l=none;rw [dA.out,if_neg (by exact fun h=>s0 h.2.1)]
   clear n0 s0;rcases en with en | ⟨en,en1⟩
   all_goals
    go_in;go_wp2_with fail;go_ret;exact ⟨aG.of HB1.out,l,iE.out,Or.inr ⟨HR.out,rfl⟩⟩
 ·have en:(aB t==0)=false:=by simp;omega
  have en1:(aB t==1)=false:=by simp;omega
  have HR:Hid (aM m t l=none):=by show aM m t l=none;rw [dA.out,if_neg (by exact fun h=>n0 h.1)]
  clear n0;go_in;go_wp2_with fail;go_ret;exact ⟨aG.of HB1.out,l,iE.out,Or.inr ⟨HR.out,rfl⟩⟩
theorem Ry {Tb:World->Prop} (c:Nat) (hS:dB Tb c) (w0:World) (hN:w0.heap.size<=c) (m:Nat)  (f:Nat) (v:Value) (t:T) (l:Int) (w:World)
  (h:At w0 f v t) (hb0:Below w0.heap.size w0 w) (hH:fT c l w) (hT:Tb w) (l0:0<=l) (l1:l<=1048576) (hk0:ah t=3) :
  Calls Tryz.prog 73 #[.pointer (some ⟨c,0,none⟩),v,.int .i64 (12 - (m:Int))] w fun e w'=>ig c w (aM m t l) e w':=by
 obtain ⟨f,La,Ka,Lc,Kc,rfl,rfl,hf,hl,hk⟩:=h.open;have HB1:=aj (bG w (vC t La Lc Ka Kc));have iE:=aj (hH.keep HB1.out);have HT1:=aj (hS _ _ hT (HB1.out.mono (Nat.le_of_lt hH.lt)));have Hb1:=aj (hb0.trans (HB1.out.mono (Nat.le_trans hN (Nat.le_of_lt hH.lt))));have HA:=aj (h.keep Hb1.out);clear h hb0 hH hT hf hl hk
 have dA:Hid (aM m t l=if aY t=true/\dX t=true then aV 9 l else none):=by
  show aM m t l=_;cases m<;>simp [aM,oz,hk0]
 have g1:(ah t==1)=false:=by first | (rw [hk0];rfl) | (simp;omega)
 have g2:(ah t==2)=false:=by first | (rw [hk0];rfl) | (simp;omega)
 have g3:(ah t==3)=true:=by rw [hk0];rfl
 clear hk0;by_cases s0:aY t=true
 ·have es:(aF t).toList.isEmpty=true:=s0;have S0:=aj s0;clear s0;go_in;go_wp2_with fail;refine (jA _ _ _ _ HA.out).mono ?_;rintro e w2 ⟨rfl,B2⟩;have HB2:=aj B2;clear B2;cases hn:dX t with
  | false =>
   have HR:Hid (aM m t l=none):=by show aM m t l=none;rw [dA.out,if_neg (by rw [hn];simp)]
   clear hn;go_wp2_with fail;go_ret;exact ⟨(aG.of HB1.out).trans (aG.of HB2.out),l,iE.out.keep HB2.out,Or.inr ⟨HR.out,rfl⟩⟩
  | true =>
   have HR:Hid (aM m t l=aV 9 l):=by show aM m t l=_;rw [dA.out,if_pos (⟨S0.out,hn⟩)]
   clear hn;go_wp2_with fail;refine (iy c l 9 w2 (iE.out.keep HB2.out) l0 l1 (by omega) (by omega)).mono ?_;rintro e w3 ⟨rfl,K3,B3⟩;have Cr:=aj K3;have HB3:=aj B3;clear K3 B3;by_cases h9:9<=l
   ·have HR2:Hid (aV 9 l=some (l - 9)):=by show aV 9 l=_;unfold aV;rw [if_pos h9]
    go_wp2_with fail;go_ret;exact ⟨((aG.of HB1.out).trans (aG.of HB2.out)).trans HB3.out,l - 9,Cr.out,Or.inl ⟨HR.out.trans HR2.out,by omega,by omega,rfl⟩⟩
   ·have HR2:Hid (aV 9 l=none):=by show aV 9 l=_;unfold aV;rw [if_neg h9]
    have hd:decide ((9:Int)<=l)=false:=decide_eq_false h9;clear h9;go_wp2_with fail;go_ret;exact ⟨((aG.of HB1.out).trans (aG.of HB2.out)).trans HB3.out,l - 9,Cr.out,Or.inr ⟨HR.out.trans HR2.out,rfl⟩⟩
 ·have es:(aF t).toList.isEmpty=false:=by simpa [aY] using s0
  have HR:Hid (aM m t l=none):=by show aM m t l=none;rw [dA.out,if_neg (by exact fun h=>s0 h.1)]
  clear s0;go_in;go_wp2_with fail;go_ret;exact ⟨aG.of HB1.out,l,iE.out,Or.inr ⟨HR.out,rfl⟩⟩
theorem DL {Tb:World->Prop} (c:Nat) (hS:dB Tb c) (w0:World) (hN:w0.heap.size<=c) (m:Nat)  (f:Nat) (v:Value) (t:T) (l:Int) (w:World)
  (h:At w0 f v t) (hb0:Below w0.heap.size w0 w) (hH:fT c l w) (hT:Tb w) (_l0:0<=l) (_l1:l<=1048576) (hk0:ah t≠1/\ah t≠2/\ah t≠3/\ah t≠4/\ah t≠5/\ah t≠6) :
  Calls Tryz.prog 73 #[.pointer (some ⟨c,0,none⟩),v,.int .i64 (12 - (m:Int))] w fun e w'=>ig c w (aM m t l) e w':=by
 obtain ⟨f,La,Ka,Lc,Kc,rfl,rfl,hf,hl,hk⟩:=h.open;have HB1:=aj (bG w (vC t La Lc Ka Kc));have iE:=aj (hH.keep HB1.out);have HT1:=aj (hS _ _ hT (HB1.out.mono (Nat.le_of_lt hH.lt)));have Hb1:=aj (hb0.trans (HB1.out.mono (Nat.le_trans hN (Nat.le_of_lt hH.lt))));have HA:=aj (h.keep Hb1.out);clear h hb0 hH hT hf hl hk;obtain ⟨h1,h2,h3,h4,h5,h6⟩:=hk0
 have HR:Hid (aM m t l=none):=by
  show aM m t l=_;cases m<;>simp [aM,oz,h1,h2,h3,h4,h5,h6]
 have g1:(ah t==1)=false:=by simp;omega
 have g2:(ah t==2)=false:=by simp;omega
 have g3:(ah t==3)=false:=by simp;omega
 have g4:(ah t==4)=false:=by simp;omega
 have g5:(ah t==5)=false:=by simp;omega
 have g6:(ah t==6)=false:=by simp;omega
 clear h1 h2 h3 h4 h5 h6;go_in;go_wp2_with fail;go_ret;exact ⟨aG.of HB1.out,l,iE.out,Or.inr ⟨HR.out,rfl⟩⟩
end Go.Proofs.YtknakfpciccoaaaGreatDoor
