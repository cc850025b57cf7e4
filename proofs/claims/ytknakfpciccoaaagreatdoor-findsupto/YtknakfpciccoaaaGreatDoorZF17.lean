import Derived.Test.YtknakfpciccoaaaGreatDoorZF16
import Derived.Test.YtknakfpciccoaaaGreatDoorZF1
import Derived.Deep.AppendSrc
import Derived.Deep.AppendLies
import Derived.Laws.BytesArg
import Derived.Laws.IdiomStrings
import Derived.Test.YtknakfpciccoaaaGreatDoorZF8
import Derived.Test.YtknakfpciccoaaaGreatDoorZF4
import Derived.Test.YtknakfpciccoaaaGreatDoorZF7
/- The walks of allHold, oneHolds, noneHold. -/
set_option maxHeartbeats 4000000
set_option maxRecDepth 100000
namespace Go.Proofs.YtknakfpciccoaaaGreatDoor
open Go.RowKit
theorem Vq {f:T->Bool} {t:T} {j k:Nat} (h:j<k) (hd:f (elt t j)=false):gB f t k=false:=ES h hd
theorem Iy {Tb:World->Prop} (hL:fG Tb) (m:Nat) (ih:nO Tb m) (l:Value) (j:T) (f:Nat) (x:Value) (v:T) (w:World) (hl:yQ w (gK w m) l j) (hv:At w f x v) (hf:f<=16) (kv:dZ v) (hT:Tb w) :
  Calls Tryz.prog 327 #[l,x] w fun e w'=>e=.returned (.bool (gB (fun y=>dN m y v) j (nL j)))/\Below w.heap.size w w':=by
 obtain ⟨g1,La,Ka,Lc,Kc,hg1,rfl,_,_,_⟩:=hv.open;obtain ⟨A,c,rfl,hn,hrow⟩:=hl;have om:=aj hrow;have HT:Hid (∀ w':World,Below w.heap.size w w'->Tb w'):=fun w' hb=>hL w hT w w' hT hb;have HV:=aj hv;have Fq:=aj kv;have Nu:=aj ih;clear hrow hv kv ih hg1 hT hL;go_in;go_wp2_with fail;go_loopg [9] (nL j) (fun g' i wr=>∃ k:Nat,g'=nL j - k/\k<=nL j/\i=.int .i64 k/\Hid (Below (w.heap.size+1) (w.alloc (vC v La Lc Ka Kc)) wr)/\Hid (gB (fun y=>dN m y v) j k=true))
 case atStart=>exact ⟨0,rfl,Nat.zero_le _,rfl,Below.refl _ _,rfl⟩
 case round =>
  obtain ⟨k,rfl,hk,rfl,HB,HN⟩:=hrel;obtain ⟨q0,q1,q2,q3,q4,hz,hbw⟩:=aI HB.out;have dH:=aj hbw;clear hbw;by_cases hlt:k<nL j
  ·obtain ⟨b,o,u,rfl,hbl,p0,hr⟩:=om.out k hlt;replace p0:=(dH.out.cell (p:=⟨b,o+k,none⟩) hbl).trans p0;have HC:=aj (Nu.out u (elt j k) f _ v wr (gK.keep dH.out m _ _ hr) (HV.out.keep dH.out) hf Fq.out (HT.out wr dH.out));have HA:Hid (gB (fun y=>dN m y v) j (k+1)=dN m (elt j k) v):=by show _=_;rw [gB,HN.out];simp
   have HA2:Hid (dN m (elt j k) v=false->gB (fun y=>dN m y v) j (nL j)=false):=fun h=>Vq hlt h;clear hr;generalize dN m (elt j k) v=r at HC HA HA2;go_wp2_with fail;refine HC.out.mono ?_;rintro e w2 ⟨rfl,b2⟩;have bO:=aj (HB.out.trans (b2.mono (by omega)));clear b2 HC;cases r with
   | true =>
    go_wp2_with fail;go_roundg (nL j - (k+1))
    case rel=>exact ⟨k+1,rfl,by omega,by go_num,bO,HA⟩
    case measure=>omega
   | false =>
    have oM:=aj (HA2.out rfl);have jW:=aj (((Below.refl w.heap.size w).alloc (Nat.le_refl _) (vC v La Lc Ka Kc)).trans (bO.out.mono (by omega)));clear HA2;go_wp2_with fail;go_ret;exact ⟨av (by rw [oM.out]),jW.out⟩
  ·obtain rfl:k=nL j:=by omega
   go_wp2_with fail;go_ret;exact ⟨av (by rw [HN.out]),dH.out⟩
theorem Sb {Tb:World->Prop} (m:Nat) (ih:nO Tb m) (b:Nat) (f:Nat) (fv:Value) (y v:T) (A C:Option Addr) (B D:Nat) (w:World) (h0:w.cell? ⟨b,0,none⟩=some (.int .i64 (ah v))) (h1:w.cell? ⟨b,1,none⟩=some (.int .i64 (aB v))) (h2:w.cell? ⟨b,2,none⟩=some (.string (aF v))) (h3:w.cell? ⟨b,3,none⟩=some (.slice A (nL v) B)) (h4:w.cell? ⟨b,4,none⟩=some (.slice C (nK v) D)) (hy:gK w m fv y)
  (ha:At w f (.agg #[.int .i64 (ah v),.int .i64 (aB v),.string (aF v),.slice A (nL v) B,.slice C (nK v) D]) v) (hf:f<=16) (ka:dZ v) (hT:Tb w) :
  Calls Tryz.prog 330 #[fv,.pointer (some ⟨b,0,none⟩)] w fun e w'=>e=.returned (.bool (dN m y v))/\Below w.heap.size w w':=by
 have HC:=aj (ih fv y f _ v w hy ha hf ka hT);generalize dN m y v=r at HC;clear ha hy ka ih hT;go_in;go_wp2_with fail;refine HC.out.mono ?_;rintro e w2 ⟨rfl,b2⟩;have HB2:=aj b2;clear b2;go_wp2_with fail;go_ret;exact ⟨rfl,HB2.out⟩
theorem Fv (P:T->Bool) (g:FuncId) (hg:∀ (a:Array Value) (w:World),(callFunc g a).run Tryz.prog w=.ok (.enter g a) w) (p:Value) (R:World->Value->T->Prop) (hR:∀ w w' u y,Below w.heap.size w w'->R w u y->R w' u y) (l:Value) (t:T) (w:World) (hl:yQ w (R w) l t)
  (hP:∀ k,k<nL t->∀ (wr:World) (u:Value),Below w.heap.size w wr->R wr u (elt t k)->Calls Tryz.prog g #[u,p] wr fun e w'=>e=.returned (.bool (P (elt t k)))/\Below wr.heap.size wr w') :
  Calls Tryz.prog 331 #[l,.func (Fn.func g) #[] #[p]] w fun e w'=>Below w.heap.size w w'/\∃ n:Int,e=.returned (.int .i64 n)/\((n=-1/\bg P t (nL t)=false)\/∃ k:Nat,n=(k:Int)/\k<nL t/\P (elt t k)=true):=by
 obtain ⟨A,c,rfl,hn,hrow⟩:=hl;have om:=aj hrow;have HR:=aj hR;have HP:=aj hP;clear hrow hP hR;go_in;go_wp2_with fail;go_loopg [8] (nL t) (fun g' i wr=>∃ k:Nat,g'=nL t - k/\k<=nL t/\i=.int .i64 k/\Hid (Below w.heap.size w wr)/\Hid (bg P t k=false))
 case atStart=>exact ⟨0,rfl,Nat.zero_le _,rfl,Below.refl _ _,rfl⟩
 case round =>
  obtain ⟨k,rfl,hk,rfl,HB,HN⟩:=hrel;by_cases hlt:k<nL t
  ·obtain ⟨b,o,u,rfl,hbl,p0,hr⟩:=om.out k hlt;replace p0:=(HB.out.cell (p:=⟨b,o+k,none⟩) hbl).trans p0;have HC:=aj (HP.out k hlt wr u HB.out (HR.out _ _ _ _ HB.out hr));clear hr;cases hp:P (elt t k) with
   | true =>
    rw [hp] at HC;have Hp:=aj hp;clear hp;go_wp2_with fail;refine HC.out.mono ?_;rintro e w2 ⟨rfl,b2⟩;have HB2:=aj (HB.out.trans (b2.mono HB.out.size));clear b2;go_wp2_with fail;go_ret;exact ⟨HB2.out,_,rfl,.inr ⟨k,rfl,hlt,Hp.out⟩⟩
   | false =>
    rw [hp] at HC;have Qy:Hid (bg P t (k+1)=false):=by show _=_;rw [bg,HN.out,hp];rfl
    clear hp;go_wp2_with fail;refine HC.out.mono ?_;rintro e w2 ⟨rfl,b2⟩;have HB2:=aj (HB.out.trans (b2.mono HB.out.size));clear b2;go_wp2_with fail;go_roundg (nL t - (k+1))
    case rel=>exact ⟨k+1,rfl,by omega,by go_num,HB2,Qy⟩
    case measure=>omega
  ·obtain rfl:k=nL t:=by omega
   go_wp2_with fail;go_ret;exact ⟨HB.out,_,rfl,.inl ⟨rfl,HN.out⟩⟩
theorem yR (P:T->Bool) (g:FuncId) (hg:∀ (a:Array Value) (w:World),(callFunc g a).run Tryz.prog w=.ok (.enter g a) w) (p:Value) (R:World->Value->T->Prop) (hR:∀ w w' u y,Below w.heap.size w w'->R w u y->R w' u y) (l:Value) (t:T) (w:World) (hl:yQ w (R w) l t)
  (hP:∀ k,k<nL t->∀ (wr:World) (u:Value),Below w.heap.size w wr->R wr u (elt t k)->Calls Tryz.prog g #[u,p] wr fun e w'=>e=.returned (.bool (P (elt t k)))/\Below wr.heap.size wr w') :
  Calls Tryz.prog 329 #[l,.func (Fn.func g) #[] #[p]] w fun e w'=>e=.returned (.bool (bg P t (nL t)))/\Below w.heap.size w w':=by
 have HC:=aj (Fv P g hg p R hR l t w hl hP);clear hl hP hR;go_in;go_wp2_with fail;refine HC.out.mono ?_;rintro e w2 ⟨b2,n,rfl,⟨rfl,hn⟩ | ⟨k,rfl,hk,hp⟩⟩
 ·have HB:=aj b2;have HN:=aj hn;clear b2 hn;go_wp2_with fail;go_ret;exact ⟨av HN.out.symm,HB.out⟩
 ·have HB:=aj b2;have HN:=aj (uO hk hp);clear b2 hp;go_wp2_with fail;go_ret;exact ⟨av HN.out.symm,HB.out⟩
theorem vO {Tb:World->Prop} (hL:fG Tb) (m:Nat) (ih:nO Tb m) (l:Value) (j:T) (f:Nat) (x:Value) (v:T) (w:World) (hl:yQ w (gK w m) l j) (hv:At w f x v) (hf:f<=16) (kv:dZ v) (hT:Tb w) :
  Calls Tryz.prog 328 #[l,x] w fun e w'=>e=.returned (.bool (bg (fun y=>dN m y v) j (nL j)))/\Below w.heap.size w w':=by
 obtain ⟨g1,La,Ka,Lc,Kc,hg1,rfl,_,_,_⟩:=hv.open;have HB:=aj (bG w (vC v La Lc Ka Kc))
 have HX:Hid (aK w.heap.size (.int .i64 (ah v)) (.int .i64 (aB v)) (.string (aF v)) (.slice La (nL v) Lc) (.slice Ka (nK v) Kc) (w.alloc (vC v La Lc Ka Kc))):=by
  constructor<;>simp [go_sem]
 have HC:=aj (yR (fun y=>dN m y v) 330 (fun _ _=>rfl) (.pointer (some ⟨w.heap.size,0,none⟩)) (fun w=>gK w m) (fun w w' u y hb h=>gK.keep hb m u y h) l j _ (hl.keep HB.out (gK.keep HB.out m)) (fun k hk wr u hb hu=>by
   have hbx:=HX.out.stay hb;have hbw:=HB.out.trans (hb.mono HB.out.size);exact Sb m ih w.heap.size f u (elt j k) v La Ka Lc Kc wr hbx.q0 hbx.q1 hbx.q2 hbx.q3 hbx.q4 hu (hv.keep hbw) hf kv (hL w hT _ _ hT hbw)))
 generalize bg (fun y=>dN m y v) j (nL j)=r at HC;clear hv kv hl ih hT hL hg1;go_in;go_wp2_with fail;refine HC.out.mono ?_;rintro e w2 ⟨rfl,b2⟩;have HB3:=aj (HB.out.trans (b2.mono HB.out.size));clear b2;go_wp2_with fail;go_ret;exact ⟨rfl,HB3.out⟩
theorem Fw {Tb:World->Prop} (hL:fG Tb) (m:Nat) (ih:nO Tb m) (l:Value) (j:T) (f:Nat) (x:Value) (v:T) (w:World) (hl:yQ w (gK w m) l j) (hv:At w f x v) (hf:f<=16) (kv:dZ v) (hT:Tb w) :
  Calls Tryz.prog 332 #[l,x] w fun e w'=>e=.returned (.bool (!(bg (fun y=>dN m y v) j (nL j))))/\Below w.heap.size w w':=by
 obtain ⟨g1,La,Ka,Lc,Kc,hg1,rfl,_,_,_⟩:=hv.open;have HB:=aj (bG w (vC v La Lc Ka Kc));have HC:=aj (vO hL m ih l j f _ v _ (hl.keep HB.out (gK.keep HB.out m)) (hv.keep HB.out) hf kv (hL w hT _ _ hT HB.out));generalize bg (fun y=>dN m y v) j (nL j)=r at HC;clear hv kv hl ih hT hL hg1;go_in;go_wp2_with fail;refine HC.out.mono ?_;rintro e w2 ⟨rfl,b2⟩;have HB3:=aj (HB.out.trans (b2.mono HB.out.size));clear b2;go_wp2_with fail;go_ret;exact ⟨rfl,HB3.out⟩
theorem nP {p:Nat->Bool} {i:Nat} (hp:p i=false):∀ n,i<n->eO p n=false
 | 0,h=>by omega
 | n+1,h=>by
  rw [eO];by_cases e:i=n
  ·subst e;rw [hp];simp
  ·rw [nP hp n (by omega)];rfl
theorem Sc (l:Value) (w:World):(method 381 238 l "sheaf/filter.holds").run Tryz.prog w=.ok (327,l) w:=by kernel_rfl
theorem Sd (l:Value) (w:World):(method 381 240 l "sheaf/filter.holds").run Tryz.prog w=.ok (328,l) w:=by kernel_rfl
theorem OX (l:Value) (w:World):(method 381 241 l "sheaf/filter.holds").run Tryz.prog w=.ok (332,l) w:=by kernel_rfl
theorem Sg (l:Value) (w:World):(method 381 249 l "sheaf/filter.holds").run Tryz.prog w=.ok (335,l) w:=by kernel_rfl
theorem Si {Tb:World->Prop} (hA:kX Tb) (hI:kW Tb) (hL:fG Tb) (m:Nat) (ih:nO Tb m):nO Tb (m+1):=by
 intro fv t f x v w hfl hv hf kv hT;obtain ⟨g1,La,Ka,Lc,Kc,hg1,rfl,_,_,_⟩:=hv.open;obtain ⟨A,c,rfl,hn,hrow⟩:=hfl;have om:=aj hrow;have HT:Hid (∀ w':World,Below w.heap.size w w'->Tb w'):=fun w' hb=>hL w hT w w' hT hb;have HV:=aj hv;have Fq:=aj kv;have Nu:=aj ih;have HL:=aj hL;have xu:=aj hA;have ZU:=aj hI;clear hrow hv kv ih hg1 hT hL hA hI;go_in;go_wp2_with fail;go_loopg [9] (nK t) (fun g' i wr=>∃ k:Nat,g'=nK t - k/\k<=nK t/\i=.int .i64 k/\Hid (Below (w.heap.size+1) (w.alloc (vC v La Lc Ka Kc)) wr)/\Hid (eO (fun i=>sP (dN m) (bf t i) (elt t i) v) k=true))
 case atStart=>exact ⟨0,rfl,Nat.zero_le _,rfl,Below.refl _ _,rfl⟩
 case round =>
  obtain ⟨k,rfl,hk,rfl,HB,HN⟩:=hrel;obtain ⟨q0,q1,q2,q3,q4,hz,hbw⟩:=aI HB.out;have dH:=aj hbw;clear hbw;by_cases hlt:k<nK t
  ·obtain ⟨b,o,u,rfl,hbl,p0,hr⟩:=om.out k hlt;replace p0:=(dH.out.cell (p:=⟨b,o+k,none⟩) hbl).trans p0;have HA:Hid (eO (fun i=>sP (dN m) (bf t i) (elt t i) v) (k+1)=sP (dN m) (bf t k) (elt t k) v):=by show _=_;rw [eO,HN.out];simp
   have HA2:Hid (sP (dN m) (bf t k) (elt t k) v=false->dN (m+1) t v=false):=fun h=>nP (p:=fun i=>sP (dN m) (bf t i) (elt t i) v) h _ hlt;have HVr:=aj (HV.out.keep dH.out);have Y0:=aj (HT.out wr dH.out);rcases hr with ⟨hx,l,rfl,hl⟩ | ⟨hx,l,rfl,hl⟩ | ⟨hx,l,rfl,hl⟩ | ⟨hx,pv,tv,rfl,hpv,htv⟩
   ·have HC:=aj (Iy HL.out m Nu.out l (elt t k) f _ v wr (hl.keep dH.out (gK.keep dH.out m)) HVr.out hf Fq.out Y0.out);have HE:Hid (sP (dN m) (bf t k) (elt t k) v=gB (fun y=>dN m y v) (elt t k) (nL (elt t k))):=by show _=_;unfold sP;rw [if_pos hx]
    rw [<- HE.out] at HC;have hm:=Sc l wr;clear hl hx HE;generalize sP (dN m) (bf t k) (elt t k) v=r at HC HA HA2;go_wp2_with fail;refine HC.out.mono ?_;rintro e w2 ⟨rfl,b2⟩;have bO:=aj (HB.out.trans (b2.mono (by omega)));clear b2 HC;cases r with
    | true =>
     go_wp2_with fail;go_roundg (nK t - (k+1))
     case rel=>exact ⟨k+1,rfl,by omega,by go_num,bO,HA⟩
     case measure=>omega
    | false =>
     have oM:=aj (HA2.out rfl);have jW:=aj (((Below.refl w.heap.size w).alloc (Nat.le_refl _) (vC v La Lc Ka Kc)).trans (bO.out.mono (by omega)));clear HA2;go_wp2_with fail;go_ret;exact ⟨av (by rw [oM.out]),jW.out⟩
   ·have HC:=aj (vO HL.out m Nu.out l (elt t k) f _ v wr (hl.keep dH.out (gK.keep dH.out m)) HVr.out hf Fq.out Y0.out);have HE:Hid (sP (dN m) (bf t k) (elt t k) v=bg (fun y=>dN m y v) (elt t k) (nL (elt t k))):=by show _=_;unfold sP;rw [if_neg (by rw [hx];decide),if_pos hx]
    rw [<- HE.out] at HC;have hm:=Sd l wr;clear hl hx HE;generalize sP (dN m) (bf t k) (elt t k) v=r at HC HA HA2;go_wp2_with fail;refine HC.out.mono ?_;rintro e w2 ⟨rfl,b2⟩;have bO:=aj (HB.out.trans (b2.mono (by omega)));clear b2 HC;cases r with
    | true =>
     go_wp2_with fail;go_roundg (nK t - (k+1))
     case rel=>exact ⟨k+1,rfl,by omega,by go_num,bO,HA⟩
     case measure=>omega
    | false =>
     have oM:=aj (HA2.out rfl);have jW:=aj (((Below.refl w.heap.size w).alloc (Nat.le_refl _) (vC v La Lc Ka Kc)).trans (bO.out.mono (by omega)));clear HA2;go_wp2_with fail;go_ret;exact ⟨av (by rw [oM.out]),jW.out⟩
   ·have HC:=aj (Fw HL.out m Nu.out l (elt t k) f _ v wr (hl.keep dH.out (gK.keep dH.out m)) HVr.out hf Fq.out Y0.out);have HE:Hid (sP (dN m) (bf t k) (elt t k) v=!(bg (fun y=>dN m y v) (elt t k) (nL (elt t k)))):=by show _=_;unfold sP;rw [if_neg (by rw [hx];decide),if_neg (by rw [hx];decide),if_pos hx]
    rw [<- HE.out] at HC;have hm:=OX l wr;clear hl hx HE;generalize sP (dN m) (bf t k) (elt t k) v=r at HC HA HA2;go_wp2_with fail;refine HC.out.mono ?_;rintro e w2 ⟨rfl,b2⟩;have bO:=aj (HB.out.trans (b2.mono (by omega)));clear b2 HC;cases r with
    | true =>
     go_wp2_with fail;go_roundg (nK t - (k+1))
     case rel=>exact ⟨k+1,rfl,by omega,by go_num,bO,HA⟩
     case measure=>omega
    | false =>
     have oM:=aj (HA2.out rfl);have jW:=aj (((Below.refl w.heap.size w).alloc (Nat.le_refl _) (vC v La Lc Ka Kc)).trans (bO.out.mono (by omega)));clear HA2;go_wp2_with fail;go_ret;exact ⟨av (by rw [oM.out]),jW.out⟩
   ·have HC:=aj (Fu xu.out ZU.out HL.out (bf t k) (elt t k) pv tv f _ v wr (hpv.keep dH.out) (htv.keep dH.out) HVr.out hf Fq.out Y0.out);have HE:Hid (sP (dN m) (bf t k) (elt t k) v=WS (aU (bf t k)) (jO (elt t k)) v):=by show _=_;unfold sP;rw [if_neg hx.1,if_neg hx.2.1,if_neg hx.2.2]
    rw [<- HE.out] at HC;have hm:=Sg (.agg #[pv,tv]) wr;clear hpv htv hx HE;generalize sP (dN m) (bf t k) (elt t k) v=r at HC HA HA2;go_wp2_with fail;refine HC.out.mono ?_;rintro e w2 ⟨rfl,b2⟩;have bO:=aj (HB.out.trans (b2.mono (by omega)));clear b2 HC;cases r with
    | true =>
     go_wp2_with fail;go_roundg (nK t - (k+1))
     case rel=>exact ⟨k+1,rfl,by omega,by go_num,bO,HA⟩
     case measure=>omega
    | false =>
     have oM:=aj (HA2.out rfl);have jW:=aj (((Below.refl w.heap.size w).alloc (Nat.le_refl _) (vC v La Lc Ka Kc)).trans (bO.out.mono (by omega)));clear HA2;go_wp2_with fail;go_ret;exact ⟨av (by rw [oM.out]),jW.out⟩
  ·obtain rfl:k=nK t:=by omega
   go_wp2_with fail;go_ret;exact ⟨av (by rw [dN,HN.out]),dH.out⟩
theorem Fx {Tb:World->Prop} (hA:kX Tb) (hI:kW Tb) (hL:fG Tb):∀ m,nO Tb m
 | 0=>fun _ _ _ _ _ _ h=>h.elim
 | m+1=>Si hA hI hL m (Fx hA hI hL m)
theorem Bj {P:Program} (w:World) (base:Nat) (t tx ty e:TypeId) (i:TypeInfo) (z:Value) (size bytes:Nat) (ht:P.underlying t=some (.slice e)) (hi:P.info? e=some i) (hz:i.zero=some z)
  (hsize:i.size=size) (hby:i.bytes=bytes) (hzs:z.cells.size=size)
  (v:Value) (n:Nat) (xs:List Value) (hown:w.ownsRow base e size v n xs) (x:Value) (m:Nat) (news:List Value) (hs:Src P size tx x m news w)
  (h63:n+m<=maxLen) (hbytes:(n+m)*bytes<=140737488355328) (hbase:base<=w.heap.size) :
  ∃ v' w',(Builtin.append_ #[t,tx] ty #[v,x]).run P w=.ok v' w'/\w'.ownsRow base e size v' (n+m) (xs++news)/\w.grownBy w' v.ownBlock/\(v'.ownBlock=v.ownBlock\/v'.ownBlock=some w.heap.size):=by
 subst hsize;subst hby;have hsmall:n+m<=9223372036854775807:=by simp only [maxLen] at h63;omega
 have hl:=hs.newsLen;have hlen:(xs++news).length=(n+m)*i.size:=by rw [List.length_append,hown.1,hl,Nat.add_mul]
 have grown:∀ (old:Nat),∀ (row:Option Nat),
   (w.drew.alloc (.cells ((xs++news).toArray++Builtin.zeroCells z.cells (grownCap w (n+m) old e - (n+m))) e)).ownsRow base e i.size
    (.slice (some ⟨w.heap.size,0,none⟩) (n+m) (grownCap w (n+m) old e)) (n+m) (xs++news) /\
   w.grownBy (w.drew.alloc (.cells ((xs++news).toArray++Builtin.zeroCells z.cells (grownCap w (n+m) old e - (n+m))) e)) row:=by
  intro old row;have hge:=grownCap_ge w (n+m) old e;have hcm:grownCap w (n+m) old e<=maxLen:=grownCap_le_maxLen w (n+m) old e h63;refine ⟨⟨hlen,.inr ⟨w.heap.size,_,_,rfl,hbase,heap_alloc_new w.drew _,hge,hcm,?_,?_⟩⟩,⟨rfl,rfl,rfl,by simp,fun k hk _=>heap_alloc_old w.drew _ hk⟩⟩
  ·simp only [Array.size_append,List.size_toArray,size_zeroCells,hzs,hlen,<- Nat.add_mul]
   congr 1
   omega
  ·simp only [Array.toList_append];rw [<- hlen];exact List.take_left
 rcases hown.2 with ⟨rfl,rfl⟩ | ⟨g,cap,cur,rfl,hbg,hg,hnc,hcm,hcs,htake⟩
 ·have hx:xs=[]:=List.eq_nil_of_length_eq_zero (by simpa using hown.1);subst hx;by_cases hm:m=0
  ·subst hm;have hn:news=[]:=List.eq_nil_of_length_eq_zero (by simpa using hl);subst hn;refine ⟨.slice none 0 0,w,?_,World.ownsRow_nil w base e i.size,⟨rfl,rfl,rfl,Nat.le_refl _,fun _ _ _=>rfl⟩,Or.inl rfl⟩;rcases hs.kind with ⟨e',hk⟩ | hk<;>simp [Builtin.append_,run_underlying ht,run_underlying hk,sizeOf,typeInfo,hi,hs.len,hs.cells]
  ·have hr:=run_append_grow_src (P:=P) w t tx ty e i z ht hi hz none 0 0 [] (run_firstCells_none w.drew i.size 0 0 0) x m news hs (by omega) (by omega) (growslice_fits (by omega) hbytes);have hgr:=grown 0 (Value.ownBlock (.slice none 0 0));exact ⟨_,_,hr,hgr.1,hgr.2,Or.inr rfl⟩
 ·by_cases hroom:n+m<=cap
  ·have hfit:n*i.size+news.length<=cur.size:=by rw [hl,hcs,<- Nat.add_mul];exact Nat.mul_le_mul_right _ hroom
   have hst:=run_storeCells_at P g (n*i.size) e news 0 cur w hg (by simpa using hfit) hs.one;simp only [Nat.add_zero] at hst
   have hr:(Builtin.append_ #[t,tx] ty #[.slice (some ⟨g,0,none⟩) n cap,x]).run P w=.ok (.slice (some ⟨g,0,none⟩) (n+m) cap) (w.setRow g (cur.toList.take (n*i.size)++news++cur.toList.drop (n*i.size+news.length)).toArray):=by
    rcases hs.kind with ⟨e',hk⟩ | hk<;>simp [Builtin.append_,run_underlying ht,run_underlying hk,sizeOf,typeInfo,hi,hs.len,hroom,hs.cells,Addr.add_lit,hst]
   refine ⟨_,_,hr,⟨hlen,.inr ⟨g,cap,_,rfl,hbg,setRow_heap w g cur _ e _ hg,hroom,hcm,?_,?_⟩⟩,⟨rfl,rfl,rfl,by simp,fun k _ hk=>setRow_other w g k _ (fun e=>hk (by simp [Value.ownBlock,e]))⟩,Or.inl rfl⟩
   ·simp only [List.size_toArray,List.length_append,List.length_take,List.length_drop,Array.length_toList];omega
   ·rw [htake,<- hlen];exact List.take_left
  ·have holds:∀ j u,xs[j]?=some u->w.cell? ((⟨g,0,none⟩:Addr).add j)=some u:=hown.cells (g:=g) rfl;have hr:=run_append_grow_src (P:=P) w t tx ty e i z ht hi hz (some ⟨g,0,none⟩) n cap xs (run_firstCells_some w.drew i.size n ⟨g,0,none⟩ n cap xs hown.1 (by simpa using holds)) x m news hs (by omega) (by omega) (growslice_fits (by omega) hbytes);have hgr:=grown cap (Value.ownBlock (.slice (some ⟨g,0,none⟩) n cap));exact ⟨_,_,hr,hgr.1,hgr.2,Or.inr rfl⟩
theorem ou {P:Program} (w:World) {o:Oper} {a:Act} {K:Act->World->Prop} {Q:Exit->Act->World->Prop} (s xo:Operand) (t tx:TypeId)
  (ho:o.op=.call { callee:=.builtin .append,args:=#[s,xo],argTypes:=#[t,tx] })
  (base:Nat) (e:TypeId) (i:TypeInfo) (z:Value) (size bytes:Nat) (ht:P.underlying t=some (.slice e)) (hi:P.info? e=some i) (hz:i.zero=some z)
  (hsize:i.size=size) (hby:i.bytes=bytes) (hzs:z.cells.size=size)
  (v:Value) (n:Nat) (xs:List Value) (hsv:a.eval s=v) (hown:w.ownsRow base e size v n xs) (x:Value) (m:Nat) (news:List Value) (hx:a.eval xo=x) (hs:Src P size tx x m news w)
  (h63:n+m<=maxLen) (hbytes:(n+m)*bytes<=140737488355328) (hbase:base<=w.heap.size)
  (h:∀ v' w',w'.ownsRow base e size v' (n+m) (xs++news)->w.grownBy w' v.ownBlock->(v'.ownBlock=v.ownBlock\/v'.ownBlock=some w.heap.size)->K (a.put o.dst v') w'):o.wp P a w K Q:=by
 obtain ⟨v',w',hr,h2,h3,h4⟩:=Bj (P:=P) w base t tx o.type e i z size bytes ht hi hz hsize hby hzs v n xs hown x m news hs h63 hbytes hbase;unfold Oper.wp execOp;simp only [ho,resolve,invoke,builtin,Sem.run_bind,Sem.run_pure,Result.andThen_ok,List.map_toArray,List.map_cons,List.map_nil,hsv,hx,hr];exact h v' w' h2 h3 h4
theorem ay {P:Program} (w:World) {ops:Array Oper} {rest:List Oper} {o:Oper} {a:Act} {Q:Exit->Act->World->Prop} (hgd:o.guard=none) (s xo:Operand) (t tx:TypeId)
  (ho:o.op=.call { callee:=.builtin .append,args:=#[s,xo],argTypes:=#[t,tx] })
  (base:Nat) (e:TypeId) (i:TypeInfo) (z:Value) (size bytes:Nat) (ht:P.underlying t=some (.slice e)) (hi:P.info? e=some i) (hz:i.zero=some z)
  (hsize:i.size=size) (hby:i.bytes=bytes) (hzs:z.cells.size=size)
  (v:Value) (n:Nat) (xs:List Value) (hsv:a.eval s=v) (hown:w.ownsRow base e size v n xs) (x:Value) (m:Nat) (news:List Value) (hx:a.eval xo=x) (hs:Src P size tx x m news w)
  (h63:n+m<=maxLen) (hbytes:(n+m)*bytes<=140737488355328) (hbase:base<=w.heap.size)
  (h:∀ v' w',w'.ownsRow base e size v' (n+m) (xs++news)->w.grownBy w' v.ownBlock->(v'.ownBlock=v.ownBlock\/v'.ownBlock=some w.heap.size)->wpList P ops Q rest (a.put o.dst v') w'):wpList P ops Q (o::rest) a w :=
 wpList_plain hgd fun _ hK=>ou w s xo t tx ho base e i z size bytes ht hi hz hsize hby hzs v n xs hsv hown x m news hx hs h63 hbytes hbase fun v' w' h2 h3 h4=>hK _ _ (h v' w' h2 h3 h4)
theorem qB {P:Program} (w:World) {ops:Array Oper} {o:Oper} {a:Act} {K:Act->World->Prop} {Q:Exit->Act->World->Prop} {E:Prop} (hgd:o.guard=none) (s xo:Operand) (t tx:TypeId)
  (ho:o.op=.call { callee:=.builtin .append,args:=#[s,xo],argTypes:=#[t,tx] })
  (base:Nat) (e:TypeId) (i:TypeInfo) (z:Value) (size bytes:Nat) (ht:P.underlying t=some (.slice e)) (hi:P.info? e=some i) (hz:i.zero=some z)
  (hsize:i.size=size) (hby:i.bytes=bytes) (hzs:z.cells.size=size)
  (v:Value) (n:Nat) (xs:List Value) (hsv:a.eval s=v) (hown:w.ownsRow base e size v n xs) (x:Value) (m:Nat) (news:List Value) (hx:a.eval xo=x) (hs:Src P size tx x m news w)
  (h63:n+m<=maxLen) (hbytes:(n+m)*bytes<=140737488355328) (hbase:base<=w.heap.size)
  (h:∀ v' w',w'.ownsRow base e size v' (n+m) (xs++news)->w.grownBy w' v.ownBlock->(v'.ownBlock=v.ownBlock\/v'.ownBlock=some w.heap.size)->K (a.put o.dst v') w') :
  if Region.wanted o (yielded ops a.tmps)=true then Oper.wp P o a w K Q else E:=by
 have hw:Region.wanted o (yielded ops a.tmps)=true:=by simp [Region.wanted,hgd]
 rw [if_pos hw];exact ou w s xo t tx ho base e i z size bytes ht hi hz hsize hby hzs v n xs hsv hown x m news hx hs h63 hbytes hbase h
def aA (l:List UInt8):List Value:=l.map fun b=>Value.int .u8 b.toNat
theorem kF (a b:List UInt8):aA (a++b)=aA a++aA b:=List.map_append ..
theorem dO (a:List UInt8):(aA a).length=a.length:=List.length_map ..
theorem oV {P:Program} (w:World) {tx:TypeId} (hk:P.underlying tx=some .string) (s:ByteArray):Src P 1 tx (.string s) s.size (aA s.data.toList) w:=Src.ofString w hk s
theorem Bl {P:Program} {w:World} {base:Nat} {src dst e:TypeId} {v:Value} {l:List UInt8} (hs:P.underlying src=some (.slice e)) (he:P.underlying e=some (.int .u8)) (hd:P.underlying dst=some .string)
  (h:w.ownsRow base e 1 v l.length (aA l)):(convert src dst v).run P w=.ok (.string ⟨l.toArray⟩) w:=by
 rcases h.2 with ⟨rfl,h0⟩ | ⟨g,cap,cur,rfl,hbg,hg,hnc,hcm,hcs,htake⟩
 ·have:l=[]:=List.eq_nil_of_length_eq_zero h0;subst this;exact run_convert_bytes_nil w src e hs he 0 0 dst hd
 ·refine run_convert_bytes_back (P:=P) w src dst e ⟨g,0,none⟩ cap l hs he hd fun j hj=>?_;have:=h.cells (g:=g) rfl j (.int .u8 ((l[j]'hj).toNat:Nat)) (by unfold aA;rw [List.getElem?_map,List.getElem?_eq_getElem hj];rfl);exact this
def jG (p:T->Bool) (t:T):Nat->List T
 | 0=>[]
 | k+1=>jG p t k++(if p (elt t k)=true then [elt t k] else [])
theorem Bn (p:T->Bool) (t:T):∀ k,(jG p t k).length<=k
 | 0=>by simp [jG]
 | k+1=>by
  have:=Bn p t k;rw [jG,List.length_append];split<;>simp<;>omega
structure rJ (w0:World) (f:Nat) (hv:Value) (l:List T) (xs:List Value) (wr:World):Prop where
 row:wr.ownsRow w0.heap.size 25 5 hv l.length xs
 at_:∀ i,(h:i<l.length)->At w0 f (fv xs i) l[i]
 low:Below w0.heap.size w0 wr
theorem dQ {w w':World} {lo:Nat} {e:TypeId} {size n:Nat} {v:Value} {xs:List Value} (h:w.ownsRow lo e size v n xs) (hb:∀ b,lo<=b->b<w.heap.size->w'.heap[b]?=w.heap[b]?):w'.ownsRow lo e size v n xs:=by
 refine ⟨h.1,?_⟩;rcases h.2 with hn | ⟨g,cap,cur,rfl,hb0,hg,rest⟩
 ·exact .inl hn
 ·exact .inr ⟨g,cap,cur,rfl,hb0,(hb g hb0 (Array.getElem?_eq_some_iff.1 hg).1).trans hg,rest⟩
theorem rJ.keep {w0:World} {f:Nat} {hv:Value} {l:List T} {xs:List Value} {wr w1:World} (h:rJ w0 f hv l xs wr) (hb:Below wr.heap.size wr w1):rJ w0 f hv l xs w1 :=
 ⟨dQ h.row fun b _ h2=>hb.block b h2,h.at_,h.low.trans (hb.mono h.low.size)⟩
theorem rJ.nil (w0:World) (f:Nat) (wr:World) (h:Below w0.heap.size w0 wr):rJ w0 f (.slice none 0 0) [] [] wr:=⟨World.ownsRow_nil _ _ _ _,fun i h=>absurd h (Nat.not_lt_zero i),h⟩
theorem kG {xs ys:List Value} {j:Nat} (h:j<xs.length):cx (xs++ys) j=cx xs j:=by unfold cx;rw [List.getElem?_append_left h]
theorem iP {xs ys:List Value} {j:Nat}:cx (xs++ys) (xs.length+j)=cx ys j:=by unfold cx;rw [List.getElem?_append_right (by omega)];congr 2;omega
theorem rJ.grow {w0:World} {f:Nat} {hv v':Value} {l:List T} {xs:List Value} {wr w2:World} {c0 c1 c2 c3 c4:Value} {x:T} (h:rJ w0 f hv l xs wr) (ha:At w0 f (.agg #[c0,c1,c2,c3,c4]) x) (hO:w2.ownsRow w0.heap.size 25 5 v' (l.length+1) (xs++[c0,c1,c2,c3,c4])) (hG:wr.grownBy w2 hv.ownBlock):rJ w0 f v' (l++[x]) (xs++[c0,c1,c2,c3,c4]) w2:=by
 have hx:xs.length=l.length*5:=h.row.1;refine ⟨by rw [List.length_append];exact hO,fun i hi=>?_,⟨hG.os.trans h.low.os,hG.tape.trans h.low.tape,hG.output.trans h.low.output,Nat.le_trans h.low.size hG.size,fun k hk=>?_⟩⟩
 ·rw [List.length_append,List.length_cons,List.length_nil] at hi;by_cases e:i<l.length
  ·have:=h.at_ i e;rw [List.getElem_append_left e];unfold fv at this ⊢;rw [kG (by omega),kG (by omega),kG (by omega),kG (by omega),kG (by omega)];exact this
  ·obtain rfl:i=l.length:=by omega
   rw [List.getElem_append_right (by omega)];simp only [Nat.sub_self,List.getElem_cons_zero];unfold fv;rw [<- hx,show xs.length=xs.length+0 from rfl,iP,Nat.add_assoc,iP,Nat.add_assoc,iP,Nat.add_assoc,iP,Nat.add_assoc,iP];exact ha
 ·rw [hG.block k (Nat.lt_of_lt_of_le hk h.low.size) ?_,h.low.block k hk];intro e;rcases h.row.2 with ⟨rfl,_⟩ | ⟨g,cap,cur,rfl,hb0,_⟩
  ·cases e
  ·have:k=g:=by simpa [Value.ownBlock] using e
   omega
theorem KO {Tb:World->Prop} (hL:fG Tb) (m:Nat) (hfil:nO Tb m) (Ny:Value) (t d:T) (f:Nat) (La:Option Addr) (Lc:Nat) (w:World) (hfl:gK w m Ny t) (hl:bC w f La d) (hn:nL d<=1000000) (hf:f<=16) (hk:∀ i,i<nL d->dZ (elt d i)) (hT:Tb w) :
  Calls Tryz.prog 65 #[Ny,.slice La (nL d) Lc] w fun e w'=>∃ hv xs,e=.returned hv/\rJ w f hv (jG (dN m t) d (nL d)) xs w':=by
 obtain ⟨iV,G8,G9,Hf,Ho⟩:=info_parts yg;have HFl:=aj hfl;have Hl:=aj hl;have HK:=aj hk;have acE:=aj hfil;have HT:Hid (∀ w':World,Below w.heap.size w w'->Tb w'):=fun w' hb=>hL w hT w w' hT hb;clear hfl hl hk hfil hT hL;go_in;go_wp2_with fail;go_loopg [5,10] (nL d) (fun g o i wr=>∃ (k:Nat) (xs:List Value),g=nL d - k/\k<=nL d/\i=.int .i64 k/\Hid (rJ w f o (jG (dN m t) d k) xs wr))
 case atStart=>exact ⟨0,[],rfl,Nat.zero_le _,rfl,rJ.nil w f w (Below.refl _ _)⟩
 case round =>
  obtain ⟨k,xs,rfl,hk,rfl,HH⟩:=hrel;by_cases hlt:k<nL d
  ·obtain ⟨bb,oo,A,B,C,D,rfl,hbl,p0,p1,p2,p3,p4,Ha⟩:=Hl.out.shape HH.out.low k hlt;have sG:=aj (bG wr (vC (elt d k) A B C D));have HB2:=aj (HH.out.low.trans (sG.out.mono HH.out.low.size));have HC:=aj (acE.out Ny t f _ (elt d k) _ (gK.keep HB2.out m _ _ HFl.out) (Ha.out.keep HB2.out) hf (HK.out k hlt) (HT.out _ HB2.out));have hkl:=Bn (dN m t) d k;cases hp:dN m t (elt d k) with
   | true =>
    rw [hp] at HC;have HE:Hid (jG (dN m t) d (k+1)=jG (dN m t) d k++[elt d k]):=by show _=_;rw [jG,if_pos hp]
    clear hp;go_wp2_with fail;refine HC.out.mono ?_;rintro e w2 ⟨rfl,b2⟩
    have yS:Hid (aK wr.heap.size (.int .i64 (ah (elt d k))) (.int .i64 (aB (elt d k))) (.string (aF (elt d k))) (.slice A (nL (elt d k)) B) (.slice C (nK (elt d k)) D) w2):=by
     refine aK.stay (w:=wr.alloc (vC (elt d k) A B C D)) ?_ b2;constructor<;>simp [go_sem]
    have HH2:=aj ((HH.out.keep sG.out).keep b2);have HH3:=aj (HH2.out.keep ((Below.refl w2.heap.size w2).alloc (Nat.le_refl _) (vC (elt d k) A B C D)));have qd:Hid (Src Tryz.prog 5 22 (.slice (some ⟨w2.heap.size,0,none⟩) 1 1) 1 [.int .i64 (ah (elt d k)),.int .i64 (aB (elt d k)),.string (aF (elt d k)),.slice A (nL (elt d k)) B,.slice C (nK (elt d k)) D] (w2.alloc (vC (elt d k) A B C D))):=Src.ofSlice _ Tryz.underlying22 ⟨w2.heap.size,0,none⟩ 1 1 [.int .i64 (ah (elt d k)),.int .i64 (aB (elt d k)),.string (aF (elt d k)),.slice A (nL (elt d k)) B,.slice C (nK (elt d k)) D] (by simp) (World.news_of_block (heap_alloc_new w2 _)) (by simp [Value.oneCell']);have q0:=yS.out.q0;have q1:=yS.out.q1;have q2:=yS.out.q2;have q3:=yS.out.q3;have q4:=yS.out.q4;have hlo:=HH3.out.low.size;clear b2 HC;go_wp2_with (at_builtin;refine ay _ rfl (.tmp 17) (.tmp 19) 22 22 rfl w.heap.size 25 iV _ 5 80 Tryz.underlying22 G8 G9 Hf Ho rfl u5 (jG (dN m t) d k).length xs rfl HH3.out.row (.slice (some ⟨w2.heap.size,0,none⟩) 1 1) 1 [.int .i64 (ah (elt d k)),.int .i64 (aB (elt d k)),.string (aF (elt d k)),.slice A (nL (elt d k)) B,.slice C (nK (elt d k)) D] rfl qd.out (by unfold maxLen;omega) (by omega) hlo ?_;intro v' w6 gU gQ bI);have H6:=aj (HH3.out.grow Ha.out gU gQ);clear gU gQ bI q0 q1 q2 q3 q4;go_wp2_with fail;go_roundg (nL d - (k+1))
    case rel=>exact ⟨k+1,_,rfl,by omega,by go_num,by rw [HE.out];exact H6⟩
    case measure=>omega
   | false =>
    rw [hp] at HC;have HE:Hid (jG (dN m t) d (k+1)=jG (dN m t) d k):=by show _=_;rw [jG,hp];simp
    clear hp;go_wp2_with fail;refine HC.out.mono ?_;rintro e w2 ⟨rfl,b2⟩;have HH2:=aj ((HH.out.keep sG.out).keep b2);clear b2 HC;go_wp2_with fail;go_roundg (nL d - (k+1))
    case rel=>exact ⟨k+1,_,rfl,by omega,by go_num,by rw [HE.out];exact HH2⟩
    case measure=>omega
  ·obtain rfl:k=nL d:=by omega
   go_wp2_with fail;go_ret;exact ⟨_,_,rfl,HH.out⟩
theorem KP (ok:Bool) (n:Int) (w:World):Calls Tryz.prog 228 #[.bool ok,.int .i64 n] w fun e w'=>w'=w/\e=(if ok then .returned (.tuple #[]) else kC n):=by
 cases ok with
 | true =>
  go_in;go_wp2_with fail;refine bodyPost_end (v:=.tuple #[]) (by simp [results,Tryz.results228,go_sem]) rfl ?_;exact ⟨rfl,rfl⟩
 | false =>
  go_in;go_wp2_with fail;exact ⟨rfl,rfl,rfl⟩
theorem eH (ok:Bool) (w:World):Calls Tryz.prog 189 #[.bool ok] w fun e w'=>w'=w/\e=(if ok then .returned (.tuple #[]) else kC 8):=by
 have HC:=aj (KP ok 8 w);cases ok with
 | true =>
  simp only [if_true] at HC ⊢;go_in;go_wp2_with fail;refine HC.out.mono ?_;rintro e w2 ⟨rfl,rfl⟩;go_wp2_with fail;refine bodyPost_end (v:=.tuple #[]) (by simp [results,Tryz.results189,go_sem]) rfl ?_;exact ⟨rfl,rfl⟩
 | false =>
  simp only [Bool.false_eq_true,if_false] at HC ⊢;go_in;go_wp2_with fail;refine HC.out.mono ?_;rintro e w2 ⟨rfl,rfl⟩;exact ⟨rfl,rfl,rfl⟩
def Iz {α:Type} (E:World->(Nat->Prop)->List Value->α->Prop):Prop:=∀ (w w':World) (X X':Nat->Prop) (cs:List Value) (x:α),E w X cs x->(∀ b,X b->w'.heap[b]?=w.heap[b]?/\X' b)->E w' X' cs x
def Sj (s:Nat) (xs:List Value) (i:Nat):List Value:=(xs.drop (i*s)).take s
def ZV (base:Nat) (hv:Value) (w:World) (b:Nat):Prop:=base<=b/\b<w.heap.size/\some b≠hv.ownBlock
structure J2 {α:Type} (E:World->(Nat->Prop)->List Value->α->Prop) (s:Nat) (e:TypeId) (base:Nat) (hv:Value) (l:List α) (xs:List Value) (wr:World):Prop where
 row:wr.ownsRow base e s hv l.length xs
 el:∀ i,(h:i<l.length)->E wr (ZV base hv wr) (Sj s xs i) l[i]
theorem J2.nil {α:Type} (E:World->(Nat->Prop)->List Value->α->Prop) (s:Nat) (e:TypeId) (base:Nat) (wr:World):J2 E s e base (.slice none 0 0) [] [] wr:=⟨World.ownsRow_nil _ _ _ _,fun i h=>absurd h (Nat.not_lt_zero i)⟩
theorem J2.keep {α:Type} {E:World->(Nat->Prop)->List Value->α->Prop} (hE:Iz E) {s:Nat} {e:TypeId} {base:Nat} {hv:Value} {l:List α} {xs:List Value} {wr w1:World} (h:J2 E s e base hv l xs wr) (hb:Below wr.heap.size wr w1):J2 E s e base hv l xs w1 :=
 ⟨dQ h.row fun b _ h2=>hb.block b h2,fun i hi=>hE _ _ _ _ _ _ (h.el i hi) fun b hX=>⟨hb.block b hX.2.1,hX.1,Nat.lt_of_lt_of_le hX.2.1 hb.size,hX.2.2⟩⟩
theorem Sk {s:Nat} {xs ys:List Value} {i n:Nat} (hx:xs.length=n*s) (hi:i<n):Sj s (xs++ys) i=Sj s xs i:=by
 have h1:(i+1)*s<=n*s:=Nat.mul_le_mul_right s hi;rw [Nat.add_mul,Nat.one_mul] at h1;unfold Sj;rw [List.drop_append_of_le_length (by omega),List.take_append_of_le_length (by rw [List.length_drop];omega)]
theorem OY {s:Nat} {xs ys:List Value} {n:Nat} (hx:xs.length=n*s) (hy:ys.length=s):Sj s (xs++ys) n=ys:=by
 unfold Sj;rw [<- hx,List.drop_left,<- hy,List.take_length]
theorem Nz {w:World} {lo:Nat} {e:TypeId} {size n:Nat} {v:Value} {xs:List Value} (h:w.ownsRow lo e size v n xs) {b:Nat} (hb:v.ownBlock=some b):lo<=b/\b<w.heap.size:=by
 rcases h.2 with ⟨rfl,_⟩ | ⟨g,cap,cur,rfl,hb0,hg,rest⟩
 ·cases hb
 ·have:b=g:=by simpa [Value.ownBlock] using hb.symm
  subst this;exact ⟨hb0,(Array.getElem?_eq_some_iff.1 hg).1⟩
theorem J2.grow {α:Type} {E:World->(Nat->Prop)->List Value->α->Prop} (hE:Iz E) {s:Nat} {e:TypeId} {base:Nat} {hv v':Value} {l:List α} {xs cs:List Value} {wr w2 w3:World} {x:α} {X:Nat->Prop} (h:J2 E s e base hv l xs wr) (hb:Below wr.heap.size wr w2) (hc:cs.length=s) (hx:E w2 X cs x) (hX:∀ b,X b->wr.heap.size<=b/\b<w2.heap.size) (hlo:base<=wr.heap.size)
  (hO:w3.ownsRow base e s v' (l.length+1) (xs++cs)) (hG:w2.grownBy w3 hv.ownBlock) (hat:v'.ownBlock=hv.ownBlock\/v'.ownBlock=some w2.heap.size):J2 E s e base v' (l++[x]) (xs++cs) w3:=by
 have hxl:xs.length=l.length*s:=h.row.1
 have own:∀ b,b<w2.heap.size->some b≠hv.ownBlock->some b≠v'.ownBlock:=fun b h1 h2=>by
  rcases hat with ha | ha
  ·rw [ha];exact h2
  ·rw [ha];intro e;simp only [Option.some.injEq] at e;omega
 refine ⟨by rw [List.length_append];exact hO,fun i hi=>?_⟩;rw [List.length_append,List.length_cons,List.length_nil] at hi;by_cases ei:i<l.length
 ·rw [List.getElem_append_left ei,Sk hxl ei];refine hE _ _ _ _ _ _ (h.el i ei) fun b hX=>?_;have h2:b<w2.heap.size:=Nat.lt_of_lt_of_le hX.2.1 hb.size;exact ⟨(hG.block b h2 hX.2.2).trans (hb.block b hX.2.1),hX.1,Nat.lt_of_lt_of_le h2 hG.size,own b h2 hX.2.2⟩
 ·obtain rfl:i=l.length:=by omega
  rw [List.getElem_append_right (by omega),OY hxl hc];simp only [Nat.sub_self,List.getElem_cons_zero];refine hE _ _ _ _ _ _ hx fun b hb'=>?_;have h1:=hX b hb';have h3:some b≠hv.ownBlock:=fun e=>by have:=(Nz h.row e.symm).2;omega
  exact ⟨hG.block b h1.2 h3,by omega,Nat.lt_of_lt_of_le h1.2 hG.size,own b h1.2 h3⟩
structure lG where
 w:World
 y:Nat->Prop
def yT (o:lG) (f:Nat) (v:Value) (t:T):Prop:=nu o.y o.w f v t
def KQ (o:lG) (f:Nat) (La:Option Addr) (t:T):Prop:=∀ i,i<nL t->∃ b oo c0 c1 c2 c3 c4,La=some ⟨b,oo,none⟩/\(b<o.w.heap.size/\o.y b)/\o.w.cell? ⟨b,oo+i*5,none⟩=some c0/\o.w.cell? ⟨b,oo+i*5+1,none⟩=some c1/\o.w.cell? ⟨b,oo+i*5+2,none⟩=some c2/\o.w.cell? ⟨b,oo+i*5+3,none⟩=some c3/\o.w.cell? ⟨b,oo+i*5+4,none⟩=some c4/\nu o.y o.w f (.agg #[c0,c1,c2,c3,c4]) (elt t i)
theorem yT.open {o:lG} {f:Nat} {v:Value} {t:T} (h:yT o f v t):∃ (g:Nat) (La Ka:Option Addr) (Lc Kc:Nat),f=g+1 /\
   v=.agg #[.int .i64 (ah t),.int .i64 (aB t),.string (aF t),.slice La (nL t) Lc,.slice Ka (nK t) Kc]/\Cu t/\Hid (KQ o g La t)/\Hid (gI o.w Ka t):=by
 cases f with
 | zero=>exact h.elim
 | succ f =>
  obtain ⟨La,Ka,Lc,Kc,rfl,hf,hl,hk⟩:=h;refine ⟨f,La,Ka,Lc,Kc,rfl,rfl,hf,hl,fun i hi=>?_⟩;obtain ⟨b,oo,h0,⟨h1,_⟩,h2,h3⟩:=hk i hi;exact ⟨b,oo,h0,h1,h2,h3⟩
theorem KQ.shape {o:lG} {w':World} (h:Below o.w.heap.size o.w w') {f:Nat} {La:Option Addr} {t:T} (hl:KQ o f La t) (i:Nat) (hi:i<nL t) :
  ∃ b oo A B C D,La=some ⟨b,oo,none⟩/\b<o.w.heap.size/\w'.cell? ⟨b,oo+i*5,none⟩=some (.int .i64 (ah (elt t i)))/\w'.cell? ⟨b,oo+i*5+1,none⟩=some (.int .i64 (aB (elt t i)))/\w'.cell? ⟨b,oo+i*5+2,none⟩=some (.string (aF (elt t i)))/\w'.cell? ⟨b,oo+i*5+3,none⟩=some (.slice A (nL (elt t i)) B)/\w'.cell? ⟨b,oo+i*5+4,none⟩=some (.slice C (nK (elt t i)) D) /\
   Hid (yT o f (.agg #[.int .i64 (ah (elt t i)),.int .i64 (aB (elt t i)),.string (aF (elt t i)),.slice A (nL (elt t i)) B,.slice C (nK (elt t i)) D]) (elt t i)):=by
 obtain ⟨b,oo,c0,c1,c2,c3,c4,h0,⟨hb,_⟩,q0,q1,q2,q3,q4,ha⟩:=hl i hi;obtain ⟨g,A,C,B,D,_,hv,_⟩:=(show yT o f _ _ from ha).open;simp only [Value.agg.injEq,Array.mk.injEq,List.cons.injEq,and_true] at hv;obtain ⟨rfl,rfl,rfl,rfl,rfl⟩:=hv;exact ⟨b,oo,A,B,C,D,h0,hb,(h.cell (p:=⟨b,_,none⟩) hb).trans q0,(h.cell (p:=⟨b,_,none⟩) hb).trans q1,(h.cell (p:=⟨b,_,none⟩) hb).trans q2,(h.cell (p:=⟨b,_,none⟩) hb).trans q3,(h.cell (p:=⟨b,_,none⟩) hb).trans q4,ha⟩
def sQ (w:World) (X:Nat->Prop) (R:R7) (v:Value) (ps:List (ByteArray×T)):Prop :=
 ∃ (A:Option Addr) (c:Nat),v=.slice A ps.length c/\ps.length<=1000000000/\∀ i,(h:i<ps.length)->∃ b o c0 c1 c2 c3 c4 c5 c6,A=some ⟨b,o,none⟩/\X b/\w.cell? ⟨b,o+i*7,none⟩=some c0/\w.cell? ⟨b,o+i*7+1,none⟩=some c1/\w.cell? ⟨b,o+i*7+2,none⟩=some c2/\w.cell? ⟨b,o+i*7+3,none⟩=some c3/\w.cell? ⟨b,o+i*7+4,none⟩=some c4/\w.cell? ⟨b,o+i*7+5,none⟩=some c5/\w.cell? ⟨b,o+i*7+6,none⟩=some c6/\R c0 c1 c2 c3 c4 c5 c6 ps[i]
def eX (w0 : lG) (w : World) (X : Nat -> Prop) : Nat -> R7
  | 0 => fun _ _ _ _ _ _ _ _ => False
  | m + 1 => fun c0 c1 c2 c3 c4 c5 c6 p => c0 = .string p.1 /\ p.1.size <= 140737488355328 /\
      ((ji p.1 /\ c1 = .int .i64 0 /\ c2 = .int .i64 0 /\ c3 = .string ⟨#[]⟩ /\ c4 = .slice none 0 0 /\ c5 = .slice none 0 0 /\ sQ w X (eX w0 w X m) c6 (iO p.2)) \/
       (¬ ji p.1 /\ c6 = .slice none 0 0 /\ ∃ g A B C D, g <= 16 /\ c1 = .int .i64 (ah p.2) /\ c2 = .int .i64 (aB p.2) /\ c3 = .string (aF p.2) /\ c4 = .slice A (nL p.2) B /\ c5 = .slice C (nK p.2) D /\ yT w0 g (.agg #[.int .i64 (ah p.2), .int .i64 (aB p.2), .string (aF p.2), .slice A (nL p.2) B, .slice C (nK p.2) D]) p.2 /\ dZ p.2))
theorem sQ.move {w w':World} {X X':Nat->Prop} {R R':R7} {v:Value} {ps:List (ByteArray×T)} (h:sQ w X R v ps) (hb:∀ b,X b->w'.heap[b]?=w.heap[b]?/\X' b) (hR:∀ c0 c1 c2 c3 c4 c5 c6 p,R c0 c1 c2 c3 c4 c5 c6 p->R' c0 c1 c2 c3 c4 c5 c6 p):sQ w' X' R' v ps:=by
 obtain ⟨A,c,hv,hn,h⟩:=h;refine ⟨A,c,hv,hn,fun i hi=>?_⟩;obtain ⟨b,o,c0,c1,c2,c3,c4,c5,c6,h0,hl,q0,q1,q2,q3,q4,q5,q6,hr⟩:=h i hi;obtain ⟨h1,h2⟩:=hb b hl;exact ⟨b,o,c0,c1,c2,c3,c4,c5,c6,h0,h2,(aC h1 _).trans q0,(aC h1 _).trans q1,(aC h1 _).trans q2,(aC h1 _).trans q3,(aC h1 _).trans q4,(aC h1 _).trans q5,(aC h1 _).trans q6,hR _ _ _ _ _ _ _ _ hr⟩
theorem eX.move {w0:lG} {w w':World} {X X':Nat->Prop} (hb:∀ b,X b->w'.heap[b]?=w.heap[b]?/\X' b):∀ (m:Nat) (c0 c1 c2 c3 c4 c5 c6:Value) (p:ByteArray×T),eX w0 w X m c0 c1 c2 c3 c4 c5 c6 p->eX w0 w' X' m c0 c1 c2 c3 c4 c5 c6 p
 | 0,_,_,_,_,_,_,_,_,h=>h
 | m+1,c0,c1,c2,c3,c4,c5,c6,p,h=>by
  obtain ⟨h0,h1,⟨hi,z1,z2,z3,z4,z5,hr⟩ | h2⟩:=h
  ·exact ⟨h0,h1,.inl ⟨hi,z1,z2,z3,z4,z5,hr.move hb (eX.move hb m)⟩⟩
  ·exact ⟨h0,h1,.inr h2⟩
theorem sQ.at {w:World} {X:Nat->Prop} {R R':R7} {v:Value} {ps:List (ByteArray×T)} (h:sQ w X R v ps) (hX:∀ b,X b->b<w.heap.size) (hR:∀ c0 c1 c2 c3 c4 c5 c6 p,R c0 c1 c2 c3 c4 c5 c6 p->R' c0 c1 c2 c3 c4 c5 c6 p):KL w R' v ps:=by
 obtain ⟨A,c,hv,hn,h⟩:=h;refine ⟨A,c,hv,hn,fun i hi=>?_⟩;obtain ⟨b,o,c0,c1,c2,c3,c4,c5,c6,h0,hl,q0,q1,q2,q3,q4,q5,q6,hr⟩:=h i hi;exact ⟨b,o,c0,c1,c2,c3,c4,c5,c6,h0,hX b hl,q0,q1,q2,q3,q4,q5,q6,hR _ _ _ _ _ _ _ _ hr⟩
theorem eX.at {w0:lG} {w:World} {X:Nat->Prop} (hX:∀ b,X b->b<w.heap.size) (hb:∀ f v t,yT w0 f v t->At w f v t):∀ (m:Nat) (c0 c1 c2 c3 c4 c5 c6:Value) (p:ByteArray×T),eX w0 w X m c0 c1 c2 c3 c4 c5 c6 p->lN w m c0 c1 c2 c3 c4 c5 c6 p
 | 0,_,_,_,_,_,_,_,_,h=>h
 | m+1,c0,c1,c2,c3,c4,c5,c6,p,h=>by
  obtain ⟨h0,h1,⟨hi,z1,z2,z3,z4,z5,hr⟩ | ⟨hi,z6,g,A,B,C,D,hg,z1,z2,z3,z4,z5,ha,hk⟩⟩:=h
  ·exact ⟨h0,h1,.inl ⟨hi,z1,z2,z3,z4,z5,hr.at hX (eX.at hX hb m)⟩⟩
  ·exact ⟨h0,h1,.inr ⟨hi,z6,g,A,B,C,D,hg,z1,z2,z3,z4,z5,hb _ _ _ ha,hk⟩⟩
def Sl (w0:lG) (m:Nat) (w:World) (X:Nat->Prop) (cs:List Value) (p:ByteArray×T):Prop:=∃ c0 c1 c2 c3 c4 c5 c6,cs=[c0,c1,c2,c3,c4,c5,c6]/\eX w0 w X m c0 c1 c2 c3 c4 c5 c6 p
theorem nQ (w0:lG) (m:Nat):Iz (Sl w0 m):=fun _ _ _ _ _ _ h hb=>by
 obtain ⟨c0,c1,c2,c3,c4,c5,c6,hc,h⟩:=h;exact ⟨c0,c1,c2,c3,c4,c5,c6,hc,eX.move hb m _ _ _ _ _ _ _ _ h⟩
end Go.Proofs.YtknakfpciccoaaaGreatDoor
