import Derived.Test.YtknakfpciccoaaaGreatDoorZC11
import Derived.Lib.Split
import Derived.Test.YtknakfpciccoaaaGreatDoorZC1
import Derived.Deep.AppendSrc
import Derived.Deep.AppendLies
import Derived.Laws.BytesArg
import Derived.Laws.IdiomStrings
/- The walk of tests.hold. -/
set_option maxHeartbeats 4000000
set_option maxRecDepth 100000
namespace Go.Proofs.YtknakfpciccoaaaGreatDoor
open Go.RowKit
theorem U7 {α:Type} {p:α->Bool} {l:List α} {k:Nat} (h:k<l.length) (ht:(l.take k).all p=true):(l.take (k+1)).all p=p l[k]:=by
 rw [List.take_succ_eq_append_getElem h,List.all_append,ht];simp
theorem abS {α:Type} {p:α->Bool} {l:List α} {k:Nat} (h:k<l.length) (hp:p l[k]=false):l.all p=false:=by
 rw [List.all_eq_false];exact ⟨l[k],List.getElem_mem h,by rw [hp];simp⟩
theorem U8 (m:Nat) (ih:kX m) (c0 c1 c2 c3 c4 c5 c6:Value) (p:ByteArray×T) (f:Nat) (x:Value) (v:T) (there:Bool) (w:World) (ht:lK w (m+1) c0 c1 c2 c3 c4 c5 c6 p) (hv:At w f x v) (hf:f<=16) (kv:bM v) :
  Calls Tryz.prog 337 #[.agg #[c0,c1,c2,c3,c4,c5,c6],x,.bool there] w fun e w'=>e=.returned (.bool (xO (m+1) p v there))/\Below w.heap.size w w':=by
 obtain ⟨op,j⟩:=p;obtain ⟨rfl,_,⟨hi,rfl,rfl,rfl,rfl,rfl,hr⟩ | ⟨hi,rfl,g,A,B,C,D,hg,rfl,rfl,rfl,rfl,rfl,ha,hk⟩⟩:=ht
 ·exact RL m ih op j c6 f x v there w hi hr hv hf kv
 ·exact M8 m op j A C B D g f x v there w hi ha hv hf hk kv
theorem lK.shape {w:World} {m:Nat} {c0 c1 c2 c3 c4 c5 c6:Value} {p:ByteArray×T} (h:lK w m c0 c1 c2 c3 c4 c5 c6 p):∃ s0 n1 n2 s3 A4 l4 k4 A5 l5 k5 A6 l6 k6,c0=.string s0/\c1=.int .i64 n1/\c2=.int .i64 n2/\c3=.string s3/\c4=.slice A4 l4 k4/\c5=.slice A5 l5 k5/\c6=.slice A6 l6 k6:=by
 cases m with
 | zero=>exact h.elim
 | succ m =>
  obtain ⟨h0,_,⟨_,h1,h2,h3,h4,h5,A,c,h6,_⟩ | ⟨_,h6,g,A,B,C,D,_,h1,h2,h3,h4,h5,_⟩⟩:=h
  ·exact ⟨_,_,_,_,_,_,_,_,_,_,_,_,_,h0,h1,h2,h3,h4,h5,h6⟩
  ·exact ⟨_,_,_,_,_,_,_,_,_,_,_,_,_,h0,h1,h2,h3,h4,h5,h6⟩
theorem RN (m:Nat) (ih:kX m):kX (m+1):=by
 intro tv ps f x v there w ht hv hf kv;obtain ⟨g1,La,Ka,Lc,Kc,hg1,rfl,_,_,_⟩:=hv.open;obtain ⟨A,c,rfl,hn,hrow⟩:=ht;have jX:=ak hrow;have HV:=ak hv;have Gz:=ak kv;have Qc:=ak ih;clear hrow hv kv ih hg1;go_in;go_wp2_with fail;go_loopg [11] (ps.length) (fun g' i wr=>∃ k:Nat,g'=ps.length - k/\k<=ps.length/\i=.int .i64 k/\Hid (Below (w.heap.size+1) (w.alloc (vC v La Lc Ka Kc)) wr)/\Hid ((ps.take k).all (fun q=>xO (m+1) q v there)=true))
 case atStart=>exact ⟨0,rfl,Nat.zero_le _,rfl,Below.refl _ _,rfl⟩
 case round =>
  obtain ⟨k,rfl,hk,rfl,HB,HN⟩:=hrel;obtain ⟨q0,q1,q2,q3,q4,hz,hbw⟩:=dz HB.out;have iq:=ak hbw;clear hbw;by_cases hlt:k<ps.length
  ·obtain ⟨b,o,c0,c1,c2,c3,c4,c5,c6,rfl,hbl,p0,p1,p2,p3,p4,p5,p6,hr⟩:=jX.out k hlt;have HT:=ak hr;obtain ⟨s0,n1,n2,s3,A4,l4,k4,A5,l5,k5,A6,l6,k6,rfl,rfl,rfl,rfl,rfl,rfl,rfl⟩:=hr.shape;replace p0:=(iq.out.cell (p:=⟨b,o+k*7,none⟩) hbl).trans p0;replace p1:=(iq.out.cell (p:=⟨b,o+k*7+1,none⟩) hbl).trans p1;replace p2:=(iq.out.cell (p:=⟨b,o+k*7+2,none⟩) hbl).trans p2;replace p3:=(iq.out.cell (p:=⟨b,o+k*7+3,none⟩) hbl).trans p3;replace p4:=(iq.out.cell (p:=⟨b,o+k*7+4,none⟩) hbl).trans p4;replace p5:=(iq.out.cell (p:=⟨b,o+k*7+5,none⟩) hbl).trans p5;replace p6:=(iq.out.cell (p:=⟨b,o+k*7+6,none⟩) hbl).trans p6;have HB2:=ak (aY wr (.cells #[.string s0,.int .i64 n1,.int .i64 n2,.string s3,.slice A4 l4 k4,.slice A5 l5 k5,.slice A6 l6 k6] 293));have HB3:=ak (iq.out.trans (HB2.out.mono iq.out.size));have HC:=ak (U8 m Qc.out _ _ _ _ _ _ _ ps[k] f _ v there _ (lK.keep HB3.out _ _ _ _ _ _ _ _ _ HT.out) (HV.out.keep HB3.out) hf Gz.out);have HA:=ak (U7 (p:=fun q=>xO (m+1) q v there) hlt HN.out);have HA2:=ak (fun h=>abS (p:=fun q=>xO (m+1) q v there) hlt h);clear hr HT;generalize xO (m+1) ps[k] v there=r at HC HA HA2;go_wp2_with fail;refine HC.out.mono ?_;rintro e w2 ⟨rfl,b2⟩;have bT:=ak (HB.out.trans ((HB2.out.trans (b2.mono HB2.out.size)).mono (by omega)));clear b2 HC;cases r with
   | true =>
    go_wp2_with fail;go_roundg (ps.length - (k+1))
    case rel=>exact ⟨k+1,rfl,by omega,by go_num,bT,HA⟩
    case measure=>omega
   | false =>
    have tV:=ak (HA2.out rfl);clear HA2;have eF:=ak (((Below.refl w.heap.size w).alloc (Nat.le_refl _) (vC v La Lc Ka Kc)).trans (bT.out.mono (by omega)));go_wp2_with fail;go_ret;exact ⟨aB (by rw [P9,tV.out]),eF.out⟩
  ·obtain rfl:k=ps.length:=by omega
   have HR:Hid (P9 (m+1) ps v there=true):=by have:=HN.out;rw [List.take_length] at this;exact this
   go_wp2_with fail;go_ret;exact ⟨aB (by rw [HR.out]),iq.out⟩
theorem RO:kX 0:=by
 intro tv ps f x v there w ht hv hf kv;obtain ⟨g1,La,Ka,Lc,Kc,hg1,rfl,_,_,_⟩:=hv.open;obtain ⟨A,c,rfl,hn,hrow⟩:=ht
 have h0:ps=[]:=by
  cases ps with
  | nil=>rfl
  | cons p ps =>
   obtain ⟨b,o,c0,c1,c2,c3,c4,c5,c6,_,_,_,_,_,_,_,_,_,hr⟩:=hrow 0 (by simp);exact hr.elim
 subst h0;have HB:=ak (aY w (vC v La Lc Ka Kc));clear hrow hv kv hg1 hn;simp only [List.length_nil];go_in;go_wp2_with fail;go_loopg [11] 1 (fun g' i wr=>i=.int .i64 0/\wr=w.alloc (vC v La Lc Ka Kc))
 case atStart=>exact ⟨rfl,rfl⟩
 case round =>
  obtain ⟨rfl,rfl⟩:=hrel;go_wp2_with fail;go_ret;exact ⟨rfl,HB.out⟩
theorem BF:∀ m,kX m
 | 0=>RO
 | m+1=>RN m (BF m)
def uX:ByteArray:=⟨#[36,97,110,100]⟩
def yh:ByteArray:=⟨#[36,111,114]⟩
def zi:ByteArray:=⟨#[36,110,111,114]⟩
def bW (x:ByteArray):List ByteArray:=Lib.splitB ⟨#[46]⟩ 0 (Lib.countB x ⟨#[46]⟩) x
def qz (x:ByteArray):Bool:=Lib.hasPrefix x.data.toList [36]
def l7 (j:T):List (ByteArray×T):=if aj j=6/\0<nK j/\qz (bO j 0)=true then lZ j else [(wS,j)]
def aM:T:=dh 0 0 ByteArray.empty
def YX (p:List ByteArray) (ps:List (ByteArray×T)) (doc:T):Bool:=match j6 p doc with
 | some r=>P9 16 ps r true
 | none=>P9 16 ps aM false
theorem U9 {p:List ByteArray} {ps:List (ByteArray×T)} {doc r:T} (h:j6 p doc=some r):YX p ps doc=P9 16 ps r true:=by unfold YX;rw [h]
theorem Va {p:List ByteArray} {ps:List (ByteArray×T)} {doc:T} (h:j6 p doc=none):YX p ps doc=P9 16 ps aM false:=by unfold YX;rw [h]
def Aq (g:T->T->Bool) (x:ByteArray) (j doc:T):Bool :=
 if x=uX then jD (fun y=>g y doc) j (nL j) else if x=yh then dw (fun y=>g y doc) j (nL j) else if x=zi then !(dw (fun y=>g y doc) j (nL j))
 else YX (bW x) (l7 j) doc
def sJ (p:Nat->Bool):Nat->Bool
 | 0=>true
 | k+1=>sJ p k&&p k
def gP:Nat->T->T->Bool
 | 0,_,_=>true
 | m+1,t,doc=>sJ (fun i=>Aq (gP m) (bO t i) (elt t i) doc) (nK t)
def zN (w:World) (R:Value->T->Prop) (v:Value) (j:T):Prop :=
 ∃ (A:Option Addr) (c:Nat),v=.slice A (nL j) c/\nL j<=1000000000/\∀ i,i<nL j->∃ b o u,A=some ⟨b,o,none⟩/\b<w.heap.size/\w.cell? ⟨b,o+i,none⟩=some u/\R u (elt j i)
theorem zN.keep {w w':World} {R R':Value->T->Prop} {v:Value} {j:T} (h:zN w R v j) (hb:Below w.heap.size w w') (hR:∀ u y,R u y->R' u y):zN w' R' v j:=by
 obtain ⟨A,c,hv,hn,h⟩:=h;refine ⟨A,c,hv,hn,fun i hi=>?_⟩;obtain ⟨b,o,u,h0,hl,q,hr⟩:=h i hi;exact ⟨b,o,u,h0,Nat.lt_of_lt_of_le hl hb.size,(hb.cell (p:=⟨b,_,none⟩) hl).trans q,hR _ _ hr⟩
def yj (x:ByteArray):Prop:=¬ x=uX/\¬ x=yh/\¬ x=zi
def BG (w:World) (R:Value->T->Prop) (u:Value) (x:ByteArray) (j:T):Prop :=
 (x=uX/\∃ v,u=.iface 238 v/\zN w R v j)\/(x=yh/\∃ v,u=.iface 240 v/\zN w R v j)\/(x=zi/\∃ v,u=.iface 241 v/\zN w R v j) \/
 (yj x/\∃ pv tv,u=.iface 249 (.agg #[pv,tv])/\bI w pv (bW x)/\kM w 16 tv (l7 j))
theorem BG.keep {w w':World} {R R':Value->T->Prop} {u:Value} {x:ByteArray} {j:T} (h:BG w R u x j) (hb:Below w.heap.size w w') (hR:∀ u y,R u y->R' u y):BG w' R' u x j:=by
 rcases h with ⟨h1,v,h2,h3⟩ | ⟨h1,v,h2,h3⟩ | ⟨h1,v,h2,h3⟩ | ⟨h1,pv,tv,h2,h3,h4⟩
 ·exact .inl ⟨h1,v,h2,h3.keep hb hR⟩
 ·exact .inr (.inl ⟨h1,v,h2,h3.keep hb hR⟩)
 ·exact .inr (.inr (.inl ⟨h1,v,h2,h3.keep hb hR⟩))
 ·exact .inr (.inr (.inr ⟨h1,pv,tv,h2,h3.keep hb,h4.keep hb⟩))
def eu (w:World):Nat->Value->T->Prop
 | 0,_,_=>False
 | m+1,v,t=>∃ (A:Option Addr) (c:Nat),v=.slice A (nK t) c/\nK t<=1000000000/\∀ i,i<nK t->∃ b o u,A=some ⟨b,o,none⟩/\b<w.heap.size/\w.cell? ⟨b,o+i,none⟩=some u/\BG w (eu w m) u (bO t i) (elt t i)
theorem eu.keep {w w':World} (hb:Below w.heap.size w w'):∀ (m:Nat) (v:Value) (t:T),eu w m v t->eu w' m v t
 | 0,_,_,h=>h
 | m+1,v,t,h=>by
  obtain ⟨A,c,hv,hn,h⟩:=h;refine ⟨A,c,hv,hn,fun i hi=>?_⟩;obtain ⟨b,o,u,h0,hl,q,hr⟩:=h i hi;exact ⟨b,o,u,h0,Nat.lt_of_lt_of_le hl hb.size,(hb.cell (p:=⟨b,_,none⟩) hl).trans q,hr.keep hb (eu.keep hb m)⟩
def nW (Tb:World->Prop) (m:Nat):Prop:=∀ (fv:Value) (t:T) (f:Nat) (x:Value) (doc:T) (w:World),eu w m fv t->At w f x doc->f<=16->bM doc->Tb w ->
  Calls Tryz.prog 111 #[fv,x] w fun e w'=>e=.returned (.bool (gP m t doc))/\Below w.heap.size w w'
theorem Qd (w:World):At w 1 (.agg #[.int .i64 0,.int .i64 0,.string ⟨#[]⟩,.slice none 0 0,.slice none 0 0]) aM:=by
 refine ⟨none,none,0,0,rfl,⟨by decide,by decide,by decide,by decide,?_,?_,?_⟩,fun i hi=>absurd hi (Nat.not_lt_zero i),fun i hi=>absurd hi (Nat.not_lt_zero i)⟩
 ·show (ByteArray.empty).size<=_;simp
 ·show 0<=_;omega
 ·show 0<=_;omega
theorem YZ:bM aM:=⟨fun f=>by
  cases f with
  | zero=>trivial
  | succ f=>exact ⟨fun h=>(by cases h),fun i hi=>absurd hi (Nat.not_lt_zero i)⟩,fun f=>by
  cases f with
  | zero=>trivial
  | succ f=>exact ⟨Nat.zero_le _,Nat.zero_le _,fun i hi=>absurd hi (Nat.not_lt_zero i),fun i hi=>absurd hi (Nat.not_lt_zero i)⟩⟩
theorem GD {Tb:World->Prop} (hA:dn Tb) (hI:bf Tb) (hL:aV Tb) (y:ByteArray) (j:T) (pv tv:Value) (f:Nat) (x:Value) (doc:T) (w:World) (hp:bI w pv (bW y)) (ht:kM w 16 tv (l7 j)) (hv:At w f x doc) (hf:f<=16) (kv:bM doc) (hT:Tb w) :
  Calls Tryz.prog 335 #[.agg #[pv,tv],x] w fun e w'=>e=.returned (.bool (YX (bW y) (l7 j) doc))/\Below w.heap.size w w':=by
 obtain ⟨g1,La,Ka,Lc,Kc,hg1,rfl,_,_,_⟩:=hv.open;obtain ⟨A1,cp,rfl,hp1,hp2⟩:=hp;obtain ⟨A2,ct,rfl,ht1,ht2⟩:=ht;have HB:Hid (Below w.heap.size w ((w.alloc (.cells #[.slice A1 (bW y).length cp,.slice A2 (l7 j).length ct] 249)).alloc (vC doc La Lc Ka Kc))):=(aY _ _).alloc (by simp) _;have HP:Hid (bI w (.slice A1 (bW y).length cp) (bW y)):=⟨A1,cp,rfl,hp1,hp2⟩;have HTs:Hid (kM w 16 (.slice A2 (l7 j).length ct) (l7 j)):=⟨A2,ct,rfl,ht1,ht2⟩;have HC:=ak (JO hA hI hL _ _ f _ doc _ _ (Below.refl _ _) (HP.out.keep HB.out) (hv.keep HB.out) kv (hL w hT _ _ hT HB.out));clear hp1 hp2 ht1 ht2 hv kv hT hA hI hL hg1;go_in;go_wp2_with fail;refine HC.out.mono ?_;rintro e w2 ⟨b2,⟨r,g,A,B,C,D,hr,hg,rfl,ha,hk⟩ | ⟨hr,rfl⟩⟩
 ·have HR:=ak (U9 (ps:=l7 j) hr);have HB2:=ak (HB.out.trans (b2.mono HB.out.size));have q0:w2.cell? ⟨w.heap.size,1,none⟩=some (.slice A2 (l7 j).length ct):=by rw [b2.cell (p:=⟨w.heap.size,1,none⟩) (by simp;omega)];simp [go_sem]
  have HB3:=ak (aY w2 (vC r A B C D));have bT:=ak (HB2.out.trans (HB3.out.mono HB2.out.size));have HH:=ak (BF 16 _ _ g _ r true _ (HTs.out.keep bT.out) (ha.keep ((b2.trans (HB3.out.mono b2.size)))) (by omega) hk);have hlt:w.heap.size<w2.heap.size:=by have:=b2.size;simp at this;omega
  clear b2 ha hk hr HC;go_wp2_with fail;refine HH.out.mono ?_;rintro e w5 ⟨rfl,b5⟩;have eF:=ak (bT.out.trans (b5.mono bT.out.size));clear b5;go_wp2_with fail;go_ret;exact ⟨aB (by rw [HR.out]),eF.out⟩
 ·have HR:=ak (Va (ps:=l7 j) hr);have HB2:=ak (HB.out.trans (b2.mono HB.out.size));have q0:w2.cell? ⟨w.heap.size,1,none⟩=some (.slice A2 (l7 j).length ct):=by rw [b2.cell (p:=⟨w.heap.size,1,none⟩) (by simp;omega)];simp [go_sem]
  have HB3:=ak (aY w2 (.cells #[.int .i64 0,.int .i64 0,.string ⟨#[]⟩,.slice none 0 0,.slice none 0 0] 25));have bT:=ak (HB2.out.trans (HB3.out.mono HB2.out.size));have HH:=ak (BF 16 _ _ 1 _ aM false _ (HTs.out.keep bT.out) (Qd _) (by omega) YZ);have hlt:w.heap.size<w2.heap.size:=by have:=b2.size;simp at this;omega
  clear b2 hr HC;go_wp2_with fail;refine HH.out.mono ?_;rintro e w5 ⟨rfl,b5⟩;have eF:=ak (bT.out.trans (b5.mono bT.out.size));clear b5;go_wp2_with fail;go_ret;exact ⟨aB (by rw [HR.out]),eF.out⟩
theorem Y0 {f:T->Bool} {t:T} {j k:Nat} (h:j<k) (hd:f (elt t j)=false):jD f t k=false:=Pw h hd
theorem JY {Tb:World->Prop} (hL:aV Tb) (m:Nat) (ih:nW Tb m) (l:Value) (j:T) (f:Nat) (x:Value) (v:T) (w:World) (hl:zN w (eu w m) l j) (hv:At w f x v) (hf:f<=16) (kv:bM v) (hT:Tb w) :
  Calls Tryz.prog 327 #[l,x] w fun e w'=>e=.returned (.bool (jD (fun y=>gP m y v) j (nL j)))/\Below w.heap.size w w':=by
 obtain ⟨g1,La,Ka,Lc,Kc,hg1,rfl,_,_,_⟩:=hv.open;obtain ⟨A,c,rfl,hn,hrow⟩:=hl;have jX:=ak hrow;have HT:Hid (∀ w':World,Below w.heap.size w w'->Tb w'):=fun w' hb=>hL w hT w w' hT hb;have HV:=ak hv;have Gz:=ak kv;have Qc:=ak ih;clear hrow hv kv ih hg1 hT hL;go_in;go_wp2_with fail;go_loopg [9] (nL j) (fun g' i wr=>∃ k:Nat,g'=nL j - k/\k<=nL j/\i=.int .i64 k/\Hid (Below (w.heap.size+1) (w.alloc (vC v La Lc Ka Kc)) wr)/\Hid (jD (fun y=>gP m y v) j k=true))
 case atStart=>exact ⟨0,rfl,Nat.zero_le _,rfl,Below.refl _ _,rfl⟩
 case round =>
  obtain ⟨k,rfl,hk,rfl,HB,HN⟩:=hrel;obtain ⟨q0,q1,q2,q3,q4,hz,hbw⟩:=dz HB.out;have iq:=ak hbw;clear hbw;by_cases hlt:k<nL j
  ·obtain ⟨b,o,u,rfl,hbl,p0,hr⟩:=jX.out k hlt;replace p0:=(iq.out.cell (p:=⟨b,o+k,none⟩) hbl).trans p0;have HC:=ak (Qc.out u (elt j k) f _ v wr (eu.keep iq.out m _ _ hr) (HV.out.keep iq.out) hf Gz.out (HT.out wr iq.out));have HA:Hid (jD (fun y=>gP m y v) j (k+1)=gP m (elt j k) v):=by show _=_;rw [jD,HN.out];simp
   have HA2:Hid (gP m (elt j k) v=false->jD (fun y=>gP m y v) j (nL j)=false):=fun h=>Y0 hlt h;clear hr;generalize gP m (elt j k) v=r at HC HA HA2;go_wp2_with fail;refine HC.out.mono ?_;rintro e w2 ⟨rfl,b2⟩;have bT:=ak (HB.out.trans (b2.mono (by omega)));clear b2 HC;cases r with
   | true =>
    go_wp2_with fail;go_roundg (nL j - (k+1))
    case rel=>exact ⟨k+1,rfl,by omega,by go_num,bT,HA⟩
    case measure=>omega
   | false =>
    have tV:=ak (HA2.out rfl);have eF:=ak (((Below.refl w.heap.size w).alloc (Nat.le_refl _) (vC v La Lc Ka Kc)).trans (bT.out.mono (by omega)));clear HA2;go_wp2_with fail;go_ret;exact ⟨aB (by rw [tV.out]),eF.out⟩
  ·obtain rfl:k=nL j:=by omega
   go_wp2_with fail;go_ret;exact ⟨aB (by rw [HN.out]),iq.out⟩
theorem Vb {Tb:World->Prop} (m:Nat) (ih:nW Tb m) (b:Nat) (f:Nat) (fv:Value) (y v:T) (A C:Option Addr) (B D:Nat) (w:World) (h0:w.cell? ⟨b,0,none⟩=some (.int .i64 (aj v))) (h1:w.cell? ⟨b,1,none⟩=some (.int .i64 (av v))) (h2:w.cell? ⟨b,2,none⟩=some (.string (ay v))) (h3:w.cell? ⟨b,3,none⟩=some (.slice A (nL v) B)) (h4:w.cell? ⟨b,4,none⟩=some (.slice C (nK v) D)) (hy:eu w m fv y)
  (ha:At w f (.agg #[.int .i64 (aj v),.int .i64 (av v),.string (ay v),.slice A (nL v) B,.slice C (nK v) D]) v) (hf:f<=16) (ka:bM v) (hT:Tb w) :
  Calls Tryz.prog 330 #[fv,.pointer (some ⟨b,0,none⟩)] w fun e w'=>e=.returned (.bool (gP m y v))/\Below w.heap.size w w':=by
 have HC:=ak (ih fv y f _ v w hy ha hf ka hT);generalize gP m y v=r at HC;clear ha hy ka ih hT;go_in;go_wp2_with fail;refine HC.out.mono ?_;rintro e w2 ⟨rfl,b2⟩;have HB2:=ak b2;clear b2;go_wp2_with fail;go_ret;exact ⟨rfl,HB2.out⟩
theorem GH (P:T->Bool) (g:FuncId) (hg:∀ (a:Array Value) (w:World),(callFunc g a).run Tryz.prog w=.ok (.enter g a) w) (p:Value) (R:World->Value->T->Prop) (hR:∀ w w' u y,Below w.heap.size w w'->R w u y->R w' u y) (l:Value) (t:T) (w:World) (hl:zN w (R w) l t)
  (hP:∀ k,k<nL t->∀ (wr:World) (u:Value),Below w.heap.size w wr->R wr u (elt t k)->Calls Tryz.prog g #[u,p] wr fun e w'=>e=.returned (.bool (P (elt t k)))/\Below wr.heap.size wr w') :
  Calls Tryz.prog 331 #[l,.func (Fn.func g) #[] #[p]] w fun e w'=>Below w.heap.size w w'/\∃ n:Int,e=.returned (.int .i64 n)/\((n=-1/\dw P t (nL t)=false)\/∃ k:Nat,n=(k:Int)/\k<nL t/\P (elt t k)=true):=by
 obtain ⟨A,c,rfl,hn,hrow⟩:=hl;have jX:=ak hrow;have HR:=ak hR;have HP:=ak hP;clear hrow hP hR;go_in;go_wp2_with fail;go_loopg [8] (nL t) (fun g' i wr=>∃ k:Nat,g'=nL t - k/\k<=nL t/\i=.int .i64 k/\Hid (Below w.heap.size w wr)/\Hid (dw P t k=false))
 case atStart=>exact ⟨0,rfl,Nat.zero_le _,rfl,Below.refl _ _,rfl⟩
 case round =>
  obtain ⟨k,rfl,hk,rfl,HB,HN⟩:=hrel;by_cases hlt:k<nL t
  ·obtain ⟨b,o,u,rfl,hbl,p0,hr⟩:=jX.out k hlt;replace p0:=(HB.out.cell (p:=⟨b,o+k,none⟩) hbl).trans p0;have HC:=ak (HP.out k hlt wr u HB.out (HR.out _ _ _ _ HB.out hr));clear hr;cases hp:P (elt t k) with
   | true =>
    rw [hp] at HC;have Hp:=ak hp;clear hp;go_wp2_with fail;refine HC.out.mono ?_;rintro e w2 ⟨rfl,b2⟩;have HB2:=ak (HB.out.trans (b2.mono HB.out.size));clear b2;go_wp2_with fail;go_ret;exact ⟨HB2.out,_,rfl,.inr ⟨k,rfl,hlt,Hp.out⟩⟩
   | false =>
    rw [hp] at HC;have HN2:Hid (dw P t (k+1)=false):=by show _=_;rw [dw,HN.out,hp];rfl
    clear hp;go_wp2_with fail;refine HC.out.mono ?_;rintro e w2 ⟨rfl,b2⟩;have HB2:=ak (HB.out.trans (b2.mono HB.out.size));clear b2;go_wp2_with fail;go_roundg (nL t - (k+1))
    case rel=>exact ⟨k+1,rfl,by omega,by go_num,HB2,HN2⟩
    case measure=>omega
  ·obtain rfl:k=nL t:=by omega
   go_wp2_with fail;go_ret;exact ⟨HB.out,_,rfl,.inl ⟨rfl,HN.out⟩⟩
theorem zO (P:T->Bool) (g:FuncId) (hg:∀ (a:Array Value) (w:World),(callFunc g a).run Tryz.prog w=.ok (.enter g a) w) (p:Value) (R:World->Value->T->Prop) (hR:∀ w w' u y,Below w.heap.size w w'->R w u y->R w' u y) (l:Value) (t:T) (w:World) (hl:zN w (R w) l t)
  (hP:∀ k,k<nL t->∀ (wr:World) (u:Value),Below w.heap.size w wr->R wr u (elt t k)->Calls Tryz.prog g #[u,p] wr fun e w'=>e=.returned (.bool (P (elt t k)))/\Below wr.heap.size wr w') :
  Calls Tryz.prog 329 #[l,.func (Fn.func g) #[] #[p]] w fun e w'=>e=.returned (.bool (dw P t (nL t)))/\Below w.heap.size w w':=by
 have HC:=ak (GH P g hg p R hR l t w hl hP);clear hl hP hR;go_in;go_wp2_with fail;refine HC.out.mono ?_;rintro e w2 ⟨b2,n,rfl,⟨rfl,hn⟩ | ⟨k,rfl,hk,hp⟩⟩
 ·have HB:=ak b2;have HN:=ak hn;clear b2 hn;go_wp2_with fail;go_ret;exact ⟨aB HN.out.symm,HB.out⟩
 ·have HB:=ak b2;have HN:=ak (Ag hk hp);clear b2 hp;go_wp2_with fail;go_ret;exact ⟨aB HN.out.symm,HB.out⟩
theorem wV {Tb:World->Prop} (hL:aV Tb) (m:Nat) (ih:nW Tb m) (l:Value) (j:T) (f:Nat) (x:Value) (v:T) (w:World) (hl:zN w (eu w m) l j) (hv:At w f x v) (hf:f<=16) (kv:bM v) (hT:Tb w) :
  Calls Tryz.prog 328 #[l,x] w fun e w'=>e=.returned (.bool (dw (fun y=>gP m y v) j (nL j)))/\Below w.heap.size w w':=by
 obtain ⟨g1,La,Ka,Lc,Kc,hg1,rfl,_,_,_⟩:=hv.open;have HB:=ak (aY w (vC v La Lc Ka Kc))
 have HX:Hid (aJ w.heap.size (.int .i64 (aj v)) (.int .i64 (av v)) (.string (ay v)) (.slice La (nL v) Lc) (.slice Ka (nK v) Kc) (w.alloc (vC v La Lc Ka Kc))):=by
  constructor<;>simp [go_sem]
 have HC:=ak (zO (fun y=>gP m y v) 330 (fun _ _=>rfl) (.pointer (some ⟨w.heap.size,0,none⟩)) (fun w=>eu w m) (fun w w' u y hb h=>eu.keep hb m u y h) l j _ (hl.keep HB.out (eu.keep HB.out m)) (fun k hk wr u hb hu=>by
   have hbx:=HX.out.stay hb;have hbw:=HB.out.trans (hb.mono HB.out.size);exact Vb m ih w.heap.size f u (elt j k) v La Ka Lc Kc wr hbx.q0 hbx.q1 hbx.q2 hbx.q3 hbx.q4 hu (hv.keep hbw) hf kv (hL w hT _ _ hT hbw)))
 generalize dw (fun y=>gP m y v) j (nL j)=r at HC;clear hv kv hl ih hT hL hg1;go_in;go_wp2_with fail;refine HC.out.mono ?_;rintro e w2 ⟨rfl,b2⟩;have HB3:=ak (HB.out.trans (b2.mono HB.out.size));clear b2;go_wp2_with fail;go_ret;exact ⟨rfl,HB3.out⟩
theorem GI {Tb:World->Prop} (hL:aV Tb) (m:Nat) (ih:nW Tb m) (l:Value) (j:T) (f:Nat) (x:Value) (v:T) (w:World) (hl:zN w (eu w m) l j) (hv:At w f x v) (hf:f<=16) (kv:bM v) (hT:Tb w) :
  Calls Tryz.prog 332 #[l,x] w fun e w'=>e=.returned (.bool (!(dw (fun y=>gP m y v) j (nL j))))/\Below w.heap.size w w':=by
 obtain ⟨g1,La,Ka,Lc,Kc,hg1,rfl,_,_,_⟩:=hv.open;have HB:=ak (aY w (vC v La Lc Ka Kc));have HC:=ak (wV hL m ih l j f _ v _ (hl.keep HB.out (eu.keep HB.out m)) (hv.keep HB.out) hf kv (hL w hT _ _ hT HB.out));generalize dw (fun y=>gP m y v) j (nL j)=r at HC;clear hv kv hl ih hT hL hg1;go_in;go_wp2_with fail;refine HC.out.mono ?_;rintro e w2 ⟨rfl,b2⟩;have HB3:=ak (HB.out.trans (b2.mono HB.out.size));clear b2;go_wp2_with fail;go_ret;exact ⟨rfl,HB3.out⟩
theorem Ar {p:Nat->Bool} {i:Nat} (hp:p i=false):∀ n,i<n->sJ p n=false
 | 0,h=>by omega
 | n+1,h=>by
  rw [sJ];by_cases e:i=n
  ·subst e;rw [hp];simp
  ·rw [Ar hp n (by omega)];rfl
theorem Vd (l:Value) (w:World):(method 381 238 l "sheaf/filter.holds").run Tryz.prog w=.ok (327,l) w:=by kernel_rfl
theorem Ve (l:Value) (w:World):(method 381 240 l "sheaf/filter.holds").run Tryz.prog w=.ok (328,l) w:=by kernel_rfl
theorem RP (l:Value) (w:World):(method 381 241 l "sheaf/filter.holds").run Tryz.prog w=.ok (332,l) w:=by kernel_rfl
theorem Vg (l:Value) (w:World):(method 381 249 l "sheaf/filter.holds").run Tryz.prog w=.ok (335,l) w:=by kernel_rfl
theorem Vh {Tb:World->Prop} (hA:dn Tb) (hI:bf Tb) (hL:aV Tb) (m:Nat) (ih:nW Tb m):nW Tb (m+1):=by
 intro fv t f x v w hfl hv hf kv hT;obtain ⟨g1,La,Ka,Lc,Kc,hg1,rfl,_,_,_⟩:=hv.open;obtain ⟨A,c,rfl,hn,hrow⟩:=hfl;have jX:=ak hrow;have HT:Hid (∀ w':World,Below w.heap.size w w'->Tb w'):=fun w' hb=>hL w hT w w' hT hb;have HV:=ak hv;have Gz:=ak kv;have Qc:=ak ih;have HL:=ak hL;have oM:=ak hA;have Vi:=ak hI;clear hrow hv kv ih hg1 hT hL hA hI;go_in;go_wp2_with fail;go_loopg [9] (nK t) (fun g' i wr=>∃ k:Nat,g'=nK t - k/\k<=nK t/\i=.int .i64 k/\Hid (Below (w.heap.size+1) (w.alloc (vC v La Lc Ka Kc)) wr)/\Hid (sJ (fun i=>Aq (gP m) (bO t i) (elt t i) v) k=true))
 case atStart=>exact ⟨0,rfl,Nat.zero_le _,rfl,Below.refl _ _,rfl⟩
 case round =>
  obtain ⟨k,rfl,hk,rfl,HB,HN⟩:=hrel;obtain ⟨q0,q1,q2,q3,q4,hz,hbw⟩:=dz HB.out;have iq:=ak hbw;clear hbw;by_cases hlt:k<nK t
  ·obtain ⟨b,o,u,rfl,hbl,p0,hr⟩:=jX.out k hlt;replace p0:=(iq.out.cell (p:=⟨b,o+k,none⟩) hbl).trans p0;have HA:Hid (sJ (fun i=>Aq (gP m) (bO t i) (elt t i) v) (k+1)=Aq (gP m) (bO t k) (elt t k) v):=by show _=_;rw [sJ,HN.out];simp
   have HA2:Hid (Aq (gP m) (bO t k) (elt t k) v=false->gP (m+1) t v=false):=fun h=>Ar (p:=fun i=>Aq (gP m) (bO t i) (elt t i) v) h _ hlt;have HVr:=ak (HV.out.keep iq.out);have HTr:=ak (HT.out wr iq.out);rcases hr with ⟨hx,l,rfl,hl⟩ | ⟨hx,l,rfl,hl⟩ | ⟨hx,l,rfl,hl⟩ | ⟨hx,pv,tv,rfl,hpv,htv⟩
   ·have HC:=ak (JY HL.out m Qc.out l (elt t k) f _ v wr (hl.keep iq.out (eu.keep iq.out m)) HVr.out hf Gz.out HTr.out);have HE:Hid (Aq (gP m) (bO t k) (elt t k) v=jD (fun y=>gP m y v) (elt t k) (nL (elt t k))):=by show _=_;unfold Aq;rw [if_pos hx]
    rw [<- HE.out] at HC;have hm:=Vd l wr;clear hl hx HE;generalize Aq (gP m) (bO t k) (elt t k) v=r at HC HA HA2;go_wp2_with fail;refine HC.out.mono ?_;rintro e w2 ⟨rfl,b2⟩;have bT:=ak (HB.out.trans (b2.mono (by omega)));clear b2 HC;cases r with
    | true =>
     go_wp2_with fail;go_roundg (nK t - (k+1))
     case rel=>exact ⟨k+1,rfl,by omega,by go_num,bT,HA⟩
     case measure=>omega
    | false =>
     have tV:=ak (HA2.out rfl);have eF:=ak (((Below.refl w.heap.size w).alloc (Nat.le_refl _) (vC v La Lc Ka Kc)).trans (bT.out.mono (by omega)));clear HA2;go_wp2_with fail;go_ret;exact ⟨aB (by rw [tV.out]),eF.out⟩
   ·have HC:=ak (wV HL.out m Qc.out l (elt t k) f _ v wr (hl.keep iq.out (eu.keep iq.out m)) HVr.out hf Gz.out HTr.out);have HE:Hid (Aq (gP m) (bO t k) (elt t k) v=dw (fun y=>gP m y v) (elt t k) (nL (elt t k))):=by show _=_;unfold Aq;rw [if_neg (by rw [hx];decide),if_pos hx]
    rw [<- HE.out] at HC;have hm:=Ve l wr;clear hl hx HE;generalize Aq (gP m) (bO t k) (elt t k) v=r at HC HA HA2;go_wp2_with fail;refine HC.out.mono ?_;rintro e w2 ⟨rfl,b2⟩;have bT:=ak (HB.out.trans (b2.mono (by omega)));clear b2 HC;cases r with
    | true =>
     go_wp2_with fail;go_roundg (nK t - (k+1))
     case rel=>exact ⟨k+1,rfl,by omega,by go_num,bT,HA⟩
     case measure=>omega
    | false =>
     have tV:=ak (HA2.out rfl);have eF:=ak (((Below.refl w.heap.size w).alloc (Nat.le_refl _) (vC v La Lc Ka Kc)).trans (bT.out.mono (by omega)));clear HA2;go_wp2_with fail;go_ret;exact ⟨aB (by rw [tV.out]),eF.out⟩
   ·have HC:=ak (GI HL.out m Qc.out l (elt t k) f _ v wr (hl.keep iq.out (eu.keep iq.out m)) HVr.out hf Gz.out HTr.out);have HE:Hid (Aq (gP m) (bO t k) (elt t k) v=!(dw (fun y=>gP m y v) (elt t k) (nL (elt t k)))):=by show _=_;unfold Aq;rw [if_neg (by rw [hx];decide),if_neg (by rw [hx];decide),if_pos hx]
    rw [<- HE.out] at HC;have hm:=RP l wr;clear hl hx HE;generalize Aq (gP m) (bO t k) (elt t k) v=r at HC HA HA2;go_wp2_with fail;refine HC.out.mono ?_;rintro e w2 ⟨rfl,b2⟩;have bT:=ak (HB.out.trans (b2.mono (by omega)));clear b2 HC;cases r with
    | true =>
     go_wp2_with fail;go_roundg (nK t - (k+1))
     case rel=>exact ⟨k+1,rfl,by omega,by go_num,bT,HA⟩
     case measure=>omega
    | false =>
     have tV:=ak (HA2.out rfl);have eF:=ak (((Below.refl w.heap.size w).alloc (Nat.le_refl _) (vC v La Lc Ka Kc)).trans (bT.out.mono (by omega)));clear HA2;go_wp2_with fail;go_ret;exact ⟨aB (by rw [tV.out]),eF.out⟩
   ·have HC:=ak (GD oM.out Vi.out HL.out (bO t k) (elt t k) pv tv f _ v wr (hpv.keep iq.out) (htv.keep iq.out) HVr.out hf Gz.out HTr.out);have HE:Hid (Aq (gP m) (bO t k) (elt t k) v=YX (bW (bO t k)) (l7 (elt t k)) v):=by show _=_;unfold Aq;rw [if_neg hx.1,if_neg hx.2.1,if_neg hx.2.2]
    rw [<- HE.out] at HC;have hm:=Vg (.agg #[pv,tv]) wr;clear hpv htv hx HE;generalize Aq (gP m) (bO t k) (elt t k) v=r at HC HA HA2;go_wp2_with fail;refine HC.out.mono ?_;rintro e w2 ⟨rfl,b2⟩;have bT:=ak (HB.out.trans (b2.mono (by omega)));clear b2 HC;cases r with
    | true =>
     go_wp2_with fail;go_roundg (nK t - (k+1))
     case rel=>exact ⟨k+1,rfl,by omega,by go_num,bT,HA⟩
     case measure=>omega
    | false =>
     have tV:=ak (HA2.out rfl);have eF:=ak (((Below.refl w.heap.size w).alloc (Nat.le_refl _) (vC v La Lc Ka Kc)).trans (bT.out.mono (by omega)));clear HA2;go_wp2_with fail;go_ret;exact ⟨aB (by rw [tV.out]),eF.out⟩
  ·obtain rfl:k=nK t:=by omega
   go_wp2_with fail;go_ret;exact ⟨aB (by rw [gP,HN.out]),iq.out⟩
theorem Au {Tb:World->Prop} (hA:dn Tb) (hI:bf Tb) (hL:aV Tb):∀ m,nW Tb m
 | 0=>fun _ _ _ _ _ _ h=>h.elim
 | m+1=>Vh hA hI hL m (Au hA hI hL m)
theorem BH {P:Program} (w:World) (base:Nat) (t tx ty e:TypeId) (i:TypeInfo) (z:Value) (size bytes:Nat) (ht:P.underlying t=some (.slice e)) (hi:P.info? e=some i) (hz:i.zero=some z)
  (hsize:i.size=size) (hby:i.bytes=bytes) (hzs:z.cells.size=size)
  (v:Value) (n:Nat) (xs:List Value) (hown:w.ownsRow base e size v n xs) (x:Value) (m:Nat) (news:List Value) (hs:Src P size tx x m news w)
  (h63:n+m<=maxLen) (hbytes:(n+m)*bytes<=140737488355328) (hbase:base<=w.heap.size) :
  ∃ v' w',(Builtin.append_ #[t,tx] ty #[v,x]).run P w=.ok v' w'/\w'.ownsRow base e size v' (n+m) (xs++news)/\w.grownBy w' v.ownBlock/\(v'.ownBlock=v.ownBlock\/v'.ownBlock=some w.heap.size):=by
 subst hsize;subst hby;have hsmall:n+m<=9223372036854775807:=by simp only [maxLen] at h63;omega
 have hl:=hs.newsLen;have hlen:(xs++news).length=(n+m)*i.size:=by rw [List.length_append,hown.1,hl,Nat.add_mul]
 have grown:∀ (old:Nat),∀ (row:Option Nat),
   (w.drew.alloc (.cells ((xs++news).toArray++Builtin.zeroCells z.cells (grownCap w (n+m) old e - (n+m))) e)).ownsRow base e i.size
    (.slice (some ⟨w.heap.size,0,none⟩) (n+m) (grownCap w (n+m) old e)) (n+m) (xs++news) /\
   w.grownBy (w.drew.alloc (.cells ((xs++news).toArray++Builtin.zeroCells z.cells (grownCap w (n+m) old e - (n+m))) e)) row:=by
  intro old row;have hge:=grownCap_ge w (n+m) old e;have hcm:grownCap w (n+m) old e<=maxLen:=grownCap_le_maxLen w (n+m) old e h63;refine ⟨⟨hlen,.inr ⟨w.heap.size,_,_,rfl,hbase,heap_alloc_new w.drew _,hge,hcm,?_,?_⟩⟩,⟨rfl,rfl,rfl,by simp,fun k hk _=>heap_alloc_old w.drew _ hk⟩⟩
  ·simp only [Array.size_append,List.size_toArray,size_zeroCells,hzs,hlen,<- Nat.add_mul]
   congr 1
   omega
  ·simp only [Array.toList_append];rw [<- hlen];exact List.take_left
 rcases hown.2 with ⟨rfl,rfl⟩ | ⟨g,cap,cur,rfl,hbg,hg,hnc,hcm,hcs,htake⟩
 ·have hx:xs=[]:=List.eq_nil_of_length_eq_zero (by simpa using hown.1);subst hx;by_cases hm:m=0
  ·subst hm;have hn:news=[]:=List.eq_nil_of_length_eq_zero (by simpa using hl);subst hn;refine ⟨.slice none 0 0,w,?_,World.ownsRow_nil w base e i.size,⟨rfl,rfl,rfl,Nat.le_refl _,fun _ _ _=>rfl⟩,Or.inl rfl⟩;rcases hs.kind with ⟨e',hk⟩ | hk<;>simp [Builtin.append_,run_underlying ht,run_underlying hk,sizeOf,typeInfo,hi,hs.len,hs.cells]
  ·have hr:=run_append_grow_src (P:=P) w t tx ty e i z ht hi hz none 0 0 [] (run_firstCells_none w.drew i.size 0 0 0) x m news hs (by omega) (by omega) (growslice_fits (by omega) hbytes);have hgr:=grown 0 (Value.ownBlock (.slice none 0 0));exact ⟨_,_,hr,hgr.1,hgr.2,Or.inr rfl⟩
 ·by_cases hroom:n+m<=cap
  ·have hfit:n*i.size+news.length<=cur.size:=by rw [hl,hcs,<- Nat.add_mul];exact Nat.mul_le_mul_right _ hroom
   have hst:=run_storeCells_at P g (n*i.size) e news 0 cur w hg (by simpa using hfit) hs.one;simp only [Nat.add_zero] at hst
   have hr:(Builtin.append_ #[t,tx] ty #[.slice (some ⟨g,0,none⟩) n cap,x]).run P w=.ok (.slice (some ⟨g,0,none⟩) (n+m) cap) (w.setRow g (cur.toList.take (n*i.size)++news++cur.toList.drop (n*i.size+news.length)).toArray):=by
    rcases hs.kind with ⟨e',hk⟩ | hk<;>simp [Builtin.append_,run_underlying ht,run_underlying hk,sizeOf,typeInfo,hi,hs.len,hroom,hs.cells,Addr.add_lit,hst]
   refine ⟨_,_,hr,⟨hlen,.inr ⟨g,cap,_,rfl,hbg,setRow_heap w g cur _ e _ hg,hroom,hcm,?_,?_⟩⟩,⟨rfl,rfl,rfl,by simp,fun k _ hk=>setRow_other w g k _ (fun e=>hk (by simp [Value.ownBlock,e]))⟩,Or.inl rfl⟩
   ·simp only [List.size_toArray,List.length_append,List.length_take,List.length_drop,Array.length_toList];omega
   ·rw [htake,<- hlen];exact List.take_left
  ·have holds:∀ j u,xs[j]?=some u->w.cell? ((⟨g,0,none⟩:Addr).add j)=some u:=hown.cells (g:=g) rfl;have hr:=run_append_grow_src (P:=P) w t tx ty e i z ht hi hz (some ⟨g,0,none⟩) n cap xs (run_firstCells_some w.drew i.size n ⟨g,0,none⟩ n cap xs hown.1 (by simpa using holds)) x m news hs (by omega) (by omega) (growslice_fits (by omega) hbytes);have hgr:=grown cap (Value.ownBlock (.slice (some ⟨g,0,none⟩) n cap));exact ⟨_,_,hr,hgr.1,hgr.2,Or.inr rfl⟩
theorem uY {P:Program} (w:World) {o:Oper} {a:Act} {K:Act->World->Prop} {Q:Exit->Act->World->Prop} (s xo:Operand) (t tx:TypeId)
  (ho:o.op=.call { callee:=.builtin .append,args:=#[s,xo],argTypes:=#[t,tx] })
  (base:Nat) (e:TypeId) (i:TypeInfo) (z:Value) (size bytes:Nat) (ht:P.underlying t=some (.slice e)) (hi:P.info? e=some i) (hz:i.zero=some z)
  (hsize:i.size=size) (hby:i.bytes=bytes) (hzs:z.cells.size=size)
  (v:Value) (n:Nat) (xs:List Value) (hsv:a.eval s=v) (hown:w.ownsRow base e size v n xs) (x:Value) (m:Nat) (news:List Value) (hx:a.eval xo=x) (hs:Src P size tx x m news w)
  (h63:n+m<=maxLen) (hbytes:(n+m)*bytes<=140737488355328) (hbase:base<=w.heap.size)
  (h:∀ v' w',w'.ownsRow base e size v' (n+m) (xs++news)->w.grownBy w' v.ownBlock->(v'.ownBlock=v.ownBlock\/v'.ownBlock=some w.heap.size)->K (a.put o.dst v') w'):o.wp P a w K Q:=by
 obtain ⟨v',w',hr,h2,h3,h4⟩:=BH (P:=P) w base t tx o.type e i z size bytes ht hi hz hsize hby hzs v n xs hown x m news hs h63 hbytes hbase;unfold Oper.wp execOp;simp only [ho,resolve,invoke,builtin,Sem.run_bind,Sem.run_pure,Result.andThen_ok,List.map_toArray,List.map_cons,List.map_nil,hsv,hx,hr];exact h v' w' h2 h3 h4
theorem aG {P:Program} (w:World) {ops:Array Oper} {rest:List Oper} {o:Oper} {a:Act} {Q:Exit->Act->World->Prop} (hgd:o.guard=none) (s xo:Operand) (t tx:TypeId)
  (ho:o.op=.call { callee:=.builtin .append,args:=#[s,xo],argTypes:=#[t,tx] })
  (base:Nat) (e:TypeId) (i:TypeInfo) (z:Value) (size bytes:Nat) (ht:P.underlying t=some (.slice e)) (hi:P.info? e=some i) (hz:i.zero=some z)
  (hsize:i.size=size) (hby:i.bytes=bytes) (hzs:z.cells.size=size)
  (v:Value) (n:Nat) (xs:List Value) (hsv:a.eval s=v) (hown:w.ownsRow base e size v n xs) (x:Value) (m:Nat) (news:List Value) (hx:a.eval xo=x) (hs:Src P size tx x m news w)
  (h63:n+m<=maxLen) (hbytes:(n+m)*bytes<=140737488355328) (hbase:base<=w.heap.size)
  (h:∀ v' w',w'.ownsRow base e size v' (n+m) (xs++news)->w.grownBy w' v.ownBlock->(v'.ownBlock=v.ownBlock\/v'.ownBlock=some w.heap.size)->wpList P ops Q rest (a.put o.dst v') w'):wpList P ops Q (o::rest) a w :=
 wpList_plain hgd fun _ hK=>uY w s xo t tx ho base e i z size bytes ht hi hz hsize hby hzs v n xs hsv hown x m news hx hs h63 hbytes hbase fun v' w' h2 h3 h4=>hK _ _ (h v' w' h2 h3 h4)
theorem zP {P:Program} (w:World) {ops:Array Oper} {o:Oper} {a:Act} {K:Act->World->Prop} {Q:Exit->Act->World->Prop} {E:Prop} (hgd:o.guard=none) (s xo:Operand) (t tx:TypeId)
  (ho:o.op=.call { callee:=.builtin .append,args:=#[s,xo],argTypes:=#[t,tx] })
  (base:Nat) (e:TypeId) (i:TypeInfo) (z:Value) (size bytes:Nat) (ht:P.underlying t=some (.slice e)) (hi:P.info? e=some i) (hz:i.zero=some z)
  (hsize:i.size=size) (hby:i.bytes=bytes) (hzs:z.cells.size=size)
  (v:Value) (n:Nat) (xs:List Value) (hsv:a.eval s=v) (hown:w.ownsRow base e size v n xs) (x:Value) (m:Nat) (news:List Value) (hx:a.eval xo=x) (hs:Src P size tx x m news w)
  (h63:n+m<=maxLen) (hbytes:(n+m)*bytes<=140737488355328) (hbase:base<=w.heap.size)
  (h:∀ v' w',w'.ownsRow base e size v' (n+m) (xs++news)->w.grownBy w' v.ownBlock->(v'.ownBlock=v.ownBlock\/v'.ownBlock=some w.heap.size)->K (a.put o.dst v') w') :
  if Region.wanted o (yielded ops a.tmps)=true then Oper.wp P o a w K Q else E:=by
 have hw:Region.wanted o (yielded ops a.tmps)=true:=by simp [Region.wanted,hgd]
 rw [if_pos hw];exact uY w s xo t tx ho base e i z size bytes ht hi hz hsize hby hzs v n xs hsv hown x m news hx hs h63 hbytes hbase h
def aK (l:List UInt8):List Value:=l.map fun b=>Value.int .u8 b.toNat
theorem uZ (a b:List UInt8):aK (a++b)=aK a++aK b:=List.map_append ..
theorem gQ (a:List UInt8):(aK a).length=a.length:=List.length_map ..
theorem ED {P:Program} (w:World) {tx:TypeId} (hk:P.underlying tx=some .string) (s:ByteArray):Src P 1 tx (.string s) s.size (aK s.data.toList) w:=Src.ofString w hk s
theorem Vj {P:Program} {w:World} {base:Nat} {src dst e:TypeId} {v:Value} {l:List UInt8} (hs:P.underlying src=some (.slice e)) (he:P.underlying e=some (.int .u8)) (hd:P.underlying dst=some .string)
  (h:w.ownsRow base e 1 v l.length (aK l)):(convert src dst v).run P w=.ok (.string ⟨l.toArray⟩) w:=by
 rcases h.2 with ⟨rfl,h0⟩ | ⟨g,cap,cur,rfl,hbg,hg,hnc,hcm,hcs,htake⟩
 ·have:l=[]:=List.eq_nil_of_length_eq_zero h0;subst this;exact run_convert_bytes_nil w src e hs he 0 0 dst hd
 ·refine run_convert_bytes_back (P:=P) w src dst e ⟨g,0,none⟩ cap l hs he hd fun j hj=>?_;have:=h.cells (g:=g) rfl j (.int .u8 ((l[j]'hj).toNat:Nat)) (by unfold aK;rw [List.getElem?_map,List.getElem?_eq_getElem hj];rfl);exact this
end Go.Proofs.YtknakfpciccoaaaGreatDoor
