import Derived.Test.YtknakfpciccoaabGreatDoorZL11
import Derived.Lib.Split
import Derived.Test.YtknakfpciccoaabGreatDoorZL1
import Derived.Deep.AppendSrc
import Derived.Deep.AppendLies
import Derived.Laws.BytesArg
import Derived.Laws.IdiomStrings
/- The walk of tests.hold. -/
set_option maxHeartbeats 4000000
set_option maxRecDepth 100000
namespace Go.Proofs.YtknakfpciccoaabGreatDoor
open Go.RowKit
theorem UD {α:Type} {p:α->Bool} {l:List α} {k:Nat} (h:k<l.length) (ht:(l.take k).all p=true):(l.take (k+1)).all p=p l[k]:=by
 rw [List.take_succ_eq_append_getElem h,List.all_append,ht];simp
theorem abZ {α:Type} {p:α->Bool} {l:List α} {k:Nat} (h:k<l.length) (hp:p l[k]=false):l.all p=false:=by
 rw [List.all_eq_false];exact ⟨l[k],List.getElem_mem h,by rw [hp];simp⟩
theorem UE (m:Nat) (ih:lq m) (c0 c1 c2 c3 c4 c5 c6:Value) (p:ByteArray×T) (f:Nat) (x:Value) (v:T) (there:Bool) (w:World) (ht:lT w (m+1) c0 c1 c2 c3 c4 c5 c6 p) (hv:At w f x v) (hf:f<=16) (kv:bM v) :
  Calls Tryz.prog 265 #[.agg #[c0,c1,c2,c3,c4,c5,c6],x,.bool there] w fun e w'=>e=.returned (.bool (wH (m+1) p v there))/\Below w.heap.size w w':=by
 obtain ⟨op,j⟩:=p;obtain ⟨rfl,_,⟨hi,rfl,rfl,rfl,rfl,rfl,hr⟩ | ⟨hi,rfl,g,A,B,C,D,hg,rfl,rfl,rfl,rfl,rfl,ha,hk⟩⟩:=ht
 ·exact Rj m ih op j c6 f x v there w hi hr hv hf kv
 ·exact ME m op j A C B D g f x v there w hi ha hv hf hk kv
theorem lT.shape {w:World} {m:Nat} {c0 c1 c2 c3 c4 c5 c6:Value} {p:ByteArray×T} (h:lT w m c0 c1 c2 c3 c4 c5 c6 p):∃ s0 n1 n2 s3 A4 l4 k4 A5 l5 k5 A6 l6 k6,c0=.string s0/\c1=.int .i64 n1/\c2=.int .i64 n2/\c3=.string s3/\c4=.slice A4 l4 k4/\c5=.slice A5 l5 k5/\c6=.slice A6 l6 k6:=by
 cases m with
 | zero=>exact h.elim
 | succ m =>
  obtain ⟨h0,_,⟨_,h1,h2,h3,h4,h5,A,c,h6,_⟩ | ⟨_,h6,g,A,B,C,D,_,h1,h2,h3,h4,h5,_⟩⟩:=h
  ·exact ⟨_,_,_,_,_,_,_,_,_,_,_,_,_,h0,h1,h2,h3,h4,h5,h6⟩
  ·exact ⟨_,_,_,_,_,_,_,_,_,_,_,_,_,h0,h1,h2,h3,h4,h5,h6⟩
theorem Rk (m:Nat) (ih:lq m):lq (m+1):=by
 intro tv ps f x v there w ht hv hf kv;obtain ⟨g1,La,Ka,Lc,Kc,hg1,rfl,_,_,_⟩:=hv.open;obtain ⟨A,c,rfl,hn,hrow⟩:=ht;have jW:=aj hrow;have HV:=aj hv;have Gg:=aj kv;have Pw:=aj ih;clear hrow hv kv ih hg1;go_in;go_wp2_with fail;go_loopg [11] (ps.length) (fun g' i wr=>∃ k:Nat,g'=ps.length - k/\k<=ps.length/\i=.int .i64 k/\Hid (Below (w.heap.size+1) (w.alloc (vC v La Lc Ka Kc)) wr)/\Hid ((ps.take k).all (fun q=>wH (m+1) q v there)=true))
 case atStart=>exact ⟨0,rfl,Nat.zero_le _,rfl,Below.refl _ _,rfl⟩
 case round =>
  obtain ⟨k,rfl,hk,rfl,HB,HN⟩:=hrel;obtain ⟨q0,q1,q2,q3,q4,hz,hbw⟩:=dB HB.out;have gQ:=aj hbw;clear hbw;by_cases hlt:k<ps.length
  ·obtain ⟨b,o,c0,c1,c2,c3,c4,c5,c6,rfl,hbl,p0,p1,p2,p3,p4,p5,p6,hr⟩:=jW.out k hlt;have HT:=aj hr;obtain ⟨s0,n1,n2,s3,A4,l4,k4,A5,l5,k5,A6,l6,k6,rfl,rfl,rfl,rfl,rfl,rfl,rfl⟩:=hr.shape;replace p0:=(gQ.out.cell (p:=⟨b,o+k*7,none⟩) hbl).trans p0;replace p1:=(gQ.out.cell (p:=⟨b,o+k*7+1,none⟩) hbl).trans p1;replace p2:=(gQ.out.cell (p:=⟨b,o+k*7+2,none⟩) hbl).trans p2;replace p3:=(gQ.out.cell (p:=⟨b,o+k*7+3,none⟩) hbl).trans p3;replace p4:=(gQ.out.cell (p:=⟨b,o+k*7+4,none⟩) hbl).trans p4;replace p5:=(gQ.out.cell (p:=⟨b,o+k*7+5,none⟩) hbl).trans p5;replace p6:=(gQ.out.cell (p:=⟨b,o+k*7+6,none⟩) hbl).trans p6;have HB2:=aj (aQ wr (.cells #[.string s0,.int .i64 n1,.int .i64 n2,.string s3,.slice A4 l4 k4,.slice A5 l5 k5,.slice A6 l6 k6] 233));have HB3:=aj (gQ.out.trans (HB2.out.mono gQ.out.size));have HC:=aj (UE m Pw.out _ _ _ _ _ _ _ ps[k] f _ v there _ (lT.keep HB3.out _ _ _ _ _ _ _ _ _ HT.out) (HV.out.keep HB3.out) hf Gg.out);have HA:=aj (UD (p:=fun q=>wH (m+1) q v there) hlt HN.out);have HA2:=aj (fun h=>abZ (p:=fun q=>wH (m+1) q v there) hlt h);clear hr HT;generalize wH (m+1) ps[k] v there=r at HC HA HA2;go_wp2_with fail;refine HC.out.mono ?_;rintro e w2 ⟨rfl,b2⟩;have bT:=aj (HB.out.trans ((HB2.out.trans (b2.mono HB2.out.size)).mono (by omega)));clear b2 HC;cases r with
   | true =>
    go_wp2_with fail;go_roundg (ps.length - (k+1))
    case rel=>exact ⟨k+1,rfl,by omega,by go_num,bT,HA⟩
    case measure=>omega
   | false =>
    have tu:=aj (HA2.out rfl);clear HA2;have eU:=aj (((Below.refl w.heap.size w).alloc (Nat.le_refl _) (vC v La Lc Ka Kc)).trans (bT.out.mono (by omega)));go_wp2_with fail;go_ret;exact ⟨aA (by rw [Jv,tu.out]),eU.out⟩
  ·obtain rfl:k=ps.length:=by omega
   have HR:Hid (Jv (m+1) ps v there=true):=by have:=HN.out;rw [List.take_length] at this;exact this
   go_wp2_with fail;go_ret;exact ⟨aA (by rw [HR.out]),gQ.out⟩
theorem Rl:lq 0:=by
 intro tv ps f x v there w ht hv hf kv;obtain ⟨g1,La,Ka,Lc,Kc,hg1,rfl,_,_,_⟩:=hv.open;obtain ⟨A,c,rfl,hn,hrow⟩:=ht
 have h0:ps=[]:=by
  cases ps with
  | nil=>rfl
  | cons p ps =>
   obtain ⟨b,o,c0,c1,c2,c3,c4,c5,c6,_,_,_,_,_,_,_,_,_,hr⟩:=hrow 0 (by simp);exact hr.elim
 subst h0;have HB:=aj (aQ w (vC v La Lc Ka Kc));clear hrow hv kv hg1 hn;simp only [List.length_nil];go_in;go_wp2_with fail;go_loopg [11] 1 (fun g' i wr=>i=.int .i64 0/\wr=w.alloc (vC v La Lc Ka Kc))
 case atStart=>exact ⟨rfl,rfl⟩
 case round =>
  obtain ⟨rfl,rfl⟩:=hrel;go_wp2_with fail;go_ret;exact ⟨rfl,HB.out⟩
theorem AZ:∀ m,lq m
 | 0=>Rl
 | m+1=>Rk m (AZ m)
def uJ:ByteArray:=⟨#[36,97,110,100]⟩
def xQ:ByteArray:=⟨#[36,111,114]⟩
def yS:ByteArray:=⟨#[36,110,111,114]⟩
def bV (x:ByteArray):List ByteArray:=Lib.splitB ⟨#[46]⟩ 0 (Lib.countB x ⟨#[46]⟩) x
def oU (x:ByteArray):Bool:=Lib.hasPrefix x.data.toList [36]
def kF (j:T):List (ByteArray×T):=if ah j=6/\0<nK j/\oU (bR j 0)=true then mg j else [(wG,j)]
def aL:T:=cK 0 0 ByteArray.empty
def Yr (p:List ByteArray) (ps:List (ByteArray×T)) (doc:T):Bool:=match lg p doc with
 | some r=>Jv 16 ps r true
 | none=>Jv 16 ps aL false
theorem UF {p:List ByteArray} {ps:List (ByteArray×T)} {doc r:T} (h:lg p doc=some r):Yr p ps doc=Jv 16 ps r true:=by unfold Yr;rw [h]
theorem UG {p:List ByteArray} {ps:List (ByteArray×T)} {doc:T} (h:lg p doc=none):Yr p ps doc=Jv 16 ps aL false:=by unfold Yr;rw [h]
def zw (g:T->T->Bool) (x:ByteArray) (j doc:T):Bool :=
 if x=uJ then jE (fun y=>g y doc) j (nL j) else if x=xQ then cZ (fun y=>g y doc) j (nL j) else if x=yS then !(cZ (fun y=>g y doc) j (nL j))
 else Yr (bV x) (kF j) doc
def rY (p:Nat->Bool):Nat->Bool
 | 0=>true
 | k+1=>rY p k&&p k
def gy:Nat->T->T->Bool
 | 0,_,_=>true
 | m+1,t,doc=>rY (fun i=>zw (gy m) (bR t i) (elt t i) doc) (nK t)
def zx (w:World) (R:Value->T->Prop) (v:Value) (j:T):Prop :=
 ∃ (A:Option Addr) (c:Nat),v=.slice A (nL j) c/\nL j<=1000000000/\∀ i,i<nL j->∃ b o u,A=some ⟨b,o,none⟩/\b<w.heap.size/\w.cell? ⟨b,o+i,none⟩=some u/\R u (elt j i)
theorem zx.keep {w w':World} {R R':Value->T->Prop} {v:Value} {j:T} (h:zx w R v j) (hb:Below w.heap.size w w') (hR:∀ u y,R u y->R' u y):zx w' R' v j:=by
 obtain ⟨A,c,hv,hn,h⟩:=h;refine ⟨A,c,hv,hn,fun i hi=>?_⟩;obtain ⟨b,o,u,h0,hl,q,hr⟩:=h i hi;exact ⟨b,o,u,h0,Nat.lt_of_lt_of_le hl hb.size,(hb.cell (p:=⟨b,_,none⟩) hl).trans q,hR _ _ hr⟩
def xR (x:ByteArray):Prop:=¬ x=uJ/\¬ x=xQ/\¬ x=yS
def A9 (w:World) (R:Value->T->Prop) (u:Value) (x:ByteArray) (j:T):Prop :=
 (x=uJ/\∃ v,u=.iface 203 v/\zx w R v j)\/(x=xQ/\∃ v,u=.iface 205 v/\zx w R v j)\/(x=yS/\∃ v,u=.iface 206 v/\zx w R v j) \/
 (xR x/\∃ pv tv,u=.iface 213 (.agg #[pv,tv])/\bO w pv (bV x)/\kL w 16 tv (kF j))
theorem A9.keep {w w':World} {R R':Value->T->Prop} {u:Value} {x:ByteArray} {j:T} (h:A9 w R u x j) (hb:Below w.heap.size w w') (hR:∀ u y,R u y->R' u y):A9 w' R' u x j:=by
 rcases h with ⟨h1,v,h2,h3⟩ | ⟨h1,v,h2,h3⟩ | ⟨h1,v,h2,h3⟩ | ⟨h1,pv,tv,h2,h3,h4⟩
 ·exact .inl ⟨h1,v,h2,h3.keep hb hR⟩
 ·exact .inr (.inl ⟨h1,v,h2,h3.keep hb hR⟩)
 ·exact .inr (.inr (.inl ⟨h1,v,h2,h3.keep hb hR⟩))
 ·exact .inr (.inr (.inr ⟨h1,pv,tv,h2,h3.keep hb,h4.keep hb⟩))
def eP (w:World):Nat->Value->T->Prop
 | 0,_,_=>False
 | m+1,v,t=>∃ (A:Option Addr) (c:Nat),v=.slice A (nK t) c/\nK t<=1000000000/\∀ i,i<nK t->∃ b o u,A=some ⟨b,o,none⟩/\b<w.heap.size/\w.cell? ⟨b,o+i,none⟩=some u/\A9 w (eP w m) u (bR t i) (elt t i)
theorem eP.keep {w w':World} (hb:Below w.heap.size w w'):∀ (m:Nat) (v:Value) (t:T),eP w m v t->eP w' m v t
 | 0,_,_,h=>h
 | m+1,v,t,h=>by
  obtain ⟨A,c,hv,hn,h⟩:=h;refine ⟨A,c,hv,hn,fun i hi=>?_⟩;obtain ⟨b,o,u,h0,hl,q,hr⟩:=h i hi;exact ⟨b,o,u,h0,Nat.lt_of_lt_of_le hl hb.size,(hb.cell (p:=⟨b,_,none⟩) hl).trans q,hr.keep hb (eP.keep hb m)⟩
def oC (Tb:World->Prop) (m:Nat):Prop:=∀ (fv:Value) (t:T) (f:Nat) (x:Value) (doc:T) (w:World),eP w m fv t->At w f x doc->f<=16->bM doc->Tb w ->
  Calls Tryz.prog 56 #[fv,x] w fun e w'=>e=.returned (.bool (gy m t doc))/\Below w.heap.size w w'
theorem Px (w:World):At w 1 (.agg #[.int .i64 0,.int .i64 0,.string ⟨#[]⟩,.slice none 0 0,.slice none 0 0]) aL:=by
 refine ⟨none,none,0,0,rfl,⟨by decide,by decide,by decide,by decide,?_,?_,?_⟩,fun i hi=>absurd hi (Nat.not_lt_zero i),fun i hi=>absurd hi (Nat.not_lt_zero i)⟩
 ·show (ByteArray.empty).size<=_;simp
 ·show 0<=_;omega
 ·show 0<=_;omega
theorem YX:bM aL:=⟨fun f=>by
  cases f with
  | zero=>trivial
  | succ f=>exact ⟨fun h=>(by cases h),fun i hi=>absurd hi (Nat.not_lt_zero i)⟩,fun f=>by
  cases f with
  | zero=>trivial
  | succ f=>exact ⟨Nat.zero_le _,Nat.zero_le _,fun i hi=>absurd hi (Nat.not_lt_zero i),fun i hi=>absurd hi (Nat.not_lt_zero i)⟩⟩
theorem Gh {Tb:World->Prop} (hA:dx Tb) (hI:bn Tb) (hL:aS Tb) (y:ByteArray) (j:T) (pv tv:Value) (f:Nat) (x:Value) (doc:T) (w:World) (hp:bO w pv (bV y)) (ht:kL w 16 tv (kF j)) (hv:At w f x doc) (hf:f<=16) (kv:bM doc) (hT:Tb w) :
  Calls Tryz.prog 264 #[.agg #[pv,tv],x] w fun e w'=>e=.returned (.bool (Yr (bV y) (kF j) doc))/\Below w.heap.size w w':=by
 obtain ⟨g1,La,Ka,Lc,Kc,hg1,rfl,_,_,_⟩:=hv.open;obtain ⟨A1,cp,rfl,hp1,hp2⟩:=hp;obtain ⟨A2,ct,rfl,ht1,ht2⟩:=ht;have HB:Hid (Below w.heap.size w ((w.alloc (.cells #[.slice A1 (bV y).length cp,.slice A2 (kF j).length ct] 213)).alloc (vC doc La Lc Ka Kc))):=(aQ _ _).alloc (by simp) _;have HP:Hid (bO w (.slice A1 (bV y).length cp) (bV y)):=⟨A1,cp,rfl,hp1,hp2⟩;have HTs:Hid (kL w 16 (.slice A2 (kF j).length ct) (kF j)):=⟨A2,ct,rfl,ht1,ht2⟩;have HC:=aj (Js hA hI hL _ _ f _ doc _ _ (Below.refl _ _) (HP.out.keep HB.out) (hv.keep HB.out) kv (hL w hT _ _ hT HB.out));clear hp1 hp2 ht1 ht2 hv kv hT hA hI hL hg1;go_in;go_wp2_with fail;refine HC.out.mono ?_;rintro e w2 ⟨b2,⟨r,g,A,B,C,D,hr,hg,rfl,ha,hk⟩ | ⟨hr,rfl⟩⟩
 ·have HR:=aj (UF (ps:=kF j) hr);have HB2:=aj (HB.out.trans (b2.mono HB.out.size));have q0:w2.cell? ⟨w.heap.size,1,none⟩=some (.slice A2 (kF j).length ct):=by rw [b2.cell (p:=⟨w.heap.size,1,none⟩) (by simp;omega)];simp [go_sem]
  have HB3:=aj (aQ w2 (vC r A B C D));have bT:=aj (HB2.out.trans (HB3.out.mono HB2.out.size));have HH:=aj (AZ 16 _ _ g _ r true _ (HTs.out.keep bT.out) (ha.keep ((b2.trans (HB3.out.mono b2.size)))) (by omega) hk);have hlt:w.heap.size<w2.heap.size:=by have:=b2.size;simp at this;omega
  clear b2 ha hk hr HC;go_wp2_with fail;refine HH.out.mono ?_;rintro e w5 ⟨rfl,b5⟩;have eU:=aj (bT.out.trans (b5.mono bT.out.size));clear b5;go_wp2_with fail;go_ret;exact ⟨aA (by rw [HR.out]),eU.out⟩
 ·have HR:=aj (UG (ps:=kF j) hr);have HB2:=aj (HB.out.trans (b2.mono HB.out.size));have q0:w2.cell? ⟨w.heap.size,1,none⟩=some (.slice A2 (kF j).length ct):=by rw [b2.cell (p:=⟨w.heap.size,1,none⟩) (by simp;omega)];simp [go_sem]
  have HB3:=aj (aQ w2 (.cells #[.int .i64 0,.int .i64 0,.string ⟨#[]⟩,.slice none 0 0,.slice none 0 0] 36));have bT:=aj (HB2.out.trans (HB3.out.mono HB2.out.size));have HH:=aj (AZ 16 _ _ 1 _ aL false _ (HTs.out.keep bT.out) (Px _) (by omega) YX);have hlt:w.heap.size<w2.heap.size:=by have:=b2.size;simp at this;omega
  clear b2 hr HC;go_wp2_with fail;refine HH.out.mono ?_;rintro e w5 ⟨rfl,b5⟩;have eU:=aj (bT.out.trans (b5.mono bT.out.size));clear b5;go_wp2_with fail;go_ret;exact ⟨aA (by rw [HR.out]),eU.out⟩
theorem YZ {f:T->Bool} {t:T} {j k:Nat} (h:j<k) (hd:f (elt t j)=false):jE f t k=false:=OX h hd
theorem JE {Tb:World->Prop} (hL:aS Tb) (m:Nat) (ih:oC Tb m) (l:Value) (j:T) (f:Nat) (x:Value) (v:T) (w:World) (hl:zx w (eP w m) l j) (hv:At w f x v) (hf:f<=16) (kv:bM v) (hT:Tb w) :
  Calls Tryz.prog 257 #[l,x] w fun e w'=>e=.returned (.bool (jE (fun y=>gy m y v) j (nL j)))/\Below w.heap.size w w':=by
 obtain ⟨g1,La,Ka,Lc,Kc,hg1,rfl,_,_,_⟩:=hv.open;obtain ⟨A,c,rfl,hn,hrow⟩:=hl;have jW:=aj hrow;have HT:Hid (∀ w':World,Below w.heap.size w w'->Tb w'):=fun w' hb=>hL w hT w w' hT hb;have HV:=aj hv;have Gg:=aj kv;have Pw:=aj ih;clear hrow hv kv ih hg1 hT hL;go_in;go_wp2_with fail;go_loopg [9] (nL j) (fun g' i wr=>∃ k:Nat,g'=nL j - k/\k<=nL j/\i=.int .i64 k/\Hid (Below (w.heap.size+1) (w.alloc (vC v La Lc Ka Kc)) wr)/\Hid (jE (fun y=>gy m y v) j k=true))
 case atStart=>exact ⟨0,rfl,Nat.zero_le _,rfl,Below.refl _ _,rfl⟩
 case round =>
  obtain ⟨k,rfl,hk,rfl,HB,HN⟩:=hrel;obtain ⟨q0,q1,q2,q3,q4,hz,hbw⟩:=dB HB.out;have gQ:=aj hbw;clear hbw;by_cases hlt:k<nL j
  ·obtain ⟨b,o,u,rfl,hbl,p0,hr⟩:=jW.out k hlt;replace p0:=(gQ.out.cell (p:=⟨b,o+k,none⟩) hbl).trans p0;have HC:=aj (Pw.out u (elt j k) f _ v wr (eP.keep gQ.out m _ _ hr) (HV.out.keep gQ.out) hf Gg.out (HT.out wr gQ.out));have HA:Hid (jE (fun y=>gy m y v) j (k+1)=gy m (elt j k) v):=by show _=_;rw [jE,HN.out];simp
   have HA2:Hid (gy m (elt j k) v=false->jE (fun y=>gy m y v) j (nL j)=false):=fun h=>YZ hlt h;clear hr;generalize gy m (elt j k) v=r at HC HA HA2;go_wp2_with fail;refine HC.out.mono ?_;rintro e w2 ⟨rfl,b2⟩;have bT:=aj (HB.out.trans (b2.mono (by omega)));clear b2 HC;cases r with
   | true =>
    go_wp2_with fail;go_roundg (nL j - (k+1))
    case rel=>exact ⟨k+1,rfl,by omega,by go_num,bT,HA⟩
    case measure=>omega
   | false =>
    have tu:=aj (HA2.out rfl);have eU:=aj (((Below.refl w.heap.size w).alloc (Nat.le_refl _) (vC v La Lc Ka Kc)).trans (bT.out.mono (by omega)));clear HA2;go_wp2_with fail;go_ret;exact ⟨aA (by rw [tu.out]),eU.out⟩
  ·obtain rfl:k=nL j:=by omega
   go_wp2_with fail;go_ret;exact ⟨aA (by rw [HN.out]),gQ.out⟩
theorem UH {Tb:World->Prop} (m:Nat) (ih:oC Tb m) (b:Nat) (f:Nat) (fv:Value) (y v:T) (A C:Option Addr) (B D:Nat) (w:World) (h0:w.cell? ⟨b,0,none⟩=some (.int .i64 (ah v))) (h1:w.cell? ⟨b,1,none⟩=some (.int .i64 (au v))) (h2:w.cell? ⟨b,2,none⟩=some (.string (ay v))) (h3:w.cell? ⟨b,3,none⟩=some (.slice A (nL v) B)) (h4:w.cell? ⟨b,4,none⟩=some (.slice C (nK v) D)) (hy:eP w m fv y)
  (ha:At w f (.agg #[.int .i64 (ah v),.int .i64 (au v),.string (ay v),.slice A (nL v) B,.slice C (nK v) D]) v) (hf:f<=16) (ka:bM v) (hT:Tb w) :
  Calls Tryz.prog 260 #[fv,.pointer (some ⟨b,0,none⟩)] w fun e w'=>e=.returned (.bool (gy m y v))/\Below w.heap.size w w':=by
 have HC:=aj (ih fv y f _ v w hy ha hf ka hT);generalize gy m y v=r at HC;clear ha hy ka ih hT;go_in;go_wp2_with fail;refine HC.out.mono ?_;rintro e w2 ⟨rfl,b2⟩;have HB2:=aj b2;clear b2;go_wp2_with fail;go_ret;exact ⟨rfl,HB2.out⟩
theorem Gi (P:T->Bool) (g:FuncId) (hg:∀ (a:Array Value) (w:World),(callFunc g a).run Tryz.prog w=.ok (.enter g a) w) (p:Value) (R:World->Value->T->Prop) (hR:∀ w w' u y,Below w.heap.size w w'->R w u y->R w' u y) (l:Value) (t:T) (w:World) (hl:zx w (R w) l t)
  (hP:∀ k,k<nL t->∀ (wr:World) (u:Value),Below w.heap.size w wr->R wr u (elt t k)->Calls Tryz.prog g #[u,p] wr fun e w'=>e=.returned (.bool (P (elt t k)))/\Below wr.heap.size wr w') :
  Calls Tryz.prog 261 #[l,.func (Fn.func g) #[] #[p]] w fun e w'=>Below w.heap.size w w'/\∃ n:Int,e=.returned (.int .i64 n)/\((n=-1/\cZ P t (nL t)=false)\/∃ k:Nat,n=(k:Int)/\k<nL t/\P (elt t k)=true):=by
 obtain ⟨A,c,rfl,hn,hrow⟩:=hl;have jW:=aj hrow;have HR:=aj hR;have HP:=aj hP;clear hrow hP hR;go_in;go_wp2_with fail;go_loopg [8] (nL t) (fun g' i wr=>∃ k:Nat,g'=nL t - k/\k<=nL t/\i=.int .i64 k/\Hid (Below w.heap.size w wr)/\Hid (cZ P t k=false))
 case atStart=>exact ⟨0,rfl,Nat.zero_le _,rfl,Below.refl _ _,rfl⟩
 case round =>
  obtain ⟨k,rfl,hk,rfl,HB,HN⟩:=hrel;by_cases hlt:k<nL t
  ·obtain ⟨b,o,u,rfl,hbl,p0,hr⟩:=jW.out k hlt;replace p0:=(HB.out.cell (p:=⟨b,o+k,none⟩) hbl).trans p0;have HC:=aj (HP.out k hlt wr u HB.out (HR.out _ _ _ _ HB.out hr));clear hr;cases hp:P (elt t k) with
   | true =>
    rw [hp] at HC;have Hp:=aj hp;clear hp;go_wp2_with fail;refine HC.out.mono ?_;rintro e w2 ⟨rfl,b2⟩;have HB2:=aj (HB.out.trans (b2.mono HB.out.size));clear b2;go_wp2_with fail;go_ret;exact ⟨HB2.out,_,rfl,.inr ⟨k,rfl,hlt,Hp.out⟩⟩
   | false =>
    rw [hp] at HC;have HN2:Hid (cZ P t (k+1)=false):=by show _=_;rw [cZ,HN.out,hp];rfl
    clear hp;go_wp2_with fail;refine HC.out.mono ?_;rintro e w2 ⟨rfl,b2⟩;have HB2:=aj (HB.out.trans (b2.mono HB.out.size));clear b2;go_wp2_with fail;go_roundg (nL t - (k+1))
    case rel=>exact ⟨k+1,rfl,by omega,by go_num,HB2,HN2⟩
    case measure=>omega
  ·obtain rfl:k=nL t:=by omega
   go_wp2_with fail;go_ret;exact ⟨HB.out,_,rfl,.inl ⟨rfl,HN.out⟩⟩
theorem zy (P:T->Bool) (g:FuncId) (hg:∀ (a:Array Value) (w:World),(callFunc g a).run Tryz.prog w=.ok (.enter g a) w) (p:Value) (R:World->Value->T->Prop) (hR:∀ w w' u y,Below w.heap.size w w'->R w u y->R w' u y) (l:Value) (t:T) (w:World) (hl:zx w (R w) l t)
  (hP:∀ k,k<nL t->∀ (wr:World) (u:Value),Below w.heap.size w wr->R wr u (elt t k)->Calls Tryz.prog g #[u,p] wr fun e w'=>e=.returned (.bool (P (elt t k)))/\Below wr.heap.size wr w') :
  Calls Tryz.prog 259 #[l,.func (Fn.func g) #[] #[p]] w fun e w'=>e=.returned (.bool (cZ P t (nL t)))/\Below w.heap.size w w':=by
 have HC:=aj (Gi P g hg p R hR l t w hl hP);clear hl hP hR;go_in;go_wp2_with fail;refine HC.out.mono ?_;rintro e w2 ⟨b2,n,rfl,⟨rfl,hn⟩ | ⟨k,rfl,hk,hp⟩⟩
 ·have HB:=aj b2;have HN:=aj hn;clear b2 hn;go_wp2_with fail;go_ret;exact ⟨aA HN.out.symm,HB.out⟩
 ·have HB:=aj b2;have HN:=aj (zQ hk hp);clear b2 hp;go_wp2_with fail;go_ret;exact ⟨aA HN.out.symm,HB.out⟩
theorem wK {Tb:World->Prop} (hL:aS Tb) (m:Nat) (ih:oC Tb m) (l:Value) (j:T) (f:Nat) (x:Value) (v:T) (w:World) (hl:zx w (eP w m) l j) (hv:At w f x v) (hf:f<=16) (kv:bM v) (hT:Tb w) :
  Calls Tryz.prog 258 #[l,x] w fun e w'=>e=.returned (.bool (cZ (fun y=>gy m y v) j (nL j)))/\Below w.heap.size w w':=by
 obtain ⟨g1,La,Ka,Lc,Kc,hg1,rfl,_,_,_⟩:=hv.open;have HB:=aj (aQ w (vC v La Lc Ka Kc))
 have HX:Hid (aH w.heap.size (.int .i64 (ah v)) (.int .i64 (au v)) (.string (ay v)) (.slice La (nL v) Lc) (.slice Ka (nK v) Kc) (w.alloc (vC v La Lc Ka Kc))):=by
  constructor<;>simp [go_sem]
 have HC:=aj (zy (fun y=>gy m y v) 260 (fun _ _=>rfl) (.pointer (some ⟨w.heap.size,0,none⟩)) (fun w=>eP w m) (fun w w' u y hb h=>eP.keep hb m u y h) l j _ (hl.keep HB.out (eP.keep HB.out m)) (fun k hk wr u hb hu=>by
   have hbx:=HX.out.stay hb;have hbw:=HB.out.trans (hb.mono HB.out.size);exact UH m ih w.heap.size f u (elt j k) v La Ka Lc Kc wr hbx.q0 hbx.q1 hbx.q2 hbx.q3 hbx.q4 hu (hv.keep hbw) hf kv (hL w hT _ _ hT hbw)))
 generalize cZ (fun y=>gy m y v) j (nL j)=r at HC;clear hv kv hl ih hT hL hg1;go_in;go_wp2_with fail;refine HC.out.mono ?_;rintro e w2 ⟨rfl,b2⟩;have HB3:=aj (HB.out.trans (b2.mono HB.out.size));clear b2;go_wp2_with fail;go_ret;exact ⟨rfl,HB3.out⟩
theorem Gj {Tb:World->Prop} (hL:aS Tb) (m:Nat) (ih:oC Tb m) (l:Value) (j:T) (f:Nat) (x:Value) (v:T) (w:World) (hl:zx w (eP w m) l j) (hv:At w f x v) (hf:f<=16) (kv:bM v) (hT:Tb w) :
  Calls Tryz.prog 262 #[l,x] w fun e w'=>e=.returned (.bool (!(cZ (fun y=>gy m y v) j (nL j))))/\Below w.heap.size w w':=by
 obtain ⟨g1,La,Ka,Lc,Kc,hg1,rfl,_,_,_⟩:=hv.open;have HB:=aj (aQ w (vC v La Lc Ka Kc));have HC:=aj (wK hL m ih l j f _ v _ (hl.keep HB.out (eP.keep HB.out m)) (hv.keep HB.out) hf kv (hL w hT _ _ hT HB.out));generalize cZ (fun y=>gy m y v) j (nL j)=r at HC;clear hv kv hl ih hT hL hg1;go_in;go_wp2_with fail;refine HC.out.mono ?_;rintro e w2 ⟨rfl,b2⟩;have HB3:=aj (HB.out.trans (b2.mono HB.out.size));clear b2;go_wp2_with fail;go_ret;exact ⟨rfl,HB3.out⟩
theorem zZ {p:Nat->Bool} {i:Nat} (hp:p i=false):∀ n,i<n->rY p n=false
 | 0,h=>by omega
 | n+1,h=>by
  rw [rY];by_cases e:i=n
  ·subst e;rw [hp];simp
  ·rw [zZ hp n (by omega)];rfl
theorem UJ (l:Value) (w:World):(method 319 203 l "sheaf/filter.holds").run Tryz.prog w=.ok (257,l) w:=by kernel_rfl
theorem UK (l:Value) (w:World):(method 319 205 l "sheaf/filter.holds").run Tryz.prog w=.ok (258,l) w:=by kernel_rfl
theorem Rm (l:Value) (w:World):(method 319 206 l "sheaf/filter.holds").run Tryz.prog w=.ok (262,l) w:=by kernel_rfl
theorem UL (l:Value) (w:World):(method 319 213 l "sheaf/filter.holds").run Tryz.prog w=.ok (264,l) w:=by kernel_rfl
theorem UM {Tb:World->Prop} (hA:dx Tb) (hI:bn Tb) (hL:aS Tb) (m:Nat) (ih:oC Tb m):oC Tb (m+1):=by
 intro fv t f x v w hfl hv hf kv hT;obtain ⟨g1,La,Ka,Lc,Kc,hg1,rfl,_,_,_⟩:=hv.open;obtain ⟨A,c,rfl,hn,hrow⟩:=hfl;have jW:=aj hrow;have HT:Hid (∀ w':World,Below w.heap.size w w'->Tb w'):=fun w' hb=>hL w hT w w' hT hb;have HV:=aj hv;have Gg:=aj kv;have Pw:=aj ih;have HL:=aj hL;have lK:=aj hA;have LM:=aj hI;clear hrow hv kv ih hg1 hT hL hA hI;go_in;go_wp2_with fail;go_loopg [9] (nK t) (fun g' i wr=>∃ k:Nat,g'=nK t - k/\k<=nK t/\i=.int .i64 k/\Hid (Below (w.heap.size+1) (w.alloc (vC v La Lc Ka Kc)) wr)/\Hid (rY (fun i=>zw (gy m) (bR t i) (elt t i) v) k=true))
 case atStart=>exact ⟨0,rfl,Nat.zero_le _,rfl,Below.refl _ _,rfl⟩
 case round =>
  obtain ⟨k,rfl,hk,rfl,HB,HN⟩:=hrel;obtain ⟨q0,q1,q2,q3,q4,hz,hbw⟩:=dB HB.out;have gQ:=aj hbw;clear hbw;by_cases hlt:k<nK t
  ·obtain ⟨b,o,u,rfl,hbl,p0,hr⟩:=jW.out k hlt;replace p0:=(gQ.out.cell (p:=⟨b,o+k,none⟩) hbl).trans p0;have HA:Hid (rY (fun i=>zw (gy m) (bR t i) (elt t i) v) (k+1)=zw (gy m) (bR t k) (elt t k) v):=by show _=_;rw [rY,HN.out];simp
   have HA2:Hid (zw (gy m) (bR t k) (elt t k) v=false->gy (m+1) t v=false):=fun h=>zZ (p:=fun i=>zw (gy m) (bR t i) (elt t i) v) h _ hlt;have HVr:=aj (HV.out.keep gQ.out);have HTr:=aj (HT.out wr gQ.out);rcases hr with ⟨hx,l,rfl,hl⟩ | ⟨hx,l,rfl,hl⟩ | ⟨hx,l,rfl,hl⟩ | ⟨hx,pv,tv,rfl,hpv,htv⟩
   ·have HC:=aj (JE HL.out m Pw.out l (elt t k) f _ v wr (hl.keep gQ.out (eP.keep gQ.out m)) HVr.out hf Gg.out HTr.out);have HE:Hid (zw (gy m) (bR t k) (elt t k) v=jE (fun y=>gy m y v) (elt t k) (nL (elt t k))):=by show _=_;unfold zw;rw [if_pos hx]
    rw [<- HE.out] at HC;have hm:=UJ l wr;clear hl hx HE;generalize zw (gy m) (bR t k) (elt t k) v=r at HC HA HA2;go_wp2_with fail;refine HC.out.mono ?_;rintro e w2 ⟨rfl,b2⟩;have bT:=aj (HB.out.trans (b2.mono (by omega)));clear b2 HC;cases r with
    | true =>
     go_wp2_with fail;go_roundg (nK t - (k+1))
     case rel=>exact ⟨k+1,rfl,by omega,by go_num,bT,HA⟩
     case measure=>omega
    | false =>
     have tu:=aj (HA2.out rfl);have eU:=aj (((Below.refl w.heap.size w).alloc (Nat.le_refl _) (vC v La Lc Ka Kc)).trans (bT.out.mono (by omega)));clear HA2;go_wp2_with fail;go_ret;exact ⟨aA (by rw [tu.out]),eU.out⟩
   ·have HC:=aj (wK HL.out m Pw.out l (elt t k) f _ v wr (hl.keep gQ.out (eP.keep gQ.out m)) HVr.out hf Gg.out HTr.out);have HE:Hid (zw (gy m) (bR t k) (elt t k) v=cZ (fun y=>gy m y v) (elt t k) (nL (elt t k))):=by show _=_;unfold zw;rw [if_neg (by rw [hx];decide),if_pos hx]
    rw [<- HE.out] at HC;have hm:=UK l wr;clear hl hx HE;generalize zw (gy m) (bR t k) (elt t k) v=r at HC HA HA2;go_wp2_with fail;refine HC.out.mono ?_;rintro e w2 ⟨rfl,b2⟩;have bT:=aj (HB.out.trans (b2.mono (by omega)));clear b2 HC;cases r with
    | true =>
     go_wp2_with fail;go_roundg (nK t - (k+1))
     case rel=>exact ⟨k+1,rfl,by omega,by go_num,bT,HA⟩
     case measure=>omega
    | false =>
     have tu:=aj (HA2.out rfl);have eU:=aj (((Below.refl w.heap.size w).alloc (Nat.le_refl _) (vC v La Lc Ka Kc)).trans (bT.out.mono (by omega)));clear HA2;go_wp2_with fail;go_ret;exact ⟨aA (by rw [tu.out]),eU.out⟩
   ·have HC:=aj (Gj HL.out m Pw.out l (elt t k) f _ v wr (hl.keep gQ.out (eP.keep gQ.out m)) HVr.out hf Gg.out HTr.out);have HE:Hid (zw (gy m) (bR t k) (elt t k) v=!(cZ (fun y=>gy m y v) (elt t k) (nL (elt t k)))):=by show _=_;unfold zw;rw [if_neg (by rw [hx];decide),if_neg (by rw [hx];decide),if_pos hx]
    rw [<- HE.out] at HC;have hm:=Rm l wr;clear hl hx HE;generalize zw (gy m) (bR t k) (elt t k) v=r at HC HA HA2;go_wp2_with fail;refine HC.out.mono ?_;rintro e w2 ⟨rfl,b2⟩;have bT:=aj (HB.out.trans (b2.mono (by omega)));clear b2 HC;cases r with
    | true =>
     go_wp2_with fail;go_roundg (nK t - (k+1))
     case rel=>exact ⟨k+1,rfl,by omega,by go_num,bT,HA⟩
     case measure=>omega
    | false =>
     have tu:=aj (HA2.out rfl);have eU:=aj (((Below.refl w.heap.size w).alloc (Nat.le_refl _) (vC v La Lc Ka Kc)).trans (bT.out.mono (by omega)));clear HA2;go_wp2_with fail;go_ret;exact ⟨aA (by rw [tu.out]),eU.out⟩
   ·have HC:=aj (Gh lK.out LM.out HL.out (bR t k) (elt t k) pv tv f _ v wr (hpv.keep gQ.out) (htv.keep gQ.out) HVr.out hf Gg.out HTr.out);have HE:Hid (zw (gy m) (bR t k) (elt t k) v=Yr (bV (bR t k)) (kF (elt t k)) v):=by show _=_;unfold zw;rw [if_neg hx.1,if_neg hx.2.1,if_neg hx.2.2]
    rw [<- HE.out] at HC;have hm:=UL (.agg #[pv,tv]) wr;clear hpv htv hx HE;generalize zw (gy m) (bR t k) (elt t k) v=r at HC HA HA2;go_wp2_with fail;refine HC.out.mono ?_;rintro e w2 ⟨rfl,b2⟩;have bT:=aj (HB.out.trans (b2.mono (by omega)));clear b2 HC;cases r with
    | true =>
     go_wp2_with fail;go_roundg (nK t - (k+1))
     case rel=>exact ⟨k+1,rfl,by omega,by go_num,bT,HA⟩
     case measure=>omega
    | false =>
     have tu:=aj (HA2.out rfl);have eU:=aj (((Below.refl w.heap.size w).alloc (Nat.le_refl _) (vC v La Lc Ka Kc)).trans (bT.out.mono (by omega)));clear HA2;go_wp2_with fail;go_ret;exact ⟨aA (by rw [tu.out]),eU.out⟩
  ·obtain rfl:k=nK t:=by omega
   go_wp2_with fail;go_ret;exact ⟨aA (by rw [gy,HN.out]),gQ.out⟩
theorem z8 {Tb:World->Prop} (hA:dx Tb) (hI:bn Tb) (hL:aS Tb):∀ m,oC Tb m
 | 0=>fun _ _ _ _ _ _ h=>h.elim
 | m+1=>UM hA hI hL m (z8 hA hI hL m)
theorem Ba {P:Program} (w:World) (base:Nat) (t tx ty e:TypeId) (i:TypeInfo) (z:Value) (size bytes:Nat) (ht:P.underlying t=some (.slice e)) (hi:P.info? e=some i) (hz:i.zero=some z)
  (hsize:i.size=size) (hby:i.bytes=bytes) (hzs:z.cells.size=size)
  (v:Value) (n:Nat) (xs:List Value) (hown:w.ownsRow base e size v n xs) (x:Value) (m:Nat) (news:List Value) (hs:Src P size tx x m news w)
  (h63:n+m<=maxLen) (hbytes:(n+m)*bytes<=140737488355328) (hbase:base<=w.heap.size) :
  ∃ v' w',(Builtin.append_ #[t,tx] ty #[v,x]).run P w=.ok v' w'/\w'.ownsRow base e size v' (n+m) (xs++news)/\w.grownBy w' v.ownBlock/\(v'.ownBlock=v.ownBlock\/v'.ownBlock=some w.heap.size):=by
 subst hsize;subst hby;have hsmall:n+m<=9223372036854775807:=by simp only [maxLen] at h63;omega
 have hl:=hs.newsLen;have hlen:(xs++news).length=(n+m)*i.size:=by rw [List.length_append,hown.1,hl,Nat.add_mul]
 have grown:∀ (old:Nat),∀ (row:Option Nat),
   (w.drew.alloc (.cells ((xs++news).toArray++Builtin.zeroCells z.cells (grownCap w (n+m) old e - (n+m))) e)).ownsRow base e i.size
    (.slice (some ⟨w.heap.size,0,none⟩) (n+m) (grownCap w (n+m) old e)) (n+m) (xs++news) /\
   w.grownBy (w.drew.alloc (.cells ((xs++news).toArray++Builtin.zeroCells z.cells (grownCap w (n+m) old e - (n+m))) e)) row:=by
  intro old row;have hge:=grownCap_ge w (n+m) old e;have hcm:grownCap w (n+m) old e<=maxLen:=grownCap_le_maxLen w (n+m) old e h63;refine ⟨⟨hlen,.inr ⟨w.heap.size,_,_,rfl,hbase,heap_alloc_new w.drew _,hge,hcm,?_,?_⟩⟩,⟨rfl,rfl,rfl,by simp,fun k hk _=>heap_alloc_old w.drew _ hk⟩⟩
  ·simp only [Array.size_append,List.size_toArray,size_zeroCells,hzs,hlen,<- Nat.add_mul]
   congr 1
   omega
  ·simp only [Array.toList_append];rw [<- hlen];exact List.take_left
 rcases hown.2 with ⟨rfl,rfl⟩ | ⟨g,cap,cur,rfl,hbg,hg,hnc,hcm,hcs,htake⟩
 ·have hx:xs=[]:=List.eq_nil_of_length_eq_zero (by simpa using hown.1);subst hx;by_cases hm:m=0
  ·subst hm;have hn:news=[]:=List.eq_nil_of_length_eq_zero (by simpa using hl);subst hn;refine ⟨.slice none 0 0,w,?_,World.ownsRow_nil w base e i.size,⟨rfl,rfl,rfl,Nat.le_refl _,fun _ _ _=>rfl⟩,Or.inl rfl⟩;rcases hs.kind with ⟨e',hk⟩ | hk<;>simp [Builtin.append_,run_underlying ht,run_underlying hk,sizeOf,typeInfo,hi,hs.len,hs.cells]
  ·have hr:=run_append_grow_src (P:=P) w t tx ty e i z ht hi hz none 0 0 [] (run_firstCells_none w.drew i.size 0 0 0) x m news hs (by omega) (by omega) (growslice_fits (by omega) hbytes);have hgr:=grown 0 (Value.ownBlock (.slice none 0 0));exact ⟨_,_,hr,hgr.1,hgr.2,Or.inr rfl⟩
 ·by_cases hroom:n+m<=cap
  ·have hfit:n*i.size+news.length<=cur.size:=by rw [hl,hcs,<- Nat.add_mul];exact Nat.mul_le_mul_right _ hroom
   have hst:=run_storeCells_at P g (n*i.size) e news 0 cur w hg (by simpa using hfit) hs.one;simp only [Nat.add_zero] at hst
   have hr:(Builtin.append_ #[t,tx] ty #[.slice (some ⟨g,0,none⟩) n cap,x]).run P w=.ok (.slice (some ⟨g,0,none⟩) (n+m) cap) (w.setRow g (cur.toList.take (n*i.size)++news++cur.toList.drop (n*i.size+news.length)).toArray):=by
    rcases hs.kind with ⟨e',hk⟩ | hk<;>simp [Builtin.append_,run_underlying ht,run_underlying hk,sizeOf,typeInfo,hi,hs.len,hroom,hs.cells,Addr.add_lit,hst]
   refine ⟨_,_,hr,⟨hlen,.inr ⟨g,cap,_,rfl,hbg,setRow_heap w g cur _ e _ hg,hroom,hcm,?_,?_⟩⟩,⟨rfl,rfl,rfl,by simp,fun k _ hk=>setRow_other w g k _ (fun e=>hk (by simp [Value.ownBlock,e]))⟩,Or.inl rfl⟩
   ·simp only [List.size_toArray,List.length_append,List.length_take,List.length_drop,Array.length_toList];omega
   ·rw [htake,<- hlen];exact List.take_left
  ·have holds:∀ j u,xs[j]?=some u->w.cell? ((⟨g,0,none⟩:Addr).add j)=some u:=hown.cells (g:=g) rfl;have hr:=run_append_grow_src (P:=P) w t tx ty e i z ht hi hz (some ⟨g,0,none⟩) n cap xs (run_firstCells_some w.drew i.size n ⟨g,0,none⟩ n cap xs hown.1 (by simpa using holds)) x m news hs (by omega) (by omega) (growslice_fits (by omega) hbytes);have hgr:=grown cap (Value.ownBlock (.slice (some ⟨g,0,none⟩) n cap));exact ⟨_,_,hr,hgr.1,hgr.2,Or.inr rfl⟩
theorem uK {P:Program} (w:World) {o:Oper} {a:Act} {K:Act->World->Prop} {Q:Exit->Act->World->Prop} (s xo:Operand) (t tx:TypeId)
  (ho:o.op=.call { callee:=.builtin .append,args:=#[s,xo],argTypes:=#[t,tx] })
  (base:Nat) (e:TypeId) (i:TypeInfo) (z:Value) (size bytes:Nat) (ht:P.underlying t=some (.slice e)) (hi:P.info? e=some i) (hz:i.zero=some z)
  (hsize:i.size=size) (hby:i.bytes=bytes) (hzs:z.cells.size=size)
  (v:Value) (n:Nat) (xs:List Value) (hsv:a.eval s=v) (hown:w.ownsRow base e size v n xs) (x:Value) (m:Nat) (news:List Value) (hx:a.eval xo=x) (hs:Src P size tx x m news w)
  (h63:n+m<=maxLen) (hbytes:(n+m)*bytes<=140737488355328) (hbase:base<=w.heap.size)
  (h:∀ v' w',w'.ownsRow base e size v' (n+m) (xs++news)->w.grownBy w' v.ownBlock->(v'.ownBlock=v.ownBlock\/v'.ownBlock=some w.heap.size)->K (a.put o.dst v') w'):o.wp P a w K Q:=by
 obtain ⟨v',w',hr,h2,h3,h4⟩:=Ba (P:=P) w base t tx o.type e i z size bytes ht hi hz hsize hby hzs v n xs hown x m news hs h63 hbytes hbase;unfold Oper.wp execOp;simp only [ho,resolve,invoke,builtin,Sem.run_bind,Sem.run_pure,Result.andThen_ok,List.map_toArray,List.map_cons,List.map_nil,hsv,hx,hr];exact h v' w' h2 h3 h4
theorem aD {P:Program} (w:World) {ops:Array Oper} {rest:List Oper} {o:Oper} {a:Act} {Q:Exit->Act->World->Prop} (hgd:o.guard=none) (s xo:Operand) (t tx:TypeId)
  (ho:o.op=.call { callee:=.builtin .append,args:=#[s,xo],argTypes:=#[t,tx] })
  (base:Nat) (e:TypeId) (i:TypeInfo) (z:Value) (size bytes:Nat) (ht:P.underlying t=some (.slice e)) (hi:P.info? e=some i) (hz:i.zero=some z)
  (hsize:i.size=size) (hby:i.bytes=bytes) (hzs:z.cells.size=size)
  (v:Value) (n:Nat) (xs:List Value) (hsv:a.eval s=v) (hown:w.ownsRow base e size v n xs) (x:Value) (m:Nat) (news:List Value) (hx:a.eval xo=x) (hs:Src P size tx x m news w)
  (h63:n+m<=maxLen) (hbytes:(n+m)*bytes<=140737488355328) (hbase:base<=w.heap.size)
  (h:∀ v' w',w'.ownsRow base e size v' (n+m) (xs++news)->w.grownBy w' v.ownBlock->(v'.ownBlock=v.ownBlock\/v'.ownBlock=some w.heap.size)->wpList P ops Q rest (a.put o.dst v') w'):wpList P ops Q (o::rest) a w :=
 wpList_plain hgd fun _ hK=>uK w s xo t tx ho base e i z size bytes ht hi hz hsize hby hzs v n xs hsv hown x m news hx hs h63 hbytes hbase fun v' w' h2 h3 h4=>hK _ _ (h v' w' h2 h3 h4)
theorem zA {P:Program} (w:World) {ops:Array Oper} {o:Oper} {a:Act} {K:Act->World->Prop} {Q:Exit->Act->World->Prop} {E:Prop} (hgd:o.guard=none) (s xo:Operand) (t tx:TypeId)
  (ho:o.op=.call { callee:=.builtin .append,args:=#[s,xo],argTypes:=#[t,tx] })
  (base:Nat) (e:TypeId) (i:TypeInfo) (z:Value) (size bytes:Nat) (ht:P.underlying t=some (.slice e)) (hi:P.info? e=some i) (hz:i.zero=some z)
  (hsize:i.size=size) (hby:i.bytes=bytes) (hzs:z.cells.size=size)
  (v:Value) (n:Nat) (xs:List Value) (hsv:a.eval s=v) (hown:w.ownsRow base e size v n xs) (x:Value) (m:Nat) (news:List Value) (hx:a.eval xo=x) (hs:Src P size tx x m news w)
  (h63:n+m<=maxLen) (hbytes:(n+m)*bytes<=140737488355328) (hbase:base<=w.heap.size)
  (h:∀ v' w',w'.ownsRow base e size v' (n+m) (xs++news)->w.grownBy w' v.ownBlock->(v'.ownBlock=v.ownBlock\/v'.ownBlock=some w.heap.size)->K (a.put o.dst v') w') :
  if Region.wanted o (yielded ops a.tmps)=true then Oper.wp P o a w K Q else E:=by
 have hw:Region.wanted o (yielded ops a.tmps)=true:=by simp [Region.wanted,hgd]
 rw [if_pos hw];exact uK w s xo t tx ho base e i z size bytes ht hi hz hsize hby hzs v n xs hsv hown x m news hx hs h63 hbytes hbase h
def aM (l:List UInt8):List Value:=l.map fun b=>Value.int .u8 b.toNat
theorem uL (a b:List UInt8):aM (a++b)=aM a++aM b:=List.map_append ..
theorem gV (a:List UInt8):(aM a).length=a.length:=List.length_map ..
theorem Ef {P:Program} (w:World) {tx:TypeId} (hk:P.underlying tx=some .string) (s:ByteArray):Src P 1 tx (.string s) s.size (aM s.data.toList) w:=Src.ofString w hk s
theorem UN {P:Program} {w:World} {base:Nat} {src dst e:TypeId} {v:Value} {l:List UInt8} (hs:P.underlying src=some (.slice e)) (he:P.underlying e=some (.int .u8)) (hd:P.underlying dst=some .string)
  (h:w.ownsRow base e 1 v l.length (aM l)):(convert src dst v).run P w=.ok (.string ⟨l.toArray⟩) w:=by
 rcases h.2 with ⟨rfl,h0⟩ | ⟨g,cap,cur,rfl,hbg,hg,hnc,hcm,hcs,htake⟩
 ·have:l=[]:=List.eq_nil_of_length_eq_zero h0;subst this;exact run_convert_bytes_nil w src e hs he 0 0 dst hd
 ·refine run_convert_bytes_back (P:=P) w src dst e ⟨g,0,none⟩ cap l hs he hd fun j hj=>?_;have:=h.cells (g:=g) rfl j (.int .u8 ((l[j]'hj).toNat:Nat)) (by unfold aM;rw [List.getElem?_map,List.getElem?_eq_getElem hj];rfl);exact this
end Go.Proofs.YtknakfpciccoaabGreatDoor
