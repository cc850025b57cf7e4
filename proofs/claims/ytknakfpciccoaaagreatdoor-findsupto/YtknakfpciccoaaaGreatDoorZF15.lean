import Derived.Test.YtknakfpciccoaaaGreatDoorZF14
import Derived.Test.YtknakfpciccoaaaGreatDoorZF11
import Derived.Test.YtknakfpciccoaaaGreatDoorZF3
import Derived.Test.YtknakfpciccoaaaGreatDoorZF4
import Derived.Test.YtknakfpciccoaaaGreatDoorZF8
/- Places in values: slices.Index of names, elementOf, placeOf; order.Equal. -/
set_option maxHeartbeats 4000000
set_option maxRecDepth 100000
namespace Go.Proofs.YtknakfpciccoaaaGreatDoor
open Go.RowKit
def smK:Nat->T->Prop
 | 0,_=>True
 | f+1,t=>nK t<=1048576/\nL t<=1048576/\(∀ i,i<nK t->(bf t i).size<=4000)/\∀ i,i<nL t->smK f (elt t i)
def dZ (t:T):Prop:=(∀ f,Oo f t)/\∀ f,smK f t
theorem dZ.elt {t:T} (h:dZ t) {i:Nat} (hi:i<nL t):dZ (elt t i):=⟨fun f=>(h.1 (f+1)).2 i hi,fun f=>(h.2 (f+1)).2.2.2 i hi⟩
theorem dZ.names {t:T} (h:dZ t) (k:ah t=6):nK t=nL t:=(h.1 1).1 k
theorem dZ.small {t:T} (h:dZ t):nK t<=1048576/\nL t<=1048576:=⟨(h.2 1).1,(h.2 1).2.1⟩
theorem dZ.bf {t:T} (h:dZ t) {i:Nat} (hi:i<nK t):(bf t i).size<=4000:=(h.2 1).2.2.1 i hi
theorem Nr {t:T}:∀ k,iZ t k=true->∀ i,i<k->(bf t i).size<=4000
 | 0,_,i,hi=>absurd hi (by omega)
 | k+1,h,i,hi=>by
  simp only [iZ,Bool.and_eq_true,decide_eq_true_eq] at h;by_cases e:i=k
  ·subst e;exact h.2.2
  ·exact Nr k h.1 i (by omega)
theorem KI:∀ (m:Nat) (t:T),1<=aN m t:=by
 have hl:∀ t,1<=cZ t:=fun t=>by
  unfold cZ;split
  ·exact Nat.le_refl _
  ·split
   ·omega
   ·split<;>omega
 intro m t;cases m with
 | zero=>exact hl t
 | succ m =>
  unfold aN;split
  ·omega
  ·split
   ·omega
   ·exact hl t
theorem Ik {g:T->Nat} {t:T} (hg:∀ x,1<=g x):∀ k,k<=dY g t k
 | 0=>Nat.zero_le _
 | k+1=>by have:=Ik hg (t:=t) k;have:=hg (elt t k);rw [dY];omega
theorem DZ {g:T->Nat} {t:T} {i:Nat}:∀ k,i<k->g (elt t i)<=dY g t k
 | 0,h=>by omega
 | k+1,h=>by
  rw [dY];by_cases e:i=k
  ·subst e;omega
  ·have:=DZ (g:=g) (t:=t) k (show i<k by omega);omega
theorem Il:∀ (f m:Nat) (t:T),fJ m t->aN m t<=1048576->smK f t
 | 0,_,_,_,_=>trivial
 | f+1,0,t,h,_=>⟨by rw [h.2.1];omega,by rw [h.1];omega,fun i hi=>by rw [h.2.1] at hi;omega,fun i hi=>by rw [h.1] at hi;omega⟩
 | f+1,m+1,t,h,hb=>by
  rcases h with h | ⟨_,_,he,hk⟩
  ·exact ⟨by rw [h.2.1];omega,by rw [h.1];omega,fun i hi=>by rw [h.2.1] at hi;omega,fun i hi=>by rw [h.1] at hi;omega⟩
  ·have hs:=Ik (g:=aN m) (t:=t) (KI m) (nL t)
   have hsum:dY (aN m) t (nL t)<=1048576:=by
    unfold aN at hb;rcases hk with ⟨hk,_⟩ | ⟨hk,_⟩
    ·rw [if_pos hk] at hb;omega
    ·rw [if_neg (by omega),if_pos hk] at hb;omega
   refine ⟨?_,by omega,fun i hi=>?_,fun i hi=>Il f m _ (he i hi) ?_⟩
   ·rcases hk with ⟨_,hk⟩ | ⟨_,hk,_⟩<;>omega
   ·rcases hk with ⟨_,hk⟩ | ⟨_,_,hk,_⟩
    ·omega
    ·exact Nr _ hk i hi
   ·have:=DZ (g:=aN m) (t:=t) (nL t) hi;omega
theorem RY {m:Nat} {t:T} (h:fJ m t) (hb:aN m t<=1048576):dZ t:=⟨fun f=>Gy f m t h,fun f=>Il f m t h hb⟩
def lM (w:World) (v:Value) (l:List ByteArray):Prop :=
 ∃ (A:Option Addr) (c:Nat),v=.slice A l.length c/\l.length<=8796093022208/\∀ i,i<l.length->∃ b o,A=some ⟨b,o,none⟩/\b<w.heap.size/\(l.getD i ByteArray.empty).size<=140737488355328/\w.cell? ⟨b,o+i,none⟩=some (.string (l.getD i ByteArray.empty))
theorem lM.keep {w w':World} {v:Value} {l:List ByteArray} (h:lM w v l) (hb:Below w.heap.size w w'):lM w' v l:=by
 obtain ⟨A,c,hv,hl,h⟩:=h;refine ⟨A,c,hv,hl,fun i hi=>?_⟩;obtain ⟨b,o,h0,h1,h2,h3⟩:=h i hi;exact ⟨b,o,h0,Nat.lt_of_lt_of_le h1 hb.size,h2,(hb.cell (p:=⟨b,o+i,none⟩) h1).trans h3⟩
theorem uo {w:World} {Ka:Option Addr} {t:T} {Kc:Nat} (h:gI w Ka t) (hn:nK t<=8796093022208):lM w (.slice Ka (nK t) Kc) (rU t):=⟨Ka,Kc,rfl,hn,h⟩
def bT (x:ByteArray):List ByteArray->Option Nat
 | []=>none
 | y::l=>if x=y then some 0 else (bT x l).map (·+1)
def jN (o:Option Nat):Int:=match o with | some k=>(k:Int) | none=>-1
theorem vI {x:ByteArray}:∀ {l:List ByteArray} {k:Nat},bT x l=some k->k<l.length
 | [],k,h=>by cases h
 | y::l,k,h=>by
  rw [bT] at h;split at h
  ·simp only [Option.some.injEq] at h;subst h;simp
  ·cases hi:bT x l with
   | none=>rw [hi] at h;cases h
   | some j =>
    rw [hi] at h;simp only [Option.map_some,Option.some.injEq] at h;have:=vI hi;simp only [List.length_cons];omega
theorem vJ {x:ByteArray} {l:List ByteArray} {k:Nat} (h:k<l.length) (e:x=l.getD k ByteArray.empty):bT x (l.drop k)=some 0:=by
 rw [List.drop_eq_getElem_cons h,bT,if_pos (by rw [e];simp [List.getD_eq_getElem?_getD,h])]
theorem vK {x:ByteArray} {l:List ByteArray} {k:Nat} (h:k<l.length) (e:x≠l.getD k ByteArray.empty):bT x (l.drop k)=(bT x (l.drop (k+1))).map (·+1):=by
 rw [List.drop_eq_getElem_cons h,bT,if_neg (by intro e2;apply e;rw [e2];simp [List.getD_eq_getElem?_getD,h])]
theorem vL (a b:ByteArray):(a.toList==b.toList)=decide (a=b):=by
 by_cases h:a=b
 ·subst h;simp
 ·rw [decide_eq_false h,beq_eq_false_iff_ne];exact fun e=>h ((kg a b).1 e)
theorem xk (v:Value) (l:List ByteArray) (x:ByteArray) (w:World) (h:lM w v l) :
  Calls Tryz.prog 159 #[v,.string x] w fun e w'=>e=.returned (.int .i64 (jN (bT x l)))/\w'=w:=by
 obtain ⟨A,c,rfl,hl,h⟩:=h;have H:=aj h;clear h;go_in;go_wp2_with fail;go_loopg [8] (l.length) (fun g i wr=>∃ k:Nat,g=l.length - k/\k<=l.length/\i=.int .i64 k/\wr=w/\Hid (bT x l=(bT x (l.drop k)).map (·+k)))
 case atStart=>exact ⟨0,rfl,Nat.zero_le _,rfl,rfl,by show _=_;simp⟩
 case round =>
  obtain ⟨k,rfl,hk,rfl,rfl,HE⟩:=hrel;by_cases hlt:k<l.length
  ·obtain ⟨b,o,rfl,hb,hs,hc⟩:=H.out k hlt;by_cases he:x=l.getD k ByteArray.empty
   ·have HD:=aj (vJ hlt he);have HR:Hid (bT x l=some k):=by show _=_;rw [HE.out,HD.out];simp
    rw [<- he] at hc;clear he hs;go_wp2_with fail;go_ret;exact ⟨aH (by rw [HR.out];rfl),rfl⟩
   ·have HD:=aj (vK hlt he);have e0:(x.toList==(l.getD k ByteArray.empty).toList)=false:=by rw [vL];exact decide_eq_false he
    generalize l.getD k ByteArray.empty=y at hc e0;clear he hs;go_wp2_with fail;go_roundg (l.length - (k+1))
    case rel=>exact ⟨k+1,rfl,by omega,by go_num,rfl,by show _=_;rw [HE.out,HD.out,Option.map_map];congr 1;funext j;show j+1+k=j+(k+1);omega⟩
    case measure=>omega
  ·obtain rfl:k=l.length:=by omega
   have HR:Hid (bT x l=none):=by show _=_;rw [HE.out,List.drop_length];rfl
   go_wp2_with fail;go_ret;exact ⟨aH (by rw [HR.out];rfl),rfl⟩
def kX (Tb:World->Prop):Prop:=∀ (s:ByteArray) (w:World),s.size<=140737488355328->Tb w->Calls Tryz.prog 345 #[.string s] w fun e w'=>Below w.heap.size w w'/\((∃ v:Int,Lib.atoiAll s.data.toList=.ok v/\e=.returned (.tuple #[.int .i64 v,.nilIface]))\/((∀ v,Lib.atoiAll s.data.toList≠.ok v)/\∃ n te pe,e=.returned (.tuple #[.int .i64 n,.iface te pe])))
def zF (x:ByteArray) (n:Nat):Option Nat:=match Lib.atoiAll x.data.toList with
 | .ok v=>if 0<=v/\v<n/\bY (Lib.itoa v)=x then some v.toNat else none
 | _=>none
theorem RZ {x:ByteArray} {n:Nat} {v:Int} (h:Lib.atoiAll x.data.toList=.ok v):zF x n=if 0<=v/\v<n/\bY (Lib.itoa v)=x then some v.toNat else none:=by unfold zF;rw [h]
theorem XO {x:ByteArray} {n:Nat} (h:∀ v,Lib.atoiAll x.data.toList≠.ok v):zF x n=none:=by
 unfold zF;rcases ha:Lib.atoiAll x.data.toList with v | _ | _
 ·exact absurd ha (h v)
 ·rfl
 ·rfl
theorem XP {x:ByteArray} {n k:Nat} (h:zF x n=some k):k<n:=by
 unfold zF at h;split at h
 ·split at h
  ·simp only [Option.some.injEq] at h;omega
  ·cases h
 ·cases h
theorem CJ {Tb:World->Prop} (hA:kX Tb) (hI:kW Tb) (hL:fG Tb) (x:ByteArray) (n:Nat) (w:World) (hx:x.size<=140737488355328) (hn:n<=1759218604442) (hT:Tb w) :
  Calls Tryz.prog 341 #[.string x,.int .i64 n] w fun e w'=>e=.returned (.int .i64 (jN (zF x n)))/\Below w.heap.size w w':=by
 have HA:=aj (hA x w hx hT);have HI:=aj hI;have HT:=aj hT;have HL:=aj hL;clear hA hI hT hL;go_in;go_wp2_with fail;refine HA.out.mono ?_;rintro e w1 ⟨b1,⟨v,hv,rfl⟩ | ⟨hv,m,te,pe,rfl⟩⟩
 ·have HB:=aj b1;have HE:=aj (RZ (n:=n) hv);clear b1 HA hv;by_cases h0:v<0
  ·have HR:Hid (zF x n=none):=by show _=_;rw [HE.out,if_neg (by omega)]
   go_wp2_with fail;go_ret;exact ⟨aH (by rw [HR.out];rfl),HB.out⟩
  ·by_cases h1:(n:Int)<=v
   ·have HR:Hid (zF x n=none):=by show _=_;rw [HE.out,if_neg (by omega)]
    have h0':(0:Int)<=v:=by omega
    clear h0;go_wp2_with fail;go_ret;exact ⟨aH (by rw [HR.out];rfl),HB.out⟩
   ·have h0':(0:Int)<=v:=by omega
    have h1':v<(n:Int):=by omega
    have HC:=aj (HI.out v w1 (by omega) (by omega) (HL.out w HT.out _ _ HT.out HB.out));clear h0 h1;by_cases h2:bY (Lib.itoa v)=x
    ·have HR:Hid (zF x n=some v.toNat):=by show _=_;rw [HE.out,if_pos ⟨h0',h1',h2⟩]
     rw [h2] at HC;clear h2;go_wp2_with fail;refine HC.out.mono ?_;rintro e w2 ⟨rfl,b2⟩;have HB2:=aj (HB.out.trans (b2.mono HB.out.size));clear b2;go_wp2_with fail;go_ret;exact ⟨aH (by rw [HR.out];show v=(v.toNat:Int);omega),HB2.out⟩
    ·have HR:Hid (zF x n=none):=by show _=_;rw [HE.out,if_neg (fun h=>h2 h.2.2)]
     have e2:((bY (Lib.itoa v)).toList==x.toList)=false:=by rw [vL];exact decide_eq_false h2
     generalize bY (Lib.itoa v)=y at HC e2 h2;clear h2;go_wp2_with fail;refine HC.out.mono ?_;rintro e w2 ⟨rfl,b2⟩;have HB2:=aj (HB.out.trans (b2.mono HB.out.size));clear b2;go_wp2_with fail;go_ret;exact ⟨aH (by rw [HR.out];rfl),HB2.out⟩
 ·have HB:=aj b1;have HR:=aj (XO (n:=n) hv);clear b1 HA hv;go_wp2_with fail;go_ret;exact ⟨aH (by rw [HR.out];rfl),HB.out⟩
def wL (x:ByteArray) (t:T):Option Nat:=if ah t=6 then bT x (rU t) else if ah t=5 then zF x (nL t) else none
theorem Im {Tb:World->Prop} (hA:kX Tb) (hI:kW Tb) (hL:fG Tb) (x:ByteArray) (f:Nat) (v:Value) (t:T) (w:World) (hx:x.size<=140737488355328) (h:At w f v t) (hT:Tb w) :
  Calls Tryz.prog 338 #[.string x,v] w fun e w'=>e=.returned (.int .i64 (jN (wL x t)))/\Below w.heap.size w w':=by
 obtain ⟨g,La,Ka,Lc,Kc,rfl,rfl,hf,hl,hk⟩:=h.open;have HB1:=aj (bG w (vC t La Lc Ka Kc));have HS:=aj ((uo (Kc:=Kc) hk.out hf.m1).keep HB1.out);have HE:=aj (CJ hA hI hL x (nL t) _ hx hf.l1 (hL w hT _ _ hT HB1.out));clear h hf hl hk hT hA hI hL;by_cases k6:ah t=6
 ·have e6:(ah t==6)=true:=by simpa using k6
  have HP:Hid (wL x t=bT x (rU t)):=by show _=_;unfold wL;rw [if_pos k6]
  clear k6;go_in;go_wp2_with fail;refine (xk _ _ x _ HS.out).mono ?_;rintro e w2 ⟨rfl,rfl⟩;go_wp2_with fail;go_ret;exact ⟨aH (by rw [HP.out]),HB1.out⟩
 ·have e6:(ah t==6)=false:=by simpa using k6
  by_cases k5:ah t=5
  ·have e5:(ah t==5)=true:=by simpa using k5
   have HP:Hid (wL x t=zF x (nL t)):=by show _=_;unfold wL;rw [if_neg k6,if_pos k5]
   clear k5 k6;go_in;go_wp2_with fail;refine HE.out.mono ?_;rintro e w2 ⟨rfl,b2⟩;have HB2:=aj (HB1.out.trans (b2.mono HB1.out.size));clear b2;go_wp2_with fail;go_ret;exact ⟨aH (by rw [HP.out]),HB2.out⟩
  ·have e5:(ah t==5)=false:=by simpa using k5
   have HP:Hid (wL x t=none):=by show _=_;unfold wL;rw [if_neg k6,if_neg k5]
   clear k5 k6;go_in;go_wp2_with fail;go_ret;exact ⟨aH (by rw [HP.out];rfl),HB1.out⟩
theorem OO (f g:Nat) (va vb:Value) (a b:T) (w:World) (h:At w f va a) (h':At w g vb b) (ka:Oo f a) (kb:Oo f b) :
  Calls Tryz.prog 158 #[va,vb] w fun e w'=>e=.returned (.bool (bq f a b==0))/\Below w.heap.size w w':=by
 have HA:=aj h;have HA':=aj h';have HK:=aj ka;have HK':=aj kb;obtain ⟨f1,La,Ka,Lc,Kc,hf1,rfl,hf,hl,hk⟩:=h.open;obtain ⟨g1,Ma,Na,Mc,Nc,hg1,rfl,hf',hl',hk'⟩:=h'.open;clear h h' hf hf' hf1 hg1 hl hk hl' hk' ka kb;have HB1:Hid (Below w.heap.size w ((w.alloc (vC a La Lc Ka Kc)).alloc (vC b Ma Mc Na Nc))):=(bG _ _).alloc (by simp) _;have HC:=aj (yu f g _ _ a b _ (HA.out.keep HB1.out) (HA'.out.keep HB1.out) HK.out HK'.out);generalize bq f a b=n at HC;go_in;go_wp2_with fail;refine HC.out.mono ?_;rintro e w2 ⟨rfl,b2⟩;have HB2:=aj (HB1.out.trans (b2.mono HB1.out.size));clear b2;go_wp2_with fail;go_ret;exact ⟨rfl,HB2.out⟩
end Go.Proofs.YtknakfpciccoaaaGreatDoor
/- A box of a value in memory. -/
namespace Go.Proofs.YtknakfpciccoaaaGreatDoor
open Go.RowKit
theorem bJ (w:World) (o:Obj):Below w.heap.size w (w.alloc o):=bG _ _
def gJ:List ByteArray->T->Option T
 | [],t=>some t
 | x::p,t=>(wL x t).bind fun k=>gJ p (elt t k)
theorem KJ {x:ByteArray} {t:T} {k:Nat} (h:wL x t=some k) (hok:ah t=6->nK t=nL t):k<nL t:=by
 unfold wL at h;split at h
 ·have:=vI h;have:=hok ‹_›;show k<nL t;unfold nK at this;omega
 ·split at h
  ·exact XP h
  ·cases h
def Io (w0:World) (ps:List ByteArray) (t:T) (f:Nat) (w:World) (e:Ending) (w':World):Prop :=
 Below w.heap.size w w'/\((∃ r g A B C D,gJ ps t=some r/\g<=f/\e=.returned (.tuple #[.agg #[.int .i64 (ah r),.int .i64 (aB r),.string (aF r),.slice A (nL r) B,.slice C (nK r) D],.bool true])/\At w0 g (.agg #[.int .i64 (ah r),.int .i64 (aB r),.string (aF r),.slice A (nL r) B,.slice C (nK r) D]) r/\dZ r) \/
  (gJ ps t=none/\e=.returned (.tuple #[.agg #[.int .i64 0,.int .i64 0,.string ⟨#[]⟩,.slice none 0 0,.slice none 0 0],.bool false])))
theorem aK.acu {b:Nat} {c0 c1 c2 c3 c4:Value} {w:World} (h:aK b c0 c1 c2 c3 c4 w) (u:Value):aK b u c1 c2 c3 c4 (w.setCell ⟨b,0,none⟩ u):=by
 refine ⟨?_,?_,?_,?_,?_,?_,?_,?_,?_,?_,by simp [World.setCell];exact h.lt⟩
 ·exact World.cell?_setCell_same _ _ _ h.q0
 ·rw [aD (by omega)];exact h.q1
 ·rw [aD (by omega)];exact h.q2
 ·rw [aD (by omega)];exact h.q3
 ·rw [aD (by omega)];exact h.q4
 ·rw [World.frozen?_setCell];exact h.f0
 ·rw [World.frozen?_setCell];exact h.f1
 ·rw [World.frozen?_setCell];exact h.f2
 ·rw [World.frozen?_setCell];exact h.f3
 ·rw [World.frozen?_setCell];exact h.f4
theorem aK.ZO {b:Nat} {c0 c1 c2 c3 c4:Value} {w:World} (h:aK b c0 c1 c2 c3 c4 w) (u:Value):aK b c0 u c2 c3 c4 (w.setCell ⟨b,1,none⟩ u):=by
 refine ⟨?_,?_,?_,?_,?_,?_,?_,?_,?_,?_,by simp [World.setCell];exact h.lt⟩
 ·rw [aD (by omega)];exact h.q0
 ·exact World.cell?_setCell_same _ _ _ h.q1
 ·rw [aD (by omega)];exact h.q2
 ·rw [aD (by omega)];exact h.q3
 ·rw [aD (by omega)];exact h.q4
 ·rw [World.frozen?_setCell];exact h.f0
 ·rw [World.frozen?_setCell];exact h.f1
 ·rw [World.frozen?_setCell];exact h.f2
 ·rw [World.frozen?_setCell];exact h.f3
 ·rw [World.frozen?_setCell];exact h.f4
theorem aK.acv {b:Nat} {c0 c1 c2 c3 c4:Value} {w:World} (h:aK b c0 c1 c2 c3 c4 w) (u:Value):aK b c0 c1 u c3 c4 (w.setCell ⟨b,2,none⟩ u):=by
 refine ⟨?_,?_,?_,?_,?_,?_,?_,?_,?_,?_,by simp [World.setCell];exact h.lt⟩
 ·rw [aD (by omega)];exact h.q0
 ·rw [aD (by omega)];exact h.q1
 ·exact World.cell?_setCell_same _ _ _ h.q2
 ·rw [aD (by omega)];exact h.q3
 ·rw [aD (by omega)];exact h.q4
 ·rw [World.frozen?_setCell];exact h.f0
 ·rw [World.frozen?_setCell];exact h.f1
 ·rw [World.frozen?_setCell];exact h.f2
 ·rw [World.frozen?_setCell];exact h.f3
 ·rw [World.frozen?_setCell];exact h.f4
def ny (w:World) (b:Nat) (u0 u1 u2 u3 u4:Value):World:=((((w.setCell ⟨b,0,none⟩ u0).setCell ⟨b,1,none⟩ u1).setCell ⟨b,2,none⟩ u2).setCell ⟨b,3,none⟩ u3).setCell ⟨b,4,none⟩ u4
theorem aK.ny {b:Nat} {c0 c1 c2 c3 c4:Value} {w:World} (h:aK b c0 c1 c2 c3 c4 w) (u0 u1 u2 u3 u4:Value):aK b u0 u1 u2 u3 u4 (ny w b u0 u1 u2 u3 u4) :=
 ((((h.acu u0).ZO u1).acv u2).Zv u3).Zw u4
theorem uq (w:World) {b b':Nat} (h:b'≠b) (u0 u1 u2 u3 u4:Value):(ny w b u0 u1 u2 u3 u4).heap[b']?=w.heap[b']?:=by
 have hset:∀ (w1:World) (o:Nat) (u:Value),(w1.setCell ⟨b,o,none⟩ u).heap[b']?=w1.heap[b']?:=fun w1 o u=>Below.heap_setCell _ _ _ _ (by simpa using h);unfold YtknakfpciccoaaaGreatDoor.ny;rw [hset,hset,hset,hset,hset]
theorem D5 (w:World) (b:Nat) (u0 u1 u2 u3 u4:Value):(ny w b u0 u1 u2 u3 u4).heap.size=w.heap.size:=by
 unfold YtknakfpciccoaaaGreatDoor.ny;simp [World.setCell]
theorem oO (w:World) (b:Nat) (u0 u1 u2 u3 u4:Value):aG b w (ny w b u0 u1 u2 u3 u4) :=
 ((((aG.set w b 0 u0).trans (aG.set _ b 1 u1)).trans (aG.set _ b 2 u2)).trans (aG.set _ b 3 u3)).trans (aG.set _ b 4 u4)
structure FS (w:World) (c0 c1 c2 c3 c4:Value) (wr:World):Prop where
 low:Below w.heap.size w wr
 v:aK w.heap.size c0 c1 c2 c3 c4 wr
 r:aK (w.heap.size+1) (.int .i64 0) (.int .i64 0) (.string ⟨#[]⟩) (.slice none 0 0) (.slice none 0 0) wr
theorem FS.keep {w:World} {c0 c1 c2 c3 c4:Value} {wr w2:World} (h:FS w c0 c1 c2 c3 c4 wr) (hb:Below wr.heap.size wr w2):FS w c0 c1 c2 c3 c4 w2 :=
 ⟨h.low.trans (hb.mono h.low.size),h.v.move hb.size (hb.block _ h.v.lt),h.r.move hb.size (hb.block _ h.r.lt)⟩
theorem FS.put {w:World} {c0 c1 c2 c3 c4:Value} {wr:World} (h:FS w c0 c1 c2 c3 c4 wr) (u0 u1 u2 u3 u4:Value):FS w u0 u1 u2 u3 u4 (ny wr w.heap.size u0 u1 u2 u3 u4) :=
 ⟨h.low.trans ((oO wr w.heap.size u0 u1 u2 u3 u4).below h.low.size),h.v.ny u0 u1 u2 u3 u4,h.r.move (by rw [D5];exact Nat.le_refl _) (uq wr (by omega) _ _ _ _ _)⟩
theorem FS.res {w:World} {c0 c1 c2 c3 c4:Value} {wr:World} (h:FS w c0 c1 c2 c3 c4 wr) (u0 u1 u2 u3 u4:Value):aK (w.heap.size+1) u0 u1 u2 u3 u4 (ny wr (w.heap.size+1) u0 u1 u2 u3 u4)/\Below w.heap.size w (ny wr (w.heap.size+1) u0 u1 u2 u3 u4) :=
 ⟨h.r.ny u0 u1 u2 u3 u4,h.low.trans (((oO wr (w.heap.size+1) u0 u1 u2 u3 u4).below (by have:=h.r.lt;omega)).mono (by omega))⟩
theorem D6 {ps:List ByteArray} {k:Nat} (h:k<ps.length):ps.drop k=ps.getD k ByteArray.empty::ps.drop (k+1):=by
 rw [List.drop_eq_getElem_cons h];simp [List.getD_eq_getElem?_getD,h]
theorem R4 {Tb:World->Prop} (hA:kX Tb) (hI:kW Tb) (hL:fG Tb) (p:Value) (ps:List ByteArray) (f:Nat) (v:Value) (t:T) (w0 w:World) (hb0:Below w0.heap.size w0 w) (hp:lM w p ps) (h:At w0 f v t) (hok:dZ t) (hT:Tb w) :
  Calls Tryz.prog 336 #[p,v] w (Io w0 ps t f w):=by
 have HB0:=aj hb0;clear hb0;obtain ⟨PA,pc,rfl,hpl,hps⟩:=hp;have YX:=aj h;have HK0:=aj hok;obtain ⟨g,La,Ka,Lc,Kc,hfg,rfl,hf,hl,hk⟩:=h.open;have HPS:=aj hps;have HT:=aj hT;have HL:=aj hL;have R5:Hid (∀ (w':World),Below w.heap.size w w'->∀ x f v t,x.size<=140737488355328->At w' f v t->Calls Tryz.prog 338 #[.string x,v] w' fun e w2=>e=.returned (.int .i64 (jN (wL x t)))/\Below w'.heap.size w' w2):=fun w' hb x f v t hx ha=>Im hA hI hL x f v t w' hx ha (hL w hT _ _ hT hb);clear h hok hf hl hk hfg hps hT hL hA hI;go_in;go_wp2_with fail;go_loopg [11] (ps.length) (fun g i wr=>∃ (k:Nat) (tk:T) (gk:Nat) (A B C D:_),g=ps.length - k/\k<=ps.length/\i=.int .i64 k/\gk<=f/\Hid (At w0 gk (.agg #[.int .i64 (ah tk),.int .i64 (aB tk),.string (aF tk),.slice A (nL tk) B,.slice C (nK tk) D]) tk)/\Hid (dZ tk)/\Hid (gJ (ps.drop k) tk=gJ ps t)/\Hid (FS w (.int .i64 (ah tk)) (.int .i64 (aB tk)) (.string (aF tk)) (.slice A (nL tk) B) (.slice C (nK tk) D) wr))
 case atStart =>
  refine ⟨0,t,f,La,Lc,Ka,Kc,rfl,Nat.zero_le _,rfl,Nat.le_refl _,YX,HK0,rfl,⟨(bG _ _).alloc (by simp) _,?_,?_⟩⟩
  ·constructor<;>simp [go_sem]
  ·constructor<;>simp [go_sem]
 case round =>
  obtain ⟨k,tk,gk,A,B,C,D,rfl,hk,rfl,WM,HA,HK,HE,HS⟩:=hrel;by_cases hlt:k<ps.length
  ·obtain ⟨pb,po,rfl,hpb,hxs,hxc⟩:=HPS.out k hlt;have HD:=aj (D6 hlt);generalize ps.getD k ByteArray.empty=x at hxs hxc HD;have hxw:=(HS.out.low.cell (p:=⟨pb,po+k,none⟩) hpb).trans hxc;have HC:=aj (R5.out wr HS.out.low x gk _ tk hxs (HA.out.keep (HB0.out.trans (HS.out.low.mono HB0.out.size))));have q0:=HS.out.v.q0;have q1:=HS.out.v.q1;have q2:=HS.out.v.q2;have q3:=HS.out.v.q3;have q4:=HS.out.v.q4;have HF:Hid (gJ ps t=(wL x tk).bind fun j=>gJ (ps.drop (k+1)) (elt tk j)):=by show _=_;rw [<- HE.out,HD.out];rfl
   clear hxc;cases hpl:wL x tk with
   | none =>
    rw [hpl] at HC HF;have HN:Hid (gJ ps t=none):=HF.out;clear hpl HF;simp only [jN] at HC;go_wp2_with fail;refine HC.out.mono ?_;rintro e w2 ⟨rfl,b2⟩;have HS2:=aj (HS.out.keep b2);clear b2 HC q0 q1 q2 q3 q4;have HR2:=aj HS2.out.r;have HO:=aj (HS2.out.res (.int .i64 0) (.int .i64 0) (.string ⟨#[]⟩) (.slice none 0 0) (.slice none 0 0));have r0:=HR2.out.q0;have r1:=HR2.out.q1;have r2:=HR2.out.q2;have r3:=HR2.out.q3;have r4:=HR2.out.q4;have s0:=HR2.out.f0;have s1:=HR2.out.f1;have s2:=HR2.out.f2;have s3:=HR2.out.f3;have s4:=HR2.out.f4;unfold ny at HO;go_wp2_with fail;clear r0 r1 r2 r3 r4 s0 s1 s2 s3 s4;have sO:=aj HO.out.1;have r0:=sO.out.q0;have r1:=sO.out.q1;have r2:=sO.out.q2;have r3:=sO.out.q3;have r4:=sO.out.q4;refine bodyPost_ret (v:=.tuple #[.agg #[.int .i64 0,.int .i64 0,.string ⟨#[]⟩,.slice none 0 0,.slice none 0 0],.bool false]) (by simp [results,Tryz.results336,go_sem, *]) rfl ?_;exact ⟨HO.out.2,.inr ⟨HN.out,rfl⟩⟩
   | some j =>
    have hj:=KJ hpl HK.out.names;rw [hpl] at HC HF;have ru:Hid (gJ ps t=gJ (ps.drop (k+1)) (elt tk j)):=HF.out;clear hpl HF;simp only [jN] at HC;obtain ⟨g',A',C',B',D',hg',hv',XQ,hel,_⟩:=HA.out.open;have hnl:=XQ.l1;simp only [Value.agg.injEq,Array.mk.injEq,List.cons.injEq,Value.slice.injEq,and_true,true_and] at hv';obtain ⟨⟨rfl,rfl⟩,rfl,rfl⟩:=hv';have CK:Hid (dZ (elt tk j)):=HK.out.elt hj;have OP:=aj hel.out;go_wp2_with fail;refine HC.out.mono ?_;rintro e w2 ⟨rfl,b2⟩;have HS2:=aj (HS.out.keep b2);clear b2 HC q0 q1 q2 q3 q4;obtain ⟨bb,oo,A2,B2,C2,D2,rfl,hbl,p0,p1,p2,p3,p4,Ha⟩:=OP.out.shape (HB0.out.trans (HS2.out.low.mono HB0.out.size)) j hj;have oP:=aj HS2.out.v;have HP:=aj (HS2.out.put (.int .i64 (ah (elt tk j))) (.int .i64 (aB (elt tk j))) (.string (aF (elt tk j))) (.slice A2 (nL (elt tk j)) B2) (.slice C2 (nK (elt tk j)) D2));have r0:=oP.out.q0;have r1:=oP.out.q1;have r2:=oP.out.q2;have r3:=oP.out.q3;have r4:=oP.out.q4;have s0:=oP.out.f0;have s1:=oP.out.f1;have s2:=oP.out.f2;have s3:=oP.out.f3;have s4:=oP.out.f4;unfold ny at HP;go_wp2_with fail;clear r0 r1 r2 r3 r4 s0 s1 s2 s3 s4;go_roundg (ps.length - (k+1))
    case rel=>exact ⟨k+1,elt tk j,g',A2,B2,C2,D2,rfl,by omega,by go_num,by omega,Ha,CK,ru.out.symm,HP⟩
    case measure=>omega
  ·obtain rfl:k=ps.length:=by omega
   have HF:Hid (gJ ps t=some tk):=by show _=_;rw [<- HE.out,List.drop_length];rfl
   have HR2:=aj HS.out.r;have oP:=aj HS.out.v;have HO:=aj (HS.out.res (.int .i64 (ah tk)) (.int .i64 (aB tk)) (.string (aF tk)) (.slice A (nL tk) B) (.slice C (nK tk) D));have v0:=oP.out.q0;have v1:=oP.out.q1;have v2:=oP.out.q2;have v3:=oP.out.q3;have v4:=oP.out.q4;have r0:=HR2.out.q0;have r1:=HR2.out.q1;have r2:=HR2.out.q2;have r3:=HR2.out.q3;have r4:=HR2.out.q4;have s0:=HR2.out.f0;have s1:=HR2.out.f1;have s2:=HR2.out.f2;have s3:=HR2.out.f3;have s4:=HR2.out.f4;unfold ny at HO;go_wp2_with fail;clear r0 r1 r2 r3 r4 s0 s1 s2 s3 s4;have sO:=aj HO.out.1;have r0:=sO.out.q0;have r1:=sO.out.q1;have r2:=sO.out.q2;have r3:=sO.out.q3;have r4:=sO.out.q4;refine bodyPost_ret (v:=.tuple #[.agg #[.int .i64 (ah tk),.int .i64 (aB tk),.string (aF tk),.slice A (nL tk) B,.slice C (nK tk) D],.bool true]) (by simp [results,Tryz.results336,go_sem, *]) rfl ?_;exact ⟨HO.out.2,.inl ⟨tk,gk,A,B,C,D,HF.out,WM,rfl,HA.out,HK.out⟩⟩
theorem Bd (P:T->Bool) (g:FuncId) (hg:∀ (a:Array Value) (w:World),(callFunc g a).run Tryz.prog w=.ok (.enter g a) w) (p:Value) (f:Nat) (La:Option Addr) (Lc:Nat) (t:T) (w:World) (hl:bC w f La t) (hn:nL t<=1759218604442)
  (hP:∀ k,k<nL t->∀ (wr:World) (v:Value),Below w.heap.size w wr->At wr f v (elt t k)->Calls Tryz.prog g #[v,p] wr fun e w'=>e=.returned (.bool (P (elt t k)))/\Below wr.heap.size wr w') :
  Calls Tryz.prog 151 #[.slice La (nL t) Lc,.func (Fn.func g) #[] #[p]] w fun e w'=>Below w.heap.size w w'/\∃ n:Int,e=.returned (.int .i64 n)/\((n=-1/\bg P t (nL t)=false)\/∃ k:Nat,n=(k:Int)/\k<nL t/\P (elt t k)=true/\bg P t k=false):=by
 have Hl:=aj hl;have HP:=aj hP;clear hl hP;go_in;go_wp2_with fail;go_loopg [8] (nL t) (fun g' i wr=>∃ k:Nat,g'=nL t - k/\k<=nL t/\i=.int .i64 k/\Hid (Below w.heap.size w wr)/\Hid (bg P t k=false))
 case atStart=>exact ⟨0,rfl,Nat.zero_le _,rfl,Below.refl _ _,rfl⟩
 case round =>
  obtain ⟨k,rfl,hk,rfl,HB,HN⟩:=hrel;by_cases hlt:k<nL t
  ·obtain ⟨bb,o,A,B,C,D,rfl,hbl,p0,p1,p2,p3,p4,Ha⟩:=Hl.out.shape HB.out k hlt;have HC:=aj (HP.out k hlt wr _ HB.out (At.keep HB.out Ha.out));cases hp:P (elt t k) with
   | true =>
    rw [hp] at HC;have Hp:=aj hp;clear hp;go_wp2_with fail;refine HC.out.mono ?_;rintro e w2 ⟨rfl,b2⟩;have HB2:=aj (HB.out.trans (b2.mono HB.out.size));clear b2;go_wp2_with fail;go_ret;exact ⟨HB2.out,_,rfl,.inr ⟨k,rfl,hlt,Hp.out,HN.out⟩⟩
   | false =>
    rw [hp] at HC;have Qy:Hid (bg P t (k+1)=false):=by show _=_;rw [bg,HN.out,hp];rfl
    clear hp;go_wp2_with fail;refine HC.out.mono ?_;rintro e w2 ⟨rfl,b2⟩;have HB2:=aj (HB.out.trans (b2.mono HB.out.size));clear b2;go_wp2_with fail;go_roundg (nL t - (k+1))
    case rel=>exact ⟨k+1,rfl,by omega,by go_num,HB2,Qy⟩
    case measure=>omega
  ·obtain rfl:k=nL t:=by omega
   go_wp2_with fail;go_ret;exact ⟨HB.out,_,rfl,.inl ⟨rfl,HN.out⟩⟩
theorem nN (P:T->Bool) (g:FuncId) (hg:∀ (a:Array Value) (w:World),(callFunc g a).run Tryz.prog w=.ok (.enter g a) w) (p:Value) (f:Nat) (La:Option Addr) (Lc:Nat) (t:T) (w:World) (hl:bC w f La t) (hn:nL t<=1759218604442)
  (hP:∀ k,k<nL t->∀ (wr:World) (v:Value),Below w.heap.size w wr->At wr f v (elt t k)->Calls Tryz.prog g #[v,p] wr fun e w'=>e=.returned (.bool (P (elt t k)))/\Below wr.heap.size wr w') :
  Calls Tryz.prog 156 #[.slice La (nL t) Lc,.func (Fn.func g) #[] #[p]] w fun e w'=>e=.returned (.bool (bg P t (nL t)))/\Below w.heap.size w w':=by
 have HC:=aj (Bd P g hg p f La Lc t w hl hn hP);clear hl hP hn;go_in;go_wp2_with fail;refine HC.out.mono ?_;rintro e w2 ⟨b2,n,rfl,⟨rfl,hn⟩ | ⟨k,rfl,hk,hp,_⟩⟩
 ·have HB:=aj b2;have HN:=aj hn;clear b2 hn;go_wp2_with fail;go_ret;exact ⟨av HN.out.symm,HB.out⟩
 ·have HB:=aj b2;have HN:=aj (uO hk hp);clear b2 hp;go_wp2_with fail;go_ret;exact ⟨av HN.out.symm,HB.out⟩
theorem mQ (P:T->Bool) (g:FuncId) (hg:∀ (a:Array Value) (w:World),(callFunc g a).run Tryz.prog w=.ok (.enter g a) w) (p:Value) (f:Nat) (La:Option Addr) (Lc:Nat) (t:T) (w:World) (hl:bC w f La t) (hn:nL t<=1759218604442)
  (hP:∀ k,k<nL t->∀ (wr:World) (v:Value),Below w.heap.size w wr->At wr f v (elt t k)->Calls Tryz.prog g #[p,v] wr fun e w'=>e=.returned (.bool (P (elt t k)))/\Below wr.heap.size wr w') :
  Calls Tryz.prog 151 #[.slice La (nL t) Lc,.func (Fn.func g) #[p] #[]] w fun e w'=>Below w.heap.size w w'/\∃ n:Int,e=.returned (.int .i64 n)/\((n=-1/\bg P t (nL t)=false)\/∃ k:Nat,n=(k:Int)/\k<nL t/\P (elt t k)=true/\bg P t k=false):=by
 have Hl:=aj hl;have HP:=aj hP;clear hl hP;go_in;go_wp2_with fail;go_loopg [8] (nL t) (fun g' i wr=>∃ k:Nat,g'=nL t - k/\k<=nL t/\i=.int .i64 k/\Hid (Below w.heap.size w wr)/\Hid (bg P t k=false))
 case atStart=>exact ⟨0,rfl,Nat.zero_le _,rfl,Below.refl _ _,rfl⟩
 case round =>
  obtain ⟨k,rfl,hk,rfl,HB,HN⟩:=hrel;by_cases hlt:k<nL t
  ·obtain ⟨bb,o,A,B,C,D,rfl,hbl,p0,p1,p2,p3,p4,Ha⟩:=Hl.out.shape HB.out k hlt;have HC:=aj (HP.out k hlt wr _ HB.out (At.keep HB.out Ha.out));cases hp:P (elt t k) with
   | true =>
    rw [hp] at HC;have Hp:=aj hp;clear hp;go_wp2_with fail;refine HC.out.mono ?_;rintro e w2 ⟨rfl,b2⟩;have HB2:=aj (HB.out.trans (b2.mono HB.out.size));clear b2;go_wp2_with fail;go_ret;exact ⟨HB2.out,_,rfl,.inr ⟨k,rfl,hlt,Hp.out,HN.out⟩⟩
   | false =>
    rw [hp] at HC;have Qy:Hid (bg P t (k+1)=false):=by show _=_;rw [bg,HN.out,hp];rfl
    clear hp;go_wp2_with fail;refine HC.out.mono ?_;rintro e w2 ⟨rfl,b2⟩;have HB2:=aj (HB.out.trans (b2.mono HB.out.size));clear b2;go_wp2_with fail;go_roundg (nL t - (k+1))
    case rel=>exact ⟨k+1,rfl,by omega,by go_num,HB2,Qy⟩
    case measure=>omega
  ·obtain rfl:k=nL t:=by omega
   go_wp2_with fail;go_ret;exact ⟨HB.out,_,rfl,.inl ⟨rfl,HN.out⟩⟩
theorem vM (P:T->Bool) (g:FuncId) (hg:∀ (a:Array Value) (w:World),(callFunc g a).run Tryz.prog w=.ok (.enter g a) w) (p:Value) (f:Nat) (La:Option Addr) (Lc:Nat) (t:T) (w:World) (hl:bC w f La t) (hn:nL t<=1759218604442)
  (hP:∀ k,k<nL t->∀ (wr:World) (v:Value),Below w.heap.size w wr->At wr f v (elt t k)->Calls Tryz.prog g #[p,v] wr fun e w'=>e=.returned (.bool (P (elt t k)))/\Below wr.heap.size wr w') :
  Calls Tryz.prog 156 #[.slice La (nL t) Lc,.func (Fn.func g) #[p] #[]] w fun e w'=>e=.returned (.bool (bg P t (nL t)))/\Below w.heap.size w w':=by
 have HC:=aj (mQ P g hg p f La Lc t w hl hn hP);clear hl hP hn;go_in;go_wp2_with fail;refine HC.out.mono ?_;rintro e w2 ⟨b2,n,rfl,⟨rfl,hn⟩ | ⟨k,rfl,hk,hp,_⟩⟩
 ·have HB:=aj b2;have HN:=aj hn;clear b2 hn;go_wp2_with fail;go_ret;exact ⟨av HN.out.symm,HB.out⟩
 ·have HB:=aj b2;have HN:=aj (uO hk hp);clear b2 hp;go_wp2_with fail;go_ret;exact ⟨av HN.out.symm,HB.out⟩
def yM:ByteArray:=⟨#[36,110,101]⟩
def mR:ByteArray:=⟨#[36,110,105,110]⟩
def mU:ByteArray:=⟨#[36,110,111,116]⟩
def eG:ByteArray:=⟨#[36,101,120,105,115,116,115]⟩
def qb:ByteArray:=⟨#[36,101,113]⟩
def qc:ByteArray:=⟨#[36,105,110]⟩
def jc:ByteArray:=⟨#[36,115,105,122,101]⟩
def jE:ByteArray:=⟨#[36,107,105,110,100]⟩
def kY:ByteArray:=⟨#[36,97,110,121]⟩
def oQ:ByteArray:=⟨#[36,103,116,101]⟩
def yN:ByteArray:=⟨#[36,103,116]⟩
def qz:ByteArray:=⟨#[36,108,116,101]⟩
def yO:ByteArray:=⟨#[36,108,116]⟩
theorem D7 {g g':T->T->Int} {a b:T}:∀ k,(∀ i,i<k->g (elt a i) (elt b i)=g' (elt a i) (elt b i))->iq g a b k=iq g' a b k
 | 0,_=>rfl
 | k+1,h=>by rw [iq,iq,D7 k (fun i hi=>h i (by omega)),h k (by omega)]
theorem xq:∀ (f f':Nat) (a b:T),uP f a->f<=f'->bq f' a b=bq f a b
 | 0,f',a,b,h,_=>h.elim
 | f+1,f',a,b,h,hf=>by
  obtain ⟨f',rfl⟩:∃ x,f'=x+1:=⟨f' - 1,by omega⟩
  have e:jy (bq f') a b=jy (bq f) a b:=by
   unfold jy;rw [D7 (min (nL a) (nL b)) (fun i hi=>xq f f' _ _ (h i (by omega)) (by omega))]
  unfold bq;rw [e]
def uK (a b:T):Bool:=bq 16 a b==0
def gq (op:ByteArray) (c:Int):Bool:=if op=oQ then (c==0 || decide (0<c)) else if op=yN then decide (0<c) else if op=qz then (c==0 || decide (c<0)) else if op=yO then decide (c<0) else false
def iO (j:T):List (ByteArray×T):=(List.range (nK j)).map fun i=>(bf j i,elt j i)
def lC:Nat->ByteArray×T->T->Bool->Bool
 | 0,_,_,_=>false
 | m+1,p,v,there =>
  if p.1=yM then !(there&&uK v p.2)
  else if p.1=mR then !(there&&bg (uK v) p.2 (nL p.2))
  else if p.1=mU then !((iO p.2).all fun q=>lC m q v there)
  else if p.1=eG then there==(aB p.2==1)
  else there&&(if p.1=qb then uK v p.2 else if p.1=qc then bg (uK v) p.2 (nL p.2)
   else if p.1=jc then (ah v==5&&((nL v:Int)==aB p.2)) else if p.1=jE then ah v==aB p.2
   else if p.1=kY then (ah v==5&&bg (fun e=>(iO p.2).all fun q=>lC m q e true) v (nL v))
   else (ah v==ah p.2&&gq p.1 (bq 16 v p.2)))
def uw (m:Nat) (ps:List (ByteArray×T)) (v:T) (there:Bool):Bool:=ps.all fun q=>lC m q v there
def ji (op:ByteArray):Prop:=op=mU\/op=kY
abbrev R7:=Value->Value->Value->Value->Value->Value->Value->ByteArray×T->Prop
def KL (w:World) (R:R7) (v:Value) (ps:List (ByteArray×T)):Prop :=
 ∃ (A:Option Addr) (c:Nat),v=.slice A ps.length c/\ps.length<=1000000000/\∀ i,(h:i<ps.length)->∃ b o c0 c1 c2 c3 c4 c5 c6,A=some ⟨b,o,none⟩/\b<w.heap.size/\w.cell? ⟨b,o+i*7,none⟩=some c0/\w.cell? ⟨b,o+i*7+1,none⟩=some c1/\w.cell? ⟨b,o+i*7+2,none⟩=some c2/\w.cell? ⟨b,o+i*7+3,none⟩=some c3/\w.cell? ⟨b,o+i*7+4,none⟩=some c4/\w.cell? ⟨b,o+i*7+5,none⟩=some c5/\w.cell? ⟨b,o+i*7+6,none⟩=some c6/\R c0 c1 c2 c3 c4 c5 c6 ps[i]
theorem KL.keep {w w':World} {R R':R7} {v:Value} {ps:List (ByteArray×T)} (h:KL w R v ps) (hb:Below w.heap.size w w') (hR:∀ c0 c1 c2 c3 c4 c5 c6 p,R c0 c1 c2 c3 c4 c5 c6 p->R' c0 c1 c2 c3 c4 c5 c6 p):KL w' R' v ps:=by
 obtain ⟨A,c,hv,hn,h⟩:=h;refine ⟨A,c,hv,hn,fun i hi=>?_⟩;obtain ⟨b,o,c0,c1,c2,c3,c4,c5,c6,h0,hl,q0,q1,q2,q3,q4,q5,q6,hr⟩:=h i hi;exact ⟨b,o,c0,c1,c2,c3,c4,c5,c6,h0,Nat.lt_of_lt_of_le hl hb.size,(hb.cell (p:=⟨b,_,none⟩) hl).trans q0,(hb.cell (p:=⟨b,_,none⟩) hl).trans q1,(hb.cell (p:=⟨b,_,none⟩) hl).trans q2,(hb.cell (p:=⟨b,_,none⟩) hl).trans q3,(hb.cell (p:=⟨b,_,none⟩) hl).trans q4,(hb.cell (p:=⟨b,_,none⟩) hl).trans q5,(hb.cell (p:=⟨b,_,none⟩) hl).trans q6,hR _ _ _ _ _ _ _ _ hr⟩
def lN (w : World) : Nat -> R7
  | 0 => fun _ _ _ _ _ _ _ _ => False
  | m + 1 => fun c0 c1 c2 c3 c4 c5 c6 p => c0 = .string p.1 /\ p.1.size <= 140737488355328 /\
      ((ji p.1 /\ c1 = .int .i64 0 /\ c2 = .int .i64 0 /\ c3 = .string ⟨#[]⟩ /\ c4 = .slice none 0 0 /\ c5 = .slice none 0 0 /\ KL w (lN w m) c6 (iO p.2)) \/
       (¬ ji p.1 /\ c6 = .slice none 0 0 /\ ∃ g A B C D, g <= 16 /\ c1 = .int .i64 (ah p.2) /\ c2 = .int .i64 (aB p.2) /\ c3 = .string (aF p.2) /\ c4 = .slice A (nL p.2) B /\ c5 = .slice C (nK p.2) D /\ At w g (.agg #[.int .i64 (ah p.2), .int .i64 (aB p.2), .string (aF p.2), .slice A (nL p.2) B, .slice C (nK p.2) D]) p.2 /\ dZ p.2))
theorem lN.keep {w w':World} (hb:Below w.heap.size w w'):∀ (m:Nat) (c0 c1 c2 c3 c4 c5 c6:Value) (p:ByteArray×T),lN w m c0 c1 c2 c3 c4 c5 c6 p->lN w' m c0 c1 c2 c3 c4 c5 c6 p
 | 0,_,_,_,_,_,_,_,_,h=>h
 | m+1,c0,c1,c2,c3,c4,c5,c6,p,h=>by
  obtain ⟨h0,h1,⟨hi,z1,z2,z3,z4,z5,hr⟩ | ⟨hi,z6,g,A,B,C,D,hg,z1,z2,z3,z4,z5,ha,hk⟩⟩:=h
  ·exact ⟨h0,h1,.inl ⟨hi,z1,z2,z3,z4,z5,hr.keep hb (lN.keep hb m)⟩⟩
  ·exact ⟨h0,h1,.inr ⟨hi,z6,g,A,B,C,D,hg,z1,z2,z3,z4,z5,ha.keep hb,hk⟩⟩
def kE (w:World) (m:Nat) (v:Value) (ps:List (ByteArray×T)):Prop:=KL w (lN w m) v ps
theorem kE.keep {w w':World} {m:Nat} {v:Value} {ps:List (ByteArray×T)} (h:kE w m v ps) (hb:Below w.heap.size w w'):kE w' m v ps:=KL.keep h hb (lN.keep hb m)
theorem zG {w:World} {f g:Nat} {va vb:Value} {a b:T} (h:At w f va a) (h':At w g vb b) (hf:f<=16) (ka:dZ a) (kb:dZ b) :
  Calls Tryz.prog 158 #[va,vb] w fun e w'=>e=.returned (.bool (uK a b))/\Below w.heap.size w w':=by
 have:=OO f g va vb a b w h h' (ka.1 f) (kb.1 f);have e:uK a b=(bq f a b==0):=by unfold uK;rw [xq f 16 a b h.Xp hf]
 rw [e];exact this
end Go.Proofs.YtknakfpciccoaaaGreatDoor
