import Derived.Test.YtknakfpciccoaaaGreatDoorZF18
import Derived.Test.YtknakfpciccoaaaGreatDoorZF5
import Derived.Test.YtknakfpciccoaaaGreatDoorZF7
/- Filters that are made: how they lie; parseCondition. -/
set_option maxHeartbeats 4000000
set_option maxRecDepth 100000
namespace Go.Proofs.YtknakfpciccoaaaGreatDoor
open Go.RowKit
def tL (w:World) (X:Nat->Prop) (R:Value->T->Prop) (v:Value) (j:T):Prop :=
 ∃ (A:Option Addr) (c:Nat),v=.slice A (nL j) c/\nL j<=1000000000/\∀ i,i<nL j->∃ b o u,A=some ⟨b,o,none⟩/\X b/\w.cell? ⟨b,o+i,none⟩=some u/\R u (elt j i)
theorem tL.move {w w':World} {X X':Nat->Prop} {R R':Value->T->Prop} {v:Value} {j:T} (h:tL w X R v j) (hb:∀ b,X b->w'.heap[b]?=w.heap[b]?/\X' b) (hR:∀ u y,R u y->R' u y):tL w' X' R' v j:=by
 obtain ⟨A,c,hv,hn,h⟩:=h;refine ⟨A,c,hv,hn,fun i hi=>?_⟩;obtain ⟨b,o,u,h0,hl,q,hr⟩:=h i hi;obtain ⟨h1,h2⟩:=hb b hl;exact ⟨b,o,u,h0,h2,(aC h1 _).trans q,hR _ _ hr⟩
theorem tL.at {w:World} {X:Nat->Prop} {R R':Value->T->Prop} {v:Value} {j:T} (h:tL w X R v j) (hX:∀ b,X b->b<w.heap.size) (hR:∀ u y,R u y->R' u y):yQ w R' v j:=by
 obtain ⟨A,c,hv,hn,h⟩:=h;refine ⟨A,c,hv,hn,fun i hi=>?_⟩;obtain ⟨b,o,u,h0,hl,q,hr⟩:=h i hi;exact ⟨b,o,u,h0,hX b hl,q,hR _ _ hr⟩
def tN (w0:lG) (w:World) (X:Nat->Prop) (R:Value->T->Prop) (u:Value) (x:ByteArray) (j:T):Prop :=
 (x=jl/\∃ v,u=.iface 238 v/\tL w X R v j)\/(x=oU/\∃ v,u=.iface 240 v/\tL w X R v j)\/(x=jm/\∃ v,u=.iface 241 v/\tL w X R v j) \/
 (rH x/\∃ pv tv,u=.iface 249 (.agg #[pv,tv])/\vR w X pv (aU x)/\sQ w X (eX w0 w X 16) tv (jO j))
theorem tN.move {w0:lG} {w w':World} {X X':Nat->Prop} {R R':Value->T->Prop} {u:Value} {x:ByteArray} {j:T} (h:tN w0 w X R u x j) (hb:∀ b,X b->w'.heap[b]?=w.heap[b]?/\X' b) (hR:∀ u y,R u y->R' u y):tN w0 w' X' R' u x j:=by
 rcases h with ⟨h1,v,h2,h3⟩ | ⟨h1,v,h2,h3⟩ | ⟨h1,v,h2,h3⟩ | ⟨h1,pv,tv,h2,h3,h4⟩
 ·exact .inl ⟨h1,v,h2,h3.move hb hR⟩
 ·exact .inr (.inl ⟨h1,v,h2,h3.move hb hR⟩)
 ·exact .inr (.inr (.inl ⟨h1,v,h2,h3.move hb hR⟩))
 ·exact .inr (.inr (.inr ⟨h1,pv,tv,h2,h3.move hb,h4.move hb (eX.move hb 16)⟩))
theorem tN.at {w0:lG} {w:World} {X:Nat->Prop} {R R':Value->T->Prop} {u:Value} {x:ByteArray} {j:T} (h:tN w0 w X R u x j) (hX:∀ b,X b->b<w.heap.size) (hb:∀ f v t,yT w0 f v t->At w f v t) (hR:∀ u y,R u y->R' u y):Bh w R' u x j:=by
 rcases h with ⟨h1,v,h2,h3⟩ | ⟨h1,v,h2,h3⟩ | ⟨h1,v,h2,h3⟩ | ⟨h1,pv,tv,h2,h3,h4⟩
 ·exact .inl ⟨h1,v,h2,h3.at hX hR⟩
 ·exact .inr (.inl ⟨h1,v,h2,h3.at hX hR⟩)
 ·exact .inr (.inr (.inl ⟨h1,v,h2,h3.at hX hR⟩))
 ·exact .inr (.inr (.inr ⟨h1,pv,tv,h2,h3.at hX,h4.at hX (eX.at hX hb 16)⟩))
def jd (w0:lG) (w:World) (X:Nat->Prop):Nat->Value->T->Prop
 | 0,_,_=>False
 | m+1,v,t=>∃ (A:Option Addr) (c:Nat),v=.slice A (nK t) c/\nK t<=1000000000/\∀ i,i<nK t->∃ b o u,A=some ⟨b,o,none⟩/\X b/\w.cell? ⟨b,o+i,none⟩=some u/\tN w0 w X (jd w0 w X m) u (bf t i) (elt t i)
theorem jd.move {w0:lG} {w w':World} {X X':Nat->Prop} (hb:∀ b,X b->w'.heap[b]?=w.heap[b]?/\X' b):∀ (m:Nat) (v:Value) (t:T),jd w0 w X m v t->jd w0 w' X' m v t
 | 0,_,_,h=>h
 | m+1,v,t,h=>by
  obtain ⟨A,c,hv,hn,h⟩:=h;refine ⟨A,c,hv,hn,fun i hi=>?_⟩;obtain ⟨b,o,u,h0,hl,q,hr⟩:=h i hi;obtain ⟨h1,h2⟩:=hb b hl;exact ⟨b,o,u,h0,h2,(aC h1 _).trans q,hr.move hb (jd.move hb m)⟩
theorem jd.at {w0:lG} {w:World} {X:Nat->Prop} (hX:∀ b,X b->b<w.heap.size) (hb:∀ f v t,yT w0 f v t->At w f v t):∀ (m:Nat) (v:Value) (t:T),jd w0 w X m v t->gK w m v t
 | 0,_,_,h=>h
 | m+1,v,t,h=>by
  obtain ⟨A,c,hv,hn,h⟩:=h;refine ⟨A,c,hv,hn,fun i hi=>?_⟩;obtain ⟨b,o,u,h0,hl,q,hr⟩:=h i hi;exact ⟨b,o,u,h0,hX b hl,q,hr.at hX hb (jd.at hX hb m)⟩
def qL (g:T->Bool) (x:ByteArray) (j:T):Bool:=if x=jl\/x=oU\/x=jm then ((ah j==5&&decide (0<nL j))&&gB g j (nL j)) else ((!qI x&&fD x)&&vS j)
def aL:Nat->T->Bool
 | 0,_=>false
 | m+1,t=>ah t==6&&eO (fun i=>qL (aL m) (bf t i) (elt t i)) (nK t)
def Z4 (w0:lG) (m:Nat) (t:T) (w:World) (e:Ending) (w':World):Prop :=
 Below w.heap.size w w'/\((aL m t=true/\∃ fv,e=.returned fv/\jd w0 w' (bZ w w') m fv t)\/(aL m t=false/\e=kC 8))
def KU (Tb:World->Prop) (w0:lG) (f:Nat):Prop:=∀ (m:Nat) (v:Value) (t:T) (w:World),f<=m->yT w0 f v t->f<=16->dZ t->Below w0.w.heap.size w0.w w->Tb w->Calls Tryz.prog 150 #[v] w (Z4 w0 m t w)
def KV (w0:lG) (m:Nat) (j:T) (w:World) (e:Ending) (w':World):Prop :=
 Below w.heap.size w w'/\((((ah j==5&&decide (0<nL j))&&gB (aL m) j (nL j))=true/\∃ fv,e=.returned fv/\tL w' (bZ w w') (jd w0 w' (bZ w w') m) fv j)\/(((ah j==5&&decide (0<nL j))&&gB (aL m) j (nL j))=false/\e=kC 8))
def sH (Tb:World->Prop) (w0:lG) (f:Nat):Prop:=∀ (m:Nat) (v:Value) (j:T) (w:World),f<=m+1->yT w0 f v j->f<=16->dZ j->Below w0.w.heap.size w0.w w->Tb w->Calls Tryz.prog 229 #[v] w (KV w0 m j w)
def Ec (w0:lG) (m:Nat) (x:ByteArray) (j:T) (w:World) (e:Ending) (w':World):Prop :=
 Below w.heap.size w w'/\((qL (aL m) x j=true/\∃ u,e=.returned u/\tN w0 w' (bZ w w') (jd w0 w' (bZ w w') m) u x j)\/(qL (aL m) x j=false/\e=kC 8))
theorem FB {Tb:World->Prop} (hL:fG Tb) (w0:lG) (f m:Nat) (ih:sH Tb w0 f) (x:ByteArray) (j:T) (v:Value) (w:World) (hm:f<=m+1) (ha:yT w0 f v j) (hf:f<=16) (kj:dZ j) (hb0:Below w0.w.heap.size w0.w w) (hT:Tb w) (qJ:x=jl) :
  Calls Tryz.prog 190 #[.string x,v] w (Ec w0 m x j w):=by
 obtain ⟨g1,La,Ka,Lc,Kc,hg1,rfl,_,_,_⟩:=ha.open;have HB1:=aj (bG w (vC j La Lc Ka Kc));have HC:=aj (ih m _ j (w.alloc (vC j La Lc Ka Kc)) hm ha hf kj (hb0.trans (HB1.out.mono hb0.size)) (hL w hT _ _ hT HB1.out));have HR:Hid (qL (aL m) x j=((ah j==5&&decide (0<nL j))&&gB (aL m) j (nL j))):=by show _=_;unfold qL;rw [if_pos (.inl qJ)]
 have HG:=aj qJ;have eAnd:(x.toList==[36,97,110,100])=true:=aT qJ;clear ha kj hb0 hT hL ih hg1;clear qJ;go_in;go_wp2_with fail;refine HC.out.mono ?_;rintro e w3 ⟨b3,⟨hok,fv,rfl,hr⟩ | ⟨hok,rfl⟩⟩
 ·have HB3:=aj (HB1.out.trans (b3.mono HB1.out.size));have mv:∀ b,bZ (w.alloc (vC j La Lc Ka Kc)) w3 b->w3.heap[b]?=w3.heap[b]?/\bZ w w3 b:=fun b hb=>⟨rfl,by have:=hb.1;simp at this;omega,hb.2⟩;have om:=aj (hr.move mv (jd.move (w0:=w0) mv m));have HK:=aj (HR.out.trans hok);clear b3 hr hok mv;go_wp2_with fail;go_ret;exact ⟨HB3.out,.inl ⟨HK.out,_,rfl,.inl ⟨HG.out,_,rfl,om.out⟩⟩⟩
 ·exact ⟨rfl,HB1.out.trans (b3.mono HB1.out.size),.inr ⟨HR.out.trans hok,rfl⟩⟩
theorem IG {Tb:World->Prop} (hL:fG Tb) (w0:lG) (f m:Nat) (ih:sH Tb w0 f) (x:ByteArray) (j:T) (v:Value) (w:World) (hm:f<=m+1) (ha:yT w0 f v j) (hf:f<=16) (kj:dZ j) (hb0:Below w0.w.heap.size w0.w w) (hT:Tb w) (J3:x=oU) :
  Calls Tryz.prog 190 #[.string x,v] w (Ec w0 m x j w):=by
 obtain ⟨g1,La,Ka,Lc,Kc,hg1,rfl,_,_,_⟩:=ha.open;have HB1:=aj (bG w (vC j La Lc Ka Kc));have HC:=aj (ih m _ j (w.alloc (vC j La Lc Ka Kc)) hm ha hf kj (hb0.trans (HB1.out.mono hb0.size)) (hL w hT _ _ hT HB1.out));have HR:Hid (qL (aL m) x j=((ah j==5&&decide (0<nL j))&&gB (aL m) j (nL j))):=by show _=_;unfold qL;rw [if_pos (.inr (.inl J3))]
 have HG:=aj J3;have qJ:¬ x=jl:=by rw [J3];decide
 have eAnd:(x.toList==[36,97,110,100])=false:=au qJ;have eOr:(x.toList==[36,111,114])=true:=aT J3;clear ha kj hb0 hT hL ih hg1;clear qJ J3;go_in;go_wp2_with fail;refine HC.out.mono ?_;rintro e w3 ⟨b3,⟨hok,fv,rfl,hr⟩ | ⟨hok,rfl⟩⟩
 ·have HB3:=aj (HB1.out.trans (b3.mono HB1.out.size));have mv:∀ b,bZ (w.alloc (vC j La Lc Ka Kc)) w3 b->w3.heap[b]?=w3.heap[b]?/\bZ w w3 b:=fun b hb=>⟨rfl,by have:=hb.1;simp at this;omega,hb.2⟩;have om:=aj (hr.move mv (jd.move (w0:=w0) mv m));have HK:=aj (HR.out.trans hok);clear b3 hr hok mv;go_wp2_with fail;go_ret;exact ⟨HB3.out,.inl ⟨HK.out,_,rfl,.inr (.inl ⟨HG.out,_,rfl,om.out⟩)⟩⟩
 ·exact ⟨rfl,HB1.out.trans (b3.mono HB1.out.size),.inr ⟨HR.out.trans hok,rfl⟩⟩
theorem FC {Tb:World->Prop} (hL:fG Tb) (w0:lG) (f m:Nat) (ih:sH Tb w0 f) (x:ByteArray) (j:T) (v:Value) (w:World) (hm:f<=m+1) (ha:yT w0 f v j) (hf:f<=16) (kj:dZ j) (hb0:Below w0.w.heap.size w0.w w) (hT:Tb w) (vU:x=jm) :
  Calls Tryz.prog 190 #[.string x,v] w (Ec w0 m x j w):=by
 obtain ⟨g1,La,Ka,Lc,Kc,hg1,rfl,_,_,_⟩:=ha.open;have HB1:=aj (bG w (vC j La Lc Ka Kc));have HC:=aj (ih m _ j (w.alloc (vC j La Lc Ka Kc)) hm ha hf kj (hb0.trans (HB1.out.mono hb0.size)) (hL w hT _ _ hT HB1.out));have HR:Hid (qL (aL m) x j=((ah j==5&&decide (0<nL j))&&gB (aL m) j (nL j))):=by show _=_;unfold qL;rw [if_pos (.inr (.inr vU))]
 have HG:=aj vU;have qJ:¬ x=jl:=by rw [vU];decide
 have eAnd:(x.toList==[36,97,110,100])=false:=au qJ;have J3:¬ x=oU:=by rw [vU];decide
 have eOr:(x.toList==[36,111,114])=false:=au J3;have acI:(x.toList==[36,110,111,114])=true:=aT vU;clear ha kj hb0 hT hL ih hg1;clear qJ J3 vU;go_in;go_wp2_with fail;refine HC.out.mono ?_;rintro e w3 ⟨b3,⟨hok,fv,rfl,hr⟩ | ⟨hok,rfl⟩⟩
 ·have HB3:=aj (HB1.out.trans (b3.mono HB1.out.size));have mv:∀ b,bZ (w.alloc (vC j La Lc Ka Kc)) w3 b->w3.heap[b]?=w3.heap[b]?/\bZ w w3 b:=fun b hb=>⟨rfl,by have:=hb.1;simp at this;omega,hb.2⟩;have om:=aj (hr.move mv (jd.move (w0:=w0) mv m));have HK:=aj (HR.out.trans hok);clear b3 hr hok mv;go_wp2_with fail;go_ret;exact ⟨HB3.out,.inl ⟨HK.out,_,rfl,.inr (.inr (.inl ⟨HG.out,_,rfl,om.out⟩))⟩⟩
 ·exact ⟨rfl,HB1.out.trans (b3.mono HB1.out.size),.inr ⟨HR.out.trans hok,rfl⟩⟩
theorem FD {Tb:World->Prop} (hS:eF Tb) (hL:fG Tb) (w0:lG) (f m:Nat) (x:ByteArray) (j:T) (v:Value) (w:World) (hx:x.size<=4000) (ha:yT w0 f v j) (hf:f<=16) (kj:dZ j) (hb0:Below w0.w.heap.size w0.w w) (hT:Tb w) (hp:rH x) :
  Calls Tryz.prog 190 #[.string x,v] w (Ec w0 m x j w):=by
 obtain ⟨g1,La,Ka,Lc,Kc,hg1,rfl,_,_,_⟩:=ha.open;obtain ⟨qJ,J3,vU⟩:=hp;have HP:Hid (rH x):=⟨qJ,J3,vU⟩;have HB1:=aj (bG w (vC j La Lc Ka Kc));have HR:Hid (qL (aL m) x j=((!qI x&&fD x)&&vS j)):=by show _=_;unfold qL;rw [if_neg (by rintro (h | h | h);exact qJ h;exact J3 h;exact vU h)]
 have HO:=aj (rM x (w.alloc (vC j La Lc Ka Kc)));have HPp:=aj (CS hS x (w.alloc (vC j La Lc Ka Kc)) (by omega) (hL w hT _ _ hT HB1.out));have X0:=aj (fun w' hb'=>vT w0 f _ j w' ha hf kj hb');have Hb0:=aj hb0;have eAnd:(x.toList==[36,97,110,100])=false:=au qJ;have eOr:(x.toList==[36,111,114])=false:=au J3;have acI:(x.toList==[36,110,111,114])=false:=au vU
 have HX:Hid (aK w.heap.size (.int .i64 (ah j)) (.int .i64 (aB j)) (.string (aF j)) (.slice La (nL j) Lc) (.slice Ka (nK j) Kc) (w.alloc (vC j La Lc Ka Kc))):=by
  constructor<;>simp [go_sem]
 clear ha kj hb0 hT hL hS hg1 qJ J3 vU;cases hop:qI x with
 | true =>
  rw [hop] at HO;have HK:Hid (qL (aL m) x j=false):=by show _=_;rw [HR.out,hop];rfl
  clear hop;go_in;go_wp2_with fail;refine HO.out.mono ?_;rintro e w2 ⟨rfl,rfl⟩;go_wp2_with fail;refine (eH false _).mono ?_;rintro e w3 ⟨rfl,he⟩;simp only [Bool.false_eq_true,if_false] at he;subst he;exact ⟨rfl,HB1.out,.inr ⟨HK.out,rfl⟩⟩
 | false =>
  rw [hop] at HO;have HR2:Hid (qL (aL m) x j=(fD x&&vS j)):=by show _=_;rw [HR.out,hop];rfl
  clear hop HR;go_in;go_wp2_with fail;refine HO.out.mono ?_;rintro e w2 ⟨rfl,rfl⟩;go_wp2_with fail;refine (eH true _).mono ?_;rintro e w3 ⟨rfl,he⟩;simp only [if_true] at he;subst he;go_wp2_with fail;refine HPp.out.mono ?_;rintro e w4 ⟨b4,⟨hok,pv,rfl,hpv⟩ | ⟨hok,rfl⟩⟩
  ·have bO:=aj (HB1.out.trans (b4.mono HB1.out.size));have HPv:=aj hpv;have HR3:Hid (qL (aL m) x j=vS j):=by show _=_;rw [HR2.out,hok];rfl
   have Y1:=aj (HX.out.stay b4);have Hb4:=aj b4;have q0:=Y1.out.q0;have q1:=Y1.out.q1;have q2:=Y1.out.q2;have q3:=Y1.out.q3;have q4:=Y1.out.q4;clear b4 hpv hok HPp HO;go_wp2_with fail;refine (eH true _).mono ?_;rintro e w5 ⟨rfl,he⟩;simp only [if_true] at he;subst he;go_wp2_with fail;refine (X0.out _ (Hb0.out.trans (bO.out.mono Hb0.out.size))).mono ?_;rintro e w6 ⟨b6,⟨hok,tv,rfl,htv⟩ | ⟨hok,rfl⟩⟩
   ·obtain ⟨PA,pc,rfl,hp1,hp2⟩:=HPv.out;obtain ⟨TA,tc,rfl,ht1,ht2⟩:=htv;have pX:=aj (bO.out.trans (b6.mono bO.out.size));have acJ:Hid (vR w6 (bZ w w6) (.slice PA (aU x).length pc) (aU x)):=HPv.out.move fun b hb=>⟨b6.block b hb.2,by have:=hb.1;simp at this;omega,Nat.lt_of_lt_of_le hb.2 b6.size⟩
    have acK:Hid (sQ w6 (bZ w w6) (eX w0 w6 (bZ w w6) 16) (.slice TA (jO j).length tc) (jO j)):=by
     exact sQ.move ⟨TA,tc,rfl,ht1,ht2⟩ (fun b hb=>⟨rfl,by have:=hb.1;have:=bO.out.size;omega,hb.2⟩) (eX.move (fun b hb=>⟨rfl,by have:=hb.1;have:=bO.out.size;omega,hb.2⟩) 16)
    have HK:=aj (HR3.out.trans hok);clear b6 hok hp1 hp2 ht1 ht2;go_wp2_with fail;go_ret;exact ⟨pX.out,.inl ⟨HK.out,_,rfl,.inr (.inr (.inr ⟨HP.out,_,_,rfl,acJ.out,acK.out⟩))⟩⟩
   ·exact ⟨rfl,bO.out.trans (b6.mono bO.out.size),.inr ⟨HR3.out.trans hok,rfl⟩⟩
  ·have bO:=aj (HB1.out.trans (b4.mono HB1.out.size));have HK:Hid (qL (aL m) x j=false):=by show _=_;rw [HR2.out,hok];rfl
   clear b4 hok;go_wp2_with fail;refine (eH false _).mono ?_;rintro e w5 ⟨rfl,he⟩;simp only [Bool.false_eq_true,if_false] at he;subst he;exact ⟨rfl,bO.out,.inr ⟨HK.out,rfl⟩⟩
def Z5 (w0:lG) (m:Nat) (w:World) (X:Nat->Prop) (cs:List Value) (y:T):Prop:=∃ u,cs=[u]/\jd w0 w X m u y
theorem qh (w0:lG) (m:Nat):Iz (Z5 w0 m):=fun _ _ _ _ _ _ h hb=>by
 obtain ⟨u,hc,h⟩:=h;exact ⟨u,hc,jd.move hb m _ _ h⟩
def WU (w0:lG) (m:Nat) (w:World) (X:Nat->Prop) (cs:List Value) (p:ByteArray×T):Prop:=∃ u,cs=[u]/\tN w0 w X (jd w0 w X m) u p.1 p.2
theorem nR (w0:lG) (m:Nat):Iz (WU w0 m):=fun _ _ _ _ _ _ h hb=>by
 obtain ⟨u,hc,h⟩:=h;exact ⟨u,hc,h.move hb (jd.move hb m)⟩
def xw (j:T):List T:=(List.range (nL j)).map (elt j)
theorem oW (j:T):(xw j).length=nL j:=by simp [xw]
theorem II {j:T} {i:Nat} (h:i<(xw j).length):(xw j)[i]=elt j i:=by simp [xw]
theorem O6 {j:T} {k:Nat} (h:k<nL j):(xw j).take (k+1)=(xw j).take k++[elt j k]:=by
 have hl:k<(xw j).length:=by rw [oW];exact h
 rw [List.take_succ_eq_append_getElem hl,II]
theorem Vt {j:T} {i:Nat} (h:i<(iO j).length):(iO j)[i]=(bf j i,elt j i):=by simp [iO]
theorem ND {α:Type} {E:World->(Nat->Prop)->List Value->α->Prop} {e:TypeId} {base:Nat} {hv:Value} {l:List α} {xs:List Value} {w wr:World} (h:J2 E 1 e base hv l xs wr) (hlo:w.heap.size<=base):∃ (A:Option Addr) (c:Nat),hv=.slice A l.length c/\∀ i,(hi:i<l.length)->∃ b u,A=some ⟨b,0,none⟩/\bZ w wr b/\(∀ r,Sj 1 xs i=[r]->r=u)/\wr.cell? ⟨b,0+i,none⟩=some u:=by
 have hrow:=h.row;have hx:=h.row.1;rcases h.row.2 with ⟨rfl,h0⟩ | ⟨g,cap,cur,rfl,hb0,hg,_⟩
 ·exact ⟨none,0,by rw [h0],fun i hi=>by omega⟩
 ·refine ⟨some ⟨g,0,none⟩,cap,rfl,fun i hi=>?_⟩;have hgl:=(Array.getElem?_eq_some_iff.1 hg).1;have hxi:i<xs.length:=by omega
  refine ⟨g,xs[i],rfl,⟨by omega,hgl⟩,fun r hr=>?_,?_⟩
  ·have:(Sj 1 xs i)[0]?=some r:=by rw [hr];rfl
   have:=NA this (by omega);rw [Nat.mul_one,Nat.add_zero,List.getElem?_eq_getElem hxi] at this;simpa using this.symm
  ·rw [Nat.zero_add];exact jH hrow (List.getElem?_eq_getElem hxi)
theorem Z6:(Tryz.prog.info? 92).map (fun i=>(i.zero,i.size,i.bytes))=some (some (.slice none 0 0),1,24):=by kernel_rfl
theorem Z7:(Tryz.prog.info? 175).map (fun i=>(i.zero,i.size,i.bytes))=some (some .nilIface,1,16):=by kernel_rfl
theorem jd.shape {w0:lG} {w:World} {X:Nat->Prop} {m:Nat} {u:Value} {y:T} (h:jd w0 w X m u y):∃ A c,u=.slice A (nK y) c:=by
 cases m with
 | zero=>exact h.elim
 | succ m=>obtain ⟨A,c,hv,_⟩:=h;exact ⟨A,c,hv⟩
theorem tN.shape {w0:lG} {w:World} {X:Nat->Prop} {R:Value->T->Prop} {u:Value} {x:ByteArray} {j:T} (h:tN w0 w X R u x j):∃ t v,u=.iface t v:=by
 rcases h with ⟨_,v,h,_⟩ | ⟨_,v,h,_⟩ | ⟨_,v,h,_⟩ | ⟨_,pv,tv,h,_⟩<;>exact ⟨_,_,h⟩
theorem Sz {Tb:World->Prop} (hL:fG Tb) (w0:lG) (f:Nat) (ih:KU Tb w0 f):sH Tb w0 (f+1):=by
 intro m v j w hm ha hf kj hb0 hT;obtain ⟨iF,hiF,zF0,zF1,zF2⟩:=info_parts Z6;obtain ⟨g1,La,Ka,Lc,Kc,hg1,rfl,hfj,hel,hnm⟩:=ha.open;obtain rfl:g1=f:=by omega
 have HB1:=aj (bG w (vC j La Lc Ka Kc));have HT:Hid (∀ w':World,Below w.heap.size w w'->Tb w'):=fun w' hb=>hL w hT w w' hT hb;have JX:=aj kj;have Nu:=aj ih;have OP:=aj hel.out;have hnl:=kj.small.2;clear ha kj ih hel hnm hg1 hfj hT hL;by_cases hk:ah j=5/\0<nL j
 ·obtain ⟨k5,h0⟩:=hk;have e5:(ah j==5)=true:=by simpa using k5
  have h0i:(0:Int)<(nL j:Int):=by omega
  have CK:Hid (((ah j==5&&decide (0<nL j))&&gB (aL m) j (nL j))=gB (aL m) j (nL j)):=by show _=_;rw [e5,decide_eq_true h0];rfl
  unfold KV;rw [CK.out];clear k5 CK;go_in;go_wp2_with fail;refine (eH true _).mono ?_;rintro e w2 ⟨rfl,he⟩;simp only [if_true] at he;subst he;go_wp2_with fail;go_loopg [3,19] (nL j) (fun g o i wr=>∃ (k:Nat) (xs:List Value),g=nL j - k/\k<=nL j/\i=.int .i64 k/\Hid (Below (w.heap.size+1) (w.alloc (vC j La Lc Ka Kc)) wr)/\Hid (J2 (Z5 w0 m) 1 92 (w.heap.size+1) o ((xw j).take k) xs wr)/\Hid (gB (aL m) j k=true))
  case atStart=>exact ⟨0,[],rfl,Nat.zero_le _,rfl,Below.refl _ _,J2.nil _ _ _ _ _,rfl⟩
  case round =>
   obtain ⟨k,xs,rfl,hk,rfl,HB,HL,HN⟩:=hrel;obtain ⟨q0,q1,q2,q3,q4,hz,hbw⟩:=aI HB.out;have pR:=aj (hb0.trans (hbw.mono hb0.size));have dH:=aj hbw;clear hbw;by_cases hlt:k<nL j
   ·obtain ⟨bb,oo,A,B,C,D,rfl,hbl,p0,p1,p2,p3,p4,Ha⟩:=OP.out.shape pR.out k hlt;have sG:=aj (bG wr (vC (elt j k) A B C D));have HC:=aj (Nu.out m _ (elt j k) (wr.alloc (vC (elt j k) A B C D)) (by omega) Ha.out (by omega) (JX.out.elt hlt) (pR.out.trans (sG.out.mono pR.out.size)) (HT.out _ (dH.out.trans (sG.out.mono dH.out.size))));have HA:Hid (gB (aL m) j (k+1)=aL m (elt j k)):=by show _=_;rw [gB,HN.out];simp
    have HA2:Hid (aL m (elt j k)=false->gB (aL m) j (nL j)=false):=fun h=>ES hlt h;have ZX:=aj (O6 hlt);have hxl:((xw j).take k).length=k:=by rw [List.length_take,oW];omega
    go_wp2_with fail;refine HC.out.mono ?_;rintro e w3 ⟨b3,⟨hok,fv,rfl,ht⟩ | ⟨hok,rfl⟩⟩
    ·obtain ⟨A6,c6,rfl⟩:=ht.shape;have oM:=aj (HA.out.trans hok);have ZY:=aj ht;have Hb3:=aj (sG.out.trans (b3.mono sG.out.size));have bO:=aj (bG w3 (.cells #[.slice A6 (nK (elt j k)) c6] 92));have jM:=aj ((HL.out.keep (qh w0 m) Hb3.out).keep (qh w0 m) bO.out);have qd:Hid (Src Tryz.prog 1 237 (.slice (some ⟨w3.heap.size,0,none⟩) 1 1) 1 [.slice A6 (nK (elt j k)) c6] (w3.alloc (.cells #[.slice A6 (nK (elt j k)) c6] 92))):=Src.ofSlice _ Tryz.underlying237 ⟨w3.heap.size,0,none⟩ 1 1 [.slice A6 (nK (elt j k)) c6] (by simp) (World.news_of_block (heap_alloc_new w3 _)) (by simp [Value.oneCell']);have hlo:w.heap.size+1<=(w3.alloc (.cells #[.slice A6 (nK (elt j k)) c6] 92)).heap.size:=by have:=Hb3.out.size;simp;omega
     have DI:Hid (∀ b,bZ (wr.alloc (vC (elt j k) A B C D)) w3 b->wr.heap.size<=b/\b<w3.heap.size):=fun b hb=>⟨by have:=hb.1;simp at this;omega,hb.2⟩;clear b3 hok ht HC HA HA2;go_wp2_with (at_builtin;refine ay _ rfl (.tmp 23) (.tmp 26) 237 237 rfl (w.heap.size+1) 92 iF _ 1 24 Tryz.underlying237 hiF zF0 zF1 zF2 rfl u3 ((xw j).take k).length xs rfl jM.out.row (.slice (some ⟨w3.heap.size,0,none⟩) 1 1) 1 [.slice A6 (nK (elt j k)) c6] rfl qd.out (by unfold maxLen;omega) (by omega) hlo ?_;intro v' w6 gU gQ bI);have pW:=aj (HL.out.grow (x:=elt j k) (cs:=[.slice A6 (nK (elt j k)) c6]) (qh w0 m) (Hb3.out.trans (bO.out.mono Hb3.out.size)) rfl (qh w0 m _ _ _ _ _ _ ⟨_,rfl,ZY.out⟩ (fun b hb=>⟨bO.out.block b hb.2,hb⟩)) (fun b hb=>⟨(DI.out b hb).1,Nat.lt_of_lt_of_le hb.2 bO.out.size⟩) (by omega) gU gQ bI);have pX:=aj (jo ((HB.out.trans (Hb3.out.mono (by omega))).trans (bO.out.mono (by have:=Hb3.out.size;omega))) jM.out.row (Nat.le_refl _) (by omega) gQ);rw [<- ZX.out] at pW;clear gU gQ bI;go_wp2_with fail;go_roundg (nL j - (k+1))
     case rel=>exact ⟨k+1,_,rfl,by omega,by go_num,pX,pW,oM⟩
     case measure=>omega
    ·have Z0:=aj (HA2.out hok);exact ⟨rfl,dH.out.trans ((sG.out.trans (b3.mono sG.out.size)).mono dH.out.size),.inr ⟨Z0.out,rfl⟩⟩
   ·obtain rfl:k=nL j:=by omega
    have R5:Hid ((xw j).take (nL j)=xw j):=by show _=_;rw [List.take_of_length_le (by rw [oW];omega)]
    rw [R5.out] at HL
    have om:Hid (tL wr (bZ w wr) (jd w0 wr (bZ w wr) m) u3 j):=by
     obtain ⟨A,c,hv,hr⟩:=ND (w:=w) HL.out (by omega);rw [oW] at hv;refine ⟨A,c,hv,by omega,fun i hi=>?_⟩;obtain ⟨b,u,h1,h2,h3,h4⟩:=hr i (by rw [oW];exact hi);obtain ⟨u',h5,h6⟩:=HL.out.el i (by rw [oW];exact hi);have h7:=h3 u' h5;subst h7;rw [II] at h6;exact ⟨b,0,u',h1,h2,h4,jd.move (fun b hb=>⟨rfl,by have:=hb.1;omega,hb.2.1⟩) m _ _ h6⟩
    go_wp2_with fail;go_ret;exact ⟨dH.out,.inl ⟨HN.out,_,rfl,om.out⟩⟩
 ·have CK:Hid (((ah j==5&&decide (0<nL j))&&gB (aL m) j (nL j))=false):=by
   show _=_;by_cases k5:ah j=5
   ·rw [decide_eq_false (fun h=>hk ⟨k5,h⟩)];simp
   ·rw [beq_eq_false_iff_ne.2 k5];rfl
  unfold KV;rw [CK.out];by_cases k5:ah j=5
  ·have e5:(ah j==5)=true:=by simpa using k5
   have hd0:decide (0<nL j)=false:=decide_eq_false (fun h=>hk ⟨k5,h⟩);clear hk k5 CK;go_in;go_wp2_with fail;refine (eH false _).mono ?_;rintro e w2 ⟨rfl,he⟩;simp only [Bool.false_eq_true,if_false] at he;subst he;exact ⟨rfl,HB1.out,.inr ⟨trivial,rfl⟩⟩
  ·have e5:(ah j==5)=false:=by simpa using k5
   clear hk k5 CK;go_in;go_wp2_with fail;refine (eH false _).mono ?_;rintro e w2 ⟨rfl,he⟩;simp only [Bool.false_eq_true,if_false] at he;subst he;exact ⟨rfl,HB1.out,.inr ⟨trivial,rfl⟩⟩
theorem O7 {Tb:World->Prop} (hS:eF Tb) (hL:fG Tb) (w0:lG) (f m:Nat) (ih:sH Tb w0 f) (x:ByteArray) (j:T) (v:Value) (w:World) (hx:x.size<=4000) (hm:f<=m+1) (ha:yT w0 f v j) (hf:f<=16) (kj:dZ j) (hb0:Below w0.w.heap.size w0.w w) (hT:Tb w) :
  Calls Tryz.prog 190 #[.string x,v] w (Ec w0 m x j w):=by
 by_cases qJ:x=jl
 ·exact FB hL w0 f m ih x j v w hm ha hf kj hb0 hT qJ
 by_cases J3:x=oU
 ·exact IG hL w0 f m ih x j v w hm ha hf kj hb0 hT J3
 by_cases vU:x=jm
 ·exact FC hL w0 f m ih x j v w hm ha hf kj hb0 hT vU
 exact FD hS hL w0 f m x j v w hx ha hf kj hb0 hT ⟨qJ,J3,vU⟩
theorem NG {Tb:World->Prop} (hS:eF Tb) (hL:fG Tb) (w0:lG) (f:Nat) (ih:sH Tb w0 f):KU Tb w0 (f+1):=by
 intro m v t w hm ha hf kj hb0 hT;obtain ⟨m,rfl⟩:∃ x,m=x+1:=⟨m - 1,by omega⟩;obtain ⟨iC,Y2,Y3,Y4,Y5⟩:=info_parts Z7;obtain ⟨g1,La,Ka,Lc,Kc,hg1,rfl,hfj,hel,hnm⟩:=ha.open;obtain rfl:g1=f:=by omega
 have HB1:=aj (bG w (vC t La Lc Ka Kc));have HT:Hid (∀ w':World,Below w.heap.size w w'->Tb w'):=fun w' hb=>hL w hT w w' hT hb;have HPc:Hid (∀ (x:ByteArray) (j:T) (v:Value) (w:World),x.size<=4000->yT w0 g1 v j->dZ j->Below w0.w.heap.size w0.w w->Tb w->Calls Tryz.prog 190 #[.string x,v] w (Ec w0 m x j w)):=fun x j v w hx ha kj hb hT=>O7 hS hL w0 g1 m ih x j v w hx (by omega) ha (by omega) kj hb hT;have JX:=aj kj;have OP:=aj hel.out;have XU:=aj hnm.out;have hnk:=kj.small.1;have hnl:=kj.small.2;clear ha kj ih hel hnm hg1 hfj hT hL hS;by_cases k6:ah t=6
 ·have e6:(ah t==6)=true:=by simpa using k6
  have HKL:=aj (JX.out.names k6);have CK:Hid (aL (m+1) t=eO (fun i=>qL (aL m) (bf t i) (elt t i)) (nK t)):=by show _=_;rw [aL,e6];rfl
  clear k6;go_in;go_wp2_with fail;refine (eH true _).mono ?_;rintro e w2 ⟨rfl,he⟩;simp only [if_true] at he;subst he;go_wp2_with fail;go_loopg [3,13] (nK t) (fun g o i wr=>∃ (k:Nat) (xs:List Value),g=nK t - k/\k<=nK t/\i=.int .i64 k/\Hid (Below (w.heap.size+1) (w.alloc (vC t La Lc Ka Kc)) wr)/\Hid (J2 (WU w0 m) 1 175 (w.heap.size+1) o ((iO t).take k) xs wr)/\Hid (eO (fun i=>qL (aL m) (bf t i) (elt t i)) k=true))
  case atStart=>exact ⟨0,[],rfl,Nat.zero_le _,rfl,Below.refl _ _,J2.nil _ _ _ _ _,rfl⟩
  case round =>
   obtain ⟨k,xs,rfl,hk,rfl,HB,HL,HN⟩:=hrel;obtain ⟨q0,q1,q2,q3,q4,hz,hbw⟩:=aI HB.out;have pR:=aj (hb0.trans (hbw.mono hb0.size));have dH:=aj hbw;clear hbw;by_cases hlt:k<nK t
   ·have Fz:k<nL t:=by have:=HKL.out;omega
    obtain ⟨kb,ko,rfl,hkb,hks,hkc⟩:=XU.out.keep pR.out k hlt;obtain ⟨bb,oo,A,B,C,D,rfl,hbl,p0,p1,p2,p3,p4,Ha⟩:=OP.out.shape pR.out k Fz;have HC:=aj (HPc.out (bf t k) (elt t k) _ wr (JX.out.bf hlt) Ha.out (JX.out.elt Fz) pR.out (HT.out _ dH.out));have HA:Hid (eO (fun i=>qL (aL m) (bf t i) (elt t i)) (k+1)=qL (aL m) (bf t k) (elt t k)):=by show _=_;rw [eO,HN.out];simp
    have HA2:Hid (qL (aL m) (bf t k) (elt t k)=false->aL (m+1) t=false):=fun h=>by rw [CK.out];exact nP (p:=fun i=>qL (aL m) (bf t i) (elt t i)) h _ hlt
    have ZX:=aj (IE hlt);have hxl:((iO t).take k).length=k:=by rw [List.length_take,lZ];omega
    go_wp2_with fail;refine HC.out.mono ?_;rintro e w3 ⟨b3,⟨hok,fv,rfl,ht⟩ | ⟨hok,rfl⟩⟩
    ·obtain ⟨t6,v6,rfl⟩:=ht.shape;have oM:=aj (HA.out.trans hok);have ZY:=aj ht;have Hb3:=aj b3;have bO:=aj (bG w3 (.cells #[.iface t6 v6] 175));have jM:=aj ((HL.out.keep (nR w0 m) Hb3.out).keep (nR w0 m) bO.out);have qd:Hid (Src Tryz.prog 1 92 (.slice (some ⟨w3.heap.size,0,none⟩) 1 1) 1 [.iface t6 v6] (w3.alloc (.cells #[.iface t6 v6] 175))):=Src.ofSlice _ Tryz.underlying92 ⟨w3.heap.size,0,none⟩ 1 1 [.iface t6 v6] (by simp) (World.news_of_block (heap_alloc_new w3 _)) (by simp [Value.oneCell']);have hlo:w.heap.size+1<=(w3.alloc (.cells #[.iface t6 v6] 175)).heap.size:=by have:=Hb3.out.size;simp;omega
     clear b3 hok ht HC HA HA2;go_wp2_with (at_builtin;refine ay _ rfl (.tmp 18) (.tmp 26) 92 92 rfl (w.heap.size+1) 175 iC _ 1 16 Tryz.underlying92 Y2 Y3 Y4 Y5 rfl u3 ((iO t).take k).length xs rfl jM.out.row (.slice (some ⟨w3.heap.size,0,none⟩) 1 1) 1 [.iface t6 v6] rfl qd.out (by unfold maxLen;omega) (by omega) hlo ?_;intro v' w6 gU gQ bI);have pW:=aj (HL.out.grow (x:=(bf t k,elt t k)) (cs:=[.iface t6 v6]) (nR w0 m) (Hb3.out.trans (bO.out.mono Hb3.out.size)) rfl (nR w0 m _ _ _ _ _ _ ⟨_,rfl,ZY.out⟩ (fun b hb=>⟨bO.out.block b hb.2,hb⟩)) (fun b hb=>⟨hb.1,Nat.lt_of_lt_of_le hb.2 bO.out.size⟩) (by omega) gU gQ bI);have pX:=aj (jo ((HB.out.trans (Hb3.out.mono (by omega))).trans (bO.out.mono (by have:=Hb3.out.size;omega))) jM.out.row (Nat.le_refl _) (by omega) gQ);rw [<- ZX.out] at pW;clear gU gQ bI;go_wp2_with fail;go_roundg (nK t - (k+1))
     case rel=>exact ⟨k+1,_,rfl,by omega,by go_num,pX,pW,oM⟩
     case measure=>omega
    ·have Z0:=aj (HA2.out hok);exact ⟨rfl,dH.out.trans (b3.mono dH.out.size),.inr ⟨Z0.out,rfl⟩⟩
   ·obtain rfl:k=nK t:=by omega
    have R5:Hid ((iO t).take (nK t)=iO t):=by show _=_;rw [List.take_of_length_le (by rw [lZ];omega)]
    rw [R5.out] at HL
    have om:Hid (jd w0 wr (bZ w wr) (m+1) u3 t):=by
     obtain ⟨A,c,hv,hr⟩:=ND (w:=w) HL.out (by omega);rw [lZ] at hv;refine ⟨A,c,hv,by omega,fun i hi=>?_⟩;obtain ⟨b,u,h1,h2,h3,h4⟩:=hr i (by rw [lZ];exact hi);obtain ⟨u',h5,h6⟩:=HL.out.el i (by rw [lZ];exact hi);have h7:=h3 u' h5;subst h7;rw [Vt] at h6;have mv:∀ b,ZV (w.heap.size+1) u3 wr b->wr.heap[b]?=wr.heap[b]?/\bZ w wr b:=fun b hb=>⟨rfl,by have:=hb.1;omega,hb.2.1⟩;exact ⟨b,0,u',h1,h2,h4,h6.move mv (jd.move mv m)⟩
    have XV:=aj (CK.out.trans HN.out);go_wp2_with fail;go_ret;exact ⟨dH.out,.inl ⟨XV.out,_,rfl,om.out⟩⟩
 ·have e6:(ah t==6)=false:=by simpa using k6
  have CK:Hid (aL (m+1) t=false):=by show _=_;rw [aL,e6];rfl
  clear k6;go_in;go_wp2_with fail;refine (eH false _).mono ?_;rintro e w2 ⟨rfl,he⟩;simp only [Bool.false_eq_true,if_false] at he;subst he;exact ⟨rfl,HB1.out,.inr ⟨CK.out,rfl⟩⟩
theorem SA {Tb:World->Prop} (hS:eF Tb) (hL:fG Tb) (w0:lG):∀ f,KU Tb w0 f
 | 0=>fun _ _ _ _ _ h=>h.elim
 | 1=>NG hS hL w0 0 (fun _ _ _ _ _ h=>h.elim)
 | f+2=>NG hS hL w0 (f+1) (Sz hL w0 f (SA hS hL w0 f))
theorem Bp (be:Nat) (n:Int) (w:World) (x:Value) (h5:w.cell? ⟨be,0,none⟩=some x) (f5:w.frozen? ⟨be,0,none⟩=false) :
  CallsD Tryz.prog 188 #[.pointer (some ⟨be,0,none⟩)] (.panicking [{ v:=.iface 132 (.int .i64 n),recovered:=false }]) w fun e u' w' =>
   e=.returned (.tuple #[])/\u'=.panicking [{ v:=.iface 132 (.int .i64 n),recovered:=true }]/\w'=w.setCell ⟨be,0,none⟩ (.int .i64 n):=by
 refine callsD_of_wpS Tryz.func188 rfl fun c₀ cs hu=>?_;apply wpS_seq;apply wpS_region;simp [wpOpsS,go_sem,recoverD,hu,Tryz.ntmps188,Exit.thenS];refine wpS_of_wp ?_;have hta:=qY n;have e:(#[Value.pointer (some { block:=be,off:=0 })]++(Array.replicate 10 undef).setIfInBounds 3 (Value.iface 132 (Value.int IntKind.i64 n)))=#[.pointer (some ⟨be,0,none⟩),undef,undef,undef,.iface 132 (.int .i64 n),undef,undef,undef,undef,undef,undef]:=rfl;rw [e];go_wp2_with fail;simp [bodyPostS,results,Tryz.results188]
theorem IJ (be:Nat) (w:World) :
  CallsD Tryz.prog 188 #[.pointer (some ⟨be,0,none⟩)] .returning w fun e u' w'=>e=.returned (.tuple #[])/\u'=.returning/\w'=w:=by
 refine callsD_of_wpS Tryz.func188 rfl fun c₀ cs hu=>?_;apply wpS_seq;apply wpS_region;simp [wpOpsS,go_sem,recoverD,hu,Tryz.ntmps188,Exit.thenS];refine wpS_of_wp ?_;go_wp2_with fail;cases c₀
 simp_all [bodyPostS,results,Tryz.results188]
def jX (w:World):World:=w.alloc (.cells #[.int .i64 0] 28)
theorem vV (w:World):(jX w).cell? ⟨w.heap.size,0,none⟩=some (.int .i64 0)/\(jX w).frozen? ⟨w.heap.size,0,none⟩=false/\(jX w).heap.size=w.heap.size+1/\Below w.heap.size w (jX w) :=
 ⟨by simp [jX,go_sem],by simp [jX,go_sem],by simp [jX],bG _ _⟩
def WV (Q:Prop) (R:Value->World->Prop) (w:World) (e:Ending) (w':World):Prop :=
 Below w.heap.size w w'/\((∃ v,e=.returned v/\R v w')\/(Q/\e=kC 8))
theorem SB (g:Nat) (hg:∀ (a:Array Value) (w:World),(callFunc g a).run Tryz.prog w=.ok (.enter g a) w) (Q:Prop) (R:Value->World->Prop) (p:Value) (w:World)
  (h:Calls Tryz.prog g #[p] (jX w) (WV Q R (jX w))) :
  Calls Tryz.prog 148 #[.func (Fn.func g) #[] #[p]] w fun e w'=>Below w.heap.size w w'/\((∃ x w2,e=.returned (.tuple #[x,.int .i64 0])/\R x w2/\uY (w.heap.size+1) w2 w'/\Below w.heap.size w w2)\/(Q/\e=.returned (.tuple #[.slice none 0 0,.int .i64 8]))):=by
 have Zm:∀ (fn:Fn) (first cap:Array Value) (w:World),(Instr.makeFunc fn first cap).run Tryz.prog w=.ok (.func fn first cap) w:=fun _ _ _ _=>rfl;have H:=aj h;have HF:=aj (vV w);clear h;go_enter_defers Tryz.func148,Tryz.ntmps148;go_wp2_with fail;refine H.out.mono ?_;rintro e w1 ⟨hb,hr⟩;have l0:w.heap.size<(jX w).heap.size:=by have:=HF.out.2.2.1;omega
 have a5:=(hb.cell (p:=⟨w.heap.size,0,none⟩) l0).trans HF.out.1;have z5:=(hb.frozen (p:=⟨w.heap.size,0,none⟩) l0).trans HF.out.2.1;have HB:=aj (HF.out.2.2.2.trans (hb.mono HF.out.2.2.2.size));clear hb l0 H;rcases hr with ⟨v,rfl,hR⟩ | ⟨hQ,rfl⟩
 ·have HR:=aj hR;clear hR;go_wp2_with fail;refine leaves_cons (f:=188) (args:=#[.pointer (some ⟨w.heap.size,0,none⟩)]) (by simp) (by simp [go_sem]) ?_;refine (IJ w.heap.size _).mono ?_;rintro e u' w'' ⟨rfl,rfl,rfl⟩;simp only [Leaves,settle];refine ⟨_,by simp [results,Tryz.results148,go_sem, *],?_,Or.inl ⟨_,w1,rfl,HR.out,?_,HB.out⟩⟩
  ·exact HB.out.setCell (Nat.le_refl _) _
  ·exact (uY.refl _ _).set (by omega) _ _
 ·have HQ:=aj hQ;clear hQ;go_wp2_with fail;refine leaves_cons (f:=188) (args:=#[.pointer (some ⟨w.heap.size,0,none⟩)]) (by simp) (by simp [go_sem]) ?_;refine (Bp w.heap.size 8 _ _ a5 z5).mono ?_;rintro e u' w'' ⟨rfl,rfl,rfl⟩;simp only [settle];refine ⟨_,by simp [results,Tryz.results148,go_sem, *],?_,Or.inr ⟨HQ.out,rfl⟩⟩;exact HB.out.setCell (Nat.le_refl _) _
def NH (w0:lG) (t:T) (w:World) (e:Ending) (w':World):Prop :=
 Below w.heap.size w w'/\((aL 16 t=true/\∃ fv,e=.returned (.tuple #[fv,.int .i64 0])/\jd w0 w' (bZ w w') 16 fv t)\/(aL 16 t=false/\e=.returned (.tuple #[.slice none 0 0,.int .i64 8])))
theorem FE {Tb:World->Prop} (hS:eF Tb) (hL:fG Tb) (w0:lG) (f:Nat) (v:Value) (t:T) (w:World) (hf:f<=16) (ha:yT w0 f v t) (kj:dZ t) (hb0:Below w0.w.heap.size w0.w w) (hT:Tb w) (p:Nat)
  (La Ka:Option Addr) (Lc Kc:Nat) (hv:v=.agg #[.int .i64 (ah t),.int .i64 (aB t),.string (aF t),.slice La (nL t) Lc,.slice Ka (nK t) Kc])
  (q0:w.cell? ⟨p,0,none⟩=some (.int .i64 (ah t))) (q1:w.cell? ⟨p,1,none⟩=some (.int .i64 (aB t))) (q2:w.cell? ⟨p,2,none⟩=some (.string (aF t))) (q3:w.cell? ⟨p,3,none⟩=some (.slice La (nL t) Lc)) (q4:w.cell? ⟨p,4,none⟩=some (.slice Ka (nK t) Kc)) :
  Calls Tryz.prog 149 #[.pointer (some ⟨p,0,none⟩)] w (WV (aL 16 t=false) (fun fv w'=>aL 16 t=true/\jd w0 w' (bZ w w') 16 fv t) w):=by
 subst hv;have HC:=aj (SA hS hL w0 f 16 _ t w hf ha hf kj hb0 hT);clear ha kj hb0 hT hS hL hf;go_in;go_wp2_with fail;refine HC.out.mono ?_;rintro e w3 ⟨b3,⟨hok,fv,rfl,hr⟩ | ⟨hok,rfl⟩⟩
 ·have HB3:=aj b3;have HR:=aj hr;have HK:=aj hok;clear b3 hr hok;go_wp2_with fail;go_ret;exact ⟨HB3.out,.inl ⟨_,rfl,HK.out,HR.out⟩⟩
 ·exact ⟨rfl,b3,.inr ⟨hok,rfl⟩⟩
theorem KW {Tb:World->Prop} (hS:eF Tb) (hL:fG Tb) (w0:lG) (f:Nat) (v:Value) (t:T) (w:World) (hf:f<=16) (ha:yT w0 f v t) (kj:dZ t) (hb0:Below w0.w.heap.size w0.w w) (hT:Tb w) :
  Calls Tryz.prog 110 #[v] w (NH w0 t w):=by
 have Zm:∀ (fn:Fn) (first cap:Array Value) (w:World),(Instr.makeFunc fn first cap).run Tryz.prog w=.ok (.func fn first cap) w:=fun _ _ _ _=>rfl;obtain ⟨g1,La,Ka,Lc,Kc,hg1,hv,_,_,_⟩:=ha.open;have HB1:=aj (bG w (vC t La Lc Ka Kc));have HE:=aj (vV (w.alloc (vC t La Lc Ka Kc)));have hbb:Below (w.heap.size+1) (w.alloc (vC t La Lc Ka Kc)) (jX (w.alloc (vC t La Lc Ka Kc))):=HE.out.2.2.2.mono (by simp);obtain ⟨q0,q1,q2,q3,q4,hz,hbw⟩:=aI hbb;have HI:=aj (FE hS hL w0 f v t (jX (w.alloc (vC t La Lc Ka Kc))) hf ha kj (hb0.trans (hbw.mono hb0.size)) (hL w hT _ _ hT hbw) w.heap.size La Ka Lc Kc hv q0 q1 q2 q3 q4);have HA:=aj (SB 149 (fun _ _=>rfl) (aL 16 t=false) _ (.pointer (some ⟨w.heap.size,0,none⟩)) _ HI.out);subst hv;clear ha kj hb0 hT hS hL hf hbb q0 q1 q2 q3 q4 hz hbw HI;go_in;go_wp2_with fail;refine HA.out.mono ?_;rintro e w3 ⟨b3,⟨x,w2,rfl,⟨hok,hr⟩,hab,hb2⟩ | ⟨hok,rfl⟩⟩
 ·have HB3:=aj (HB1.out.trans (b3.mono HB1.out.size));have HK:=aj hok
  have mv:∀ b,bZ (jX (w.alloc (vC t La Lc Ka Kc))) w2 b->w3.heap[b]?=w2.heap[b]?/\bZ w w3 b:=fun b hb=>by
   have h1:=HE.out.2.2.1;have h2:=hb.1;have h3:=hab.size;have h4:=hb.2;have h5:(w.alloc (vC t La Lc Ka Kc)).heap.size=w.heap.size+1:=by simp
   exact ⟨hab.block b (by omega),by omega,by omega⟩
  have HR:=aj (jd.move (w0:=w0) mv 16 _ _ hr);clear b3 hr hok hab hb2 mv;go_wp2_with fail;refine bodyPost_ret (v:=.tuple #[x,.int .i64 0]) (by simp [results,Tryz.results110,go_sem, *]) rfl ?_;exact ⟨HB3.out,.inl ⟨HK.out,_,rfl,HR.out⟩⟩
 ·have HB3:=aj (HB1.out.trans (b3.mono HB1.out.size));have HK:=aj hok;clear b3 hok;go_wp2_with fail;refine bodyPost_ret (v:=.tuple #[.slice none 0 0,.int .i64 8]) (by simp [results,Tryz.results110,go_sem, *]) rfl ?_;exact ⟨HB3.out,.inr ⟨HK.out,rfl⟩⟩
theorem uh.blt {B b:Nat} {acc:List UInt8} {w w':World} (h:uh B b acc w w'):b<w'.heap.size:=h.Ko.elim (fun x=>x.lt) (fun x=>x.lt)
theorem zI {w wr:World} {b:Nat} {c0 c1 c2 c3 c4:Value} (ho:Lib.OthersKept 5 (some b) (w.alloc (.cells #[c0,c1,c2,c3,c4] 25)) wr) (hb:b<w.heap.size) :
  wr.cell? ⟨w.heap.size,0,none⟩=some c0/\wr.cell? ⟨w.heap.size,1,none⟩=some c1/\wr.cell? ⟨w.heap.size,2,none⟩=some c2/\wr.cell? ⟨w.heap.size,3,none⟩=some c3/\wr.cell? ⟨w.heap.size,4,none⟩=some c4:=by
 have e0:(w.alloc (.cells #[c0,c1,c2,c3,c4] 25)).heap[w.heap.size]?=some (.cells #[c0,c1,c2,c3,c4] 25):=by show (w.heap.push _)[w.heap.size]?=_;simp
 have e:=ho w.heap.size _ e0 (by simp;omega) (fun c fz h=>by injection h with _ h2;exact absurd h2 (by decide));refine ⟨?_,?_,?_,?_,?_⟩<;>simp [World.cell?,e]
theorem CU {Tb:World->Prop} (w0:World) (hS:dB Tb w0.heap.size) (m:Nat) (ih:AL Tb w0 m) (f:Nat) (La:Option Addr) (Lc:Nat) (t:T) (acc:List UInt8) (b:Nat) (w:World)
  (hl:bC w0 f La t) (hn:nL t<=1759218604442) (hg:∀ i,i<nL t->fJ m (elt t i)) (hb:Below w0.heap.size w0 w) (h:Lib.IsBuilderF 65 5 w0.heap.size b (Lib.byteCells acc) w) (hT:Tb w)
  (hlen:acc.length+(cO (dD m) t (nL t)).length+2<=100000000) :
  Calls Tryz.prog 78 #[.pointer (some ⟨b,0,none⟩),.slice La (nL t) Lc] w (Dw w0.heap.size b (acc++(91::(cO (dD m) t (nL t)++[93]))) w):=by
 have HS:=aj (uh.start h hb.size);have HST:=aj hS;have sN:=aj ih;have Hl:=aj hl;have Hg:=aj hg;have Hb:=aj hb;have HT:=aj hT;have HM:Hid (∀ k,k<=nL t->(cO (dD m) t k).length+acc.length+2<=100000000):=aj (fun k hk=>by have:=AA (dD m) t hk;omega);have HE:Hid (acc++(91::(cO (dD m) t (nL t)++[93]))=acc++[91]++cO (dD m) t (nL t)++[93]):=by show _=_;simp
 have hl0:acc.length<=100000000:=by omega
 clear h hS ih hl hg hb hT hlen;go_in;go_wp2_with fail;refine (bR w0.heap.size b acc 91 w w HS.out (by omega)).mono ?_;rintro e w1 ⟨rfl,hw1⟩;have H1:=aj hw1;clear hw1;go_wp2_with fail;go_loopg [10] (nL t) (fun g i wr=>∃ k:Nat,g=nL t - k/\k<=nL t/\i=.int .i64 k/\Hid (uh w0.heap.size b (acc++[91]++cO (dD m) t k) w wr))
 case atStart=>exact ⟨0,rfl,Nat.zero_le _,rfl,H1.out.acc (by simp [cO])⟩
 case round =>
  obtain ⟨k,rfl,hk,rfl,HW⟩:=hrel;have pR:=aj (Hb.out.trans HW.out.below);have Y0:=aj (HST.out _ _ HT.out HW.out.below);by_cases hlt:k<nL t
  ·obtain ⟨bb,o,A,B,C,D,rfl,hbl,p0,p1,p2,p3,p4,Ha⟩:=Hl.out.shape pR.out k hlt;have Z8:=aj (HM.out (k+1) hlt);have hm0:=HM.out k hk;have HG:=aj (Hg.out k hlt);have hblt:=HW.out.blt;have hB1:Below wr.heap.size wr (wr.alloc (vC (elt t k) A B C D)):=bG _ _;have HB1:=aj hB1;have HW1:=aj (HW.out.keep hB1);have HT1:=aj (HST.out _ _ Y0.out (hB1.mono HW.out.lo'));have Hb1:=aj (Hb.out.trans HW1.out.below);clear hB1;by_cases hk0:k=0
   ·have HJ:Hid (cO (dD m) t (k+1)=cO (dD m) t k++dD m (elt t k)):=by show cO (dD m) t k++_=_;rw [if_pos hk0];simp
    subst hk0;simp only [Nat.zero_mul,Nat.add_zero] at p0 p1 p2 p3 p4;go_wp2_with fail;refine (sN.out f _ (elt t 0) (acc++[91]++cO (dD m) t 0) b _ Ha.out HG.out Hb1.out HW1.out.Ko HT1.out (by have:=Z8.out;rw [HJ.out] at this;simp only [List.length_append,List.length_cons,List.length_nil] at this ⊢;omega)).mono ?_;rintro e w2 ⟨rfl,hw2⟩;have H2:=aj (HW1.out.trans hw2);clear hw2;go_wp2_with fail;go_roundg (nL t - (0+1))
    case rel=>exact ⟨0+1,rfl,by omega,by go_num,H2.out.acc (by rw [HJ.out];simp)⟩
    case measure=>omega
   ·have HJ:Hid (cO (dD m) t (k+1)=cO (dD m) t k++([44]++dD m (elt t k))):=by show cO (dD m) t k++_=_;rw [if_neg hk0]
    have y0:0<k:=by omega
    have y1:(0:Int)<(k:Int):=by omega
    clear hk0;go_wp2_with fail;refine (bR w0.heap.size b _ 44 w _ HW1.out (by simp only [List.length_append,List.length_cons,List.length_nil];omega)).mono ?_;rintro e w2 ⟨rfl,hw2⟩;obtain ⟨r0,r1,r2,r3,r4⟩:=zI hw2.JR hblt;have HW2:=aj (HW1.out.trans hw2);have HT2:=aj (HST.out _ _ HT1.out hw2.below);have Hb2:=aj (Hb.out.trans HW2.out.below);clear hw2;go_wp2_with fail;refine (sN.out f _ (elt t k) (acc++[91]++cO (dD m) t k++[44]) b _ Ha.out HG.out Hb2.out HW2.out.Ko HT2.out (by have:=Z8.out;rw [HJ.out] at this;simp only [List.length_append,List.length_cons,List.length_nil] at this ⊢;omega)).mono ?_;rintro e w3 ⟨rfl,hw3⟩;have H3:=aj (HW2.out.trans hw3);clear hw3;go_wp2_with fail;go_roundg (nL t - (k+1))
    case rel=>exact ⟨k+1,rfl,by omega,by go_num,H3.out.acc (by rw [HJ.out];simp)⟩
    case measure=>omega
  ·obtain rfl:k=nL t:=by omega
   have hm0:=HM.out (nL t) hk;go_wp2_with fail;refine (bR w0.heap.size b _ 93 w wr HW.out (by simp only [List.length_append,List.length_cons,List.length_nil];omega)).mono ?_;rintro e w2 ⟨rfl,hw2⟩;have H2:=aj (HW.out.trans hw2);clear hw2;go_wp2_with fail;refine bodyPost_end (v:=.tuple #[]) (by simp [results,Tryz.results78,go_sem]) rfl ?_;exact ⟨rfl,H2.out.acc HE.out.symm⟩
end Go.Proofs.YtknakfpciccoaaaGreatDoor
