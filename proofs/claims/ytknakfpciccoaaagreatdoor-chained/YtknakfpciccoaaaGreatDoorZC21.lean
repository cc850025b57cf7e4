import Derived.Test.YtknakfpciccoaaaGreatDoorZC20
import Derived.Test.YtknakfpciccoaaaGreatDoorZC16
import Derived.Test.YtknakfpciccoaaaGreatDoorZC2
import Derived.Test.YtknakfpciccoaaaGreatDoorZC1
import Derived.Test.YtknakfpciccoaaaGreatDoorZC3
import Derived.Test.YtknakfpciccoaaaGreatDoorZC9
import Derived.Test.YtknakfpciccoaaaGreatDoorZC18
import Derived.Test.YtknakfpciccoaaaGreatDoorZC19
import Derived.Test.YtknakfpciccoaaaGreatDoorZC10
/- Insert. -/
set_option maxHeartbeats 4000000
set_option maxRecDepth 100000
namespace Go.Proofs.YtknakfpciccoaaaGreatDoor
open Go.RowKit Go.Maps Go.WideMaps
def jQ (s:ByteArray):Option Int:=if eJ s≠0 then some (eJ s) else if lg (tJ s)=false then some 7 else if bR (tJ s)=true then some 15 else none
def ab5 (w:World) (x s:ByteArray) (Dm:DataW Unit) (lf:Nat->List T) (vf:Nat->Value) (xf:Nat->List Value) (e:Ending) (w':World):Prop :=
 (Below w.heap.size w w'/\∃ er,jQ s=some er/\e=.returned (.int .i64 er)) \/
 (Below w.heap.size w w'/\jQ s=none/\qZ Dm x=.nil/\e=.returned (.int .i64 10)) \/
 (jQ s=none/\∃ c:Nat,qZ Dm x=.lit (.int .i64 c)/\∃ w1 A B C D,Below w.heap.size w w1/\qc (aS w w1) w1 13 (.agg #[.int .i64 (aj (tJ s)),.int .i64 (av (tJ s)),.string (ay (tJ s)),.slice A (nL (tJ s)) B,.slice C (nK (tJ s)) D]) (tJ s)/\xu w1 c (tJ s) (lf c) (vf c) (xf c) [.int .i64 (aj (tJ s)),.int .i64 (av (tJ s)),.string (ay (tJ s)),.slice A (nL (tJ s)) B,.slice C (nK (tJ s)) D] e w')
theorem xu.shape {w:World} {c:Nat} {t:T} {l:List T} {v:Value} {xs cs:List Value} {e:Ending} {w':World} (h:xu w c t l v xs cs e w'):∃ er:Int,e=.returned (.int .i64 er):=by
 rcases h with ⟨_,_,rfl⟩ | ⟨_,_,_,rfl⟩ | ⟨_,_,_,rfl,_⟩<;>exact ⟨_,rfl⟩
theorem KL {Tb:World->Prop} (hA:bN Tb) (p m n:Nat) (Dm:DataW Unit) (lf:Nat->List T) (vf:Nat->Value) (xf:Nat->List Value) (x s:ByteArray) (w:World) (hs:s.size<=140737488355328) (hx:x.size<=140737488355328) (hst:jg w p m n Dm)
  (hc:∀ c:Nat,qZ Dm x=.lit (.int .i64 c)->Col w c 13 (lf c) (vf c) (xf c)/\(lf c).length<=1000000/\∀ i,(h:i<(lf c).length)->Doc (lf c)[i]) (hT:Tb w) :
  Calls Tryz.prog 38 #[.pointer (some ⟨p,0,none⟩),.string x,.string s] w (ab5 w x s Dm lf vf xf):=by
 have HD:=ak (KH hA.valid hA.dec hA.int hA.lies s w hs hT);have Hc:=ak hc;have vM:=ak hst;clear hT hc hst hA;go_in;go_wp2_with fail;refine HD.out.mono ?_;rintro e w1 ⟨b1,⟨h1,rfl⟩ | ⟨h1,h2,rfl⟩ | ⟨h1,h2,h3,rfl⟩ | ⟨h1,h2,h3,A,B,C,D,rfl,ha⟩⟩
 ·have ez:(eJ s==0)=false:=by simpa using h1
  have HE:Hid (jQ s=some (eJ s)):=by show _=_;unfold jQ;rw [if_pos h1]
  have HB:=ak (b1.alloc b1.size (.cells #[.int .i64 0,.int .i64 0,.string ⟨#[]⟩,.slice none 0 0,.slice none 0 0] 25));unfold kW;clear h1 b1 HD;go_wp2_with fail;go_ret;exact .inl ⟨HB.out,_,HE.out,rfl⟩
 ·have HE:Hid (jQ s=some 7):=by show _=_;unfold jQ;rw [if_neg (by simpa using h1),if_pos h2]
  have HB:=ak (b1.alloc b1.size (.cells #[.int .i64 0,.int .i64 0,.string ⟨#[]⟩,.slice none 0 0,.slice none 0 0] 25));unfold kW;clear h1 h2 b1 HD;go_wp2_with fail;go_ret;exact .inl ⟨HB.out,_,HE.out,rfl⟩
 ·have HE:Hid (jQ s=some 15):=by show _=_;unfold jQ;rw [if_neg (by simpa using h1),if_neg (by rw [h2];simp),if_pos h3]
  have HB:=ak (b1.alloc b1.size (.cells #[.int .i64 0,.int .i64 0,.string ⟨#[]⟩,.slice none 0 0,.slice none 0 0] 25));unfold kW;clear h1 h2 h3 b1 HD;go_wp2_with fail;go_ret;exact .inl ⟨HB.out,_,HE.out,rfl⟩
 ·have HE:Hid (jQ s=none):=by show _=_;unfold jQ;rw [if_neg (by simpa using h1),if_neg (by rw [h2];simp),if_neg (by rw [h3];simp)]
  have ahS:=ak (Fj (mM h1) h2);have HAl:=ak (aY w1 (vC (tJ s) A B C D));have HB:=ak (b1.trans (HAl.out.mono b1.size));have oM:Hid (qc (aS w (w1.alloc (vC (tJ s) A B C D))) (w1.alloc (vC (tJ s) A B C D)) 13 (.agg #[.int .i64 (aj (tJ s)),.int .i64 (av (tJ s)),.string (ay (tJ s)),.slice A (nL (tJ s)) B,.slice C (nK (tJ s)) D]) (tJ s)):=ha.move HAl.out.size (fun b hb hp=>⟨⟨hp.1,Nat.lt_of_lt_of_le hb HAl.out.size⟩,HAl.out.block b hb⟩);have HS2:=ak (vM.out.keep HB.out);have c0:=HS2.out.cell;clear h1 h2 h3 b1 HD ha;rcases HS2.out.look x hx with ⟨hrun,hat⟩ | ⟨c,hrun,hat⟩
  ·have HN:=ak hat;clear hat;go_wp2_with fail;go_ret;exact .inr (.inl ⟨HB.out,HE.out,HN.out,rfl⟩)
  ·obtain ⟨afm,hn,hd⟩:=Hc.out c hat;have HN:=ak hat;have HIn:=ak (NS c 13 (tJ s) (lf c) (vf c) (xf c) A C B D _ (afm.keep HB.out) (by omega) hn hd oM.out.at ahS.out);clear hat afm hn hd Hc;go_wp2_with fail;refine HIn.out.mono ?_;intro e w2 hi;obtain ⟨er,rfl⟩:=hi.shape;have HI2:=ak hi;clear hi HIn hrun;go_wp2_with fail;go_ret;exact .inr (.inr ⟨HE.out,c,HN.out,_,A,B,C,D,HB.out,oM.out,HI2.out⟩)
end Go.Proofs.YtknakfpciccoaaaGreatDoor
/- The store as a whole: what each block is for. -/
namespace Go.Proofs.YtknakfpciccoaaaGreatDoor
open Go.RowKit Go.Maps Go.WideMaps
theorem jg.move {w w':World} {p m n:Nat} {D:DataW Unit} (h:jg w p m n D) (hs:w.heap.size<=w'.heap.size) (hp:w'.heap[p]?=w.heap[p]?) (hm:w'.heap[m]?=w.heap[m]?):jg w' p m n D:=by
 obtain ⟨es,clock,h1,F,h2,h3⟩:=h.own;exact ⟨(aC hp 0).trans h.cell,Nat.lt_of_lt_of_le h.low hs,es,clock,hm.trans h1,F,h2,h3⟩
structure Zi (L:Nat->Nat) (w:World) (c:Nat) (l:List T) (v:Value) (xs:List Value):Prop where
 lab:L c=4
 cell:w.cell? ⟨c,0,none⟩=some v
 free:w.frozen? ⟨c,0,none⟩=false
 row:w.ownsRow 0 25 5 v l.length xs
 Hu:∀ b,v.ownBlock=some b->L b=5+c
 at_:∀ i,(h:i<l.length)->qc (fun b=>L b=1) w 13 (fv xs i) l[i]
 doc:∀ i,(h:i<l.length)->Doc l[i]
theorem Zi.move {L L':Nat->Nat} {w w':World} {c:Nat} {l:List T} {v:Value} {xs:List Value} (h:Zi L w c l v xs) (hs:w.heap.size<=w'.heap.size) (hl:∀ b,L b=4/\b=c\/L b=5+c\/L b=1->L' b=L b/\w'.heap[b]?=w.heap[b]?):Zi L' w' c l v xs:=by
 obtain ⟨c1,c2⟩:=hl c (.inl ⟨h.lab,rfl⟩);refine ⟨c1.trans h.lab,(aC c2 0).trans h.cell,(World.frozen?_of_block (a:=⟨c,0,none⟩) c2).trans h.free,eH h.row fun b e=>(hl b (.inr (.inl (h.Hu b e)))).2,fun b e=>(hl b (.inr (.inl (h.Hu b e)))).1.trans (h.Hu b e),fun i hi=>(h.at_ i hi).move hs fun b _ hp=>?_,h.doc⟩;obtain ⟨k1,k2⟩:=hl b (.inr (.inr hp));exact ⟨k1.trans hp,k2⟩
structure IZ (L:Nat->Nat) (w:World) (p m n:Nat) (D:DataW Unit) (lf:Nat->List T) (vf:Nat->Value) (xf:Nat->List Value):Prop where
 Sy:jg w p m n D
 lp:L p=2
 lm:L m=3
 low:∀ b,L b≠0->b<w.heap.size
 col:∀ x c,qZ D x=.lit (.int .i64 (c:Nat))->Zi L w c (lf c) (vf c) (xf c)
theorem IZ.keep {L:Nat->Nat} {w w':World} {p m n:Nat} {D:DataW Unit} {lf:Nat->List T} {vf:Nat->Value} {xf:Nat->List Value} (h:IZ L w p m n D lf vf xf) (hb:Below w.heap.size w w'):IZ L w' p m n D lf vf xf :=
 ⟨h.Sy.keep hb,h.lp,h.lm,fun b hl=>Nat.lt_of_lt_of_le (h.low b hl) hb.size,fun x c hx=>(h.col x c hx).move hb.size fun b hl=>⟨rfl,hb.block b (h.low b (by omega))⟩⟩
theorem IZ.Wn {L:Nat->Nat} {w:World} {p m n:Nat} {D:DataW Unit} {lf:Nat->List T} {vf:Nat->Value} {xf:Nat->List Value} (h:IZ L w p m n D lf vf xf) {x:ByteArray} {c:Nat} (hx:qZ D x=.lit (.int .i64 (c:Nat))):Col w c 13 (lf c) (vf c) (xf c):=by
 have hc:=h.col x c hx;refine ⟨hc.cell,hc.free,h.low c (by rw [hc.lab];omega),hc.row,fun e=>?_,fun i hi=>(hc.at_ i hi).at⟩;have h1:=hc.Hu c e;have h2:=hc.lab;omega
theorem IZ.coll {L:Nat->Nat} {w:World} {p m n:Nat} {D:DataW Unit} {lf:Nat->List T} {vf:Nat->Value} {xf:Nat->List Value} (h:IZ L w p m n D lf vf xf) {x:ByteArray} {c:Nat} (hx:qZ D x=.lit (.int .i64 (c:Nat))):Ca w c 13 (aO 5 0 ByteArray.empty (lf c) []):=by
 have hc:=h.Wn hx;obtain ⟨La,Lc,hv,he⟩:=hc.elems;exact ⟨La,Lc,by rw [aN,hc.cell,hv],hc.low,he⟩
theorem Qv {xs ys:List Value} {i n:Nat} (hx:xs.length=n*5) (hi:i<n):fv (xs++ys) i=fv xs i:=by
 unfold fv;rw [gF (by omega),gF (by omega),gF (by omega),gF (by omega),gF (by omega)]
theorem KM {xs:List Value} {c0 c1 c2 c3 c4:Value} {n:Nat} (hx:xs.length=n*5):fv (xs++[c0,c1,c2,c3,c4]) n=.agg #[c0,c1,c2,c3,c4]:=by
 unfold fv;rw [<- hx,show xs.length=xs.length+0 from rfl,fB,Nat.add_assoc,fB,Nat.add_assoc,fB,Nat.add_assoc,fB,Nat.add_assoc,fB];rfl
def Yr {α:Type} (f:Nat->α) (c:Nat) (a:α) (b:Nat):α:=if b=c then a else f b
theorem lq {α:Type} (f:Nat->α) (c:Nat) (a:α):Yr f c a c=a:=by simp [Yr]
theorem jB {α:Type} (f:Nat->α) {c b:Nat} (a:α) (h:b≠c):Yr f c a b=f b:=by simp [Yr,h]
theorem IZ.ins {L:Nat->Nat} {w w1 w':World} {p m n:Nat} {D:DataW Unit} {lf:Nat->List T} {vf:Nat->Value} {xf:Nat->List Value} (h:IZ L w p m n D lf vf xf) {x:ByteArray} {c:Nat} (hx:qZ D x=.lit (.int .i64 (c:Nat))) (hb:Below w.heap.size w w1) {t:T} {c0 c1 c2 c3 c4:Value} (ha:qc (aS w w1) w1 13 (.agg #[c0,c1,c2,c3,c4]) t) (hd:Doc t)
  (hB:KI c (vf c).ownBlock w1 w') {g cap:Nat} (q0:w'.cell? ⟨c,0,none⟩=some (.slice (some ⟨g,0,none⟩) ((lf c).length+1) cap)) (f0:w'.frozen? ⟨c,0,none⟩=false) (hg:(vf c).ownBlock=some g\/w1.heap.size<=g) (hO:w'.ownsRow 0 25 5 (.slice (some ⟨g,0,none⟩) ((lf c).length+1) cap) ((lf c).length+1) (xf c++[c0,c1,c2,c3,c4])) :
  ∃ L',(∀ b,L' b≠0->L b≠0\/w.heap.size<=b)/\IZ L' w' p m n D (Yr lf c (lf c++[t])) (Yr vf c (.slice (some ⟨g,0,none⟩) ((lf c).length+1) cap)) (Yr xf c (xf c++[c0,c1,c2,c3,c4])):=by
 have hc:=h.col x c hx;have hgl:g<w'.heap.size:=(hO.lt g rfl).2;have hcl:c<w.heap.size:=h.low c (by rw [hc.lab];omega);have s1:=hb.size;have s2:=hB.size;have hgw:(vf c).ownBlock=some g->g<w.heap.size/\L g=5+c:=fun e=>⟨h.low g (by rw [hc.Hu g e];omega),hc.Hu g e⟩;have old:∀ b,L b≠0->L b≠5+c->b≠c->w'.heap[b]?=w.heap[b]?:=fun b h0 h1 h2=>(hB.block b (by have:=h.low b h0;omega) h2 (fun e=>h1 (hc.Hu b e.symm))).trans (hb.block b (h.low b h0));refine ⟨fun b=>if b<w.heap.size then L b else if b<w1.heap.size then 1 else if b=g then 5+c else 0,?_,?_,?_,?_,?_,?_⟩
 ·intro b hb0;by_cases e:b<w.heap.size
  ·simp only [if_pos e] at hb0;exact .inl hb0
  ·exact .inr (by omega)
 ·exact h.Sy.move (by omega) (old p (by rw [h.lp];omega) (by rw [h.lp];omega) (fun e=>by have:=h.lp;have:=hc.lab;subst e;omega)) (old m (by rw [h.lm];omega) (by rw [h.lm];omega) (fun e=>by have:=h.lm;have:=hc.lab;subst e;omega))
 ·show (if p<w.heap.size then L p else _)=2;rw [if_pos (h.low p (by rw [h.lp];omega))];exact h.lp
 ·show (if m<w.heap.size then L m else _)=3;rw [if_pos (h.low m (by rw [h.lm];omega))];exact h.lm
 ·intro b hb0;split at hb0
  ·omega
  ·split at hb0
   ·omega
   ·split at hb0
    ·omega
    ·exact absurd rfl hb0
 ·intro y c' hy;by_cases e:c'=c
  ·subst e;rw [lq,lq,lq];refine ⟨by rw [if_pos hcl];exact hc.lab,q0,f0,by rw [List.length_append];exact hO,fun b e=>?_,fun i hi=>?_,fun i hi=>?_⟩
   ·have eg:b=g:=by simpa [Value.ownBlock] using e.symm
    subst eg;show (if b<w.heap.size then L b else _)=_;rcases hg with h1 | h1
    ·rw [if_pos (hgw h1).1];exact (hgw h1).2
    ·rw [if_neg (by omega),if_neg (by omega),if_pos rfl]
   ·have hxl:(xf c').length=(lf c').length*5:=hc.row.1;rw [List.length_append,List.length_cons,List.length_nil] at hi;by_cases e:i<(lf c').length
    ·rw [Qv hxl e,List.getElem_append_left e];refine (hc.at_ i e).move (by omega) fun b hbl hp=>⟨?_,old b (by omega) (by omega) (fun e2=>by have:=hc.lab;subst e2;omega)⟩;show (if b<w.heap.size then L b else _)=1;rw [if_pos hbl];exact hp
    ·obtain rfl:i=(lf c').length:=by omega
     rw [KM hxl,List.getElem_append_right (by omega)];simp only [Nat.sub_self,List.getElem_cons_zero];refine ha.move s2 fun b hbl hp=>⟨?_,hB.block b hbl (fun e2=>by have:=hp.1;omega) (fun e2=>by have:=h.low b (by rw [hc.Hu b e2.symm];omega);have:=hp.1;omega)⟩;show (if b<w.heap.size then L b else _)=1;rw [if_neg (by have:=hp.1;omega),if_pos hbl]
   ·rw [List.length_append,List.length_cons,List.length_nil] at hi;by_cases e:i<(lf c').length
    ·rw [List.getElem_append_left e];exact hc.doc i e
    ·obtain rfl:i=(lf c').length:=by omega
     rw [List.getElem_append_right (by omega)];simp only [Nat.sub_self,List.getElem_cons_zero];exact hd
  ·rw [jB _ _ e,jB _ _ e,jB _ _ e];refine (h.col y c' hy).move (by omega) fun b hl=>⟨?_,old b (by omega) (by omega) (fun e2=>by have:=hc.lab;subst e2;omega)⟩;show (if b<w.heap.size then L b else _)=L b;rw [if_pos (h.low b (by omega))]
end Go.Proofs.YtknakfpciccoaaaGreatDoor
/- The store's state behind New and Create. -/
namespace Go.Proofs.YtknakfpciccoaaaGreatDoor
open Go.RowKit Go.Maps Go.WideMaps
theorem Wo (x:ByteArray):WideAt.IsKeyLit (Ci x):=by simp [Ci,WideAt.IsKeyLit]
theorem Zj {x y:ByteArray} (h:y≠x):Ci y≠Ci x:=by
 intro e;simp only [Ci,Lit.string.injEq] at e;exact h ((nG _ _).1 e)
theorem l9 {D:DataW Unit} (hD:IsMap D) (x:ByteArray) (d:DataW Unit):qZ (D.put (Ci x) d) x=d:=atKey_put_same hD (Wo x) d .nil
theorem jh {D:DataW Unit} {x y:ByteArray} (h:y≠x) (d:DataW Unit):qZ (D.put (Ci x) d) y=qZ D y:=atKey_put_other (Zj h) d .nil
theorem ou {a b:Nat} (h:(DataW.lit (.int .i64 (a:Int)):DataW Unit)=.lit (.int .i64 (b:Int))):a=b:=by
 simp only [DataW.lit.injEq,Lit.int.injEq] at h;omega
theorem IZ.cre {L:Nat->Nat} {w w':World} {p m n:Nat} {D:DataW Unit} {lf:Nat->List T} {vf:Nat->Value} {xf:Nat->List Value} (h:IZ L w p m n D lf vf xf) {x:ByteArray} (hc:KJ w p m n D x w') :
  ∃ L' c,w.heap.size<=c/\(∀ b,L' b≠0->L b≠0\/w.heap.size<=b)/\IZ L' w' p m (n+1) (D.put (Ci x) (.lit (.int .i64 (c:Nat)))) (Yr lf c []) (Yr vf c (.slice none 0 0)) (Yr xf c []):=by
 obtain ⟨c,hcw,hcl,hst,q0,f0,hB⟩:=hc;have s1:=hB.size;have old:∀ b,L b≠0->L b≠3->w'.heap[b]?=w.heap[b]?:=fun b h0 h1=>hB.block b (h.low b h0) (fun e=>by have:=h.lm;subst e;omega) (by simp);refine ⟨fun b=>if b<w.heap.size then L b else if b=c then 4 else 0,c,hcw,?_,hst,?_,?_,?_,?_⟩
 ·intro b hb0;by_cases e:b<w.heap.size
  ·simp only [if_pos e] at hb0;exact .inl hb0
  ·exact .inr (by omega)
 ·show (if p<w.heap.size then L p else _)=2;rw [if_pos (h.low p (by rw [h.lp];omega))];exact h.lp
 ·show (if m<w.heap.size then L m else _)=3;rw [if_pos (h.low m (by rw [h.lm];omega))];exact h.lm
 ·intro b hb0;split at hb0
  ·omega
  ·split at hb0
   ·omega
   ·exact absurd rfl hb0
 ·intro y c' hy;by_cases e:y=x
  ·subst e;rw [l9 h.Sy.own.isMap] at hy;obtain rfl:=ou hy;rw [lq,lq,lq];refine ⟨by rw [if_neg (by omega),if_pos rfl],q0,f0,World.ownsRow_nil _ _ _ _,fun b e=>by simp [Value.ownBlock] at e,fun i hi=>absurd hi (Nat.not_lt_zero i),fun i hi=>absurd hi (Nat.not_lt_zero i)⟩
  ·rw [jh e] at hy;have hco:=h.col y c' hy;have hne:c'≠c:=fun e2=>by have:=h.low c' (by rw [hco.lab];omega);omega
   rw [jB _ _ hne,jB _ _ hne,jB _ _ hne];refine hco.move s1 fun b hl=>⟨?_,old b (by omega) (by omega)⟩;show (if b<w.heap.size then L b else _)=L b;rw [if_pos (h.low b (by omega))]
theorem IZ.new (w:World) (lf:Nat->List T) (vf:Nat->Value) (xf:Nat->List Value):∃ L,(∀ b,L b≠0->w.heap.size<=b)/\IZ L ((w.alloc (.map #[] 0)).alloc (.cells #[.map (some w.heap.size)] 102)) (w.heap.size+1) w.heap.size 0 (.map []) lf vf xf:=by
 refine ⟨fun b=>if b=w.heap.size+1 then 2 else if b=w.heap.size then 3 else 0,fun b hb=>?_,⟨by simp [go_sem],by simp,(World.ownsMap_made w _ _ _).alloc _⟩,by simp,by simp,fun b hb=>?_,fun x c hx=>?_⟩
 ·by_cases e:w.heap.size<=b
  ·exact e
  ·simp only [if_neg (show ¬ b=w.heap.size+1 by omega),if_neg (show ¬ b=w.heap.size by omega)] at hb;exact absurd rfl hb
 ·split at hb
  ·subst b;simp
  ·split at hb
   ·subst b;simp;omega
   ·exact absurd rfl hb
 ·have e:qZ (.map []) x=.nil:=rfl;rw [e] at hx;cases hx
def rG:Nat->T->Prop
 | 0,_=>False
 | f+1,t=>zI t/\(∀ i,i<nL t->rG f (elt t i))/\∀ i,i<nK t->(bO t i).size<=140737488355328
theorem Fp {f:Nat} {t:T} (ih:∀ i,i<nL t->∀ w:World,∃ w' v,Below w.heap.size w w'/\At w' f v (elt t i)):∀ k,k<=nL t->∀ w:World,∃ (w':World) (xs:List Value),Below w.heap.size w w'/\xs.length=k*5/\∀ i,i<k->At w' f (fv xs i) (elt t i)
 | 0,_,w=>⟨w,[],Below.refl _ _,rfl,fun i hi=>absurd hi (Nat.not_lt_zero i)⟩
 | k+1,hk,w=>by
  obtain ⟨w1,xs,b1,hx,h1⟩:=Fp ih k (by omega) w;obtain ⟨w2,v,b2,ha⟩:=ih k (by omega) w1;obtain ⟨g,La,Ka,Lc,Kc,rfl,rfl,_⟩:=ha.open;refine ⟨w2,xs++[.int .i64 (aj (elt t k)),.int .i64 (av (elt t k)),.string (ay (elt t k)),.slice La (nL (elt t k)) Lc,.slice Ka (nK (elt t k)) Kc],b1.trans (b2.mono b1.size),by rw [List.length_append,hx];simp;omega,fun i hi=>?_⟩;by_cases e:i<k
  ·rw [Qv hx e];exact At.keep b2 (h1 i e)
  ·obtain rfl:i=k:=by omega
   rw [KM hx];exact ha
theorem Fq:∀ (f:Nat) (t:T),rG f t->∀ w:World,∃ w' v,Below w.heap.size w w'/\At w' f v t
 | 0,_,h,_=>h.elim
 | f+1,t,⟨hf,he,hn⟩,w=>by
  obtain ⟨w1,xs,b1,hx,h1⟩:=Fp (fun i hi=>Fq f (elt t i) (he i hi)) (nL t) (Nat.le_refl _) w;have bA:Below w1.heap.size w1 (w1.alloc (.cells xs.toArray 25)):=aY _ _;have bB:Below (w1.heap.size+1) (w1.alloc (.cells xs.toArray 25)) ((w1.alloc (.cells xs.toArray 25)).alloc (.cells (gB (jZ t)).toArray 9)):=(Below.refl _ _).alloc (by simp) _
  have r1:(w1.alloc (.cells xs.toArray 25)).ownsRow 0 25 5 (.slice (some ⟨w1.heap.size,0,none⟩) (nL t) (nL t)) (nL t) xs:=by
   have:=World.ownsRow_lit (base:=0) (e:=25) (size:=5) w1 xs.toArray (nL t) (Nat.zero_le _) (by have:=hf.l1;unfold maxLen;omega) (by simpa using hx);simpa using this
  have r2:((w1.alloc (.cells xs.toArray 25)).alloc (.cells (gB (jZ t)).toArray 9)).ownsRow 0 9 1 (.slice (some ⟨w1.heap.size+1,0,none⟩) (nK t) (nK t)) (nK t) (gB (jZ t)):=by
   have:=World.ownsRow_lit (base:=0) (e:=9) (size:=1) (w1.alloc (.cells xs.toArray 25)) (gB (jZ t)).toArray (nK t) (Nat.zero_le _) (by have:=hf.m1;unfold maxLen;omega) (by simp [gB,nK]);simpa using this
  have hC:Below w1.heap.size w1 ((w1.alloc (.cells xs.toArray 25)).alloc (.cells (gB (jZ t)).toArray 9)):=bA.trans (bB.mono (by omega));generalize ((w1.alloc (.cells xs.toArray 25)).alloc (.cells (gB (jZ t)).toArray 9))=w3 at bB r2 hC;refine ⟨w3,_,b1.trans (hC.mono b1.size),some ⟨w1.heap.size,0,none⟩,some ⟨w1.heap.size+1,0,none⟩,nL t,nK t,rfl,hf,fun i hi=>?_,fun i hi=>?_⟩
  ·have hc:∀ j,j<5->w3.cell? ⟨w1.heap.size,i*5+j,none⟩=some (cx xs (i*5+j)):=fun j hj=>(bB.cell (p:=⟨w1.heap.size,i*5+j,none⟩) (by simp)).trans (aX r1 (dR (by omega)));have hlt:w1.heap.size<w3.heap.size:=by have:=bB.size;simp at this;omega
   refine ⟨w1.heap.size,0,cx xs (i*5),cx xs (i*5+1),cx xs (i*5+2),cx xs (i*5+3),cx xs (i*5+4),rfl,hlt,(by rw [Nat.zero_add];exact hc 0 (by omega)),(by rw [Nat.zero_add];exact hc 1 (by omega)),(by rw [Nat.zero_add];exact hc 2 (by omega)),(by rw [Nat.zero_add];exact hc 3 (by omega)),(by rw [Nat.zero_add];exact hc 4 (by omega)),?_⟩;exact At.keep hC (h1 i hi)
  ·have hi':i<(jZ t).length:=hi;refine ⟨w1.heap.size+1,0,rfl,(r2.lt _ rfl).2,hn i hi,?_⟩;rw [Nat.zero_add];refine aX r2 ?_;simp [gB,bO,List.getD_eq_getElem?_getD,hi']
theorem vN {f:Nat} {t:T} (hf:rG f t) (hg:dD 12 t) (hl:(bL 12 t).length<=4000):eJ (bP (bL 12 t))=0/\tJ (bP (bL 12 t))=bH 12 t:=by
 obtain ⟨w,v,_,ha⟩:=Fq f t hf default;exact (VU ha hg).2 hl
end Go.Proofs.YtknakfpciccoaaaGreatDoor
/- The walk of the program's Compare. -/
namespace Go.Proofs.YtknakfpciccoaaaGreatDoor
open Go.RowKit
end Go.Proofs.YtknakfpciccoaaaGreatDoor
/- The walk of Texts: it returns true. -/
namespace Go.Proofs.YtknakfpciccoaaaGreatDoor
open Go.RowKit
def NU (id:Int) (i:Nat):ByteArray:=((⟨#[123,34,95,105,100,34,58]⟩++bP (Lib.itoa id))++⟨#[44,34,97,34,58]⟩)++vt i
def vO (id:Int) (i:Nat) (o:Option Nat):ByteArray:=(match o with | none=>NU id i | some j=>(NU id i++⟨#[44,34,99,34,58]⟩)++vt j)++⟨#[125]⟩
theorem yE {n:Int} (h0:0<=n) (h1:n<30):(bP (Lib.itoa n)).size<=2:=by
 obtain ⟨k,rfl⟩:∃ k:Nat,n=(k:Int):=⟨n.toNat,by omega⟩;have h:((List.range 30).all fun k=>decide ((bP (Lib.itoa ((k:Nat):Int))).size<=2))=true:=by kernel_rfl
 exact of_decide_eq_true (List.all_eq_true.1 h k (List.mem_range.2 (by omega)))
theorem Hw {Tb:World->Prop} (hI:bf Tb) (hL:aV Tb) (id c d:Int) (w:World) (i0:0<=id) (i1:id<30) (c0:-9223372036854775808<=c) (c1:c<=9223372036854775807) (d0:-9223372036854775808<=d) (d1:d<=9223372036854775807) (hT:Tb w) :
  Calls Tryz.prog 61 #[.int .i64 id,.int .i64 c,.int .i64 d] w fun e w'=>Below w.heap.size w w'/\∃ i o,i<36/\(∀ j,o=some j->j<36)/\e=.returned (.string (vO id i o)):=by
 have HI:=ak (hI id w (by omega) (by omega) hT);have HT:Hid (∀ w':World,Below w.heap.size w w'->Tb w'):=fun w' hb=>hL w hT w w' hT hb;have HV:Hid (∀ (c:Int) (w:World),-9223372036854775808<=c->c<=9223372036854775807->Tb w->Calls Tryz.prog 21 #[.int .i64 c] w (JK w)):=fun c w h0 h1 ht=>MZ hI hL c w h0 h1 ht;have HP:Hid (∀ w,Calls Tryz.prog 53 #[.int .i64 d,.int .i64 3] w fun e w'=>e=.returned (.int .i64 (aT d % 3))/\w'=w):=fun w=>fA d 3 w d0 d1 (by omega) (by omega)
 have HQ:Hid (-9223372036854775808<=d.tdiv 3/\d.tdiv 3<=9223372036854775807):=by
  show _/\_;have h1:=Int.tdiv_mul_add_tmod d 3;by_cases h:0<=d
  ·rw [Int.tdiv_eq_ediv_of_nonneg h];omega
  ·have:d.tdiv 3=-((-d).tdiv 3):=by rw [Int.neg_tdiv];simp
   rw [this,Int.tdiv_eq_ediv_of_nonneg (by omega)];omega
 have hq:IntKind.i64.wrap (d.tdiv 3)=d.tdiv 3:=by rw [IntKind.wrap_i64];have:=HQ.out;omega
 have Hz:=ak (yE i0 i1);have Hc:=ak (And.intro c0 c1);clear hT hI hL;obtain ⟨a1,e1,z1,r1⟩:=aD ⟨#[123,34,95,105,100,34,58]⟩ (bP (Lib.itoa id)) 7 (bP (Lib.itoa id)).size rfl rfl (by have:=Hz.out;omega);obtain ⟨a2,e2,z2,r2⟩:=aD a1 ⟨#[44,34,97,34,58]⟩ a1.size 5 rfl rfl (by have:=Hz.out;omega);have E2:=ak (And.intro e1 e2);have Z2:Hid (a2.size<=14):=by show _<=_;have:=Hz.out;omega
 clear e1 e2 z1 z2 Hz;generalize hbi:bP (Lib.itoa id)=bi at HI r1 E2;have Hbi:=ak hbi;clear hbi;go_in;go_wp2_with fail;refine HI.out.mono ?_;rintro e w1 ⟨rfl,b1⟩;have HB1:=ak b1;have zL:=ak (HV.out c w1 Hc.out.1 Hc.out.2 (HT.out _ b1));clear b1 HI;go_wp2_with fail;refine zL.out.mono ?_;rintro e w2 ⟨sv,⟨i,hi,rfl⟩,rfl,b2⟩;have HB2:=ak (HB1.out.trans (b2.mono HB1.out.size));have Hi:=ak hi;obtain ⟨a3,e3,z3,r3⟩:=aD a2 (vt i) a2.size (vt i).size rfl rfl (by have:=Z2.out;have:=lV hi;omega);have E3:Hid (a3=NU id i):=by show _=_;rw [e3,E2.out.2,E2.out.1,<- Hbi.out];rfl
 have Z3:Hid (a3.size<=24):=by show _<=_;have:=Z2.out;have:=lV hi;omega
 clear b2 hi zL e3 z3;generalize vt i=si at *;go_wp2_with fail;refine (HP.out w2).mono ?_;rintro e w3 ⟨rfl,rfl⟩;by_cases hp:0<aT d % 3
 ·have Dn:=ak (HV.out (d.tdiv 3) w3 HQ.out.1 HQ.out.2 (HT.out _ HB2.out));obtain ⟨a4,e4,z4,r4⟩:=aD a3 ⟨#[44,34,99,34,58]⟩ a3.size 5 rfl rfl (by have:=Z3.out;omega);have E4:=ak e4;have Z4:Hid (a4.size<=29):=by show _<=_;have:=Z3.out;omega
  clear e4 z4;go_wp2_with fail;refine Dn.out.mono ?_;rintro e w4 ⟨sv2,⟨j,hj,rfl⟩,rfl,b4⟩;have bT:=ak (HB2.out.trans (b4.mono HB2.out.size));have Hj:=ak hj;obtain ⟨a5,e5,z5,r5⟩:=aD a4 (vt j) a4.size (vt j).size rfl rfl (by have:=Z4.out;have:=lV hj;omega);obtain ⟨a6,e6,z6,r6⟩:=aD a5 ⟨#[125]⟩ a5.size 1 rfl rfl (by have:=Z4.out;have:=lV hj;omega);have E6:Hid (a6=vO id i (some j)):=by show _=_;rw [e6,e5,E4.out,E3.out];rfl
  clear b4 hj Dn e5 z5 e6 z6;generalize vt j=sj at *;go_wp2_with fail;go_ret;exact ⟨bT.out,i,some j,Hi.out,fun j' hj'=>by cases hj';exact Hj.out,by rw [E6.out];rfl⟩
 ·obtain ⟨a6,e6,z6,r6⟩:=aD a3 ⟨#[125]⟩ a3.size 1 rfl rfl (by have:=Z3.out;omega);have E6:Hid (a6=vO id i none):=by show _=_;rw [e6,E3.out];rfl
  clear e6 z6;go_wp2_with fail;go_ret;exact ⟨HB2.out,i,none,Hi.out,(fun j' hj'=>by cases hj'),by rw [E6.out];rfl⟩
def iH (id:Int) (i:Nat) (o:Option Nat):T:=match o with
 | none=>aO 6 0 ByteArray.empty [nT id,tv i] [⟨#[95,105,100]⟩,⟨#[97]⟩]
 | some j=>aO 6 0 ByteArray.empty [nT id,tv i,tv j] [⟨#[95,105,100]⟩,⟨#[97]⟩,⟨#[99]⟩]
theorem NV:((List.range 36).all fun i=>decide (bL 11 (tv i)=(vt i).data.toList))=true:=by kernel_rfl
theorem H9 {i:Nat} (h:i<36):bL 11 (tv i)=(vt i).data.toList:=of_decide_eq_true (List.all_eq_true.1 NV i (List.mem_range.2 h))
theorem aaX (n:Int):bL 11 (nT n)=Lib.itoa n:=by
 rw [pO (by show (3:Int)≠5;decide) (by show (3:Int)≠6;decide)];rfl
theorem Qw {s:ByteArray} {l:List UInt8} (h:s.data.toList=l):s=bP l:=by
 apply (nG _ _).1;rw [h];simp [bP]
theorem aL (a b:ByteArray):(a++b).data.toList=a.data.toList++b.data.toList:=by simp
theorem qId:cO ⟨#[95,105,100]⟩=[34,95,105,100,34]:=by kernel_rfl
theorem qA:cO ⟨#[97]⟩=[34,97,34]:=by kernel_rfl
theorem qC:cO ⟨#[99]⟩=[34,99,34]:=by kernel_rfl
theorem Zk {id:Int} {i:Nat} {o:Option Nat} (hi:i<36) (ho:∀ j,o=some j->j<36):vO id i o=bP (bL 12 (iH id i o)):=by
 apply Qw;cases o with
 | none =>
  have e:bL 12 (iH id i none)=123::((([]++([]++(cO ⟨#[95,105,100]⟩++(58::bL 11 (nT id)))))++([44]++(cO ⟨#[97]⟩++(58::bL 11 (tv i)))))++[125]):=rfl;rw [e,H9 hi,aaX,qId,qA];unfold vO NU;simp only [aL];simp [bP]
 | some j =>
  have e:bL 12 (iH id i (some j))=123::(((([]++([]++(cO ⟨#[95,105,100]⟩++(58::bL 11 (nT id)))))++([44]++(cO ⟨#[97]⟩++(58::bL 11 (tv i)))))++([44]++(cO ⟨#[99]⟩++(58::bL 11 (tv j)))))++[125]):=rfl;rw [e,H9 hi,H9 (ho j rfl),aaX,qId,qA,qC];unfold vO NU;simp only [aL];simp [bP]
def NW:Nat->T->Bool
 | 0,_=>false
 | f+1,t=>(decide (-9223372036854775808<=aj t)&&decide (aj t<=9223372036854775807)&&decide (-9223372036854775808<=av t)&&decide (av t<=9223372036854775807)&&decide ((ay t).size<=140737488355328)&&decide (nL t<=1759218604442)&&decide (nK t<=8796093022208))&&((List.range (nL t)).all fun i=>NW f (elt t i))&&((List.range (nK t)).all fun i=>decide ((bO t i).size<=140737488355328))
theorem mP:∀ (f:Nat) (t:T),NW f t=true->rG f t
 | 0,_,h=>by cases h
 | f+1,t,h=>by
  unfold NW at h;simp only [Bool.and_eq_true,decide_eq_true_eq,List.all_eq_true,List.mem_range] at h;obtain ⟨⟨⟨⟨⟨⟨⟨⟨h1,h2⟩,h3⟩,h4⟩,h5⟩,h6⟩,h7⟩,h8⟩,h9⟩:=h;exact ⟨⟨h1,h2,h3,h4,h5,h6,h7⟩,fun i hi=>mP f _ (h8 i hi),h9⟩
theorem Zl:((List.range 36).all fun i=>NW 3 (tv i))=true:=by kernel_rfl
theorem ab7 {i:Nat} (h:i<36):rG 3 (tv i):=mP 3 _ (List.all_eq_true.1 Zl i (List.mem_range.2 h))
theorem NY:((List.range 36).all fun i=>(aP 11 (tv i) 1048576).isSome)=true:=by kernel_rfl
theorem Fu {i:Nat} (h:i<36):dD 11 (tv i):=by
 have h1:=List.all_eq_true.1 NY i (List.mem_range.2 h);rcases o9 11 (tv i) 1048576 (by omega) with ⟨_,h2,_⟩ | ⟨h3,_⟩
 ·exact h2
 ·rw [h3] at h1;cases h1
theorem ab8:(List.range 36).map (fun i=>bH 11 (tv i))=(List.range 36).map tv:=by kernel_rfl
theorem xw {i:Nat} (h:i<36):bH 11 (tv i)=tv i:=by
 have:=congrArg (fun l=>l[i]?) ab8;simpa [h] using this
theorem Ia (n:Int) (m:Nat):dD m (nT n):=by
 have h:aW (nT n):=⟨rfl,rfl,.inr (.inr (.inl ⟨rfl,dP 3 n [] []⟩))⟩;cases m with
 | zero=>exact h
 | succ m=>exact .inl h
theorem ab9 {n:Int} (h0:-9223372036854775808<=n) (h1:n<=9223372036854775807):rG 3 (nT n) :=
 ⟨⟨by show -9223372036854775808<=(3:Int);omega,by show (3:Int)<=9223372036854775807;omega,h0,h1,by show (0:Nat)<=_;omega,by show (0:Nat)<=_;omega,by show (0:Nat)<=_;omega⟩,fun i hi=>absurd hi (Nat.not_lt_zero i),fun i hi=>absurd hi (Nat.not_lt_zero i)⟩
theorem KN {id:Int} {i:Nat} {o:Option Nat} (ho:∀ j,o=some j->j<36) (hi:i<36) {k:Nat} (hk:k<nL (iH id i o)):elt (iH id i o) k=nT id\/∃ j,j<36/\elt (iH id i o) k=tv j:=by
 cases o with
 | none =>
  have hk':k<2:=hk
  match k,hk' with
  | 0,_=>exact .inl rfl
  | 1,_=>exact .inr ⟨i,hi,rfl⟩
 | some j =>
  have hk':k<3:=hk
  match k,hk' with
  | 0,_=>exact .inl rfl
  | 1,_=>exact .inr ⟨i,hi,rfl⟩
  | 2,_=>exact .inr ⟨j,ho j rfl,rfl⟩
theorem yF {id:Int} {i:Nat} {o:Option Nat} (hi:i<36) (ho:∀ j,o=some j->j<36):dD 12 (iH id i o):=by
 refine .inr ⟨by cases o<;>rfl,by cases o<;>exact dP _ _ _ _,fun k hk=>?_,.inr ⟨by cases o<;>rfl,by cases o<;>rfl,by cases o<;>kernel_rfl,by cases o<;>kernel_rfl⟩⟩;rcases KN ho hi hk with e | ⟨j,hj,e⟩
 ·rw [e];exact Ia id 11
 ·rw [e];exact Fu hj
theorem Wp {id:Int} {i:Nat} {o:Option Nat} (h0:-9223372036854775808<=id) (h1:id<=9223372036854775807) (hi:i<36) (ho:∀ j,o=some j->j<36):rG 4 (iH id i o):=by
 have hF:zI (iH id i o):=by
  cases o with
  | none=>exact ⟨by show (-9223372036854775808:Int)<=6;omega,by show (6:Int)<=9223372036854775807;omega,by show (-9223372036854775808:Int)<=0;omega,by show (0:Int)<=9223372036854775807;omega,by show (0:Nat)<=_;omega,by show (2:Nat)<=_;omega,by show (2:Nat)<=_;omega⟩
  | some j=>exact ⟨by show (-9223372036854775808:Int)<=6;omega,by show (6:Int)<=9223372036854775807;omega,by show (-9223372036854775808:Int)<=0;omega,by show (0:Int)<=9223372036854775807;omega,by show (0:Nat)<=_;omega,by show (3:Nat)<=_;omega,by show (3:Nat)<=_;omega⟩
 refine ⟨hF,fun k hk=>?_,fun k hk=>?_⟩
 ·rcases KN ho hi hk with e | ⟨j,hj,e⟩
  ·rw [e];exact ab9 h0 h1
  ·rw [e];exact ab7 hj
 ·cases o with
  | none =>
   have hk':k<2:=hk
   match k,hk' with
   | 0,_=>show (3:Nat)<=_;omega
   | 1,_=>show (1:Nat)<=_;omega
  | some j =>
   have hk':k<3:=hk
   match k,hk' with
   | 0,_=>show (3:Nat)<=_;omega
   | 1,_=>show (1:Nat)<=_;omega
   | 2,_=>show (1:Nat)<=_;omega
theorem Wq {id:Int} {i:Nat} {o:Option Nat} (hi:i<36) (ho:∀ j,o=some j->j<36):bH 12 (iH id i o)=iH id i o:=by
 have hn:bH 11 (nT id)=nT id:=rfl;cases o with
 | none =>
  show aO 6 0 ByteArray.empty [bH 11 (nT id),bH 11 (tv i)] _=_;rw [hn,xw hi];rfl
 | some j =>
  show aO 6 0 ByteArray.empty [bH 11 (nT id),bH 11 (tv i),bH 11 (tv j)] _=_;rw [hn,xw hi,xw (ho j rfl)];rfl
theorem Fv {id:Int} {i:Nat} {o:Option Nat} (h0:0<=id) (h1:id<30) (hi:i<36) (ho:∀ j,o=some j->j<36):(vO id i o).size<=40:=by
 have h2:=yE h0 h1;have h3:=lV hi;cases o with
 | none=>unfold vO NU;simp only [ByteArray.size_append];have:(⟨#[123,34,95,105,100,34,58]⟩:ByteArray).size=7:=rfl;have:(⟨#[44,34,97,34,58]⟩:ByteArray).size=5:=rfl;have:(⟨#[125]⟩:ByteArray).size=1:=rfl;omega
 | some j=>have h4:=lV (ho j rfl);unfold vO NU;simp only [ByteArray.size_append];have:(⟨#[123,34,95,105,100,34,58]⟩:ByteArray).size=7:=rfl;have:(⟨#[44,34,97,34,58]⟩:ByteArray).size=5:=rfl;have:(⟨#[44,34,99,34,58]⟩:ByteArray).size=5:=rfl;have:(⟨#[125]⟩:ByteArray).size=1:=rfl;omega
theorem Fw {id:Int} {i:Nat} {o:Option Nat} (h0:0<=id) (h1:id<30) (hi:i<36) (ho:∀ j,o=some j->j<36):eJ (vO id i o)=0/\tJ (vO id i o)=iH id i o:=by
 have hw:=Zk (id:=id) hi ho;have hz:=Fv h0 h1 hi ho;rw [hw,fU] at hz;have hp:=vN (Wp (id:=id) (by omega) (by omega) hi ho) (yF hi ho) (by omega);rw [Wq hi ho] at hp;rw [hw];exact hp
theorem NZ (id:Int) (i:Nat) (o:Option Nat):lg (iH id i o)=true:=by cases o<;>kernel_rfl
theorem Qx (id:Int) (i:Nat) (o:Option Nat):Qt (iH id i o)=nT id:=by cases o<;>kernel_rfl
theorem Sz:((List.range 36).all fun i=>decide (aI 11 (tv i)<=100))=true:=by kernel_rfl
theorem KO {i:Nat} (h:i<36):aI 11 (tv i)<=100:=of_decide_eq_true (List.all_eq_true.1 Sz i (List.mem_range.2 h))
theorem Ws (n:Int):aI 11 (nT n)=9:=by kernel_rfl
theorem Cj {id:Int} {i:Nat} {o:Option Nat} (hi:i<36) (ho:∀ j,o=some j->j<36):aI 12 (iH id i o)<=300:=by
 have h1:=KO hi;have h2:=Ws id;cases o with
 | none =>
  have e:aI 12 (iH id i none)=5+kD (iH id i none) 2+(((0+aI 11 (nT id))+aI 11 (tv i))):=rfl
  have k:kD (iH id i none) 2<=50:=by
   have:kD (iH id i none) 2=kD (iH 0 0 none) 2:=rfl;rw [this];decide
  omega
 | some j =>
  have h3:=KO (ho j rfl);have e:aI 12 (iH id i (some j))=5+kD (iH id i (some j)) 3+((((0+aI 11 (nT id))+aI 11 (tv i)))+aI 11 (tv j)):=rfl
  have k:kD (iH id i (some j)) 3<=50:=by
   have:kD (iH id i (some j)) 3=kD (iH 0 0 (some 0)) 3:=rfl;rw [this];decide
  omega
theorem Wt {id:Int} {i:Nat} {o:Option Nat} (hi:i<36) (ho:∀ j,o=some j->j<36):Di (iH id i o)=true:=(nI _).2 ⟨yF hi ho,by have:=Cj (id:=id) hi ho;omega⟩
theorem Ck {id:Int} {i:Nat} {o:Option Nat} (hi:i<36) (ho:∀ j,o=some j->j<36):bR (iH id i o)=false:=by
 unfold bR;rw [Wt hi ho];have h1:=BR 12 _ (yF (id:=id) hi ho);have h2:=Cj (id:=id) hi ho;have h3:(Sq true (eT 12 (iH id i o))).size=(eT 12 (iH id i o)).length:=fU _;rw [h3];simp;omega
theorem acd {id:Int} {i:Nat} {o:Option Nat} (h0:0<=id) (h1:id<30) (hi:i<36) (ho:∀ j,o=some j->j<36):jQ (vO id i o)=none:=by
 obtain ⟨h2,h3⟩:=Fw h0 h1 hi ho;unfold jQ;rw [h2,h3,NZ,Ck hi ho];simp
theorem ace (a b:Int):(bQ 16 (nT a) (nT b)==0)=(a==b):=by
 have e:bQ 16 (nT a) (nT b)=oC a b:=by
  have ka:aj (nT a)=3:=rfl;have kb:aj (nT b)=3:=rfl;rw [bQ,ka,kb,if_neg (by simp),if_pos (.inr rfl)];rfl
 rw [e];by_cases h1:a<b
 ·rw [Ac h1,beq_eq_false_iff_ne.2 (by omega:a≠b)];rfl
 ·by_cases h2:b<a
  ·rw [Ad h2,beq_eq_false_iff_ne.2 (by omega:a≠b)];rfl
  ·obtain rfl:a=b:=by omega
   rw [Ae (Int.le_refl _) (Int.le_refl _)];simp
theorem Wu (a b:Int) (i:Nat) (o:Option Nat):jq (nT a) (iH b i o)=(b==a):=by
 unfold jq;rw [Qx,ace]
theorem vP (s:ByteArray) (w:World) (hs:s.size<=1000):Calls Tryz.prog 28 #[.string s] w fun e w'=>e=.returned (.string ((⟨#[34]⟩++s)++⟨#[34]⟩))/\w'=w:=by
 obtain ⟨a1,e1,z1,r1⟩:=aD ⟨#[34]⟩ s 1 s.size rfl rfl (by omega);obtain ⟨a2,e2,z2,r2⟩:=aD a1 ⟨#[34]⟩ a1.size 1 rfl rfl (by omega);have E:Hid (a2=(⟨#[34]⟩++s)++⟨#[34]⟩):=by show _=_;rw [e2,e1]
 clear e1 e2 z1 z2;go_in;go_wp2_with fail;go_ret;exact ⟨by rw [<- E.out];rfl,rfl⟩
def ahU:List ByteArray:=[⟨#[97]⟩,⟨#[99]⟩,⟨#[97,46,98]⟩,⟨#[97,46,49]⟩,⟨#[95,105,100]⟩,⟨#[99,46,48]⟩]
def rH (k:Nat):ByteArray:=ahU.getD k ByteArray.empty
def gV (c:Int):Nat:=(aT c % 6).toNat
theorem uh (c:Int):gV c<6:=by unfold gV;omega
theorem KP (c:Int) (w:World) (h0:-9223372036854775808<=c) (h1:c<=9223372036854775807):Calls Tryz.prog 29 #[.int .i64 c] w fun e w'=>e=.returned (.string (rH (gV c)))/\Below w.heap.size w w':=by
 have HP:Hid (∀ w,Calls Tryz.prog 53 #[.int .i64 c,.int .i64 6] w fun e w'=>e=.returned (.int .i64 (aT c % 6))/\w'=w):=fun w=>fA c 6 w h0 h1 (by omega) (by omega);have HN:Hid (gV c=(aT c % 6).toNat):=rfl;have hb:0<=aT c % 6/\aT c % 6<6:=by omega
 generalize gV c=pn at *;obtain ⟨m,hm⟩:∃ m,aT c % 6=m:=⟨_,rfl⟩;rw [hm] at HP HN hb;clear hm h0 h1;obtain h | h | h | h | h | h:m=0\/m=1\/m=2\/m=3\/m=4\/m=5:=by omega
 all_goals
  subst h;have hn:=HN.out;simp at hn;subst hn;clear HN hb;go_in;go_wp2_with fail;refine (HP.out _).mono ?_;rintro e w2 ⟨rfl,rfl⟩;go_wp2_with fail;go_ret;exact ⟨rfl,aY _ _⟩
end Go.Proofs.YtknakfpciccoaaaGreatDoor
