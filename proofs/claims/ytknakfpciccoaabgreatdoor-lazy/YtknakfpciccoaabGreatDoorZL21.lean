import Derived.Test.YtknakfpciccoaabGreatDoorZL20
import Derived.Test.YtknakfpciccoaabGreatDoorZL16
import Derived.Test.YtknakfpciccoaabGreatDoorZL2
import Derived.Test.YtknakfpciccoaabGreatDoorZL1
import Derived.Test.YtknakfpciccoaabGreatDoorZL3
import Derived.Test.YtknakfpciccoaabGreatDoorZL9
import Derived.Test.YtknakfpciccoaabGreatDoorZL18
import Derived.Test.YtknakfpciccoaabGreatDoorZL19
import Derived.Test.YtknakfpciccoaabGreatDoorZL10
/- Insert. -/
set_option maxHeartbeats 4000000
set_option maxRecDepth 100000
namespace Go.Proofs.YtknakfpciccoaabGreatDoor
open Go.RowKit Go.Maps Go.WideMaps
def mY (s:ByteArray):Option Int:=if eJ s≠0 then some (eJ s) else if lD (tJ s)=false then some 7 else if bZ (tJ s)=true then some 15 else none
def acf (w:World) (x s:ByteArray) (Dm:DataW Unit) (lf:Nat->List T) (vf:Nat->Value) (xf:Nat->List Value) (e:Ending) (w':World):Prop :=
 (Below w.heap.size w w'/\∃ er,mY s=some er/\e=.returned (.int .i64 er)) \/
 (Below w.heap.size w w'/\mY s=none/\tN Dm x=.nil/\e=.returned (.int .i64 10)) \/
 (mY s=none/\∃ c:Nat,tN Dm x=.lit (.int .i64 c)/\∃ w1 A B C D,Below w.heap.size w w1/\qg (aT w w1) w1 13 (.agg #[.int .i64 (ah (tJ s)),.int .i64 (au (tJ s)),.string (ay (tJ s)),.slice A (nL (tJ s)) B,.slice C (nK (tJ s)) D]) (tJ s)/\wQ w1 c (tJ s) (lf c) (vf c) (xf c) [.int .i64 (ah (tJ s)),.int .i64 (au (tJ s)),.string (ay (tJ s)),.slice A (nL (tJ s)) B,.slice C (nK (tJ s)) D] e w')
theorem wQ.shape {w:World} {c:Nat} {t:T} {l:List T} {v:Value} {xs cs:List Value} {e:Ending} {w':World} (h:wQ w c t l v xs cs e w'):∃ er:Int,e=.returned (.int .i64 er):=by
 rcases h with ⟨_,_,rfl⟩ | ⟨_,_,_,rfl⟩ | ⟨_,_,_,rfl,_⟩<;>exact ⟨_,rfl⟩
theorem Kn {Tb:World->Prop} (hA:bP Tb) (p m n:Nat) (Dm:DataW Unit) (lf:Nat->List T) (vf:Nat->Value) (xf:Nat->List Value) (x s:ByteArray) (w:World) (hs:s.size<=140737488355328) (hx:x.size<=140737488355328) (hst:jf w p m n Dm)
  (hc:∀ c:Nat,tN Dm x=.lit (.int .i64 c)->Col w c 13 (lf c) (vf c) (xf c)/\(lf c).length<=1000000/\∀ i,(h:i<(lf c).length)->Doc (lf c)[i]) (hT:Tb w) :
  Calls Tryz.prog 21 #[.pointer (some ⟨p,0,none⟩),.string x,.string s] w (acf w x s Dm lf vf xf):=by
 have HD:=aj (Kk hA.valid hA.dec hA.int hA.lies s w hs hT);have Hc:=aj hc;have sw:=aj hst;clear hT hc hst hA;go_in;go_wp2_with fail;refine HD.out.mono ?_;rintro e w1 ⟨b1,⟨h1,rfl⟩ | ⟨h1,h2,rfl⟩ | ⟨h1,h2,h3,rfl⟩ | ⟨h1,h2,h3,A,B,C,D,rfl,ha⟩⟩
 ·have ez:(eJ s==0)=false:=by simpa using h1
  have HE:Hid (mY s=some (eJ s)):=by show _=_;unfold mY;rw [if_pos h1]
  have HB:=aj (b1.alloc b1.size (.cells #[.int .i64 0,.int .i64 0,.string ⟨#[]⟩,.slice none 0 0,.slice none 0 0] 36));unfold kZ;clear h1 b1 HD;go_wp2_with fail;go_ret;exact .inl ⟨HB.out,_,HE.out,rfl⟩
 ·have HE:Hid (mY s=some 7):=by show _=_;unfold mY;rw [if_neg (by simpa using h1),if_pos h2]
  have HB:=aj (b1.alloc b1.size (.cells #[.int .i64 0,.int .i64 0,.string ⟨#[]⟩,.slice none 0 0,.slice none 0 0] 36));unfold kZ;clear h1 h2 b1 HD;go_wp2_with fail;go_ret;exact .inl ⟨HB.out,_,HE.out,rfl⟩
 ·have HE:Hid (mY s=some 15):=by show _=_;unfold mY;rw [if_neg (by simpa using h1),if_neg (by rw [h2];simp),if_pos h3]
  have HB:=aj (b1.alloc b1.size (.cells #[.int .i64 0,.int .i64 0,.string ⟨#[]⟩,.slice none 0 0,.slice none 0 0] 36));unfold kZ;clear h1 h2 h3 b1 HD;go_wp2_with fail;go_ret;exact .inl ⟨HB.out,_,HE.out,rfl⟩
 ·have HE:Hid (mY s=none):=by show _=_;unfold mY;rw [if_neg (by simpa using h1),if_neg (by rw [h2];simp),if_neg (by rw [h3];simp)]
  have ah7:=aj (EN (mW h1) h2);have HAl:=aj (aQ w1 (vC (tJ s) A B C D));have HB:=aj (b1.trans (HAl.out.mono b1.size));have lK:Hid (qg (aT w (w1.alloc (vC (tJ s) A B C D))) (w1.alloc (vC (tJ s) A B C D)) 13 (.agg #[.int .i64 (ah (tJ s)),.int .i64 (au (tJ s)),.string (ay (tJ s)),.slice A (nL (tJ s)) B,.slice C (nK (tJ s)) D]) (tJ s)):=ha.move HAl.out.size (fun b hb hp=>⟨⟨hp.1,Nat.lt_of_lt_of_le hb HAl.out.size⟩,HAl.out.block b hb⟩);have HS2:=aj (sw.out.keep HB.out);have c0:=HS2.out.cell;clear h1 h2 h3 b1 HD ha;rcases HS2.out.look x hx with ⟨hrun,hat⟩ | ⟨c,hrun,hat⟩
  ·have HN:=aj hat;clear hat;go_wp2_with fail;go_ret;exact .inr (.inl ⟨HB.out,HE.out,HN.out,rfl⟩)
  ·obtain ⟨afG,hn,hd⟩:=Hc.out c hat;have HN:=aj hat;have HIn:=aj (Ni c 13 (tJ s) (lf c) (vf c) (xf c) A C B D _ (afG.keep HB.out) (by omega) hn hd lK.out.at ah7.out);clear hat afG hn hd Hc;go_wp2_with fail;refine HIn.out.mono ?_;intro e w2 hi;obtain ⟨er,rfl⟩:=hi.shape;have HI2:=aj hi;clear hi HIn hrun;go_wp2_with fail;go_ret;exact .inr (.inr ⟨HE.out,c,HN.out,_,A,B,C,D,HB.out,lK.out,HI2.out⟩)
end Go.Proofs.YtknakfpciccoaabGreatDoor
/- The store as a whole: what each block is for. -/
namespace Go.Proofs.YtknakfpciccoaabGreatDoor
open Go.RowKit Go.Maps Go.WideMaps
theorem jf.move {w w':World} {p m n:Nat} {D:DataW Unit} (h:jf w p m n D) (hs:w.heap.size<=w'.heap.size) (hp:w'.heap[p]?=w.heap[p]?) (hm:w'.heap[m]?=w.heap[m]?):jf w' p m n D:=by
 obtain ⟨es,clock,h1,F,h2,h3⟩:=h.own;exact ⟨(aC hp 0).trans h.cell,Nat.lt_of_lt_of_le h.low hs,es,clock,hm.trans h1,F,h2,h3⟩
structure Zf (L:Nat->Nat) (w:World) (c:Nat) (l:List T) (v:Value) (xs:List Value):Prop where
 lab:L c=4
 cell:w.cell? ⟨c,0,none⟩=some v
 free:w.frozen? ⟨c,0,none⟩=false
 row:w.ownsRow 0 36 5 v l.length xs
 GK:∀ b,v.ownBlock=some b->L b=5+c
 at_:∀ i,(h:i<l.length)->qg (fun b=>L b=1) w 13 (fv xs i) l[i]
 doc:∀ i,(h:i<l.length)->Doc l[i]
theorem Zf.move {L L':Nat->Nat} {w w':World} {c:Nat} {l:List T} {v:Value} {xs:List Value} (h:Zf L w c l v xs) (hs:w.heap.size<=w'.heap.size) (hl:∀ b,L b=4/\b=c\/L b=5+c\/L b=1->L' b=L b/\w'.heap[b]?=w.heap[b]?):Zf L' w' c l v xs:=by
 obtain ⟨c1,c2⟩:=hl c (.inl ⟨h.lab,rfl⟩);refine ⟨c1.trans h.lab,(aC c2 0).trans h.cell,(World.frozen?_of_block (a:=⟨c,0,none⟩) c2).trans h.free,eZ h.row fun b e=>(hl b (.inr (.inl (h.GK b e)))).2,fun b e=>(hl b (.inr (.inl (h.GK b e)))).1.trans (h.GK b e),fun i hi=>(h.at_ i hi).move hs fun b _ hp=>?_,h.doc⟩;obtain ⟨k1,k2⟩:=hl b (.inr (.inr hp));exact ⟨k1.trans hp,k2⟩
structure Ko (L:Nat->Nat) (w:World) (p m n:Nat) (D:DataW Unit) (lf:Nat->List T) (vf:Nat->Value) (xf:Nat->List Value):Prop where
 Tv:jf w p m n D
 lp:L p=2
 lm:L m=3
 low:∀ b,L b≠0->b<w.heap.size
 col:∀ x c,tN D x=.lit (.int .i64 (c:Nat))->Zf L w c (lf c) (vf c) (xf c)
theorem Ko.keep {L:Nat->Nat} {w w':World} {p m n:Nat} {D:DataW Unit} {lf:Nat->List T} {vf:Nat->Value} {xf:Nat->List Value} (h:Ko L w p m n D lf vf xf) (hb:Below w.heap.size w w'):Ko L w' p m n D lf vf xf :=
 ⟨h.Tv.keep hb,h.lp,h.lm,fun b hl=>Nat.lt_of_lt_of_le (h.low b hl) hb.size,fun x c hx=>(h.col x c hx).move hb.size fun b hl=>⟨rfl,hb.block b (h.low b (by omega))⟩⟩
theorem Ko.VL {L:Nat->Nat} {w:World} {p m n:Nat} {D:DataW Unit} {lf:Nat->List T} {vf:Nat->Value} {xf:Nat->List Value} (h:Ko L w p m n D lf vf xf) {x:ByteArray} {c:Nat} (hx:tN D x=.lit (.int .i64 (c:Nat))):Col w c 13 (lf c) (vf c) (xf c):=by
 have hc:=h.col x c hx;refine ⟨hc.cell,hc.free,h.low c (by rw [hc.lab];omega),hc.row,fun e=>?_,fun i hi=>(hc.at_ i hi).at⟩;have h1:=hc.GK c e;have h2:=hc.lab;omega
theorem Ko.coll {L:Nat->Nat} {w:World} {p m n:Nat} {D:DataW Unit} {lf:Nat->List T} {vf:Nat->Value} {xf:Nat->List Value} (h:Ko L w p m n D lf vf xf) {x:ByteArray} {c:Nat} (hx:tN D x=.lit (.int .i64 (c:Nat))):Bv w c 13 (aX 5 0 ByteArray.empty (lf c) []):=by
 have hc:=h.VL hx;obtain ⟨La,Lc,hv,he⟩:=hc.elems;exact ⟨La,Lc,by rw [aI,hc.cell,hv],hc.low,he⟩
theorem P8 {xs ys:List Value} {i n:Nat} (hx:xs.length=n*5) (hi:i<n):fv (xs++ys) i=fv xs i:=by
 unfold fv;rw [gI (by omega),gI (by omega),gI (by omega),gI (by omega),gI (by omega)]
theorem Kq {xs:List Value} {c0 c1 c2 c3 c4:Value} {n:Nat} (hx:xs.length=n*5):fv (xs++[c0,c1,c2,c3,c4]) n=.agg #[c0,c1,c2,c3,c4]:=by
 unfold fv;rw [<- hx,show xs.length=xs.length+0 from rfl,fG,Nat.add_assoc,fG,Nat.add_assoc,fG,Nat.add_assoc,fG,Nat.add_assoc,fG];rfl
def Yt {α:Type} (f:Nat->α) (c:Nat) (a:α) (b:Nat):α:=if b=c then a else f b
theorem lF {α:Type} (f:Nat->α) (c:Nat) (a:α):Yt f c a c=a:=by simp [Yt]
theorem jB {α:Type} (f:Nat->α) {c b:Nat} (a:α) (h:b≠c):Yt f c a b=f b:=by simp [Yt,h]
theorem Ko.ins {L:Nat->Nat} {w w1 w':World} {p m n:Nat} {D:DataW Unit} {lf:Nat->List T} {vf:Nat->Value} {xf:Nat->List Value} (h:Ko L w p m n D lf vf xf) {x:ByteArray} {c:Nat} (hx:tN D x=.lit (.int .i64 (c:Nat))) (hb:Below w.heap.size w w1) {t:T} {c0 c1 c2 c3 c4:Value} (ha:qg (aT w w1) w1 13 (.agg #[c0,c1,c2,c3,c4]) t) (hd:Doc t)
  (hB:Kl c (vf c).ownBlock w1 w') {g cap:Nat} (q0:w'.cell? ⟨c,0,none⟩=some (.slice (some ⟨g,0,none⟩) ((lf c).length+1) cap)) (f0:w'.frozen? ⟨c,0,none⟩=false) (hg:(vf c).ownBlock=some g\/w1.heap.size<=g) (hO:w'.ownsRow 0 36 5 (.slice (some ⟨g,0,none⟩) ((lf c).length+1) cap) ((lf c).length+1) (xf c++[c0,c1,c2,c3,c4])) :
  ∃ L',(∀ b,L' b≠0->L b≠0\/w.heap.size<=b)/\Ko L' w' p m n D (Yt lf c (lf c++[t])) (Yt vf c (.slice (some ⟨g,0,none⟩) ((lf c).length+1) cap)) (Yt xf c (xf c++[c0,c1,c2,c3,c4])):=by
 have hc:=h.col x c hx;have hgl:g<w'.heap.size:=(hO.lt g rfl).2;have hcl:c<w.heap.size:=h.low c (by rw [hc.lab];omega);have s1:=hb.size;have s2:=hB.size;have hgw:(vf c).ownBlock=some g->g<w.heap.size/\L g=5+c:=fun e=>⟨h.low g (by rw [hc.GK g e];omega),hc.GK g e⟩;have old:∀ b,L b≠0->L b≠5+c->b≠c->w'.heap[b]?=w.heap[b]?:=fun b h0 h1 h2=>(hB.block b (by have:=h.low b h0;omega) h2 (fun e=>h1 (hc.GK b e.symm))).trans (hb.block b (h.low b h0));refine ⟨fun b=>if b<w.heap.size then L b else if b<w1.heap.size then 1 else if b=g then 5+c else 0,?_,?_,?_,?_,?_,?_⟩
 ·intro b hb0;by_cases e:b<w.heap.size
  ·simp only [if_pos e] at hb0;exact .inl hb0
  ·exact .inr (by omega)
 ·exact h.Tv.move (by omega) (old p (by rw [h.lp];omega) (by rw [h.lp];omega) (fun e=>by have:=h.lp;have:=hc.lab;subst e;omega)) (old m (by rw [h.lm];omega) (by rw [h.lm];omega) (fun e=>by have:=h.lm;have:=hc.lab;subst e;omega))
 ·show (if p<w.heap.size then L p else _)=2;rw [if_pos (h.low p (by rw [h.lp];omega))];exact h.lp
 ·show (if m<w.heap.size then L m else _)=3;rw [if_pos (h.low m (by rw [h.lm];omega))];exact h.lm
 ·intro b hb0;split at hb0
  ·omega
  ·split at hb0
   ·omega
   ·split at hb0
    ·omega
    ·exact absurd rfl hb0
 ·intro y c' hy;by_cases e:c'=c
  ·subst e;rw [lF,lF,lF];refine ⟨by rw [if_pos hcl];exact hc.lab,q0,f0,by rw [List.length_append];exact hO,fun b e=>?_,fun i hi=>?_,fun i hi=>?_⟩
   ·have eg:b=g:=by simpa [Value.ownBlock] using e.symm
    subst eg;show (if b<w.heap.size then L b else _)=_;rcases hg with h1 | h1
    ·rw [if_pos (hgw h1).1];exact (hgw h1).2
    ·rw [if_neg (by omega),if_neg (by omega),if_pos rfl]
   ·have hxl:(xf c').length=(lf c').length*5:=hc.row.1;rw [List.length_append,List.length_cons,List.length_nil] at hi;by_cases e:i<(lf c').length
    ·rw [P8 hxl e,List.getElem_append_left e];refine (hc.at_ i e).move (by omega) fun b hbl hp=>⟨?_,old b (by omega) (by omega) (fun e2=>by have:=hc.lab;subst e2;omega)⟩;show (if b<w.heap.size then L b else _)=1;rw [if_pos hbl];exact hp
    ·obtain rfl:i=(lf c').length:=by omega
     rw [Kq hxl,List.getElem_append_right (by omega)];simp only [Nat.sub_self,List.getElem_cons_zero];refine ha.move s2 fun b hbl hp=>⟨?_,hB.block b hbl (fun e2=>by have:=hp.1;omega) (fun e2=>by have:=h.low b (by rw [hc.GK b e2.symm];omega);have:=hp.1;omega)⟩;show (if b<w.heap.size then L b else _)=1;rw [if_neg (by have:=hp.1;omega),if_pos hbl]
   ·rw [List.length_append,List.length_cons,List.length_nil] at hi;by_cases e:i<(lf c').length
    ·rw [List.getElem_append_left e];exact hc.doc i e
    ·obtain rfl:i=(lf c').length:=by omega
     rw [List.getElem_append_right (by omega)];simp only [Nat.sub_self,List.getElem_cons_zero];exact hd
  ·rw [jB _ _ e,jB _ _ e,jB _ _ e];refine (h.col y c' hy).move (by omega) fun b hl=>⟨?_,old b (by omega) (by omega) (fun e2=>by have:=hc.lab;subst e2;omega)⟩;show (if b<w.heap.size then L b else _)=L b;rw [if_pos (h.low b (by omega))]
end Go.Proofs.YtknakfpciccoaabGreatDoor
/- The store's state behind New and Create. -/
namespace Go.Proofs.YtknakfpciccoaabGreatDoor
open Go.RowKit Go.Maps Go.WideMaps
theorem VN (x:ByteArray):WideAt.IsKeyLit (BG x):=by simp [BG,WideAt.IsKeyLit]
theorem Zg {x y:ByteArray} (h:y≠x):BG y≠BG x:=by
 intro e;simp only [BG,Lit.string.injEq] at e;exact h ((nQ _ _).1 e)
theorem mo {D:DataW Unit} (hD:IsMap D) (x:ByteArray) (d:DataW Unit):tN (D.put (BG x) d) x=d:=atKey_put_same hD (VN x) d .nil
theorem jg {D:DataW Unit} {x y:ByteArray} (h:y≠x) (d:DataW Unit):tN (D.put (BG x) d) y=tN D y:=atKey_put_other (Zg h) d .nil
theorem oI {a b:Nat} (h:(DataW.lit (.int .i64 (a:Int)):DataW Unit)=.lit (.int .i64 (b:Int))):a=b:=by
 simp only [DataW.lit.injEq,Lit.int.injEq] at h;omega
theorem Ko.cre {L:Nat->Nat} {w w':World} {p m n:Nat} {D:DataW Unit} {lf:Nat->List T} {vf:Nat->Value} {xf:Nat->List Value} (h:Ko L w p m n D lf vf xf) {x:ByteArray} (hc:Km w p m n D x w') :
  ∃ L' c,w.heap.size<=c/\(∀ b,L' b≠0->L b≠0\/w.heap.size<=b)/\Ko L' w' p m (n+1) (D.put (BG x) (.lit (.int .i64 (c:Nat)))) (Yt lf c []) (Yt vf c (.slice none 0 0)) (Yt xf c []):=by
 obtain ⟨c,hcw,hcl,hst,q0,f0,hB⟩:=hc;have s1:=hB.size;have old:∀ b,L b≠0->L b≠3->w'.heap[b]?=w.heap[b]?:=fun b h0 h1=>hB.block b (h.low b h0) (fun e=>by have:=h.lm;subst e;omega) (by simp);refine ⟨fun b=>if b<w.heap.size then L b else if b=c then 4 else 0,c,hcw,?_,hst,?_,?_,?_,?_⟩
 ·intro b hb0;by_cases e:b<w.heap.size
  ·simp only [if_pos e] at hb0;exact .inl hb0
  ·exact .inr (by omega)
 ·show (if p<w.heap.size then L p else _)=2;rw [if_pos (h.low p (by rw [h.lp];omega))];exact h.lp
 ·show (if m<w.heap.size then L m else _)=3;rw [if_pos (h.low m (by rw [h.lm];omega))];exact h.lm
 ·intro b hb0;split at hb0
  ·omega
  ·split at hb0
   ·omega
   ·exact absurd rfl hb0
 ·intro y c' hy;by_cases e:y=x
  ·subst e;rw [mo h.Tv.own.isMap] at hy;obtain rfl:=oI hy;rw [lF,lF,lF];refine ⟨by rw [if_neg (by omega),if_pos rfl],q0,f0,World.ownsRow_nil _ _ _ _,fun b e=>by simp [Value.ownBlock] at e,fun i hi=>absurd hi (Nat.not_lt_zero i),fun i hi=>absurd hi (Nat.not_lt_zero i)⟩
  ·rw [jg e] at hy;have hco:=h.col y c' hy;have hne:c'≠c:=fun e2=>by have:=h.low c' (by rw [hco.lab];omega);omega
   rw [jB _ _ hne,jB _ _ hne,jB _ _ hne];refine hco.move s1 fun b hl=>⟨?_,old b (by omega) (by omega)⟩;show (if b<w.heap.size then L b else _)=L b;rw [if_pos (h.low b (by omega))]
theorem Ko.new (w:World) (lf:Nat->List T) (vf:Nat->Value) (xf:Nat->List Value):∃ L,(∀ b,L b≠0->w.heap.size<=b)/\Ko L ((w.alloc (.map #[] 0)).alloc (.cells #[.map (some w.heap.size)] 76)) (w.heap.size+1) w.heap.size 0 (.map []) lf vf xf:=by
 refine ⟨fun b=>if b=w.heap.size+1 then 2 else if b=w.heap.size then 3 else 0,fun b hb=>?_,⟨by simp [go_sem],by simp,(World.ownsMap_made w _ _ _).alloc _⟩,by simp,by simp,fun b hb=>?_,fun x c hx=>?_⟩
 ·by_cases e:w.heap.size<=b
  ·exact e
  ·simp only [if_neg (show ¬ b=w.heap.size+1 by omega),if_neg (show ¬ b=w.heap.size by omega)] at hb;exact absurd rfl hb
 ·split at hb
  ·subst b;simp
  ·split at hb
   ·subst b;simp;omega
   ·exact absurd rfl hb
 ·have e:tN (.map []) x=.nil:=rfl;rw [e] at hx;cases hx
def GL:Nat->T->Prop
 | 0,_=>False
 | f+1,t=>zk t/\(∀ i,i<nL t->GL f (elt t i))/\∀ i,i<nK t->(bR t i).size<=140737488355328
theorem EO {f:Nat} {t:T} (ih:∀ i,i<nL t->∀ w:World,∃ w' v,Below w.heap.size w w'/\At w' f v (elt t i)):∀ k,k<=nL t->∀ w:World,∃ (w':World) (xs:List Value),Below w.heap.size w w'/\xs.length=k*5/\∀ i,i<k->At w' f (fv xs i) (elt t i)
 | 0,_,w=>⟨w,[],Below.refl _ _,rfl,fun i hi=>absurd hi (Nat.not_lt_zero i)⟩
 | k+1,hk,w=>by
  obtain ⟨w1,xs,b1,hx,h1⟩:=EO ih k (by omega) w;obtain ⟨w2,v,b2,ha⟩:=ih k (by omega) w1;obtain ⟨g,La,Ka,Lc,Kc,rfl,rfl,_⟩:=ha.open;refine ⟨w2,xs++[.int .i64 (ah (elt t k)),.int .i64 (au (elt t k)),.string (ay (elt t k)),.slice La (nL (elt t k)) Lc,.slice Ka (nK (elt t k)) Kc],b1.trans (b2.mono b1.size),by rw [List.length_append,hx];simp;omega,fun i hi=>?_⟩;by_cases e:i<k
  ·rw [P8 hx e];exact At.keep b2 (h1 i e)
  ·obtain rfl:i=k:=by omega
   rw [Kq hx];exact ha
theorem EP:∀ (f:Nat) (t:T),GL f t->∀ w:World,∃ w' v,Below w.heap.size w w'/\At w' f v t
 | 0,_,h,_=>h.elim
 | f+1,t,⟨hf,he,hn⟩,w=>by
  obtain ⟨w1,xs,b1,hx,h1⟩:=EO (fun i hi=>EP f (elt t i) (he i hi)) (nL t) (Nat.le_refl _) w;have bA:Below w1.heap.size w1 (w1.alloc (.cells xs.toArray 36)):=aQ _ _;have bB:Below (w1.heap.size+1) (w1.alloc (.cells xs.toArray 36)) ((w1.alloc (.cells xs.toArray 36)).alloc (.cells (gG (kQ t)).toArray 9)):=(Below.refl _ _).alloc (by simp) _
  have r1:(w1.alloc (.cells xs.toArray 36)).ownsRow 0 36 5 (.slice (some ⟨w1.heap.size,0,none⟩) (nL t) (nL t)) (nL t) xs:=by
   have:=World.ownsRow_lit (base:=0) (e:=36) (size:=5) w1 xs.toArray (nL t) (Nat.zero_le _) (by have:=hf.l1;unfold maxLen;omega) (by simpa using hx);simpa using this
  have r2:((w1.alloc (.cells xs.toArray 36)).alloc (.cells (gG (kQ t)).toArray 9)).ownsRow 0 9 1 (.slice (some ⟨w1.heap.size+1,0,none⟩) (nK t) (nK t)) (nK t) (gG (kQ t)):=by
   have:=World.ownsRow_lit (base:=0) (e:=9) (size:=1) (w1.alloc (.cells xs.toArray 36)) (gG (kQ t)).toArray (nK t) (Nat.zero_le _) (by have:=hf.m1;unfold maxLen;omega) (by simp [gG,nK]);simpa using this
  have hC:Below w1.heap.size w1 ((w1.alloc (.cells xs.toArray 36)).alloc (.cells (gG (kQ t)).toArray 9)):=bA.trans (bB.mono (by omega));generalize ((w1.alloc (.cells xs.toArray 36)).alloc (.cells (gG (kQ t)).toArray 9))=w3 at bB r2 hC;refine ⟨w3,_,b1.trans (hC.mono b1.size),some ⟨w1.heap.size,0,none⟩,some ⟨w1.heap.size+1,0,none⟩,nL t,nK t,rfl,hf,fun i hi=>?_,fun i hi=>?_⟩
  ·have hc:∀ j,j<5->w3.cell? ⟨w1.heap.size,i*5+j,none⟩=some (cx xs (i*5+j)):=fun j hj=>(bB.cell (p:=⟨w1.heap.size,i*5+j,none⟩) (by simp)).trans (aW r1 (dR (by omega)));have hlt:w1.heap.size<w3.heap.size:=by have:=bB.size;simp at this;omega
   refine ⟨w1.heap.size,0,cx xs (i*5),cx xs (i*5+1),cx xs (i*5+2),cx xs (i*5+3),cx xs (i*5+4),rfl,hlt,(by rw [Nat.zero_add];exact hc 0 (by omega)),(by rw [Nat.zero_add];exact hc 1 (by omega)),(by rw [Nat.zero_add];exact hc 2 (by omega)),(by rw [Nat.zero_add];exact hc 3 (by omega)),(by rw [Nat.zero_add];exact hc 4 (by omega)),?_⟩;exact At.keep hC (h1 i hi)
  ·have hi':i<(kQ t).length:=hi;refine ⟨w1.heap.size+1,0,rfl,(r2.lt _ rfl).2,hn i hi,?_⟩;rw [Nat.zero_add];refine aW r2 ?_;simp [gG,bR,List.getD_eq_getElem?_getD,hi']
theorem BH {f:Nat} {t:T} (hf:GL f t) (hg:fJ 12 t) (hl:(dG 12 t).length<=4000):eJ (aY (dG 12 t))=0/\tJ (aY (dG 12 t))=dS 12 t:=by
 obtain ⟨w,v,_,ha⟩:=EP f t hf default;exact (Vq ha hg).2 hl
end Go.Proofs.YtknakfpciccoaabGreatDoor
/- The walk of the program's Compare. -/
namespace Go.Proofs.YtknakfpciccoaabGreatDoor
open Go.RowKit
end Go.Proofs.YtknakfpciccoaabGreatDoor
/- The walk of Texts: it returns true. -/
namespace Go.Proofs.YtknakfpciccoaabGreatDoor
open Go.RowKit
def Nk (id:Int) (i:Nat):ByteArray:=((⟨#[123,34,95,105,100,34,58]⟩++aY (Lib.itoa id))++⟨#[44,34,97,34,58]⟩)++vt i
def vw (id:Int) (i:Nat) (o:Option Nat):ByteArray:=(match o with | none=>Nk id i | some j=>(Nk id i++⟨#[44,34,99,34,58]⟩)++vt j)++⟨#[125]⟩
theorem vB {n:Int} (h0:0<=n) (h1:n<30):(aY (Lib.itoa n)).size<=2:=by
 obtain ⟨k,rfl⟩:∃ k:Nat,n=(k:Int):=⟨n.toNat,by omega⟩;have h:((List.range 30).all fun k=>decide ((aY (Lib.itoa ((k:Nat):Int))).size<=2))=true:=by kernel_rfl
 exact of_decide_eq_true (List.all_eq_true.1 h k (List.mem_range.2 (by omega)))
theorem GN {Tb:World->Prop} (hI:bn Tb) (hL:aS Tb) (id c d:Int) (w:World) (i0:0<=id) (i1:id<30) (c0:-9223372036854775808<=c) (c1:c<=9223372036854775807) (d0:-9223372036854775808<=d) (d1:d<=9223372036854775807) (hT:Tb w) :
  Calls Tryz.prog 20 #[.int .i64 id,.int .i64 c,.int .i64 d] w fun e w'=>Below w.heap.size w w'/\∃ i o,i<36/\(∀ j,o=some j->j<36)/\e=.returned (.string (vw id i o)):=by
 have HI:=aj (hI id w (by omega) (by omega) hT);have HT:Hid (∀ w':World,Below w.heap.size w w'->Tb w'):=fun w' hb=>hL w hT w w' hT hb;have HV:Hid (∀ (c:Int) (w:World),-9223372036854775808<=c->c<=9223372036854775807->Tb w->Calls Tryz.prog 32 #[.int .i64 c] w (Jo w)):=fun c w h0 h1 ht=>Mt hI hL c w h0 h1 ht;have HP:Hid (∀ w,Calls Tryz.prog 11 #[.int .i64 d,.int .i64 3] w fun e w'=>e=.returned (.int .i64 (bQ d % 3))/\w'=w):=fun w=>eO d 3 w d0 d1 (by omega) (by omega)
 have HQ:Hid (-9223372036854775808<=d.tdiv 3/\d.tdiv 3<=9223372036854775807):=by
  show _/\_;have h1:=Int.tdiv_mul_add_tmod d 3;by_cases h:0<=d
  ·rw [Int.tdiv_eq_ediv_of_nonneg h];omega
  ·have:d.tdiv 3=-((-d).tdiv 3):=by rw [Int.neg_tdiv];simp
   rw [this,Int.tdiv_eq_ediv_of_nonneg (by omega)];omega
 have hq:IntKind.i64.wrap (d.tdiv 3)=d.tdiv 3:=by rw [IntKind.wrap_i64];have:=HQ.out;omega
 have Hz:=aj (vB i0 i1);have Hc:=aj (And.intro c0 c1);clear hT hI hL;obtain ⟨a1,e1,z1,r1⟩:=aB ⟨#[123,34,95,105,100,34,58]⟩ (aY (Lib.itoa id)) 7 (aY (Lib.itoa id)).size rfl rfl (by have:=Hz.out;omega);obtain ⟨a2,e2,z2,r2⟩:=aB a1 ⟨#[44,34,97,34,58]⟩ a1.size 5 rfl rfl (by have:=Hz.out;omega);have E2:=aj (And.intro e1 e2);have Z2:Hid (a2.size<=14):=by show _<=_;have:=Hz.out;omega
 clear e1 e2 z1 z2 Hz;generalize hbi:aY (Lib.itoa id)=bi at HI r1 E2;have Hbi:=aj hbi;clear hbi;go_in;go_wp2_with fail;refine HI.out.mono ?_;rintro e w1 ⟨rfl,b1⟩;have HB1:=aj b1;have zo:=aj (HV.out c w1 Hc.out.1 Hc.out.2 (HT.out _ b1));clear b1 HI;go_wp2_with fail;refine zo.out.mono ?_;rintro e w2 ⟨sv,⟨i,hi,rfl⟩,rfl,b2⟩;have HB2:=aj (HB1.out.trans (b2.mono HB1.out.size));have Hi:=aj hi;obtain ⟨a3,e3,z3,r3⟩:=aB a2 (vt i) a2.size (vt i).size rfl rfl (by have:=Z2.out;have:=lY hi;omega);have E3:Hid (a3=Nk id i):=by show _=_;rw [e3,E2.out.2,E2.out.1,<- Hbi.out];rfl
 have Z3:Hid (a3.size<=24):=by show _<=_;have:=Z2.out;have:=lY hi;omega
 clear b2 hi zo e3 z3;generalize vt i=si at *;go_wp2_with fail;refine (HP.out w2).mono ?_;rintro e w3 ⟨rfl,rfl⟩;by_cases hp:0<bQ d % 3
 ·have Cy:=aj (HV.out (d.tdiv 3) w3 HQ.out.1 HQ.out.2 (HT.out _ HB2.out));obtain ⟨a4,e4,z4,r4⟩:=aB a3 ⟨#[44,34,99,34,58]⟩ a3.size 5 rfl rfl (by have:=Z3.out;omega);have E4:=aj e4;have Z4:Hid (a4.size<=29):=by show _<=_;have:=Z3.out;omega
  clear e4 z4;go_wp2_with fail;refine Cy.out.mono ?_;rintro e w4 ⟨sv2,⟨j,hj,rfl⟩,rfl,b4⟩;have bT:=aj (HB2.out.trans (b4.mono HB2.out.size));have Hj:=aj hj;obtain ⟨a5,e5,z5,r5⟩:=aB a4 (vt j) a4.size (vt j).size rfl rfl (by have:=Z4.out;have:=lY hj;omega);obtain ⟨a6,e6,z6,r6⟩:=aB a5 ⟨#[125]⟩ a5.size 1 rfl rfl (by have:=Z4.out;have:=lY hj;omega);have E6:Hid (a6=vw id i (some j)):=by show _=_;rw [e6,e5,E4.out,E3.out];rfl
  clear b4 hj Cy e5 z5 e6 z6;generalize vt j=sj at *;go_wp2_with fail;go_ret;exact ⟨bT.out,i,some j,Hi.out,fun j' hj'=>by cases hj';exact Hj.out,by rw [E6.out];rfl⟩
 ·obtain ⟨a6,e6,z6,r6⟩:=aB a3 ⟨#[125]⟩ a3.size 1 rfl rfl (by have:=Z3.out;omega);have E6:Hid (a6=vw id i none):=by show _=_;rw [e6,E3.out];rfl
  clear e6 z6;go_wp2_with fail;go_ret;exact ⟨HB2.out,i,none,Hi.out,(fun j' hj'=>by cases hj'),by rw [E6.out];rfl⟩
def dY (id:Int) (i:Nat) (o:Option Nat):T:=match o with
 | none=>aX 6 0 ByteArray.empty [nT id,tv i] [⟨#[95,105,100]⟩,⟨#[97]⟩]
 | some j=>aX 6 0 ByteArray.empty [nT id,tv i,tv j] [⟨#[95,105,100]⟩,⟨#[97]⟩,⟨#[99]⟩]
theorem Nl:((List.range 36).all fun i=>decide (dG 11 (tv i)=(vt i).data.toList))=true:=by kernel_rfl
theorem GQ {i:Nat} (h:i<36):dG 11 (tv i)=(vt i).data.toList:=of_decide_eq_true (List.all_eq_true.1 Nl i (List.mem_range.2 h))
theorem aa5 (n:Int):dG 11 (nT n)=Lib.itoa n:=by
 rw [pX (by show (3:Int)≠5;decide) (by show (3:Int)≠6;decide)];rfl
theorem GR {s:ByteArray} {l:List UInt8} (h:s.data.toList=l):s=aY l:=by
 apply (nQ _ _).1;rw [h];simp [aY]
theorem aO (a b:ByteArray):(a++b).data.toList=a.data.toList++b.data.toList:=by simp
theorem qId:dK ⟨#[95,105,100]⟩=[34,95,105,100,34]:=by kernel_rfl
theorem qA:dK ⟨#[97]⟩=[34,97,34]:=by kernel_rfl
theorem qC:dK ⟨#[99]⟩=[34,99,34]:=by kernel_rfl
theorem Zh {id:Int} {i:Nat} {o:Option Nat} (hi:i<36) (ho:∀ j,o=some j->j<36):vw id i o=aY (dG 12 (dY id i o)):=by
 apply GR;cases o with
 | none =>
  have e:dG 12 (dY id i none)=123::((([]++([]++(dK ⟨#[95,105,100]⟩++(58::dG 11 (nT id)))))++([44]++(dK ⟨#[97]⟩++(58::dG 11 (tv i)))))++[125]):=rfl;rw [e,GQ hi,aa5,qId,qA];unfold vw Nk;simp only [aO];simp [aY]
 | some j =>
  have e:dG 12 (dY id i (some j))=123::(((([]++([]++(dK ⟨#[95,105,100]⟩++(58::dG 11 (nT id)))))++([44]++(dK ⟨#[97]⟩++(58::dG 11 (tv i)))))++([44]++(dK ⟨#[99]⟩++(58::dG 11 (tv j)))))++[125]):=rfl;rw [e,GQ hi,GQ (ho j rfl),aa5,qId,qA,qC];unfold vw Nk;simp only [aO];simp [aY]
def Nn:Nat->T->Bool
 | 0,_=>false
 | f+1,t=>(decide (-9223372036854775808<=ah t)&&decide (ah t<=9223372036854775807)&&decide (-9223372036854775808<=au t)&&decide (au t<=9223372036854775807)&&decide ((ay t).size<=140737488355328)&&decide (nL t<=1759218604442)&&decide (nK t<=8796093022208))&&((List.range (nL t)).all fun i=>Nn f (elt t i))&&((List.range (nK t)).all fun i=>decide ((bR t i).size<=140737488355328))
theorem sF:∀ (f:Nat) (t:T),Nn f t=true->GL f t
 | 0,_,h=>by cases h
 | f+1,t,h=>by
  unfold Nn at h;simp only [Bool.and_eq_true,decide_eq_true_eq,List.all_eq_true,List.mem_range] at h;obtain ⟨⟨⟨⟨⟨⟨⟨⟨h1,h2⟩,h3⟩,h4⟩,h5⟩,h6⟩,h7⟩,h8⟩,h9⟩:=h;exact ⟨⟨h1,h2,h3,h4,h5,h6,h7⟩,fun i hi=>sF f _ (h8 i hi),h9⟩
theorem Zi:((List.range 36).all fun i=>Nn 3 (tv i))=true:=by kernel_rfl
theorem acg {i:Nat} (h:i<36):GL 3 (tv i):=sF 3 _ (List.all_eq_true.1 Zi i (List.mem_range.2 h))
theorem Np:((List.range 36).all fun i=>(aP 11 (tv i) 1048576).isSome)=true:=by kernel_rfl
theorem RZ {i:Nat} (h:i<36):fJ 11 (tv i):=by
 have h1:=List.all_eq_true.1 Np i (List.mem_range.2 h);rcases mM 11 (tv i) 1048576 (by omega) with ⟨_,h2,_⟩ | ⟨h3,_⟩
 ·exact h2
 ·rw [h3] at h1;cases h1
theorem ach:(List.range 36).map (fun i=>dS 11 (tv i))=(List.range 36).map tv:=by kernel_rfl
theorem BI {i:Nat} (h:i<36):dS 11 (tv i)=tv i:=by
 have:=congrArg (fun l=>l[i]?) ach;simpa [h] using this
theorem GU (n:Int) (m:Nat):fJ m (nT n):=by
 have h:bg (nT n):=⟨rfl,rfl,.inr (.inr (.inl ⟨rfl,dV 3 n [] []⟩))⟩;cases m with
 | zero=>exact h
 | succ m=>exact .inl h
theorem aci {n:Int} (h0:-9223372036854775808<=n) (h1:n<=9223372036854775807):GL 3 (nT n) :=
 ⟨⟨by show -9223372036854775808<=(3:Int);omega,by show (3:Int)<=9223372036854775807;omega,h0,h1,by show (0:Nat)<=_;omega,by show (0:Nat)<=_;omega,by show (0:Nat)<=_;omega⟩,fun i hi=>absurd hi (Nat.not_lt_zero i),fun i hi=>absurd hi (Nat.not_lt_zero i)⟩
theorem Kr {id:Int} {i:Nat} {o:Option Nat} (ho:∀ j,o=some j->j<36) (hi:i<36) {k:Nat} (hk:k<nL (dY id i o)):elt (dY id i o) k=nT id\/∃ j,j<36/\elt (dY id i o) k=tv j:=by
 cases o with
 | none =>
  have hk':k<2:=hk
  match k,hk' with
  | 0,_=>exact .inl rfl
  | 1,_=>exact .inr ⟨i,hi,rfl⟩
 | some j =>
  have hk':k<3:=hk
  match k,hk' with
  | 0,_=>exact .inl rfl
  | 1,_=>exact .inr ⟨i,hi,rfl⟩
  | 2,_=>exact .inr ⟨j,ho j rfl,rfl⟩
theorem yg {id:Int} {i:Nat} {o:Option Nat} (hi:i<36) (ho:∀ j,o=some j->j<36):fJ 12 (dY id i o):=by
 refine .inr ⟨by cases o<;>rfl,by cases o<;>exact dV _ _ _ _,fun k hk=>?_,.inr ⟨by cases o<;>rfl,by cases o<;>rfl,by cases o<;>kernel_rfl,by cases o<;>kernel_rfl⟩⟩;rcases Kr ho hi hk with e | ⟨j,hj,e⟩
 ·rw [e];exact GU id 11
 ·rw [e];exact RZ hj
theorem VO {id:Int} {i:Nat} {o:Option Nat} (h0:-9223372036854775808<=id) (h1:id<=9223372036854775807) (hi:i<36) (ho:∀ j,o=some j->j<36):GL 4 (dY id i o):=by
 have hF:zk (dY id i o):=by
  cases o with
  | none=>exact ⟨by show (-9223372036854775808:Int)<=6;omega,by show (6:Int)<=9223372036854775807;omega,by show (-9223372036854775808:Int)<=0;omega,by show (0:Int)<=9223372036854775807;omega,by show (0:Nat)<=_;omega,by show (2:Nat)<=_;omega,by show (2:Nat)<=_;omega⟩
  | some j=>exact ⟨by show (-9223372036854775808:Int)<=6;omega,by show (6:Int)<=9223372036854775807;omega,by show (-9223372036854775808:Int)<=0;omega,by show (0:Int)<=9223372036854775807;omega,by show (0:Nat)<=_;omega,by show (3:Nat)<=_;omega,by show (3:Nat)<=_;omega⟩
 refine ⟨hF,fun k hk=>?_,fun k hk=>?_⟩
 ·rcases Kr ho hi hk with e | ⟨j,hj,e⟩
  ·rw [e];exact aci h0 h1
  ·rw [e];exact acg hj
 ·cases o with
  | none =>
   have hk':k<2:=hk
   match k,hk' with
   | 0,_=>show (3:Nat)<=_;omega
   | 1,_=>show (1:Nat)<=_;omega
  | some j =>
   have hk':k<3:=hk
   match k,hk' with
   | 0,_=>show (3:Nat)<=_;omega
   | 1,_=>show (1:Nat)<=_;omega
   | 2,_=>show (1:Nat)<=_;omega
theorem VP {id:Int} {i:Nat} {o:Option Nat} (hi:i<36) (ho:∀ j,o=some j->j<36):dS 12 (dY id i o)=dY id i o:=by
 have hn:dS 11 (nT id)=nT id:=rfl;cases o with
 | none =>
  show aX 6 0 ByteArray.empty [dS 11 (nT id),dS 11 (tv i)] _=_;rw [hn,BI hi];rfl
 | some j =>
  show aX 6 0 ByteArray.empty [dS 11 (nT id),dS 11 (tv i),dS 11 (tv j)] _=_;rw [hn,BI hi,BI (ho j rfl)];rfl
theorem ER {id:Int} {i:Nat} {o:Option Nat} (h0:0<=id) (h1:id<30) (hi:i<36) (ho:∀ j,o=some j->j<36):(vw id i o).size<=40:=by
 have h2:=vB h0 h1;have h3:=lY hi;cases o with
 | none=>unfold vw Nk;simp only [ByteArray.size_append];have:(⟨#[123,34,95,105,100,34,58]⟩:ByteArray).size=7:=rfl;have:(⟨#[44,34,97,34,58]⟩:ByteArray).size=5:=rfl;have:(⟨#[125]⟩:ByteArray).size=1:=rfl;omega
 | some j=>have h4:=lY (ho j rfl);unfold vw Nk;simp only [ByteArray.size_append];have:(⟨#[123,34,95,105,100,34,58]⟩:ByteArray).size=7:=rfl;have:(⟨#[44,34,97,34,58]⟩:ByteArray).size=5:=rfl;have:(⟨#[44,34,99,34,58]⟩:ByteArray).size=5:=rfl;have:(⟨#[125]⟩:ByteArray).size=1:=rfl;omega
theorem ES {id:Int} {i:Nat} {o:Option Nat} (h0:0<=id) (h1:id<30) (hi:i<36) (ho:∀ j,o=some j->j<36):eJ (vw id i o)=0/\tJ (vw id i o)=dY id i o:=by
 have hw:=Zh (id:=id) hi ho;have hz:=ER h0 h1 hi ho;rw [hw,gN] at hz;have hp:=BH (VO (id:=id) (by omega) (by omega) hi ho) (yg hi ho) (by omega);rw [VP hi ho] at hp;rw [hw];exact hp
theorem Nq (id:Int) (i:Nat) (o:Option Nat):lD (dY id i o)=true:=by cases o<;>kernel_rfl
theorem P9 (id:Int) (i:Nat) (o:Option Nat):RV (dY id i o)=nT id:=by cases o<;>kernel_rfl
theorem R3:((List.range 36).all fun i=>decide (aK 11 (tv i)<=100))=true:=by kernel_rfl
theorem Kt {i:Nat} (h:i<36):aK 11 (tv i)<=100:=of_decide_eq_true (List.all_eq_true.1 R3 i (List.mem_range.2 h))
theorem VQ (n:Int):aK 11 (nT n)=9:=by kernel_rfl
theorem BJ {id:Int} {i:Nat} {o:Option Nat} (hi:i<36) (ho:∀ j,o=some j->j<36):aK 12 (dY id i o)<=300:=by
 have h1:=Kt hi;have h2:=VQ id;cases o with
 | none =>
  have e:aK 12 (dY id i none)=5+kg (dY id i none) 2+(((0+aK 11 (nT id))+aK 11 (tv i))):=rfl
  have k:kg (dY id i none) 2<=50:=by
   have:kg (dY id i none) 2=kg (dY 0 0 none) 2:=rfl;rw [this];decide
  omega
 | some j =>
  have h3:=Kt (ho j rfl);have e:aK 12 (dY id i (some j))=5+kg (dY id i (some j)) 3+((((0+aK 11 (nT id))+aK 11 (tv i)))+aK 11 (tv j)):=rfl
  have k:kg (dY id i (some j)) 3<=50:=by
   have:kg (dY id i (some j)) 3=kg (dY 0 0 (some 0)) 3:=rfl;rw [this];decide
  omega
theorem VT {id:Int} {i:Nat} {o:Option Nat} (hi:i<36) (ho:∀ j,o=some j->j<36):IL (dY id i o)=true:=(sV _).2 ⟨yg hi ho,by have:=BJ (id:=id) hi ho;omega⟩
theorem Nr {id:Int} {i:Nat} {o:Option Nat} (hi:i<36) (ho:∀ j,o=some j->j<36):bZ (dY id i o)=false:=by
 unfold bZ;rw [VT hi ho];have h1:=Bp 12 _ (yg (id:=id) hi ho);have h2:=BJ (id:=id) hi ho;have h3:(RS true (fA 12 (dY id i o))).size=(fA 12 (dY id i o)).length:=gN _;rw [h3];simp;omega
theorem acj {id:Int} {i:Nat} {o:Option Nat} (h0:0<=id) (h1:id<30) (hi:i<36) (ho:∀ j,o=some j->j<36):mY (vw id i o)=none:=by
 obtain ⟨h2,h3⟩:=ES h0 h1 hi ho;unfold mY;rw [h2,h3,Nq,Nr hi ho];simp
theorem acn (a b:Int):(bS 16 (nT a) (nT b)==0)=(a==b):=by
 have e:bS 16 (nT a) (nT b)=kR a b:=by
  have ka:ah (nT a)=3:=rfl;have kb:ah (nT b)=3:=rfl;rw [bS,ka,kb,if_neg (by simp),if_pos (.inr rfl)];rfl
 rw [e];by_cases h1:a<b
 ·rw [zM h1,beq_eq_false_iff_ne.2 (by omega:a≠b)];rfl
 ·by_cases h2:b<a
  ·rw [zN h2,beq_eq_false_iff_ne.2 (by omega:a≠b)];rfl
  ·obtain rfl:a=b:=by omega
   rw [zO (Int.le_refl _) (Int.le_refl _)];simp
theorem VU (a b:Int) (i:Nat) (o:Option Nat):jP (nT a) (dY b i o)=(b==a):=by
 unfold jP;rw [P9,acn]
theorem vD (s:ByteArray) (w:World) (hs:s.size<=1000):Calls Tryz.prog 8 #[.string s] w fun e w'=>e=.returned (.string ((⟨#[34]⟩++s)++⟨#[34]⟩))/\w'=w:=by
 obtain ⟨a1,e1,z1,r1⟩:=aB ⟨#[34]⟩ s 1 s.size rfl rfl (by omega);obtain ⟨a2,e2,z2,r2⟩:=aB a1 ⟨#[34]⟩ a1.size 1 rfl rfl (by omega);have E:Hid (a2=(⟨#[34]⟩++s)++⟨#[34]⟩):=by show _=_;rw [e2,e1]
 clear e1 e2 z1 z2;go_in;go_wp2_with fail;go_ret;exact ⟨by rw [<- E.out];rfl,rfl⟩
def ah8:List ByteArray:=[⟨#[97]⟩,⟨#[99]⟩,⟨#[97,46,98]⟩,⟨#[97,46,49]⟩,⟨#[95,105,100]⟩,⟨#[99,46,48]⟩]
def rC (k:Nat):ByteArray:=ah8.getD k ByteArray.empty
def gT (c:Int):Nat:=(bQ c % 6).toNat
theorem tQ (c:Int):gT c<6:=by unfold gT;omega
theorem Ku (c:Int) (w:World) (h0:-9223372036854775808<=c) (h1:c<=9223372036854775807):Calls Tryz.prog 9 #[.int .i64 c] w fun e w'=>e=.returned (.string (rC (gT c)))/\Below w.heap.size w w':=by
 have HP:Hid (∀ w,Calls Tryz.prog 11 #[.int .i64 c,.int .i64 6] w fun e w'=>e=.returned (.int .i64 (bQ c % 6))/\w'=w):=fun w=>eO c 6 w h0 h1 (by omega) (by omega);have HN:Hid (gT c=(bQ c % 6).toNat):=rfl;have hb:0<=bQ c % 6/\bQ c % 6<6:=by omega
 generalize gT c=pn at *;obtain ⟨m,hm⟩:∃ m,bQ c % 6=m:=⟨_,rfl⟩;rw [hm] at HP HN hb;clear hm h0 h1;obtain h | h | h | h | h | h:m=0\/m=1\/m=2\/m=3\/m=4\/m=5:=by omega
 all_goals
  subst h;have hn:=HN.out;simp at hn;subst hn;clear HN hb;go_in;go_wp2_with fail;refine (HP.out _).mono ?_;rintro e w2 ⟨rfl,rfl⟩;go_wp2_with fail;go_ret;exact ⟨rfl,aQ _ _⟩
end Go.Proofs.YtknakfpciccoaabGreatDoor
