import Derived.Test.YtknakfpciccoaaaGreatDoorZF23
import Derived.Test.YtknakfpciccoaaaGreatDoorZF20
import Derived.Test.YtknakfpciccoaaaGreatDoorZF11
import Derived.Test.YtknakfpciccoaaaGreatDoorZF14
import Derived.Test.YtknakfpciccoaaaGreatDoorZF3
import Derived.Test.YtknakfpciccoaaaGreatDoorZF21
import Derived.Test.YtknakfpciccoaaaGreatDoorZF22
import Derived.Test.YtknakfpciccoaaaGreatDoorZF12
import Derived.Test.YtknakfpciccoaaaGreatDoorZF15
/- The store as a whole: what each block is for. -/
namespace Go.Proofs.YtknakfpciccoaaaGreatDoor
open Go.RowKit Go.Maps Go.WideMaps
theorem gY.move {w w':World} {p m n:Nat} {D:DataW Unit} (h:gY w p m n D) (hs:w.heap.size<=w'.heap.size) (hp:w'.heap[p]?=w.heap[p]?) (hm:w'.heap[m]?=w.heap[m]?):gY w' p m n D:=by
 obtain ⟨es,clock,h1,F,h2,h3⟩:=h.own;exact ⟨(aC hp 0).trans h.cell,Nat.lt_of_lt_of_le h.low hs,es,clock,hm.trans h1,F,h2,h3⟩
structure VA (L:Nat->Nat) (w:World) (c:Nat) (l:List T) (v:Value) (xs:List Value):Prop where
 lab:L c=4
 cell:w.cell? ⟨c,0,none⟩=some v
 free:w.frozen? ⟨c,0,none⟩=false
 row:w.ownsRow 0 25 5 v l.length xs
 fP:∀ b,v.ownBlock=some b->L b=5+c
 at_:∀ i,(h:i<l.length)->nu (fun b=>L b=1) w 13 (fv xs i) l[i]
 doc:∀ i,(h:i<l.length)->W9 l[i]
theorem VA.move {L L':Nat->Nat} {w w':World} {c:Nat} {l:List T} {v:Value} {xs:List Value} (h:VA L w c l v xs) (hs:w.heap.size<=w'.heap.size) (hl:∀ b,L b=4/\b=c\/L b=5+c\/L b=1->L' b=L b/\w'.heap[b]?=w.heap[b]?):VA L' w' c l v xs:=by
 obtain ⟨c1,c2⟩:=hl c (.inl ⟨h.lab,rfl⟩);refine ⟨c1.trans h.lab,(aC c2 0).trans h.cell,(World.frozen?_of_block (a:=⟨c,0,none⟩) c2).trans h.free,bP h.row fun b e=>(hl b (.inr (.inl (h.fP b e)))).2,fun b e=>(hl b (.inr (.inl (h.fP b e)))).1.trans (h.fP b e),fun i hi=>(h.at_ i hi).move hs fun b _ hp=>?_,h.doc⟩;obtain ⟨k1,k2⟩:=hl b (.inr (.inr hp));exact ⟨k1.trans hp,k2⟩
structure uD (L:Nat->Nat) (w:World) (p m n:Nat) (D:DataW Unit) (lf:Nat->List T) (vf:Nat->Value) (xf:Nat->List Value):Prop where
 CW:gY w p m n D
 lp:L p=2
 lm:L m=3
 low:∀ b,L b≠0->b<w.heap.size
 col:∀ x c,qC D x=.lit (.int .i64 (c:Nat))->VA L w c (lf c) (vf c) (xf c)
theorem uD.keep {L:Nat->Nat} {w w':World} {p m n:Nat} {D:DataW Unit} {lf:Nat->List T} {vf:Nat->Value} {xf:Nat->List Value} (h:uD L w p m n D lf vf xf) (hb:Below w.heap.size w w'):uD L w' p m n D lf vf xf :=
 ⟨h.CW.keep hb,h.lp,h.lm,fun b hl=>Nat.lt_of_lt_of_le (h.low b hl) hb.size,fun x c hx=>(h.col x c hx).move hb.size fun b hl=>⟨rfl,hb.block b (h.low b (by omega))⟩⟩
theorem uD.Xd {L:Nat->Nat} {w:World} {p m n:Nat} {D:DataW Unit} {lf:Nat->List T} {vf:Nat->Value} {xf:Nat->List Value} (h:uD L w p m n D lf vf xf) {x:ByteArray} {c:Nat} (hx:qC D x=.lit (.int .i64 (c:Nat))):Xa w c 13 (lf c) (vf c) (xf c):=by
 have hc:=h.col x c hx;refine ⟨hc.cell,hc.free,h.low c (by rw [hc.lab];omega),hc.row,fun e=>?_,fun i hi=>(hc.at_ i hi).at⟩;have h1:=hc.fP c e;have h2:=hc.lab;omega
theorem uD.coll {L:Nat->Nat} {w:World} {p m n:Nat} {D:DataW Unit} {lf:Nat->List T} {vf:Nat->Value} {xf:Nat->List Value} (h:uD L w p m n D lf vf xf) {x:ByteArray} {c:Nat} (hx:qC D x=.lit (.int .i64 (c:Nat))):Bu w c 13 (dU 5 0 ByteArray.empty (lf c) []):=by
 have hc:=h.Xd hx;obtain ⟨La,Lc,hv,he⟩:=hc.elems;exact ⟨La,Lc,by rw [cK,hc.cell,hv],hc.low,he⟩
theorem FM {xs ys:List Value} {i n:Nat} (hx:xs.length=n*5) (hi:i<n):fv (xs++ys) i=fv xs i:=by
 unfold fv;rw [kG (by omega),kG (by omega),kG (by omega),kG (by omega),kG (by omega)]
theorem BF {xs:List Value} {c0 c1 c2 c3 c4:Value} {n:Nat} (hx:xs.length=n*5):fv (xs++[c0,c1,c2,c3,c4]) n=.agg #[c0,c1,c2,c3,c4]:=by
 unfold fv;rw [<- hx,show xs.length=xs.length+0 from rfl,iP,Nat.add_assoc,iP,Nat.add_assoc,iP,Nat.add_assoc,iP,Nat.add_assoc,iP];rfl
def upd {α:Type} (f:Nat->α) (c:Nat) (a:α) (b:Nat):α:=if b=c then a else f b
theorem bX {α:Type} (f:Nat->α) (c:Nat) (a:α):upd f c a c=a:=by simp [upd]
theorem bB {α:Type} (f:Nat->α) {c b:Nat} (a:α) (h:b≠c):upd f c a b=f b:=by simp [upd,h]
theorem uD.ins {L:Nat->Nat} {w w1 w':World} {p m n:Nat} {D:DataW Unit} {lf:Nat->List T} {vf:Nat->Value} {xf:Nat->List Value} (h:uD L w p m n D lf vf xf) {x:ByteArray} {c:Nat} (hx:qC D x=.lit (.int .i64 (c:Nat))) (hb:Below w.heap.size w w1) {t:T} {c0 c1 c2 c3 c4:Value} (ha:nu (bZ w w1) w1 13 (.agg #[c0,c1,c2,c3,c4]) t) (hd:W9 t)
  (hB:sU c (vf c).ownBlock w1 w') {g cap:Nat} (q0:w'.cell? ⟨c,0,none⟩=some (.slice (some ⟨g,0,none⟩) ((lf c).length+1) cap)) (f0:w'.frozen? ⟨c,0,none⟩=false) (hg:(vf c).ownBlock=some g\/w1.heap.size<=g) (hO:w'.ownsRow 0 25 5 (.slice (some ⟨g,0,none⟩) ((lf c).length+1) cap) ((lf c).length+1) (xf c++[c0,c1,c2,c3,c4])) :
  ∃ L',(∀ b,L' b≠0->L b≠0\/w.heap.size<=b)/\uD L' w' p m n D (upd lf c (lf c++[t])) (upd vf c (.slice (some ⟨g,0,none⟩) ((lf c).length+1) cap)) (upd xf c (xf c++[c0,c1,c2,c3,c4])):=by
 have hc:=h.col x c hx;have hgl:g<w'.heap.size:=(hO.lt g rfl).2;have hcl:c<w.heap.size:=h.low c (by rw [hc.lab];omega);have s1:=hb.size;have s2:=hB.size;have hgw:(vf c).ownBlock=some g->g<w.heap.size/\L g=5+c:=fun e=>⟨h.low g (by rw [hc.fP g e];omega),hc.fP g e⟩;have old:∀ b,L b≠0->L b≠5+c->b≠c->w'.heap[b]?=w.heap[b]?:=fun b h0 h1 h2=>(hB.block b (by have:=h.low b h0;omega) h2 (fun e=>h1 (hc.fP b e.symm))).trans (hb.block b (h.low b h0));refine ⟨fun b=>if b<w.heap.size then L b else if b<w1.heap.size then 1 else if b=g then 5+c else 0,?_,?_,?_,?_,?_,?_⟩
 ·intro b hb0;by_cases e:b<w.heap.size
  ·simp only [if_pos e] at hb0;exact .inl hb0
  ·exact .inr (by omega)
 ·exact h.CW.move (by omega) (old p (by rw [h.lp];omega) (by rw [h.lp];omega) (fun e=>by have:=h.lp;have:=hc.lab;subst e;omega)) (old m (by rw [h.lm];omega) (by rw [h.lm];omega) (fun e=>by have:=h.lm;have:=hc.lab;subst e;omega))
 ·show (if p<w.heap.size then L p else _)=2;rw [if_pos (h.low p (by rw [h.lp];omega))];exact h.lp
 ·show (if m<w.heap.size then L m else _)=3;rw [if_pos (h.low m (by rw [h.lm];omega))];exact h.lm
 ·intro b hb0;split at hb0
  ·omega
  ·split at hb0
   ·omega
   ·split at hb0
    ·omega
    ·exact absurd rfl hb0
 ·intro y c' hy;by_cases e:c'=c
  ·subst e;rw [bX,bX,bX];refine ⟨by rw [if_pos hcl];exact hc.lab,q0,f0,by rw [List.length_append];exact hO,fun b e=>?_,fun i hi=>?_,fun i hi=>?_⟩
   ·have eg:b=g:=by simpa [Value.ownBlock] using e.symm
    subst eg;show (if b<w.heap.size then L b else _)=_;rcases hg with h1 | h1
    ·rw [if_pos (hgw h1).1];exact (hgw h1).2
    ·rw [if_neg (by omega),if_neg (by omega),if_pos rfl]
   ·have hxl:(xf c').length=(lf c').length*5:=hc.row.1;rw [List.length_append,List.length_cons,List.length_nil] at hi;by_cases e:i<(lf c').length
    ·rw [FM hxl e,List.getElem_append_left e];refine (hc.at_ i e).move (by omega) fun b hbl hp=>⟨?_,old b (by omega) (by omega) (fun e2=>by have:=hc.lab;subst e2;omega)⟩;show (if b<w.heap.size then L b else _)=1;rw [if_pos hbl];exact hp
    ·obtain rfl:i=(lf c').length:=by omega
     rw [BF hxl,List.getElem_append_right (by omega)];simp only [Nat.sub_self,List.getElem_cons_zero];refine ha.move s2 fun b hbl hp=>⟨?_,hB.block b hbl (fun e2=>by have:=hp.1;omega) (fun e2=>by have:=h.low b (by rw [hc.fP b e2.symm];omega);have:=hp.1;omega)⟩;show (if b<w.heap.size then L b else _)=1;rw [if_neg (by have:=hp.1;omega),if_pos hbl]
   ·rw [List.length_append,List.length_cons,List.length_nil] at hi;by_cases e:i<(lf c').length
    ·rw [List.getElem_append_left e];exact hc.doc i e
    ·obtain rfl:i=(lf c').length:=by omega
     rw [List.getElem_append_right (by omega)];simp only [Nat.sub_self,List.getElem_cons_zero];exact hd
  ·rw [bB _ _ e,bB _ _ e,bB _ _ e];refine (h.col y c' hy).move (by omega) fun b hl=>⟨?_,old b (by omega) (by omega) (fun e2=>by have:=hc.lab;subst e2;omega)⟩;show (if b<w.heap.size then L b else _)=L b;rw [if_pos (h.low b (by omega))]
end Go.Proofs.YtknakfpciccoaaaGreatDoor
/- The store's state behind New and Create. -/
namespace Go.Proofs.YtknakfpciccoaaaGreatDoor
open Go.RowKit Go.Maps Go.WideMaps
theorem I9 (x:ByteArray):WideAt.IsKeyLit (o7 x):=by simp [o7,WideAt.IsKeyLit]
theorem zN {x y:ByteArray} (h:y≠x):o7 y≠o7 x:=by
 intro e;simp only [o7,Lit.string.injEq] at e;exact h ((qO _ _).1 e)
theorem mh {D:DataW Unit} (hD:IsMap D) (x:ByteArray) (d:DataW Unit):qC (D.put (o7 x) d) x=d:=atKey_put_same hD (I9 x) d .nil
theorem iU {D:DataW Unit} {x y:ByteArray} (h:y≠x) (d:DataW Unit):qC (D.put (o7 x) d) y=qC D y:=atKey_put_other (zN h) d .nil
theorem sI {a b:Nat} (h:(DataW.lit (.int .i64 (a:Int)):DataW Unit)=.lit (.int .i64 (b:Int))):a=b:=by
 simp only [DataW.lit.injEq,Lit.int.injEq] at h;omega
theorem uD.cre {L:Nat->Nat} {w w':World} {p m n:Nat} {D:DataW Unit} {lf:Nat->List T} {vf:Nat->Value} {xf:Nat->List Value} (h:uD L w p m n D lf vf xf) {x:ByteArray} (hc:I6 w p m n D x w') :
  ∃ L' c,w.heap.size<=c/\(∀ b,L' b≠0->L b≠0\/w.heap.size<=b)/\uD L' w' p m (n+1) (D.put (o7 x) (.lit (.int .i64 (c:Nat)))) (upd lf c []) (upd vf c (.slice none 0 0)) (upd xf c []):=by
 obtain ⟨c,hcw,hcl,hst,q0,f0,hB⟩:=hc;have s1:=hB.size;have old:∀ b,L b≠0->L b≠3->w'.heap[b]?=w.heap[b]?:=fun b h0 h1=>hB.block b (h.low b h0) (fun e=>by have:=h.lm;subst e;omega) (by simp);refine ⟨fun b=>if b<w.heap.size then L b else if b=c then 4 else 0,c,hcw,?_,hst,?_,?_,?_,?_⟩
 ·intro b hb0;by_cases e:b<w.heap.size
  ·simp only [if_pos e] at hb0;exact .inl hb0
  ·exact .inr (by omega)
 ·show (if p<w.heap.size then L p else _)=2;rw [if_pos (h.low p (by rw [h.lp];omega))];exact h.lp
 ·show (if m<w.heap.size then L m else _)=3;rw [if_pos (h.low m (by rw [h.lm];omega))];exact h.lm
 ·intro b hb0;split at hb0
  ·omega
  ·split at hb0
   ·omega
   ·exact absurd rfl hb0
 ·intro y c' hy;by_cases e:y=x
  ·subst e;rw [mh h.CW.own.isMap] at hy;obtain rfl:=sI hy;rw [bX,bX,bX];refine ⟨by rw [if_neg (by omega),if_pos rfl],q0,f0,World.ownsRow_nil _ _ _ _,fun b e=>by simp [Value.ownBlock] at e,fun i hi=>absurd hi (Nat.not_lt_zero i),fun i hi=>absurd hi (Nat.not_lt_zero i)⟩
  ·rw [iU e] at hy;have hco:=h.col y c' hy;have hne:c'≠c:=fun e2=>by have:=h.low c' (by rw [hco.lab];omega);omega
   rw [bB _ _ hne,bB _ _ hne,bB _ _ hne];refine hco.move s1 fun b hl=>⟨?_,old b (by omega) (by omega)⟩;show (if b<w.heap.size then L b else _)=L b;rw [if_pos (h.low b (by omega))]
theorem uD.new (w:World) (lf:Nat->List T) (vf:Nat->Value) (xf:Nat->List Value):∃ L,(∀ b,L b≠0->w.heap.size<=b)/\uD L ((w.alloc (.map #[] 0)).alloc (.cells #[.map (some w.heap.size)] 102)) (w.heap.size+1) w.heap.size 0 (.map []) lf vf xf:=by
 refine ⟨fun b=>if b=w.heap.size+1 then 2 else if b=w.heap.size then 3 else 0,fun b hb=>?_,⟨by simp [go_sem],by simp,(World.ownsMap_made w _ _ _).alloc _⟩,by simp,by simp,fun b hb=>?_,fun x c hx=>?_⟩
 ·by_cases e:w.heap.size<=b
  ·exact e
  ·simp only [if_neg (show ¬ b=w.heap.size+1 by omega),if_neg (show ¬ b=w.heap.size by omega)] at hb;exact absurd rfl hb
 ·split at hb
  ·subst b;simp
  ·split at hb
   ·subst b;simp;omega
   ·exact absurd rfl hb
 ·have e:qC (.map []) x=.nil:=rfl;rw [e] at hx;cases hx
end Go.Proofs.YtknakfpciccoaaaGreatDoor
/- The store as names and documents: what each call does to it. -/
namespace Go.Proofs.YtknakfpciccoaaaGreatDoor
open Go.RowKit Go.Maps Go.WideMaps
structure aP (Q:Nat->Prop) (w w':World):Prop where
 os:w'.os=w.os
 tape:w'.tape=w.tape
 output:w'.output=w.output
 size:w.heap.size<=w'.heap.size
 block:∀ b,b<w.heap.size->¬ Q b->w'.heap[b]?=w.heap[b]?
theorem sU.q {Q:Nat->Prop} {c:Nat} {g:Option Nat} {w w':World} (h:sU c g w w') (hc:Q c) (hg:∀ b,g=some b->Q b):aP Q w w' :=
 ⟨h.os,h.tape,h.output,h.size,fun b hb hn=>h.block b hb (fun e=>hn (e ▸ hc)) (fun e=>hn (hg b e.symm))⟩
theorem aP.after {Q:Nat->Prop} {w w1 w':World} (hb:Below w.heap.size w w1) (h:aP Q w1 w'):aP Q w w' :=
 ⟨h.os.trans hb.os,h.tape.trans hb.tape,h.output.trans hb.output,Nat.le_trans hb.size h.size,fun b hl hn=>(h.block b (Nat.lt_of_lt_of_le hl hb.size) hn).trans (hb.block b hl)⟩
theorem aP.of {Q:Nat->Prop} {w w':World} (h:Below w.heap.size w w'):aP Q w w':=⟨h.os,h.tape,h.output,h.size,fun b hl _=>h.block b hl⟩
theorem aP.below {B:Nat} {w w':World} (h:aP (fun b=>B<=b) w w') (hB:B<=w.heap.size):Below B w w':=⟨h.os,h.tape,h.output,h.size,fun b hb=>h.block b (by omega) (by omega)⟩
def aar (S:ByteArray->Option (List T)) (x:ByteArray) (l:Option (List T)):ByteArray->Option (List T):=fun y=>if y=x then l else S y
theorem yC (p:T->Bool) (k n:Int) (s:ByteArray) (l:List T) (ks:List ByteArray):∀ j,j<=l.length->jG p (dU k n s l ks) j=(l.take j).filter p
 | 0,_=>rfl
 | j+1,h=>by
  have e:elt (dU k n s l ks) j=l[j]:=by rw [pO,List.getD_eq_getElem?_getD,List.getElem?_eq_getElem h];rfl
  rw [jG,yC p k n s l ks j (by omega),e,List.take_add_one,List.getElem?_eq_getElem h,List.filter_append];simp only [Option.toList_some,List.filter_cons,List.filter_nil]
theorem o8 {w:World} {lo:Nat} {e:TypeId} {s n:Nat} {v:Value} {xs:List Value} (h:w.ownsRow lo e s v n xs):∃ A c,v=.slice A n c:=by
 rcases h.2 with ⟨rfl,rfl⟩ | ⟨g,cap,cur,rfl,_⟩
 ·exact ⟨_,_,rfl⟩
 ·exact ⟨_,_,rfl⟩
end Go.Proofs.YtknakfpciccoaaaGreatDoor
/- Bytes and values, pure: what was read is written as it was. -/
namespace Go.Proofs.YtknakfpciccoaaaGreatDoor
open Go.RowKit
end Go.Proofs.YtknakfpciccoaaaGreatDoor
/- The walk of the program's Decode, in one form. -/
namespace Go.Proofs.YtknakfpciccoaaaGreatDoor
open Go.RowKit
end Go.Proofs.YtknakfpciccoaaaGreatDoor
/- document. -/
namespace Go.Proofs.YtknakfpciccoaaaGreatDoor
open Go.RowKit
end Go.Proofs.YtknakfpciccoaaaGreatDoor
/- What the documents of the statements are: they may be inserted; their numbers. -/
namespace Go.Proofs.YtknakfpciccoaaaGreatDoor
open Go.RowKit
abbrev nX:ByteArray:=⟨#[120]⟩
abbrev nY:ByteArray:=⟨#[121]⟩
def two (l m:Option (List T)):ByteArray->Option (List T):=aar (aar (fun _=>none) nX l) nY m
end Go.Proofs.YtknakfpciccoaaaGreatDoor
