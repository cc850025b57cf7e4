import Derived.Test.YtknakfpciccoaaaGreatDoorZC1
import Derived.Lib.ValidLaws
import Derived.Lib.MapLaws
/- What a value is: the program's check and the reference's say the same; so do their orders. -/
namespace Go.Proofs.YtknakfpciccoaaaGreatDoor
open Go.RowKit
def fG (g:T->Nat) (t:T):Nat->Nat
 | 0=>0
 | k+1=>fG g t k+g (elt t k)
def kD (t:T):Nat->Nat
 | 0=>0
 | k+1=>kD t k+(2+(bO t k).size)
def dG (t:T):Nat:=if aj t=1 then 1 else if aj t=2 then 2 else if aj t=3 then 9 else 5+(ay t).size
def aI:Nat->T->Nat
 | 0,t=>dG t
 | m+1,t=>if aj t=5 then 5+fG (aI m) t (nL t) else if aj t=6 then 5+kD t (nK t)+fG (aI m) t (nL t) else dG t
def aW (t:T):Prop :=
 nL t=0/\nK t=0/\((aj t=1/\av t=0/\bn t=true)\/(aj t=2/\(av t=0\/av t=1)/\bn t=true)\/(aj t=3/\bn t=true)\/(aj t=4/\av t=0/\(ay t).size<=4000/\Ah (ay t)=true))
def dD:Nat->T->Prop
 | 0,t=>aW t
 | m+1,t=>aW t\/(av t=0/\bn t=true/\(∀ i,i<nL t->dD m (elt t i))/\((aj t=5/\nK t=0)\/(aj t=6/\nK t=nL t/\gy t (nK t)=true/\iP t (nK t)=false)))
theorem nH (t:T):fF t=true ↔ nL t=0/\nK t=0:=by simp [fF]
theorem kQ (n l:Int):aZ n l=if n<=l then some (l - n) else none:=rfl
theorem Jc (t:T) (l:Int) (_h:0<=l):o8 t l=some (l - dG t)/\aW t/\(dG t:Int)<=l\/o8 t l=none/\¬ (aW t/\(dG t:Int)<=l):=by
 unfold o8 aW dG;by_cases k1:aj t=1
 ·simp only [k1,if_true,nH,kQ];by_cases c:av t=0/\bn t=true/\nL t=0/\nK t=0
  ·rw [if_pos c];obtain ⟨c1,c2,c3,c4⟩:=c;by_cases d:(1:Int)<=l
   ·left;simp [d,c1,c2,c3,c4]
   ·right;simp [d,c1,c2,c3,c4]
  ·rw [if_neg c]
   right
   refine ⟨rfl,fun h=>c ?_⟩;obtain ⟨⟨a,b,h⟩,_⟩:=h;rcases h with ⟨_,h1,h2⟩ | ⟨h,_⟩ | ⟨h,_⟩ | ⟨h,_⟩
   ·exact ⟨h1,h2,a,b⟩
   ·omega
   ·omega
   ·omega
 by_cases k2:aj t=2
 ·rw [if_neg k1,if_pos k2,if_neg k1,if_pos k2];simp only [nH,kQ];by_cases c:(av t=0\/av t=1)/\bn t=true/\nL t=0/\nK t=0
  ·rw [if_pos c];obtain ⟨c1,c2,c3,c4⟩:=c;by_cases d:(2:Int)<=l
   ·left;exact ⟨by rw [if_pos d];rfl,⟨c3,c4,Or.inr (Or.inl ⟨k2,c1,c2⟩)⟩,d⟩
   ·right;exact ⟨if_neg d,fun h=>d h.2⟩
  ·rw [if_neg c]
   right
   refine ⟨rfl,fun h=>c ?_⟩;obtain ⟨⟨a,b,h⟩,_⟩:=h;rcases h with ⟨h,_⟩ | ⟨_,h1,h2⟩ | ⟨h,_⟩ | ⟨h,_⟩
   ·omega
   ·exact ⟨h1,h2,a,b⟩
   ·omega
   ·omega
 by_cases k3:aj t=3
 ·rw [if_neg k1,if_neg k2,if_pos k3,if_neg k1,if_neg k2,if_pos k3];simp only [nH,kQ];by_cases c:bn t=true/\nL t=0/\nK t=0
  ·rw [if_pos c];obtain ⟨c2,c3,c4⟩:=c;by_cases d:(9:Int)<=l
   ·left;exact ⟨by rw [if_pos d];rfl,⟨c3,c4,Or.inr (Or.inr (Or.inl ⟨k3,c2⟩))⟩,d⟩
   ·right;exact ⟨if_neg d,fun h=>d h.2⟩
  ·rw [if_neg c]
   right
   refine ⟨rfl,fun h=>c ?_⟩;obtain ⟨⟨a,b,h⟩,_⟩:=h;rcases h with ⟨h,_⟩ | ⟨h,_⟩ | ⟨_,h2⟩ | ⟨h,_⟩
   ·omega
   ·omega
   ·exact ⟨h2,a,b⟩
   ·omega
 by_cases k4:aj t=4
 ·rw [if_neg k1,if_neg k2,if_neg k3,if_pos k4,if_neg k1,if_neg k2,if_neg k3];simp only [nH,kQ];by_cases c:av t=0/\nL t=0/\nK t=0
  ·rw [if_pos c];obtain ⟨c2,c3,c4⟩:=c;by_cases d:(5:Int)<=l
   ·rw [if_pos d];show (if (ay t).size<=4000/\((ay t).size:Int)<=l - 5/\Ah (ay t)=true then some (l - 5 - ((ay t).size:Int)) else none)=_/\_\/_;by_cases e:(ay t).size<=4000/\((ay t).size:Int)<=l - 5/\Ah (ay t)=true
    ·left
     refine ⟨?_,⟨c3,c4,Or.inr (Or.inr (Or.inr ⟨k4,c2,e.1,e.2.2⟩))⟩,by omega⟩;rw [if_pos e]
     congr 1
     omega
    ·right
     refine ⟨if_neg e,fun h=>e ?_⟩;obtain ⟨⟨a,b,h⟩,hb⟩:=h;rcases h with ⟨h,_⟩ | ⟨h,_⟩ | ⟨h,_⟩ | ⟨_,h1,h2,h3⟩
     ·omega
     ·omega
     ·omega
     ·exact ⟨h2,by omega,h3⟩
   ·right
    rw [if_neg d];exact ⟨rfl,fun h=>d (by have:=h.2;omega)⟩
  ·rw [if_neg c]
   right
   refine ⟨rfl,fun h=>c ?_⟩;obtain ⟨⟨a,b,h⟩,_⟩:=h;rcases h with ⟨h,_⟩ | ⟨h,_⟩ | ⟨h,_⟩ | ⟨_,h2,_⟩
   ·omega
   ·omega
   ·omega
   ·exact ⟨h2,a,b⟩
 ·rw [if_neg k1,if_neg k2,if_neg k3,if_neg k4]
  right
  refine ⟨rfl,fun h=>?_⟩;obtain ⟨⟨a,b,h⟩,_⟩:=h;rcases h with ⟨h,_⟩ | ⟨h,_⟩ | ⟨h,_⟩ | ⟨h,_⟩<;>omega
def MH (r:Option Int) (good:Prop) (n:Nat) (l:Int):Prop:=r=some (l - n)/\good/\(n:Int)<=l\/r=none/\¬ (good/\(n:Int)<=l)
theorem AV (t:T) (l:Int) (h:0<=l):∀ k,MH (jG t k l) (gy t k=true) (kD t k) l
 | 0=>Or.inl ⟨by simp [jG,kD],rfl,by simpa [kD] using h⟩
 | k+1=>by
  rcases AV t l h k with ⟨h1,h2,h3⟩ | ⟨h1,h2⟩
  ·by_cases c:(Ah (bO t k)=true/\(bO t k).size<=4000)/\((kD t k+(2+(bO t k).size):Nat):Int)<=l
   ·left
    refine ⟨?_,by simp [gy,h2,c.1.1,c.1.2],c.2⟩;simp only [jG,h1,Option.bind_some,kQ];rw [if_pos (by omega)];simp only [Option.bind_some,mF];rw [if_pos ⟨c.1.2,by omega,c.1.1⟩];simp only [kD]
    congr 1
    omega
   ·right
    refine ⟨?_,fun hh=>c ?_⟩
    ·simp only [jG,h1,Option.bind_some,kQ];by_cases d:(2:Int)<=l - kD t k
     ·rw [if_pos d];simp only [Option.bind_some,mF];rw [if_neg (fun e=>c ⟨⟨e.2.2,e.1⟩,by omega⟩)]
     ·rw [if_neg d];rfl
    ·have:=hh.1;simp only [gy,Bool.and_eq_true,decide_eq_true_eq] at this;exact ⟨this.2,hh.2⟩
  ·right
   refine ⟨by simp [jG,h1],fun hh=>h2 ⟨?_,?_⟩⟩
   ·have:=hh.1;simp only [gy,Bool.and_eq_true] at this;exact this.1
   ·have:=hh.2;simp only [kD] at this;omega
theorem rX {m:Nat} (ih:∀ (t:T) (l:Int),0<=l->MH (aP m t l) (dD m t) (aI m t) l) (t:T) (l:Int) (h:0<=l):∀ k,MH (dN (aP m) t k l) (∀ i,i<k->dD m (elt t i)) (fG (aI m) t k) l
 | 0=>Or.inl ⟨by simp [dN,fG],fun i hi=>absurd hi (Nat.not_lt_zero _),by simpa [fG] using h⟩
 | k+1=>by
  rcases rX ih t l h k with ⟨h1,h2,h3⟩ | ⟨h1,h2⟩
  ·rcases ih (elt t k) (l - fG (aI m) t k) (by omega) with ⟨g1,g2,g3⟩ | ⟨g1,g2⟩
   ·left
    refine ⟨?_,fun i hi=>?_,by simp only [fG];omega⟩
    ·simp only [dN,h1,Option.bind_some,g1,fG]
     congr 1
     omega
    ·by_cases e:i=k
     ·subst e;exact g2
     ·exact h2 i (by omega)
   ·right
    refine ⟨by simp [dN,h1,g1],fun hh=>g2 ⟨hh.1 k (by omega),?_⟩⟩;have:=hh.2;simp only [fG] at this;omega
  ·right
   refine ⟨by simp [dN,h1],fun hh=>h2 ⟨fun i hi=>hh.1 i (by omega),?_⟩⟩;have:=hh.2;simp only [fG] at this;omega
theorem jI {t:T} (h:aW t):aj t≠5/\aj t≠6:=by
 obtain ⟨_,_,h⟩:=h;rcases h with ⟨h,_⟩ | ⟨h,_⟩ | ⟨h,_⟩ | ⟨h,_⟩<;>omega
theorem o9:∀ (m:Nat) (t:T) (l:Int),0<=l->MH (aP m t l) (dD m t) (aI m t) l
 | 0,t,l,h=>Jc t l h
 | m+1,t,l,h=>by
  by_cases k5:aj t=5
  ·have ng:¬ aW t:=fun hh=>(jI hh).1 k5
   have eg:dD (m+1) t ↔ av t=0/\bn t=true/\nK t=0/\(∀ i,i<nL t->dD m (elt t i)):=by
    simp only [dD];constructor
    ·rintro (hh | ⟨a,b,c,d⟩)
     ·exact absurd hh ng
     ·rcases d with ⟨_,d⟩ | ⟨d,_⟩
      ·exact ⟨a,b,d,c⟩
      ·omega
    ·rintro ⟨a,b,c,d⟩;exact Or.inr ⟨a,b,d,Or.inl ⟨k5,c⟩⟩
   have eb:aI (m+1) t=5+fG (aI m) t (nL t):=by simp [aI,k5]
   have ec:aP (m+1) t l=if av t=0/\bn t=true/\nK t=0 then (aZ 5 l).bind (dN (aP m) t (nL t)) else none:=by simp [aP,k5]
   unfold MH;rw [eg,eb,ec];by_cases c:av t=0/\bn t=true/\nK t=0
   ·rw [if_pos c,kQ];by_cases d:(5:Int)<=l
    ·rw [if_pos d,Option.bind_some];rcases rX (o9 m) t (l - 5) (by omega) (nL t) with ⟨h1,h2,h3⟩ | ⟨h1,h2⟩
     ·left
      refine ⟨?_,⟨c.1,c.2.1,c.2.2,h2⟩,by omega⟩;rw [h1]
      congr 1
      omega
     ·right
      exact ⟨h1,fun hh=>h2 ⟨hh.1.2.2.2,by have:=hh.2;omega⟩⟩
    ·right
     rw [if_neg d];exact ⟨rfl,fun hh=>d (by have:=hh.2;omega)⟩
   ·rw [if_neg c];exact Or.inr ⟨rfl,fun hh=>c ⟨hh.1.1,hh.1.2.1,hh.1.2.2.1⟩⟩
  by_cases k6:aj t=6
  ·have ng:¬ aW t:=fun hh=>(jI hh).2 k6
   have eg:dD (m+1) t ↔ av t=0/\bn t=true/\nK t=nL t/\(gy t (nK t)=true/\iP t (nK t)=false)/\(∀ i,i<nL t->dD m (elt t i)):=by
    simp only [dD];constructor
    ·rintro (hh | ⟨a,b,c,d⟩)
     ·exact absurd hh ng
     ·rcases d with ⟨d,_⟩ | ⟨_,d,e,f⟩
      ·omega
      ·exact ⟨a,b,d,⟨e,f⟩,c⟩
    ·rintro ⟨a,b,c,⟨d,e⟩,f⟩;exact Or.inr ⟨a,b,f,Or.inr ⟨k6,c,d,e⟩⟩
   have eb:aI (m+1) t=5+kD t (nK t)+fG (aI m) t (nL t):=by simp [aI,k6]
   have ec:aP (m+1) t l=if av t=0/\bn t=true/\nK t=nL t then ((aZ 5 l).bind (lI t)).bind (dN (aP m) t (nL t)) else none:=by simp [aP,k6]
   unfold MH;rw [eg,eb,ec];by_cases c:av t=0/\bn t=true/\nK t=nL t
   ·rw [if_pos c,kQ];by_cases d:(5:Int)<=l
    ·rw [if_pos d,Option.bind_some];unfold lI;rcases AV t (l - 5) (by omega) (nK t) with ⟨h1,h2,h3⟩ | ⟨h1,h2⟩
     ·rw [h1,Option.bind_some];cases hd:iP t (nK t) with
      | true =>
       right
       refine ⟨by simp,fun hh=>?_⟩;have:=hh.1.2.2.2.1.2;cases this
      | false =>
       simp only [Bool.false_eq_true,if_false,Option.bind_some];rcases rX (o9 m) t (l - 5 - kD t (nK t)) (by omega) (nL t) with ⟨g1,g2,g3⟩ | ⟨g1,g2⟩
       ·left
        refine ⟨?_,⟨c.1,c.2.1,c.2.2,⟨h2,by trivial⟩,g2⟩,by omega⟩;rw [g1]
        congr 1
        omega
       ·right
        exact ⟨g1,fun hh=>g2 ⟨hh.1.2.2.2.2,by have:=hh.2;omega⟩⟩
     ·right
      rw [h1];exact ⟨rfl,fun hh=>h2 ⟨hh.1.2.2.2.1.1,by have:=hh.2;omega⟩⟩
    ·right
     rw [if_neg d];exact ⟨rfl,fun hh=>d (by have:=hh.2;omega)⟩
   ·rw [if_neg c];exact Or.inr ⟨rfl,fun hh=>c ⟨hh.1.1,hh.1.2.1,hh.1.2.2.1⟩⟩
  ·have eg:dD (m+1) t ↔ aW t:=by
    simp only [dD];constructor
    ·rintro (hh | ⟨_,_,_,⟨d,_⟩ | ⟨d,_⟩⟩)
     ·exact hh
     ·exact absurd d k5
     ·exact absurd d k6
    ·exact Or.inl
   have eb:aI (m+1) t=dG t:=by simp [aI,k5,k6]
   have ec:aP (m+1) t l=o8 t l:=by simp [aP,k5,k6]
   unfold MH;rw [eg,eb,ec];exact Jc t l h
def xS:Nat->T->Prop
 | 0,_=>False
 | f+1,t=>∀ i,i<nL t->xS f (elt t i)
theorem At.aej {w:World}:∀ {f:Nat} {v:Value} {t:T},At w f v t->xS f t:=by
 intro f
 induction f with
 | zero=>intro v t h;exact h
 | succ f ih =>
  rintro v t ⟨La,Ka,Lc,Kc,_,_,hl,_⟩ i hi;obtain ⟨b,o,c0,c1,c2,c3,c4,_,_,_,_,_,_,_,ha⟩:=hl i hi;exact ih ha
theorem Ul {g:T->Bool} {t:T}:∀ {k:Nat},jD g t k=true ↔ ∀ i,i<k->g (elt t i)=true
 | 0=>by simp [jD]
 | k+1=>by
  simp only [jD,Bool.and_eq_true,Ul];constructor
  ·rintro ⟨a,b⟩ i hi;by_cases e:i=k
   ·subst e;exact b
   ·exact a i (by omega)
  ·intro h;exact ⟨fun i hi=>h i (by omega),h k (by omega)⟩
theorem Jd {g:T->Bool} {t:T}:∀ {k:Nat},dw g t k=false ↔ ∀ i,i<k->g (elt t i)=false
 | 0=>by simp [dw]
 | k+1=>by
  simp only [dw,Bool.or_eq_false_iff,Jd];constructor
  ·rintro ⟨a,b⟩ i hi;by_cases e:i=k
   ·subst e;exact b
   ·exact a i (by omega)
  ·intro h;exact ⟨fun i hi=>h i (by omega),h k (by omega)⟩
theorem adM (t:T) (hb:gL t=false):aW t ↔ D5 t=true/\AP t=true:=by
 simp only [gL,Bool.or_eq_false_iff,beq_eq_false_iff_ne] at hb;obtain ⟨h5,h6⟩:=hb;unfold aW D5 AP;simp only [h5,h6,false_or,or_false,Bool.and_eq_true,decide_eq_true_eq,if_false];constructor
 ·rintro ⟨a,b,h⟩;rcases h with ⟨k,h1,h2⟩ | ⟨k,h1,h2⟩ | ⟨k,h1⟩ | ⟨k,h1,h2,h3⟩
  ·refine ⟨⟨⟨Or.inr (Or.inr h1),Or.inr h2⟩,b,a⟩,?_⟩;rw [if_pos (Or.inl k)]
  ·refine ⟨⟨⟨Or.inl k,Or.inr h2⟩,b,a⟩,?_⟩;rw [if_neg (by omega),if_pos k];simpa using h1
  ·refine ⟨⟨⟨Or.inr (Or.inl k),Or.inr h1⟩,b,a⟩,?_⟩;rw [if_pos (Or.inr k)]
  ·refine ⟨⟨⟨Or.inr (Or.inr h1),Or.inl k⟩,b,a⟩,?_⟩;rw [if_neg (by omega),if_neg (by omega),if_pos k];simp [h2,h3]
 ·rintro ⟨⟨⟨a,b⟩,c,d⟩,e⟩;refine ⟨d,c,?_⟩;by_cases k1:aj t=1
  ·left
   exact ⟨k1,by omega,by rcases b with b | b;omega;exact b⟩
  by_cases k2:aj t=2
  ·rw [if_neg (by omega),if_pos k2] at e
   right;left
   exact ⟨k2,by simpa using e,by rcases b with b | b;omega;exact b⟩
  by_cases k3:aj t=3
  ·right;right;left
   exact ⟨k3,by rcases b with b | b;omega;exact b⟩
  by_cases k4:aj t=4
  ·rw [if_neg (by omega),if_neg (by omega),if_pos k4] at e;simp only [Bool.and_eq_true,decide_eq_true_eq] at e
   right;right;right
   exact ⟨k4,by omega,e.2,e.1⟩
  ·rw [if_neg (by omega),if_neg (by omega),if_neg k4] at e;cases e
theorem Q8 {m:Nat} {t:T} (hb:gL t=false):dD m t ↔ aW t:=by
 simp only [gL,Bool.or_eq_false_iff,beq_eq_false_iff_ne] at hb;cases m with
 | zero=>exact Iff.rfl
 | succ m =>
  simp only [dD];constructor
  ·rintro (hh | ⟨_,_,_,⟨d,_⟩ | ⟨d,_⟩⟩)
   ·exact hh
   ·exact absurd d hb.1
   ·exact absurd d hb.2
  ·exact Or.inl
theorem Um {m:Nat} {t:T} (hb:gL t=true):dD (m+1) t ↔ (D5 t=true/\AP t=true/\iP t (nK t)=false)/\∀ i,i<nL t->dD m (elt t i):=by
 simp only [gL,Bool.or_eq_true,beq_iff_eq] at hb;have ng:¬ aW t:=fun hh=>by have:=jI hh;omega
 simp only [dD];constructor
 ·rintro (hh | ⟨a,b,c,d⟩)
  ·exact absurd hh ng
  ·refine ⟨?_,c⟩;rcases d with ⟨k,d⟩ | ⟨k,d,e,f⟩
   ·refine ⟨by simp [D5,k,a,b,d],by simp [AP,k],?_⟩;rw [d];rfl
   ·exact ⟨by simp [D5,k,a,b],by simp [AP,k,d];rw [<- d];exact e,f⟩
 ·rintro ⟨⟨a,b,c⟩,d⟩
  right
  simp only [D5,Bool.and_eq_true,decide_eq_true_eq] at a;obtain ⟨⟨a1,a2⟩,a3,a4⟩:=a;refine ⟨by omega,by rcases a2 with a2 | a2;omega;exact a2,d,?_⟩;rcases hb with k | k
  ·left
   exact ⟨k,by omega⟩
  ·right
   simp only [AP] at b;rw [if_neg (by omega),if_neg (by omega),if_neg (by omega),if_pos k] at b;simp only [Bool.and_eq_true,decide_eq_true_eq] at b;exact ⟨k,b.1,b.2,c⟩
theorem nI (t:T):(aP 12 t 1048576).isSome=true ↔ dD 12 t/\(aI 12 t:Int)<=1048576:=by
 rcases o9 12 t 1048576 (by omega) with ⟨h1,h2,h3⟩ | ⟨h1,h2⟩
 ·rw [h1];simp [h2,h3]
 ·rw [h1];constructor
  ·intro h;cases h
  ·intro h;exact absurd h h2
theorem Je:∀ (f m:Nat) (t:T),dD m t->Ud f t
 | 0,_,_,_=>trivial
 | f+1,m,t,hg=>by
  cases hb:gL t with
  | false =>
   have hl:=(Q8 hb).1 hg;have hn:=jI hl;exact ⟨fun h=>absurd h hn.2,fun i hi=>by have:=hl.1;omega⟩
  | true =>
   cases m with
   | zero =>
    have:=jI hg;simp only [gL,Bool.or_eq_true,beq_iff_eq] at hb;omega
   | succ m =>
    obtain ⟨⟨_,hk,_⟩,hc⟩:=(Um hb).1 hg;refine ⟨fun k=>?_,fun i hi=>Je f m _ (hc i hi)⟩;simp only [AP] at hk;rw [if_neg (by omega),if_neg (by omega),if_neg (by omega),if_pos k] at hk;simp only [Bool.and_eq_true,decide_eq_true_eq] at hk;exact hk.1
theorem mh {t:T} (h:bn t=true):ay t=ByteArray.empty:=by
 unfold bn at h;have h1:(ay t).toList=[]:=by simpa using h
 apply (oD _ _).1;rw [h1,ByteArray.toList_eq];rfl
def oG (s:ByteArray) (n:Nat):ByteArray:=s.extract n s.size
theorem pq (s:ByteArray) (n:Nat):(oG s n).size=s.size - n:=by simp [oG,ByteArray.size_extract]
def dh (k n:Int) (s:ByteArray):T:=aO k n s [] []
theorem iQ (k n:Int) (s:ByteArray) (l:List T) (ks:List ByteArray) (i:Nat):elt (aO k n s l ks) i=l.getD i .nil:=rfl
theorem aN (k n:Int) (s:ByteArray) (l:List T) (ks:List ByteArray):nL (aO k n s l ks)=l.length:=rfl
theorem eY (k n:Int) (s:ByteArray) (l:List T) (ks:List ByteArray):nK (aO k n s l ks)=ks.length:=by unfold nK;rw [qg]
theorem rY (k n:Int) (s:ByteArray) (l:List T) (ks:List ByteArray) (i:Nat):bO (aO k n s l ks) i=ks.getD i ByteArray.empty:=by unfold bO;rw [qg]
theorem xU (g:T->Nat) (t:T):∀ k,k<=nL t->fG g t k=(((lH t).take k).map g).sum
 | 0,_=>by simp [fG]
 | k+1,h=>by
  have hk:k<(lH t).length:=h;rw [fG,xU g t k (by omega),List.take_succ_eq_append_getElem hk,List.map_append,List.sum_append];have e:elt t k=(lH t)[k]:=by simp [elt,List.getD_eq_getElem?_getD,hk]
  rw [e];rfl
theorem D8 (t:T):∀ k,k<=nK t->kD t k=(((jZ t).take k).map fun s=>2+s.size).sum
 | 0,_=>by simp [kD]
 | k+1,h=>by
  have hk:k<(jZ t).length:=h;rw [kD,D8 t k (by omega),List.take_succ_eq_append_getElem hk,List.map_append,List.sum_append];have e:bO t k=(jZ t)[k]:=by simp [bO,List.getD_eq_getElem?_getD,hk]
  rw [e];rfl
theorem D9 (d:Nat) (k:Int) (l:List T) (ks:List ByteArray) (hk:k=5\/k=6) (h5:k=5->ks=[]) :
  aI (d+1) (aO k 0 ByteArray.empty l ks)=5+(ks.map fun s=>2+s.size).sum+(l.map (aI d)).sum:=by
 have e1:fG (aI d) (aO k 0 ByteArray.empty l ks) (nL (aO k 0 ByteArray.empty l ks))=(l.map (aI d)).sum:=by
  rw [xU _ _ _ (Nat.le_refl _),rV,aN,List.take_length]
 have e2:kD (aO k 0 ByteArray.empty l ks) (nK (aO k 0 ByteArray.empty l ks))=(ks.map fun s=>2+s.size).sum:=by
  rw [D8 _ _ (Nat.le_refl _),qg,eY,List.take_length]
 unfold aI;rw [bg];rcases hk with hk | hk
 ·rw [if_pos hk,e1,h5 hk];simp
 ·rw [if_neg (by omega),if_pos hk,e1,e2]
def bt (s:ByteArray) (i:Nat):Nat:=(s.get! i).toNat
theorem Ea (s:ByteArray) (i:Nat):bt s i<256:=(s.get! i).toNat_lt
def jJ (s:ByteArray):Nat->Bool
 | 0=>true
 | k+1=>jJ s k&&(decide (128<=bt s (k+1))&&decide (bt s (k+1)<=191))
def AX (s:ByteArray) (c0:Int):Nat->Int
 | 0=>c0
 | k+1=>64*AX s c0 k+(bt s (k+1):Int) - 128
def tO (least c:Int):Bool:=decide (c<least) || decide (1114111<c) || (decide (55296<=c)&&decide (c<57344))
def rZ (s:ByteArray) (n:Nat) (least c0:Int):Nat :=
 if s.size<n then 0 else if jJ s (n - 1)=false then 0 else if tO least (AX s c0 (n - 1))=true then 0 else n
def kE (s:ByteArray):Nat :=
 if bt s 0<128 then 1 else if 192<=bt s 0/\bt s 0<224 then rZ s 2 128 (bt s 0 - 192) else if 224<=bt s 0/\bt s 0<240 then rZ s 3 2048 (bt s 0 - 224) else if 240<=bt s 0/\bt s 0<248 then rZ s 4 65536 (bt s 0 - 240) else 0
theorem qh (s:ByteArray):Lib.decodeL s.data.toList=Utf8.decode s 0:=by
 unfold Lib.decodeL;cases s with
 | mk d=>rfl
theorem nJ (s:ByteArray):kE s=if (Utf8.decode s 0).1=65533/\(Utf8.decode s 0).2=1 then 0 else (Utf8.decode s 0).2:=by
 have l0:=Ea s 0;have l1:=Ea s 1;have l2:=Ea s 2;have l3:=Ea s 3;simp only [kE,rZ,jJ,AX,tO,Utf8.decode,Utf8.runeError,Utf8.valid,Nat.zero_add];simp only [<- bt.eq_def];generalize bt s 0=a at *;generalize bt s 1=b at *;generalize bt s 2=c at *;generalize bt s 3=d at *;generalize s.size=n at *;by_cases h1:a<128
 ·simp only [h1,if_true];rw [if_neg (by omega)]
 rw [if_neg h1,if_neg h1];by_cases h2:192<=a/\a<224
 ·have e:(a / 32==6)=true:=by simp;omega
  rw [if_pos h2];by_cases hc:1<n/\b / 64=2
  ·have e1:(decide (1<n)&&b / 64==2)=true:=by simp;exact hc
   rw [e,e1];simp only [Bool.and_self,if_true];rw [if_neg (by omega),if_neg (by simp;omega)];by_cases hv:a % 32*64+b % 64 ≥ 128
   ·rw [if_pos hv,if_neg (by simp;omega)];simp
   ·rw [if_neg hv,if_pos (by simp;omega)];simp
  ·have e1:(decide (1<n)&&b / 64==2)=false:=by
    simp only [Bool.and_eq_false_iff,decide_eq_false_iff_not,beq_eq_false_iff_ne];omega
   have e2:(a / 16==14)=false:=by simp;omega
   have e3:(a / 8==30)=false:=by simp;omega
   rw [e1,e2,e3];simp only [Bool.and_false,Bool.false_and,Bool.false_eq_true,if_false];by_cases hn:n<2
   ·simp [hn]
   ·rw [if_neg hn,if_pos (by simp;omega)];simp
 rw [if_neg h2];have g2:(a / 32==6)=false:=by simp;omega
 rw [g2];simp only [Bool.false_and,Bool.false_eq_true,if_false];by_cases h3:224<=a/\a<240
 ·have e:(a / 16==14)=true:=by simp;omega
  rw [if_pos h3];by_cases hc:(1<n/\b / 64=2)/\2<n/\c / 64=2
  ·have e1:(decide (1<n)&&b / 64==2)=true:=by simp;exact hc.1
   have e2:(decide (2<n)&&c / 64==2)=true:=by simp;exact hc.2
   rw [e,e1,e2];simp only [Bool.and_self,if_true];rw [if_neg (by omega),if_neg (by simp;omega)];generalize hX:a % 16*4096+b % 64*64+c % 64=X at *;by_cases hv:2048<=X/\(X<55296\/57344<=X)
   ·have hi:(decide (X ≥ 2048)&&(decide ((0:Int)<=X)&&decide ((X:Int)<55296) || decide ((57344:Int)<=X)&&decide ((X:Int)<=1114111)))=true:=by simp;omega
    rw [hi,if_neg (by simp;omega)];simp
   ·have hi:(decide (X ≥ 2048)&&(decide ((0:Int)<=X)&&decide ((X:Int)<55296) || decide ((57344:Int)<=X)&&decide ((X:Int)<=1114111)))=false:=by
     simp only [Bool.and_eq_false_iff,Bool.or_eq_false_iff,decide_eq_false_iff_not];omega
    rw [hi,if_pos (by simp;omega)];simp
  ·have e1:((decide (1<n)&&b / 64==2)&&(decide (2<n)&&c / 64==2))=false:=by
    simp only [Bool.and_eq_false_iff,decide_eq_false_iff_not,beq_eq_false_iff_ne];omega
   have e3:(a / 8==30)=false:=by simp;omega
   rw [e,e3];simp only [Bool.true_and,Bool.false_and];rw [e1];simp only [Bool.false_eq_true,if_false];by_cases hn:n<3
   ·simp [hn]
   ·rw [if_neg hn,if_pos (by simp;omega)];simp
 rw [if_neg h3];have g3:(a / 16==14)=false:=by simp;omega
 rw [g3];simp only [Bool.false_and,Bool.false_eq_true,if_false];by_cases h4:240<=a/\a<248
 ·have e:(a / 8==30)=true:=by simp;omega
  rw [if_pos h4];by_cases hc:(1<n/\b / 64=2)/\(2<n/\c / 64=2)/\3<n/\d / 64=2
  ·have e1:(decide (1<n)&&b / 64==2)=true:=by simp;exact hc.1
   have e2:(decide (2<n)&&c / 64==2)=true:=by simp;exact hc.2.1
   have e3:(decide (3<n)&&d / 64==2)=true:=by simp;exact hc.2.2
   rw [e,e1,e2,e3];simp only [Bool.and_self,if_true];rw [if_neg (by omega),if_neg (by simp;omega)];generalize hX:a % 8*262144+b % 64*4096+c % 64*64+d % 64=X at *;by_cases hv:65536<=X/\X<=1114111
   ·have hi:(decide (X ≥ 65536)&&(decide ((0:Int)<=X)&&decide ((X:Int)<55296) || decide ((57344:Int)<=X)&&decide ((X:Int)<=1114111)))=true:=by simp;omega
    rw [hi,if_neg (by simp;omega)];simp
   ·have hi:(decide (X ≥ 65536)&&(decide ((0:Int)<=X)&&decide ((X:Int)<55296) || decide ((57344:Int)<=X)&&decide ((X:Int)<=1114111)))=false:=by
     simp only [Bool.and_eq_false_iff,Bool.or_eq_false_iff,decide_eq_false_iff_not];omega
    rw [hi,if_pos (by simp;omega)];simp
  ·have e1:(((decide (1<n)&&b / 64==2)&&(decide (2<n)&&c / 64==2))&&(decide (3<n)&&d / 64==2))=false:=by
    simp only [Bool.and_eq_false_iff,decide_eq_false_iff_not,beq_eq_false_iff_ne];omega
   rw [e];simp only [Bool.true_and];rw [e1];simp only [Bool.false_eq_true,if_false];by_cases hn:n<4
   ·simp [hn]
   ·rw [if_neg hn,if_pos (by simp;omega)];simp
 rw [if_neg h4];have g4:(a / 8==30)=false:=by simp;omega
 rw [g4];simp
def cB (s:ByteArray) (i:Nat):Nat:=if i<s.size then bt s i else 256
theorem d9 {s:ByteArray} {i:Nat} (h:cB s i<256):i<s.size:=by
 unfold cB at h;split at h
 ·assumption
 ·omega
theorem wo {s:ByteArray} {i:Nat} (h:i<s.size):cB s i=bt s i:=by unfold cB;rw [if_pos h]
theorem vG {s:ByteArray} {i:Nat} (h:s.size<=i):cB s i=256:=by unfold cB;rw [if_neg (by omega)]
theorem aax {s:ByteArray} {i:Nat} (h:i<s.size):cB s i<256:=by rw [wo h];exact Ea _ _
def nM (c:Nat):Bool:=c==32 || c==9 || c==10 || c==13
def wu (p:Nat->Bool) (s:ByteArray):Nat->Nat->Nat
 | 0,i=>i
 | n+1,i=>if p (cB s i)=true then wu p s n (i+1) else i
def Dr (p:Nat->Bool) (s:ByteArray) (i:Nat):Nat:=wu p s (s.size - i) i
theorem jw {p:Nat->Bool} (hp:p 256=false) (s:ByteArray) (i:Nat):Dr p s i=if p (cB s i)=true then Dr p s (i+1) else i:=by
 unfold Dr;by_cases h:i<s.size
 ·have e:s.size - i=(s.size - (i+1))+1:=by omega
  rw [e,wu]
 ·have e:s.size - i=0:=by omega
  rw [e,wu,vG (by omega),hp];rfl
theorem Jf (p:Nat->Bool) (s:ByteArray):∀ n i,i<=wu p s n i
 | 0,i=>Nat.le_refl _
 | n+1,i=>by
  rw [wu];split
  ·have:=Jf p s n (i+1);omega
  ·exact Nat.le_refl _
theorem Jg (p:Nat->Bool) (s:ByteArray):∀ n i,wu p s n i<=i+n
 | 0,i=>by rw [wu];omega
 | n+1,i=>by
  rw [wu];split
  ·have:=Jg p s n (i+1);omega
  ·omega
theorem Ga (p:Nat->Bool) (s:ByteArray) (i:Nat):i<=Dr p s i:=Jf p s _ i
theorem PE (p:Nat->Bool) {s:ByteArray} {i:Nat} (h:i<=s.size):Dr p s i<=s.size:=by
 have:=Jg p s (s.size - i) i;unfold Dr;omega
theorem Jh {p:Nat->Bool} (hp:p 256=false) (s:ByteArray):∀ (n i j:Nat),s.size - i<=n->i<=j->j<Dr p s i->p (cB s j)=true
 | 0,i,j,h,h1,h2=>by
  rw [jw hp,vG (by omega),hp] at h2;simp at h2;omega
 | n+1,i,j,h,h1,h2=>by
  rw [jw hp] at h2;by_cases hh:p (cB s i)=true
  ·rw [if_pos hh] at h2;by_cases e:i=j
   ·subst e;exact hh
   ·exact Jh hp s n (i+1) j (by omega) (by omega) h2
  ·rw [if_neg hh] at h2;omega
theorem Q9:nM 256=false:=rfl
def sk (s:ByteArray) (i:Nat):Nat:=Dr nM s i
theorem Gb (s:ByteArray) (i:Nat):sk s i=if nM (cB s i)=true then sk s (i+1) else i:=jw Q9 s i
theorem jy (s:ByteArray) (i:Nat):i<=sk s i:=Ga _ s i
theorem lU {s:ByteArray} {i:Nat} (h:i<=s.size):sk s i<=s.size:=PE _ h
def oW (c:Nat):Bool:=decide (48<=c)&&decide (c<=57)
theorem wz:oW 256=false:=rfl
def dg (s:ByteArray) (i:Nat):Nat:=Dr oW s i
def dv (s:ByteArray) (d:Nat):Nat->Nat
 | 0=>0
 | k+1=>dv s d k*10+(cB s (d+k) - 48)
def fQ (s:ByteArray) (i:Nat):Nat:=if cB s i=45 then i+1 else i
def rz (s:ByteArray) (i:Nat):Option (Int×Nat) :=
 if dg s (fQ s i)=fQ s i then none
 else if fQ s i+1<dg s (fQ s i)/\cB s (fQ s i)=48 then none
 else if cB s i=45 then (if dv s (fQ s i) (dg s (fQ s i) - fQ s i)<=9223372036854775808 then some (-(dv s (fQ s i) (dg s (fQ s i) - fQ s i):Int),dg s (fQ s i)) else none)
 else (if dv s (fQ s i) (dg s (fQ s i) - fQ s i)<9223372036854775808 then some ((dv s (fQ s i) (dg s (fQ s i) - fQ s i):Int),dg s (fQ s i)) else none)
def Al (s:ByteArray) (i:Nat) (t:ByteArray):Bool:=decide (i+t.size<=s.size)&&decide (s.extract i (i+t.size)=t)
def pz (c:Nat):Option Nat:=if oW c=true then some (c - 48) else if 97<=c/\c<=102 then some (c - 87) else if 65<=c/\c<=70 then some (c - 55) else none
theorem PG {c n:Nat} (h:pz c=some n):n<16/\c<256:=by
 unfold pz oW at h;split at h
 ·rename_i hh;simp only [Option.some.injEq] at h;simp at hh;omega
 ·split at h
  ·simp only [Option.some.injEq] at h;omega
  ·split at h
   ·simp only [Option.some.injEq] at h;omega
   ·cases h
def uH (s:ByteArray) (i:Nat):Nat->Option Nat
 | 0=>some 0
 | k+1=>(uH s i k).bind fun a=>(pz (cB s (i+k))).bind fun b=>some (16*a+b)
theorem nN {s:ByteArray} {i:Nat}:∀ {k n:Nat},uH s i k=some n->n<16 ^ k/\(0<k->i+k<=s.size)
 | 0,n,h=>by
  simp only [uH,Option.some.injEq] at h;subst h;exact ⟨by simp,fun h=>by omega⟩
 | k+1,n,h=>by
  rw [uH] at h;cases h1:uH s i k with
  | none=>rw [h1] at h;cases h
  | some a =>
   rw [h1] at h;simp only [Option.bind_some] at h;cases h2:pz (cB s (i+k)) with
   | none=>rw [h2] at h;cases h
   | some b =>
    rw [h2] at h;simp only [Option.bind_some,Option.some.injEq] at h;have h3:=nN h1;have h4:=PG h2;have h5:=d9 h4.2;refine ⟨?_,fun _=>by omega⟩;rw [Nat.pow_succ];omega
def rA (s:ByteArray) (i:Nat):Option Nat:=uH s i 4
theorem Ra {s:ByteArray} {i:Nat}:∀ {k m:Nat},k<=m->uH s i k=none->uH s i m=none:=by
 intro k m h h0
 induction h with
 | refl=>exact h0
 | step _ ih=>rw [uH,ih];rfl
def low (s:ByteArray) (i a:Nat):Option (Nat×Nat) :=
 if a<55296\/57343<a then some (a,i)
 else if 56319<a then none
 else if cB s i=92/\cB s (i+1)=117 then (rA s (i+2)).bind fun b=>if b<56320\/57343<b then none else some (65536+1024*(a - 55296)+(b - 56320),i+6)
 else none
def oH (s:ByteArray) (i:Nat):Option (Nat×Nat) :=
 if cB s i=34\/cB s i=92\/cB s i=47 then some (cB s i,i+1)
 else if cB s i=98 then some (8,i+1)
 else if cB s i=102 then some (12,i+1)
 else if cB s i=110 then some (10,i+1)
 else if cB s i=114 then some (13,i+1)
 else if cB s i=116 then some (9,i+1)
 else if cB s i=117 then (rA s (i+1)).bind fun a=>low s (i+5) a
 else none
theorem YH {s:ByteArray} {i a r e:Nat} (ha:a<65536) (hi:i<=s.size) (h:low s i a=some (r,e)):i<=e/\e<=s.size/\r<=1114111:=by
 unfold low at h;split at h
 ·simp only [Option.some.injEq,Prod.mk.injEq] at h;omega
 ·split at h
  ·cases h
  ·split at h
   ·cases hh:rA s (i+2) with
    | none=>rw [hh] at h;cases h
    | some b =>
     rw [hh] at h;simp only [Option.bind_some] at h;have:=nN hh;split at h
     ·cases h
     ·simp only [Option.some.injEq,Prod.mk.injEq] at h;omega
   ·cases h
theorem Un {s:ByteArray} {i r e:Nat} (h:oH s i=some (r,e)):i<e/\e<=s.size/\r<=1114111:=by
 have key:∀ (c x:Nat),cB s i=c->c<256->some (x,i+1)=some (r,e)->x<256->i<e/\e<=s.size/\r<=1114111:=by
  intro c x h1 h2 h3 h4;have:=d9 (h1 ▸ h2);simp only [Option.some.injEq,Prod.mk.injEq] at h3;omega
 unfold oH at h;split at h
 ·rename_i hh;exact key _ _ rfl (by omega) h (by omega)
 ·split at h
  ·rename_i hh;exact key _ _ hh (by omega) h (by omega)
  ·split at h
   ·rename_i hh;exact key _ _ hh (by omega) h (by omega)
   ·split at h
    ·rename_i hh;exact key _ _ hh (by omega) h (by omega)
    ·split at h
     ·rename_i hh;exact key _ _ hh (by omega) h (by omega)
     ·split at h
      ·rename_i hh;exact key _ _ hh (by omega) h (by omega)
      ·split at h
       ·cases hx:rA s (i+1) with
        | none=>rw [hx] at h;cases h
        | some a =>
         rw [hx] at h;simp only [Option.bind_some] at h;have h1:=nN hx;have:=YH (by omega) (by omega) h;omega
       ·cases h
def mG (s:ByteArray):Nat×Nat:=if s.size=0 then (65533,0) else Utf8.decode s 0
def jW (s:ByteArray) (i:Nat):Option (Nat×Nat) :=
 if cB s i=92 then oH s (i+1)
 else if (mG (oG s i)).1<32\/((mG (oG s i)).1=65533/\(mG (oG s i)).2<=1) then none
 else some ((mG (oG s i)).1,i+(mG (oG s i)).2)
end Go.Proofs.YtknakfpciccoaaaGreatDoor
