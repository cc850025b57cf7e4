import Derived.Test.YtknakfpciccoaabGreatDoorZL1
import Derived.Lib.ValidLaws
import Derived.Lib.MapLaws
/- What a value is: the program's check and the reference's say the same; so do their orders. -/
namespace Go.Proofs.YtknakfpciccoaabGreatDoor
open Go.RowKit
def fI (g:T->Nat) (t:T):Nat->Nat
 | 0=>0
 | k+1=>fI g t k+g (elt t k)
def kg (t:T):Nat->Nat
 | 0=>0
 | k+1=>kg t k+(2+(bR t k).size)
def dJ (t:T):Nat:=if ah t=1 then 1 else if ah t=2 then 2 else if ah t=3 then 9 else 5+(ay t).size
def aK:Nat->T->Nat
 | 0,t=>dJ t
 | m+1,t=>if ah t=5 then 5+fI (aK m) t (nL t) else if ah t=6 then 5+kg t (nK t)+fI (aK m) t (nL t) else dJ t
def bg (t:T):Prop :=
 nL t=0/\nK t=0/\((ah t=1/\au t=0/\bF t=true)\/(ah t=2/\(au t=0\/au t=1)/\bF t=true)\/(ah t=3/\bF t=true)\/(ah t=4/\au t=0/\(ay t).size<=4000/\zR (ay t)=true))
def fJ:Nat->T->Prop
 | 0,t=>bg t
 | m+1,t=>bg t\/(au t=0/\bF t=true/\(∀ i,i<nL t->fJ m (elt t i))/\((ah t=5/\nK t=0)\/(ah t=6/\nK t=nL t/\gF t (nK t)=true/\iP t (nK t)=false)))
theorem nS (t:T):fH t=true ↔ nL t=0/\nK t=0:=by simp [fH]
theorem kT (n l:Int):aZ n l=if n<=l then some (l - n) else none:=rfl
theorem IQ (t:T) (l:Int) (_h:0<=l):pG t l=some (l - dJ t)/\bg t/\(dJ t:Int)<=l\/pG t l=none/\¬ (bg t/\(dJ t:Int)<=l):=by
 unfold pG bg dJ;by_cases k1:ah t=1
 ·simp only [k1,if_true,nS,kT];by_cases c:au t=0/\bF t=true/\nL t=0/\nK t=0
  ·rw [if_pos c];obtain ⟨c1,c2,c3,c4⟩:=c;by_cases d:(1:Int)<=l
   ·left;simp [d,c1,c2,c3,c4]
   ·right;simp [d,c1,c2,c3,c4]
  ·rw [if_neg c]
   right
   refine ⟨rfl,fun h=>c ?_⟩;obtain ⟨⟨a,b,h⟩,_⟩:=h;rcases h with ⟨_,h1,h2⟩ | ⟨h,_⟩ | ⟨h,_⟩ | ⟨h,_⟩
   ·exact ⟨h1,h2,a,b⟩
   ·omega
   ·omega
   ·omega
 by_cases k2:ah t=2
 ·rw [if_neg k1,if_pos k2,if_neg k1,if_pos k2];simp only [nS,kT];by_cases c:(au t=0\/au t=1)/\bF t=true/\nL t=0/\nK t=0
  ·rw [if_pos c];obtain ⟨c1,c2,c3,c4⟩:=c;by_cases d:(2:Int)<=l
   ·left;exact ⟨by rw [if_pos d];rfl,⟨c3,c4,Or.inr (Or.inl ⟨k2,c1,c2⟩)⟩,d⟩
   ·right;exact ⟨if_neg d,fun h=>d h.2⟩
  ·rw [if_neg c]
   right
   refine ⟨rfl,fun h=>c ?_⟩;obtain ⟨⟨a,b,h⟩,_⟩:=h;rcases h with ⟨h,_⟩ | ⟨_,h1,h2⟩ | ⟨h,_⟩ | ⟨h,_⟩
   ·omega
   ·exact ⟨h1,h2,a,b⟩
   ·omega
   ·omega
 by_cases k3:ah t=3
 ·rw [if_neg k1,if_neg k2,if_pos k3,if_neg k1,if_neg k2,if_pos k3];simp only [nS,kT];by_cases c:bF t=true/\nL t=0/\nK t=0
  ·rw [if_pos c];obtain ⟨c2,c3,c4⟩:=c;by_cases d:(9:Int)<=l
   ·left;exact ⟨by rw [if_pos d];rfl,⟨c3,c4,Or.inr (Or.inr (Or.inl ⟨k3,c2⟩))⟩,d⟩
   ·right;exact ⟨if_neg d,fun h=>d h.2⟩
  ·rw [if_neg c]
   right
   refine ⟨rfl,fun h=>c ?_⟩;obtain ⟨⟨a,b,h⟩,_⟩:=h;rcases h with ⟨h,_⟩ | ⟨h,_⟩ | ⟨_,h2⟩ | ⟨h,_⟩
   ·omega
   ·omega
   ·exact ⟨h2,a,b⟩
   ·omega
 by_cases k4:ah t=4
 ·rw [if_neg k1,if_neg k2,if_neg k3,if_pos k4,if_neg k1,if_neg k2,if_neg k3];simp only [nS,kT];by_cases c:au t=0/\nL t=0/\nK t=0
  ·rw [if_pos c];obtain ⟨c2,c3,c4⟩:=c;by_cases d:(5:Int)<=l
   ·rw [if_pos d];show (if (ay t).size<=4000/\((ay t).size:Int)<=l - 5/\zR (ay t)=true then some (l - 5 - ((ay t).size:Int)) else none)=_/\_\/_;by_cases e:(ay t).size<=4000/\((ay t).size:Int)<=l - 5/\zR (ay t)=true
    ·left
     refine ⟨?_,⟨c3,c4,Or.inr (Or.inr (Or.inr ⟨k4,c2,e.1,e.2.2⟩))⟩,by omega⟩;rw [if_pos e]
     congr 1
     omega
    ·right
     refine ⟨if_neg e,fun h=>e ?_⟩;obtain ⟨⟨a,b,h⟩,hb⟩:=h;rcases h with ⟨h,_⟩ | ⟨h,_⟩ | ⟨h,_⟩ | ⟨_,h1,h2,h3⟩
     ·omega
     ·omega
     ·omega
     ·exact ⟨h2,by omega,h3⟩
   ·right
    rw [if_neg d];exact ⟨rfl,fun h=>d (by have:=h.2;omega)⟩
  ·rw [if_neg c]
   right
   refine ⟨rfl,fun h=>c ?_⟩;obtain ⟨⟨a,b,h⟩,_⟩:=h;rcases h with ⟨h,_⟩ | ⟨h,_⟩ | ⟨h,_⟩ | ⟨_,h2,_⟩
   ·omega
   ·omega
   ·omega
   ·exact ⟨h2,a,b⟩
 ·rw [if_neg k1,if_neg k2,if_neg k3,if_neg k4]
  right
  refine ⟨rfl,fun h=>?_⟩;obtain ⟨⟨a,b,h⟩,_⟩:=h;rcases h with ⟨h,_⟩ | ⟨h,_⟩ | ⟨h,_⟩ | ⟨h,_⟩<;>omega
def LZ (r:Option Int) (good:Prop) (n:Nat) (l:Int):Prop:=r=some (l - n)/\good/\(n:Int)<=l\/r=none/\¬ (good/\(n:Int)<=l)
theorem Aj (t:T) (l:Int) (h:0<=l):∀ k,LZ (jF t k l) (gF t k=true) (kg t k) l
 | 0=>Or.inl ⟨by simp [jF,kg],rfl,by simpa [kg] using h⟩
 | k+1=>by
  rcases Aj t l h k with ⟨h1,h2,h3⟩ | ⟨h1,h2⟩
  ·by_cases c:(zR (bR t k)=true/\(bR t k).size<=4000)/\((kg t k+(2+(bR t k).size):Nat):Int)<=l
   ·left
    refine ⟨?_,by simp [gF,h2,c.1.1,c.1.2],c.2⟩;simp only [jF,h1,Option.bind_some,kT];rw [if_pos (by omega)];simp only [Option.bind_some,mK];rw [if_pos ⟨c.1.2,by omega,c.1.1⟩];simp only [kg]
    congr 1
    omega
   ·right
    refine ⟨?_,fun hh=>c ?_⟩
    ·simp only [jF,h1,Option.bind_some,kT];by_cases d:(2:Int)<=l - kg t k
     ·rw [if_pos d];simp only [Option.bind_some,mK];rw [if_neg (fun e=>c ⟨⟨e.2.2,e.1⟩,by omega⟩)]
     ·rw [if_neg d];rfl
    ·have:=hh.1;simp only [gF,Bool.and_eq_true,decide_eq_true_eq] at this;exact ⟨this.2,hh.2⟩
  ·right
   refine ⟨by simp [jF,h1],fun hh=>h2 ⟨?_,?_⟩⟩
   ·have:=hh.1;simp only [gF,Bool.and_eq_true] at this;exact this.1
   ·have:=hh.2;simp only [kg] at this;omega
theorem rO {m:Nat} (ih:∀ (t:T) (l:Int),0<=l->LZ (aP m t l) (fJ m t) (aK m t) l) (t:T) (l:Int) (h:0<=l):∀ k,LZ (dQ (aP m) t k l) (∀ i,i<k->fJ m (elt t i)) (fI (aK m) t k) l
 | 0=>Or.inl ⟨by simp [dQ,fI],fun i hi=>absurd hi (Nat.not_lt_zero _),by simpa [fI] using h⟩
 | k+1=>by
  rcases rO ih t l h k with ⟨h1,h2,h3⟩ | ⟨h1,h2⟩
  ·rcases ih (elt t k) (l - fI (aK m) t k) (by omega) with ⟨g1,g2,g3⟩ | ⟨g1,g2⟩
   ·left
    refine ⟨?_,fun i hi=>?_,by simp only [fI];omega⟩
    ·simp only [dQ,h1,Option.bind_some,g1,fI]
     congr 1
     omega
    ·by_cases e:i=k
     ·subst e;exact g2
     ·exact h2 i (by omega)
   ·right
    refine ⟨by simp [dQ,h1,g1],fun hh=>g2 ⟨hh.1 k (by omega),?_⟩⟩;have:=hh.2;simp only [fI] at this;omega
  ·right
   refine ⟨by simp [dQ,h1],fun hh=>h2 ⟨fun i hi=>hh.1 i (by omega),?_⟩⟩;have:=hh.2;simp only [fI] at this;omega
theorem jH {t:T} (h:bg t):ah t≠5/\ah t≠6:=by
 obtain ⟨_,_,h⟩:=h;rcases h with ⟨h,_⟩ | ⟨h,_⟩ | ⟨h,_⟩ | ⟨h,_⟩<;>omega
theorem mM:∀ (m:Nat) (t:T) (l:Int),0<=l->LZ (aP m t l) (fJ m t) (aK m t) l
 | 0,t,l,h=>IQ t l h
 | m+1,t,l,h=>by
  by_cases k5:ah t=5
  ·have ng:¬ bg t:=fun hh=>(jH hh).1 k5
   have eg:fJ (m+1) t ↔ au t=0/\bF t=true/\nK t=0/\(∀ i,i<nL t->fJ m (elt t i)):=by
    simp only [fJ];constructor
    ·rintro (hh | ⟨a,b,c,d⟩)
     ·exact absurd hh ng
     ·rcases d with ⟨_,d⟩ | ⟨d,_⟩
      ·exact ⟨a,b,d,c⟩
      ·omega
    ·rintro ⟨a,b,c,d⟩;exact Or.inr ⟨a,b,d,Or.inl ⟨k5,c⟩⟩
   have eb:aK (m+1) t=5+fI (aK m) t (nL t):=by simp [aK,k5]
   have ec:aP (m+1) t l=if au t=0/\bF t=true/\nK t=0 then (aZ 5 l).bind (dQ (aP m) t (nL t)) else none:=by simp [aP,k5]
   unfold LZ;rw [eg,eb,ec];by_cases c:au t=0/\bF t=true/\nK t=0
   ·rw [if_pos c,kT];by_cases d:(5:Int)<=l
    ·rw [if_pos d,Option.bind_some];rcases rO (mM m) t (l - 5) (by omega) (nL t) with ⟨h1,h2,h3⟩ | ⟨h1,h2⟩
     ·left
      refine ⟨?_,⟨c.1,c.2.1,c.2.2,h2⟩,by omega⟩;rw [h1]
      congr 1
      omega
     ·right
      exact ⟨h1,fun hh=>h2 ⟨hh.1.2.2.2,by have:=hh.2;omega⟩⟩
    ·right
     rw [if_neg d];exact ⟨rfl,fun hh=>d (by have:=hh.2;omega)⟩
   ·rw [if_neg c];exact Or.inr ⟨rfl,fun hh=>c ⟨hh.1.1,hh.1.2.1,hh.1.2.2.1⟩⟩
  by_cases k6:ah t=6
  ·have ng:¬ bg t:=fun hh=>(jH hh).2 k6
   have eg:fJ (m+1) t ↔ au t=0/\bF t=true/\nK t=nL t/\(gF t (nK t)=true/\iP t (nK t)=false)/\(∀ i,i<nL t->fJ m (elt t i)):=by
    simp only [fJ];constructor
    ·rintro (hh | ⟨a,b,c,d⟩)
     ·exact absurd hh ng
     ·rcases d with ⟨d,_⟩ | ⟨_,d,e,f⟩
      ·omega
      ·exact ⟨a,b,d,⟨e,f⟩,c⟩
    ·rintro ⟨a,b,c,⟨d,e⟩,f⟩;exact Or.inr ⟨a,b,f,Or.inr ⟨k6,c,d,e⟩⟩
   have eb:aK (m+1) t=5+kg t (nK t)+fI (aK m) t (nL t):=by simp [aK,k6]
   have ec:aP (m+1) t l=if au t=0/\bF t=true/\nK t=nL t then ((aZ 5 l).bind (lQ t)).bind (dQ (aP m) t (nL t)) else none:=by simp [aP,k6]
   unfold LZ;rw [eg,eb,ec];by_cases c:au t=0/\bF t=true/\nK t=nL t
   ·rw [if_pos c,kT];by_cases d:(5:Int)<=l
    ·rw [if_pos d,Option.bind_some];unfold lQ;rcases Aj t (l - 5) (by omega) (nK t) with ⟨h1,h2,h3⟩ | ⟨h1,h2⟩
     ·rw [h1,Option.bind_some];cases hd:iP t (nK t) with
      | true =>
       right
       refine ⟨by simp,fun hh=>?_⟩;have:=hh.1.2.2.2.1.2;cases this
      | false =>
       simp only [Bool.false_eq_true,if_false,Option.bind_some];rcases rO (mM m) t (l - 5 - kg t (nK t)) (by omega) (nL t) with ⟨g1,g2,g3⟩ | ⟨g1,g2⟩
       ·left
        refine ⟨?_,⟨c.1,c.2.1,c.2.2,⟨h2,by trivial⟩,g2⟩,by omega⟩;rw [g1]
        congr 1
        omega
       ·right
        exact ⟨g1,fun hh=>g2 ⟨hh.1.2.2.2.2,by have:=hh.2;omega⟩⟩
     ·right
      rw [h1];exact ⟨rfl,fun hh=>h2 ⟨hh.1.2.2.2.1.1,by have:=hh.2;omega⟩⟩
    ·right
     rw [if_neg d];exact ⟨rfl,fun hh=>d (by have:=hh.2;omega)⟩
   ·rw [if_neg c];exact Or.inr ⟨rfl,fun hh=>c ⟨hh.1.1,hh.1.2.1,hh.1.2.2.1⟩⟩
  ·have eg:fJ (m+1) t ↔ bg t:=by
    simp only [fJ];constructor
    ·rintro (hh | ⟨_,_,_,⟨d,_⟩ | ⟨d,_⟩⟩)
     ·exact hh
     ·exact absurd d k5
     ·exact absurd d k6
    ·exact Or.inl
   have eb:aK (m+1) t=dJ t:=by simp [aK,k5,k6]
   have ec:aP (m+1) t l=pG t l:=by simp [aP,k5,k6]
   unfold LZ;rw [eg,eb,ec];exact IQ t l h
def xE:Nat->T->Prop
 | 0,_=>False
 | f+1,t=>∀ i,i<nL t->xE f (elt t i)
theorem At.aeG {w:World}:∀ {f:Nat} {v:Value} {t:T},At w f v t->xE f t:=by
 intro f
 induction f with
 | zero=>intro v t h;exact h
 | succ f ih =>
  rintro v t ⟨La,Ka,Lc,Kc,_,_,hl,_⟩ i hi;obtain ⟨b,o,c0,c1,c2,c3,c4,_,_,_,_,_,_,_,ha⟩:=hl i hi;exact ih ha
theorem TM {g:T->Bool} {t:T}:∀ {k:Nat},jE g t k=true ↔ ∀ i,i<k->g (elt t i)=true
 | 0=>by simp [jE]
 | k+1=>by
  simp only [jE,Bool.and_eq_true,TM];constructor
  ·rintro ⟨a,b⟩ i hi;by_cases e:i=k
   ·subst e;exact b
   ·exact a i (by omega)
  ·intro h;exact ⟨fun i hi=>h i (by omega),h k (by omega)⟩
theorem IU {g:T->Bool} {t:T}:∀ {k:Nat},cZ g t k=false ↔ ∀ i,i<k->g (elt t i)=false
 | 0=>by simp [cZ]
 | k+1=>by
  simp only [cZ,Bool.or_eq_false_iff,IU];constructor
  ·rintro ⟨a,b⟩ i hi;by_cases e:i=k
   ·subst e;exact b
   ·exact a i (by omega)
  ·intro h;exact ⟨fun i hi=>h i (by omega),h k (by omega)⟩
theorem adY (t:T) (hb:gL t=false):bg t ↔ Dw t=true/\Ag t=true:=by
 simp only [gL,Bool.or_eq_false_iff,beq_eq_false_iff_ne] at hb;obtain ⟨h5,h6⟩:=hb;unfold bg Dw Ag;simp only [h5,h6,false_or,or_false,Bool.and_eq_true,decide_eq_true_eq,if_false];constructor
 ·rintro ⟨a,b,h⟩;rcases h with ⟨k,h1,h2⟩ | ⟨k,h1,h2⟩ | ⟨k,h1⟩ | ⟨k,h1,h2,h3⟩
  ·refine ⟨⟨⟨Or.inr (Or.inr h1),Or.inr h2⟩,b,a⟩,?_⟩;rw [if_pos (Or.inl k)]
  ·refine ⟨⟨⟨Or.inl k,Or.inr h2⟩,b,a⟩,?_⟩;rw [if_neg (by omega),if_pos k];simpa using h1
  ·refine ⟨⟨⟨Or.inr (Or.inl k),Or.inr h1⟩,b,a⟩,?_⟩;rw [if_pos (Or.inr k)]
  ·refine ⟨⟨⟨Or.inr (Or.inr h1),Or.inl k⟩,b,a⟩,?_⟩;rw [if_neg (by omega),if_neg (by omega),if_pos k];simp [h2,h3]
 ·rintro ⟨⟨⟨a,b⟩,c,d⟩,e⟩;refine ⟨d,c,?_⟩;by_cases k1:ah t=1
  ·left
   exact ⟨k1,by omega,by rcases b with b | b;omega;exact b⟩
  by_cases k2:ah t=2
  ·rw [if_neg (by omega),if_pos k2] at e
   right;left
   exact ⟨k2,by simpa using e,by rcases b with b | b;omega;exact b⟩
  by_cases k3:ah t=3
  ·right;right;left
   exact ⟨k3,by rcases b with b | b;omega;exact b⟩
  by_cases k4:ah t=4
  ·rw [if_neg (by omega),if_neg (by omega),if_pos k4] at e;simp only [Bool.and_eq_true,decide_eq_true_eq] at e
   right;right;right
   exact ⟨k4,by omega,e.2,e.1⟩
  ·rw [if_neg (by omega),if_neg (by omega),if_neg k4] at e;cases e
theorem QD {m:Nat} {t:T} (hb:gL t=false):fJ m t ↔ bg t:=by
 simp only [gL,Bool.or_eq_false_iff,beq_eq_false_iff_ne] at hb;cases m with
 | zero=>exact Iff.rfl
 | succ m =>
  simp only [fJ];constructor
  ·rintro (hh | ⟨_,_,_,⟨d,_⟩ | ⟨d,_⟩⟩)
   ·exact hh
   ·exact absurd d hb.1
   ·exact absurd d hb.2
  ·exact Or.inl
theorem TN {m:Nat} {t:T} (hb:gL t=true):fJ (m+1) t ↔ (Dw t=true/\Ag t=true/\iP t (nK t)=false)/\∀ i,i<nL t->fJ m (elt t i):=by
 simp only [gL,Bool.or_eq_true,beq_iff_eq] at hb;have ng:¬ bg t:=fun hh=>by have:=jH hh;omega
 simp only [fJ];constructor
 ·rintro (hh | ⟨a,b,c,d⟩)
  ·exact absurd hh ng
  ·refine ⟨?_,c⟩;rcases d with ⟨k,d⟩ | ⟨k,d,e,f⟩
   ·refine ⟨by simp [Dw,k,a,b,d],by simp [Ag,k],?_⟩;rw [d];rfl
   ·exact ⟨by simp [Dw,k,a,b],by simp [Ag,k,d];rw [<- d];exact e,f⟩
 ·rintro ⟨⟨a,b,c⟩,d⟩
  right
  simp only [Dw,Bool.and_eq_true,decide_eq_true_eq] at a;obtain ⟨⟨a1,a2⟩,a3,a4⟩:=a;refine ⟨by omega,by rcases a2 with a2 | a2;omega;exact a2,d,?_⟩;rcases hb with k | k
  ·left
   exact ⟨k,by omega⟩
  ·right
   simp only [Ag] at b;rw [if_neg (by omega),if_neg (by omega),if_neg (by omega),if_pos k] at b;simp only [Bool.and_eq_true,decide_eq_true_eq] at b;exact ⟨k,b.1,b.2,c⟩
theorem sV (t:T):(aP 12 t 1048576).isSome=true ↔ fJ 12 t/\(aK 12 t:Int)<=1048576:=by
 rcases mM 12 t 1048576 (by omega) with ⟨h1,h2,h3⟩ | ⟨h1,h2⟩
 ·rw [h1];simp [h2,h3]
 ·rw [h1];constructor
  ·intro h;cases h
  ·intro h;exact absurd h h2
theorem IV:∀ (f m:Nat) (t:T),fJ m t->Tz f t
 | 0,_,_,_=>trivial
 | f+1,m,t,hg=>by
  cases hb:gL t with
  | false =>
   have hl:=(QD hb).1 hg;have hn:=jH hl;exact ⟨fun h=>absurd h hn.2,fun i hi=>by have:=hl.1;omega⟩
  | true =>
   cases m with
   | zero =>
    have:=jH hg;simp only [gL,Bool.or_eq_true,beq_iff_eq] at hb;omega
   | succ m =>
    obtain ⟨⟨_,hk,_⟩,hc⟩:=(TN hb).1 hg;refine ⟨fun k=>?_,fun i hi=>IV f m _ (hc i hi)⟩;simp only [Ag] at hk;rw [if_neg (by omega),if_neg (by omega),if_neg (by omega),if_pos k] at hk;simp only [Bool.and_eq_true,decide_eq_true_eq] at hk;exact hk.1
theorem mF {t:T} (h:bF t=true):ay t=ByteArray.empty:=by
 unfold bF at h;have h1:(ay t).toList=[]:=by simpa using h
 apply (oJ _ _).1;rw [h1,ByteArray.toList_eq];rfl
def oK (s:ByteArray) (n:Nat):ByteArray:=s.extract n s.size
theorem pI (s:ByteArray) (n:Nat):(oK s n).size=s.size - n:=by simp [oK,ByteArray.size_extract]
def cK (k n:Int) (s:ByteArray):T:=aX k n s [] []
theorem iR (k n:Int) (s:ByteArray) (l:List T) (ks:List ByteArray) (i:Nat):elt (aX k n s l ks) i=l.getD i .nil:=rfl
theorem aI (k n:Int) (s:ByteArray) (l:List T) (ks:List ByteArray):nL (aX k n s l ks)=l.length:=rfl
theorem fE (k n:Int) (s:ByteArray) (l:List T) (ks:List ByteArray):nK (aX k n s l ks)=ks.length:=by unfold nK;rw [rJ]
theorem uV (k n:Int) (s:ByteArray) (l:List T) (ks:List ByteArray) (i:Nat):bR (aX k n s l ks) i=ks.getD i ByteArray.empty:=by unfold bR;rw [rJ]
theorem xG (g:T->Nat) (t:T):∀ k,k<=nL t->fI g t k=(((zL t).take k).map g).sum
 | 0,_=>by simp [fI]
 | k+1,h=>by
  have hk:k<(zL t).length:=h;rw [fI,xG g t k (by omega),List.take_succ_eq_append_getElem hk,List.map_append,List.sum_append];have e:elt t k=(zL t)[k]:=by simp [elt,List.getD_eq_getElem?_getD,hk]
  rw [e];rfl
theorem Dz (t:T):∀ k,k<=nK t->kg t k=(((kQ t).take k).map fun s=>2+s.size).sum
 | 0,_=>by simp [kg]
 | k+1,h=>by
  have hk:k<(kQ t).length:=h;rw [kg,Dz t k (by omega),List.take_succ_eq_append_getElem hk,List.map_append,List.sum_append];have e:bR t k=(kQ t)[k]:=by simp [bR,List.getD_eq_getElem?_getD,hk]
  rw [e];rfl
theorem DC (d:Nat) (k:Int) (l:List T) (ks:List ByteArray) (hk:k=5\/k=6) (h5:k=5->ks=[]) :
  aK (d+1) (aX k 0 ByteArray.empty l ks)=5+(ks.map fun s=>2+s.size).sum+(l.map (aK d)).sum:=by
 have e1:fI (aK d) (aX k 0 ByteArray.empty l ks) (nL (aX k 0 ByteArray.empty l ks))=(l.map (aK d)).sum:=by
  rw [xG _ _ _ (Nat.le_refl _),uT,aI,List.take_length]
 have e2:kg (aX k 0 ByteArray.empty l ks) (nK (aX k 0 ByteArray.empty l ks))=(ks.map fun s=>2+s.size).sum:=by
  rw [Dz _ _ (Nat.le_refl _),rJ,fE,List.take_length]
 unfold aK;rw [bE];rcases hk with hk | hk
 ·rw [if_pos hk,e1,h5 hk];simp
 ·rw [if_neg (by omega),if_pos hk,e1,e2]
def bt (s:ByteArray) (i:Nat):Nat:=(s.get! i).toNat
theorem DF (s:ByteArray) (i:Nat):bt s i<256:=(s.get! i).toNat_lt
def jI (s:ByteArray):Nat->Bool
 | 0=>true
 | k+1=>jI s k&&(decide (128<=bt s (k+1))&&decide (bt s (k+1)<=191))
def Ak (s:ByteArray) (c0:Int):Nat->Int
 | 0=>c0
 | k+1=>64*Ak s c0 k+(bt s (k+1):Int) - 128
def sW (least c:Int):Bool:=decide (c<least) || decide (1114111<c) || (decide (55296<=c)&&decide (c<57344))
def rP (s:ByteArray) (n:Nat) (least c0:Int):Nat :=
 if s.size<n then 0 else if jI s (n - 1)=false then 0 else if sW least (Ak s c0 (n - 1))=true then 0 else n
def kr (s:ByteArray):Nat :=
 if bt s 0<128 then 1 else if 192<=bt s 0/\bt s 0<224 then rP s 2 128 (bt s 0 - 192) else if 224<=bt s 0/\bt s 0<240 then rP s 3 2048 (bt s 0 - 224) else if 240<=bt s 0/\bt s 0<248 then rP s 4 65536 (bt s 0 - 240) else 0
theorem qj (s:ByteArray):Lib.decodeL s.data.toList=Utf8.decode s 0:=by
 unfold Lib.decodeL;cases s with
 | mk d=>rfl
theorem nU (s:ByteArray):kr s=if (Utf8.decode s 0).1=65533/\(Utf8.decode s 0).2=1 then 0 else (Utf8.decode s 0).2:=by
 have l0:=DF s 0;have l1:=DF s 1;have l2:=DF s 2;have l3:=DF s 3;simp only [kr,rP,jI,Ak,sW,Utf8.decode,Utf8.runeError,Utf8.valid,Nat.zero_add];simp only [<- bt.eq_def];generalize bt s 0=a at *;generalize bt s 1=b at *;generalize bt s 2=c at *;generalize bt s 3=d at *;generalize s.size=n at *;by_cases h1:a<128
 ·simp only [h1,if_true];rw [if_neg (by omega)]
 rw [if_neg h1,if_neg h1];by_cases h2:192<=a/\a<224
 ·have e:(a / 32==6)=true:=by simp;omega
  rw [if_pos h2];by_cases hc:1<n/\b / 64=2
  ·have e1:(decide (1<n)&&b / 64==2)=true:=by simp;exact hc
   rw [e,e1];simp only [Bool.and_self,if_true];rw [if_neg (by omega),if_neg (by simp;omega)];by_cases hv:a % 32*64+b % 64 ≥ 128
   ·rw [if_pos hv,if_neg (by simp;omega)];simp
   ·rw [if_neg hv,if_pos (by simp;omega)];simp
  ·have e1:(decide (1<n)&&b / 64==2)=false:=by
    simp only [Bool.and_eq_false_iff,decide_eq_false_iff_not,beq_eq_false_iff_ne];omega
   have e2:(a / 16==14)=false:=by simp;omega
   have e3:(a / 8==30)=false:=by simp;omega
   rw [e1,e2,e3];simp only [Bool.and_false,Bool.false_and,Bool.false_eq_true,if_false];by_cases hn:n<2
   ·simp [hn]
   ·rw [if_neg hn,if_pos (by simp;omega)];simp
 rw [if_neg h2];have g2:(a / 32==6)=false:=by simp;omega
 rw [g2];simp only [Bool.false_and,Bool.false_eq_true,if_false];by_cases h3:224<=a/\a<240
 ·have e:(a / 16==14)=true:=by simp;omega
  rw [if_pos h3];by_cases hc:(1<n/\b / 64=2)/\2<n/\c / 64=2
  ·have e1:(decide (1<n)&&b / 64==2)=true:=by simp;exact hc.1
   have e2:(decide (2<n)&&c / 64==2)=true:=by simp;exact hc.2
   rw [e,e1,e2];simp only [Bool.and_self,if_true];rw [if_neg (by omega),if_neg (by simp;omega)];generalize hX:a % 16*4096+b % 64*64+c % 64=X at *;by_cases hv:2048<=X/\(X<55296\/57344<=X)
   ·have hi:(decide (X ≥ 2048)&&(decide ((0:Int)<=X)&&decide ((X:Int)<55296) || decide ((57344:Int)<=X)&&decide ((X:Int)<=1114111)))=true:=by simp;omega
    rw [hi,if_neg (by simp;omega)];simp
   ·have hi:(decide (X ≥ 2048)&&(decide ((0:Int)<=X)&&decide ((X:Int)<55296) || decide ((57344:Int)<=X)&&decide ((X:Int)<=1114111)))=false:=by
     simp only [Bool.and_eq_false_iff,Bool.or_eq_false_iff,decide_eq_false_iff_not];omega
    rw [hi,if_pos (by simp;omega)];simp
  ·have e1:((decide (1<n)&&b / 64==2)&&(decide (2<n)&&c / 64==2))=false:=by
    simp only [Bool.and_eq_false_iff,decide_eq_false_iff_not,beq_eq_false_iff_ne];omega
   have e3:(a / 8==30)=false:=by simp;omega
   rw [e,e3];simp only [Bool.true_and,Bool.false_and];rw [e1];simp only [Bool.false_eq_true,if_false];by_cases hn:n<3
   ·simp [hn]
   ·rw [if_neg hn,if_pos (by simp;omega)];simp
 rw [if_neg h3];have g3:(a / 16==14)=false:=by simp;omega
 rw [g3];simp only [Bool.false_and,Bool.false_eq_true,if_false];by_cases h4:240<=a/\a<248
 ·have e:(a / 8==30)=true:=by simp;omega
  rw [if_pos h4];by_cases hc:(1<n/\b / 64=2)/\(2<n/\c / 64=2)/\3<n/\d / 64=2
  ·have e1:(decide (1<n)&&b / 64==2)=true:=by simp;exact hc.1
   have e2:(decide (2<n)&&c / 64==2)=true:=by simp;exact hc.2.1
   have e3:(decide (3<n)&&d / 64==2)=true:=by simp;exact hc.2.2
   rw [e,e1,e2,e3];simp only [Bool.and_self,if_true];rw [if_neg (by omega),if_neg (by simp;omega)];generalize hX:a % 8*262144+b % 64*4096+c % 64*64+d % 64=X at *;by_cases hv:65536<=X/\X<=1114111
   ·have hi:(decide (X ≥ 65536)&&(decide ((0:Int)<=X)&&decide ((X:Int)<55296) || decide ((57344:Int)<=X)&&decide ((X:Int)<=1114111)))=true:=by simp;omega
    rw [hi,if_neg (by simp;omega)];simp
   ·have hi:(decide (X ≥ 65536)&&(decide ((0:Int)<=X)&&decide ((X:Int)<55296) || decide ((57344:Int)<=X)&&decide ((X:Int)<=1114111)))=false:=by
     simp only [Bool.and_eq_false_iff,Bool.or_eq_false_iff,decide_eq_false_iff_not];omega
    rw [hi,if_pos (by simp;omega)];simp
  ·have e1:(((decide (1<n)&&b / 64==2)&&(decide (2<n)&&c / 64==2))&&(decide (3<n)&&d / 64==2))=false:=by
    simp only [Bool.and_eq_false_iff,decide_eq_false_iff_not,beq_eq_false_iff_ne];omega
   rw [e];simp only [Bool.true_and];rw [e1];simp only [Bool.false_eq_true,if_false];by_cases hn:n<4
   ·simp [hn]
   ·rw [if_neg hn,if_pos (by simp;omega)];simp
 rw [if_neg h4];have g4:(a / 8==30)=false:=by simp;omega
 rw [g4];simp
def cB (s:ByteArray) (i:Nat):Nat:=if i<s.size then bt s i else 256
theorem eH {s:ByteArray} {i:Nat} (h:cB s i<256):i<s.size:=by
 unfold cB at h;split at h
 ·assumption
 ·omega
theorem vS {s:ByteArray} {i:Nat} (h:i<s.size):cB s i=bt s i:=by unfold cB;rw [if_pos h]
theorem uW {s:ByteArray} {i:Nat} (h:s.size<=i):cB s i=256:=by unfold cB;rw [if_neg (by omega)]
theorem aaG {s:ByteArray} {i:Nat} (h:i<s.size):cB s i<256:=by rw [vS h];exact DF _ _
def nV (c:Nat):Bool:=c==32 || c==9 || c==10 || c==13
def vT (p:Nat->Bool) (s:ByteArray):Nat->Nat->Nat
 | 0,i=>i
 | n+1,i=>if p (cB s i)=true then vT p s n (i+1) else i
def CG (p:Nat->Bool) (s:ByteArray) (i:Nat):Nat:=vT p s (s.size - i) i
theorem jw {p:Nat->Bool} (hp:p 256=false) (s:ByteArray) (i:Nat):CG p s i=if p (cB s i)=true then CG p s (i+1) else i:=by
 unfold CG;by_cases h:i<s.size
 ·have e:s.size - i=(s.size - (i+1))+1:=by omega
  rw [e,vT]
 ·have e:s.size - i=0:=by omega
  rw [e,vT,uW (by omega),hp];rfl
theorem IW (p:Nat->Bool) (s:ByteArray):∀ n i,i<=vT p s n i
 | 0,i=>Nat.le_refl _
 | n+1,i=>by
  rw [vT];split
  ·have:=IW p s n (i+1);omega
  ·exact Nat.le_refl _
theorem IX (p:Nat->Bool) (s:ByteArray):∀ n i,vT p s n i<=i+n
 | 0,i=>by rw [vT];omega
 | n+1,i=>by
  rw [vT];split
  ·have:=IX p s n (i+1);omega
  ·omega
theorem FQ (p:Nat->Bool) (s:ByteArray) (i:Nat):i<=CG p s i:=IW p s _ i
theorem O5 (p:Nat->Bool) {s:ByteArray} {i:Nat} (h:i<=s.size):CG p s i<=s.size:=by
 have:=IX p s (s.size - i) i;unfold CG;omega
theorem IY {p:Nat->Bool} (hp:p 256=false) (s:ByteArray):∀ (n i j:Nat),s.size - i<=n->i<=j->j<CG p s i->p (cB s j)=true
 | 0,i,j,h,h1,h2=>by
  rw [jw hp,uW (by omega),hp] at h2;simp at h2;omega
 | n+1,i,j,h,h1,h2=>by
  rw [jw hp] at h2;by_cases hh:p (cB s i)=true
  ·rw [if_pos hh] at h2;by_cases e:i=j
   ·subst e;exact hh
   ·exact IY hp s n (i+1) j (by omega) (by omega) h2
  ·rw [if_neg hh] at h2;omega
theorem QE:nV 256=false:=rfl
def sk (s:ByteArray) (i:Nat):Nat:=CG nV s i
theorem FR (s:ByteArray) (i:Nat):sk s i=if nV (cB s i)=true then sk s (i+1) else i:=jw QE s i
theorem jy (s:ByteArray) (i:Nat):i<=sk s i:=FQ _ s i
theorem lX {s:ByteArray} {i:Nat} (h:i<=s.size):sk s i<=s.size:=O5 _ h
def pz (c:Nat):Bool:=decide (48<=c)&&decide (c<=57)
theorem vU:pz 256=false:=rfl
def dg (s:ByteArray) (i:Nat):Nat:=CG pz s i
def dv (s:ByteArray) (d:Nat):Nat->Nat
 | 0=>0
 | k+1=>dv s d k*10+(cB s (d+k) - 48)
def gq (s:ByteArray) (i:Nat):Nat:=if cB s i=45 then i+1 else i
def qY (s:ByteArray) (i:Nat):Option (Int×Nat) :=
 if dg s (gq s i)=gq s i then none
 else if gq s i+1<dg s (gq s i)/\cB s (gq s i)=48 then none
 else if cB s i=45 then (if dv s (gq s i) (dg s (gq s i) - gq s i)<=9223372036854775808 then some (-(dv s (gq s i) (dg s (gq s i) - gq s i):Int),dg s (gq s i)) else none)
 else (if dv s (gq s i) (dg s (gq s i) - gq s i)<9223372036854775808 then some ((dv s (gq s i) (dg s (gq s i) - gq s i):Int),dg s (gq s i)) else none)
def zV (s:ByteArray) (i:Nat) (t:ByteArray):Bool:=decide (i+t.size<=s.size)&&decide (s.extract i (i+t.size)=t)
def pJ (c:Nat):Option Nat:=if pz c=true then some (c - 48) else if 97<=c/\c<=102 then some (c - 87) else if 65<=c/\c<=70 then some (c - 55) else none
theorem O6 {c n:Nat} (h:pJ c=some n):n<16/\c<256:=by
 unfold pJ pz at h;split at h
 ·rename_i hh;simp only [Option.some.injEq] at h;simp at hh;omega
 ·split at h
  ·simp only [Option.some.injEq] at h;omega
  ·split at h
   ·simp only [Option.some.injEq] at h;omega
   ·cases h
def ug (s:ByteArray) (i:Nat):Nat->Option Nat
 | 0=>some 0
 | k+1=>(ug s i k).bind fun a=>(pJ (cB s (i+k))).bind fun b=>some (16*a+b)
theorem nW {s:ByteArray} {i:Nat}:∀ {k n:Nat},ug s i k=some n->n<16 ^ k/\(0<k->i+k<=s.size)
 | 0,n,h=>by
  simp only [ug,Option.some.injEq] at h;subst h;exact ⟨by simp,fun h=>by omega⟩
 | k+1,n,h=>by
  rw [ug] at h;cases h1:ug s i k with
  | none=>rw [h1] at h;cases h
  | some a =>
   rw [h1] at h;simp only [Option.bind_some] at h;cases h2:pJ (cB s (i+k)) with
   | none=>rw [h2] at h;cases h
   | some b =>
    rw [h2] at h;simp only [Option.bind_some,Option.some.injEq] at h;have h3:=nW h1;have h4:=O6 h2;have h5:=eH h4.2;refine ⟨?_,fun _=>by omega⟩;rw [Nat.pow_succ];omega
def qZ (s:ByteArray) (i:Nat):Option Nat:=ug s i 4
theorem QF {s:ByteArray} {i:Nat}:∀ {k m:Nat},k<=m->ug s i k=none->ug s i m=none:=by
 intro k m h h0
 induction h with
 | refl=>exact h0
 | step _ ih=>rw [ug,ih];rfl
def low (s:ByteArray) (i a:Nat):Option (Nat×Nat) :=
 if a<55296\/57343<a then some (a,i)
 else if 56319<a then none
 else if cB s i=92/\cB s (i+1)=117 then (qZ s (i+2)).bind fun b=>if b<56320\/57343<b then none else some (65536+1024*(a - 55296)+(b - 56320),i+6)
 else none
def oL (s:ByteArray) (i:Nat):Option (Nat×Nat) :=
 if cB s i=34\/cB s i=92\/cB s i=47 then some (cB s i,i+1)
 else if cB s i=98 then some (8,i+1)
 else if cB s i=102 then some (12,i+1)
 else if cB s i=110 then some (10,i+1)
 else if cB s i=114 then some (13,i+1)
 else if cB s i=116 then some (9,i+1)
 else if cB s i=117 then (qZ s (i+1)).bind fun a=>low s (i+5) a
 else none
theorem YI {s:ByteArray} {i a r e:Nat} (ha:a<65536) (hi:i<=s.size) (h:low s i a=some (r,e)):i<=e/\e<=s.size/\r<=1114111:=by
 unfold low at h;split at h
 ·simp only [Option.some.injEq,Prod.mk.injEq] at h;omega
 ·split at h
  ·cases h
  ·split at h
   ·cases hh:qZ s (i+2) with
    | none=>rw [hh] at h;cases h
    | some b =>
     rw [hh] at h;simp only [Option.bind_some] at h;have:=nW hh;split at h
     ·cases h
     ·simp only [Option.some.injEq,Prod.mk.injEq] at h;omega
   ·cases h
theorem TP {s:ByteArray} {i r e:Nat} (h:oL s i=some (r,e)):i<e/\e<=s.size/\r<=1114111:=by
 have key:∀ (c x:Nat),cB s i=c->c<256->some (x,i+1)=some (r,e)->x<256->i<e/\e<=s.size/\r<=1114111:=by
  intro c x h1 h2 h3 h4;have:=eH (h1 ▸ h2);simp only [Option.some.injEq,Prod.mk.injEq] at h3;omega
 unfold oL at h;split at h
 ·rename_i hh;exact key _ _ rfl (by omega) h (by omega)
 ·split at h
  ·rename_i hh;exact key _ _ hh (by omega) h (by omega)
  ·split at h
   ·rename_i hh;exact key _ _ hh (by omega) h (by omega)
   ·split at h
    ·rename_i hh;exact key _ _ hh (by omega) h (by omega)
    ·split at h
     ·rename_i hh;exact key _ _ hh (by omega) h (by omega)
     ·split at h
      ·rename_i hh;exact key _ _ hh (by omega) h (by omega)
      ·split at h
       ·cases hx:qZ s (i+1) with
        | none=>rw [hx] at h;cases h
        | some a =>
         rw [hx] at h;simp only [Option.bind_some] at h;have h1:=nW hx;have:=YI (by omega) (by omega) h;omega
       ·cases h
def mO (s:ByteArray):Nat×Nat:=if s.size=0 then (65533,0) else Utf8.decode s 0
def jV (s:ByteArray) (i:Nat):Option (Nat×Nat) :=
 if cB s i=92 then oL s (i+1)
 else if (mO (oK s i)).1<32\/((mO (oK s i)).1=65533/\(mO (oK s i)).2<=1) then none
 else some ((mO (oK s i)).1,i+(mO (oK s i)).2)
end Go.Proofs.YtknakfpciccoaabGreatDoor
