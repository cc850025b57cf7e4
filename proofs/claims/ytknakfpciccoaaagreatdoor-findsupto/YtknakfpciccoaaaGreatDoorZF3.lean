import Derived.Test.YtknakfpciccoaaaGreatDoorZF1
import Derived.Maps.OwnSet
import Derived.Lib.ValidU
import Derived.Lib.ValidLaws
/- A set of names: how many it holds, and whether one stands twice. -/
namespace Go.Proofs.YtknakfpciccoaaaGreatDoor
open Go.RowKit Go.Maps Go.WideMaps
def qN (t:T) (k:Nat):Lit:=.string (bf t k).data.toList
def jT (t:T) (k:Nat):List Lit:=(List.range k).map (qN t)
def Sn (t:T) (k:Nat):DataW Unit:=setOf (.agg []) (jT t k)
theorem xX (t:T) (k:Nat):jT t (k+1)=jT t k++[qN t k]:=by simp [jT,List.range_succ]
theorem UW (t:T) (k:Nat):Sn t (k+1)=(Sn t k).put (qN t k) (.agg []):=by unfold Sn;rw [xX,setOf_snoc]
theorem UY (t:T):Sn t 0=.map []:=by simp [Sn,jT,setOf]
theorem MS (t:T) (k:Nat):WideAt.IsKeyLit (qN t k):=by simp [qN,WideAt.IsKeyLit]
theorem qO (a b:ByteArray):a.data.toList=b.data.toList ↔ a=b:=by
 constructor
 ·intro h;cases a;cases b;simp at h;rw [h]
 ·intro h;rw [h]
theorem kg (a b:ByteArray):a.toList=b.toList ↔ a=b:=by
 rw [ByteArray.toList_eq,ByteArray.toList_eq];exact qO a b
theorem Di (t:T) (i:Nat):∀ k,mG t i k=true ↔ ∃ j,j<k/\bf t i=bf t j
 | 0=>by simp [mG]
 | k+1=>by
  simp only [mG,Bool.or_eq_true,beq_iff_eq,kg,Di t i k];constructor
  ·rintro (⟨j,hj,h⟩ | h)
   ·exact ⟨j,by omega,h⟩
   ·exact ⟨k,by omega,h⟩
  ·rintro ⟨j,hj,h⟩;by_cases e:j=k
   ·subst e;exact Or.inr h
   ·exact Or.inl ⟨j,by omega,h⟩
theorem wO (t:T):∀ k,((jT t k).foldl addKey []).length<=k/\(((jT t k).foldl addKey []).length=k ↔ fq t k=false)/\∀ x,((jT t k).foldl addKey []).any (fun y=>y.sameKey x)=true ↔ ∃ j,j<k/\(qN t j).sameKey x=true
 | 0=>by simp [jT,fq]
 | k+1=>by
  obtain ⟨h1,h2,h3⟩:=wO t k
  have hd:(((jT t k).foldl addKey []).any (fun y=>y.sameKey (qN t k))=true) ↔ mG t k k=true:=by
   rw [h3,Di];constructor
   ·rintro ⟨j,hj,h⟩;refine ⟨j,hj,?_⟩;have:=(WideAt.sameKey_iff (MS t k)).1 h;simp only [qN,Lit.string.injEq] at this;exact ((qO _ _).1 this).symm
   ·rintro ⟨j,hj,h⟩;refine ⟨j,hj,(WideAt.sameKey_iff (MS t k)).2 ?_⟩;simp only [qN,h]
  rw [xX,List.foldl_append];simp only [List.foldl_cons,List.foldl_nil];generalize List.foldl addKey [] (jT t k)=L at *;unfold addKey;by_cases h:(L.any fun y=>y.sameKey (qN t k))=true
  ·rw [if_pos h];refine ⟨by omega,⟨fun e=>by omega,fun e=>?_⟩,fun x=>?_⟩
   ·simp only [fq,hd.1 h,Bool.or_true] at e;cases e
   ·rw [h3];constructor
    ·rintro ⟨j,hj,hs⟩;exact ⟨j,by omega,hs⟩
    ·rintro ⟨j,hj,hs⟩;by_cases e:j=k
     ·subst e;obtain ⟨i,hi,hh⟩:=(h3 _).1 h;refine ⟨i,hi,?_⟩;rw [(WideAt.sameKey_iff (MS t j)).1 hh];exact hs
     ·exact ⟨j,by omega,hs⟩
  ·rw [if_neg h]
   have hf:mG t k k=false:=by
    cases hc:mG t k k with
    | false=>rfl
    | true=>exact absurd (hd.2 hc) h
   refine ⟨by simp;omega,?_,fun x=>?_⟩
   ·simp only [List.length_append,List.length_singleton,fq,hf,Bool.or_false];rw [<- h2];omega
   ·rw [List.any_append,Bool.or_eq_true,h3];simp only [List.any_cons,List.any_nil,Bool.or_false];constructor
    ·rintro (⟨j,hj,hs⟩ | hs)
     ·exact ⟨j,by omega,hs⟩
     ·exact ⟨k,by omega,hs⟩
    ·rintro ⟨j,hj,hs⟩;by_cases e:j=k
     ·subst e;exact Or.inr hs
     ·exact Or.inl ⟨j,by omega,hs⟩
theorem UZ (t:T) (k:Nat):Maps.size (Sn t k)<=k/\(Maps.size (Sn t k)=k ↔ fq t k=false):=by
 have e:Maps.size (Sn t k)=((jT t k).foldl addKey []).length:=size_setOf _ _ (by
  intro x hx;simp only [jT,List.mem_map] at hx;obtain ⟨j,_,rfl⟩:=hx;exact MS t j)
 rw [e];exact ⟨(wO t k).1,(wO t k).2.1⟩
structure aG (c:Nat) (w w':World):Prop where
 os:w'.os=w.os
 tape:w'.tape=w.tape
 output:w'.output=w.output
 size:w.heap.size<=w'.heap.size
 block:∀ k,k<w.heap.size->k≠c->w'.heap[k]?=w.heap[k]?
theorem aG.refl (c:Nat) (w:World):aG c w w:=⟨rfl,rfl,rfl,Nat.le_refl _,fun _ _ _=>rfl⟩
theorem aG.trans {c:Nat} {a b d:World} (h:aG c a b) (k:aG c b d):aG c a d :=
 ⟨k.os.trans h.os,k.tape.trans h.tape,k.output.trans h.output,Nat.le_trans h.size k.size,fun i hi hc=>(k.block i (Nat.lt_of_lt_of_le hi h.size) hc).trans (h.block i hi hc)⟩
theorem aG.of {c:Nat} {a b:World} (h:Below a.heap.size a b):aG c a b:=⟨h.os,h.tape,h.output,h.size,fun k hk _=>h.block k hk⟩
theorem aG.set (w:World) (c o:Nat) (u:Value):aG c w (w.setCell ⟨c,o,none⟩ u) :=
 ⟨rfl,rfl,rfl,by simp [World.setCell],fun k _ hc=>Below.heap_setCell _ _ _ _ (by simpa using hc)⟩
theorem aG.cell {c:Nat} {w w':World} (h:aG c w w') {p:Addr} (hp:p.block<w.heap.size) (hc:p.block≠c):w'.cell? p=w.cell? p:=World.cell?_of_block (w:=w) (h.block p.block hp hc)
theorem aG.below {c:Nat} {w w':World} (h:aG c w w') (hc:c<=w.heap.size):Below c w w' :=
 ⟨h.os,h.tape,h.output,h.size,fun k hk=>h.block k (by omega) (by omega)⟩
def aV (n l:Int):Option Int:=if n<=l then some (l - n) else none
def J8 (s:ByteArray):Bool:=Lib.validD s.data.toList
def mH (s:ByteArray) (l:Int):Option Int:=if s.size<=4000/\(s.size:Int)<=l/\J8 s=true then some (l - s.size) else none
def jw (t:T):Nat->Int->Option Int
 | 0,l=>some l
 | k+1,l=>(jw t k l).bind fun x=>(aV 2 x).bind (mH (bf t k))
def lH (t:T) (l:Int):Option Int:=(jw t (nK t) l).bind fun x=>if fq t (nK t)=true then none else some x
def bU (f:T->Int->Option Int) (t:T):Nat->Int->Option Int
 | 0,l=>some l
 | k+1,l=>(bU f t k l).bind (f (elt t k))
def dX (t:T):Bool:=decide (nL t=0)&&decide (nK t=0)
def aY (t:T):Bool:=(aF t).toList.isEmpty
def oz (t:T) (l:Int):Option Int :=
 if ah t=1 then (if aB t=0/\aY t=true/\dX t=true then aV 1 l else none)
 else if ah t=2 then (if (aB t=0\/aB t=1)/\aY t=true/\dX t=true then aV 2 l else none)
 else if ah t=3 then (if aY t=true/\dX t=true then aV 9 l else none)
 else if ah t=4 then (if aB t=0/\dX t=true then (aV 5 l).bind (mH (aF t)) else none)
 else none
def aM:Nat->T->Int->Option Int
 | 0,t,l=>oz t l
 | m+1,t,l =>
  if ah t=5 then (if aB t=0/\aY t=true/\nK t=0 then (aV 5 l).bind (bU (aM m) t (nL t)) else none)
  else if ah t=6 then (if aB t=0/\aY t=true/\nK t=nL t then ((aV 5 l).bind (lH t)).bind (bU (aM m) t (nL t)) else none)
  else oz t l
theorem xY {t:T} {l:Int} {j k:Nat} (h:j<=k) (hx:jw t j l=none):jw t k l=none:=by
 induction h with
 | refl=>exact hx
 | step _ ih=>simp [jw,ih]
theorem ET {f:T->Int->Option Int} {t:T} {l:Int} {j k:Nat} (h:j<=k) (hx:bU f t j l=none):bU f t k l=none:=by
 induction h with
 | refl=>exact hx
 | step _ ih=>simp [bU,ih]
structure fT (c:Nat) (l:Int) (w:World):Prop where
 cell:w.cell? ⟨c,0,none⟩=some (.int .i64 l)
 free:w.frozen? ⟨c,0,none⟩=false
 lt:c<w.heap.size
def ig (c:Nat) (w:World) (r:Option Int) (e:Ending) (w':World):Prop :=
 aG c w w'/\∃ l',fT c l' w'/\((r=some l'/\0<=l'/\l'<=1048576/\e=.returned (.bool true))\/(r=none/\e=.returned (.bool false)))
theorem fT.set {c:Nat} {l:Int} {w:World} (h:fT c l w) (x:Int):fT c x (w.setCell ⟨c,0,none⟩ (.int .i64 x))/\aG c w (w.setCell ⟨c,0,none⟩ (.int .i64 x)):=by
 refine ⟨⟨?_,?_,by simp [World.setCell];exact h.lt⟩,aG.set _ _ _ _⟩
 ·have:=h.cell;simp [go_sem,this]
 ·have:=h.free;simp [go_sem,this]
theorem fT.keep {c:Nat} {l:Int} {w w':World} (h:fT c l w) (hb:Below w.heap.size w w'):fT c l w' :=
 ⟨by rw [hb.cell (p:=⟨c,0,none⟩) h.lt];exact h.cell,by rw [hb.frozen (p:=⟨c,0,none⟩) h.lt];exact h.free,Nat.lt_of_lt_of_le h.lt hb.size⟩
theorem bC.later {w w':World} (h:Below w.heap.size w w') {f:Nat} {La:Option Addr} {t:T} (hl:bC w f La t) (i:Nat) (hi:i<nL t) :
  ∃ b o c0 c1 c2 c3 c4,La=some ⟨b,o,none⟩/\b<w.heap.size/\w'.cell? ⟨b,o+i*5,none⟩=some c0/\w'.cell? ⟨b,o+i*5+1,none⟩=some c1/\w'.cell? ⟨b,o+i*5+2,none⟩=some c2/\w'.cell? ⟨b,o+i*5+3,none⟩=some c3/\w'.cell? ⟨b,o+i*5+4,none⟩=some c4/\Hid (At w f (.agg #[c0,c1,c2,c3,c4]) (elt t i)):=by
 obtain ⟨b,o,c0,c1,c2,c3,c4,h0,hb,q0,q1,q2,q3,q4,ha⟩:=hl i hi;refine ⟨b,o,c0,c1,c2,c3,c4,h0,hb,?_,?_,?_,?_,?_,ha⟩
 ·rw [h.cell (p:=⟨b,_,none⟩) hb];exact q0
 ·rw [h.cell (p:=⟨b,_,none⟩) hb];exact q1
 ·rw [h.cell (p:=⟨b,_,none⟩) hb];exact q2
 ·rw [h.cell (p:=⟨b,_,none⟩) hb];exact q3
 ·rw [h.cell (p:=⟨b,_,none⟩) hb];exact q4
theorem bC.shape {w w':World} (h:Below w.heap.size w w') {f:Nat} {La:Option Addr} {t:T} (hl:bC w f La t) (i:Nat) (hi:i<nL t) :
  ∃ b o A B C D,La=some ⟨b,o,none⟩/\b<w.heap.size/\w'.cell? ⟨b,o+i*5,none⟩=some (.int .i64 (ah (elt t i)))/\w'.cell? ⟨b,o+i*5+1,none⟩=some (.int .i64 (aB (elt t i)))/\w'.cell? ⟨b,o+i*5+2,none⟩=some (.string (aF (elt t i)))/\w'.cell? ⟨b,o+i*5+3,none⟩=some (.slice A (nL (elt t i)) B)/\w'.cell? ⟨b,o+i*5+4,none⟩=some (.slice C (nK (elt t i)) D) /\
   Hid (At w f (.agg #[.int .i64 (ah (elt t i)),.int .i64 (aB (elt t i)),.string (aF (elt t i)),.slice A (nL (elt t i)) B,.slice C (nK (elt t i)) D]) (elt t i)):=by
 obtain ⟨b,o,c0,c1,c2,c3,c4,h0,hb,q0,q1,q2,q3,q4,ha⟩:=hl.later h i hi;obtain ⟨g,A,C,B,D,_,hv,_⟩:=ha.out.open;simp only [Value.agg.injEq,Array.mk.injEq,List.cons.injEq,and_true] at hv;obtain ⟨rfl,rfl,rfl,rfl,rfl⟩:=hv;exact ⟨b,o,A,B,C,D,h0,hb,q0,q1,q2,q3,q4,ha⟩
theorem zn {c:Nat} {w wr:World} {c0 c1 c2 c3 c4:Value} (hc:c<w.heap.size) (hb:aG c (w.alloc (.cells #[c0,c1,c2,c3,c4] 25)) wr) :
  wr.cell? ⟨w.heap.size,0,none⟩=some c0/\wr.cell? ⟨w.heap.size,1,none⟩=some c1/\wr.cell? ⟨w.heap.size,2,none⟩=some c2/\wr.cell? ⟨w.heap.size,3,none⟩=some c3/\wr.cell? ⟨w.heap.size,4,none⟩=some c4/\w.heap.size<wr.heap.size:=by
 have hz:=hb.size;refine ⟨?_,?_,?_,?_,?_,by simp at hz;omega⟩
 ·rw [hb.cell (p:=⟨_,_,none⟩) (by simp) (by show w.heap.size≠c;omega)];simp [go_sem]
 ·rw [hb.cell (p:=⟨_,_,none⟩) (by simp) (by show w.heap.size≠c;omega)];simp [go_sem]
 ·rw [hb.cell (p:=⟨_,_,none⟩) (by simp) (by show w.heap.size≠c;omega)];simp [go_sem]
 ·rw [hb.cell (p:=⟨_,_,none⟩) (by simp) (by show w.heap.size≠c;omega)];simp [go_sem]
 ·rw [hb.cell (p:=⟨_,_,none⟩) (by simp) (by show w.heap.size≠c;omega)];simp [go_sem]
def iZ (t:T):Nat->Bool
 | 0=>true
 | k+1=>iZ t k&&(J8 (bf t k)&&decide ((bf t k).size<=4000))
def Aa (t:T):Bool:=(decide (ah t=2\/ah t=3\/aB t=0)&&decide (ah t=4\/aY t=true))&&(decide (ah t=6\/nK t=0)&&decide (ah t=6\/ah t=5\/nL t=0))
def Ab (t:T):Bool:=if ah t=1\/ah t=3\/ah t=5 then true else if ah t=2 then decide (aB t=0\/aB t=1) else if ah t=4 then J8 (aF t)&&decide ((aF t).size<=4000) else if ah t=6 then decide (nK t=nL t)&&iZ t (nK t) else false
def Oo:Nat->T->Prop
 | 0,_=>True
 | f+1,t=>(ah t=6->nK t=nL t)/\∀ i,i<nL t->Oo f (elt t i)
def iq (g:T->T->Int) (a b:T):Nat->Int
 | 0=>0
 | k+1=>if iq g a b k≠0 then iq g a b k else if ah a=6/\lV (bf a k) (bf b k)≠0 then lV (bf a k) (bf b k) else g (elt a k) (elt b k)
def jy (g:T->T->Int) (a b:T):Int:=if iq g a b (min (nL a) (nL b))≠0 then iq g a b (min (nL a) (nL b)) else jL (nL a) (nL b)
def iH:Nat->T->T->Int
 | 0,_,_=>0
 | f+1,a,b=>if ah a≠ah b then jL (ah a) (ah b) else if aB a≠aB b\/aF a≠aF b then jL (aB a) (aB b)+lV (aF a) (aF b) else jy (iH f) a b
def bq:Nat->T->T->Int
 | 0,_,_=>0
 | f+1,a,b=>if ah a≠ah b then jL (ah a) (ah b) else if ah a=2\/ah a=3 then jL (aB a) (aB b) else if ah a=4 then lV (aF a) (aF b) else if dJ a=true then jy (bq f) a b else 0
theorem rX {g:T->T->Int} {a b:T} {j k:Nat} (h:j<=k) (hx:iq g a b j≠0):iq g a b k=iq g a b j:=by
 induction h with
 | refl=>rfl
 | step _ ih=>simp only [iq];rw [ih,if_pos hx]
theorem rY {g:T->T->Int} {a b:T} {k:Nat} (h:iq g a b k=0):iq g a b (k+1)=if ah a=6/\lV (bf a k) (bf b k)≠0 then lV (bf a k) (bf b k) else g (elt a k) (elt b k):=by
 simp [iq,h]
theorem MU {g:T->T->Int} (hg:∀ x y,-2<=g x y/\g x y<=2) (a b:T):∀ k,-2<=iq g a b k/\iq g a b k<=2
 | 0=>by simp [iq]
 | k+1=>by
  have h1:=MU hg a b k;have h2:=rW (bf a k) (bf b k);have h3:=hg (elt a k) (elt b k);simp only [iq];split
  ·exact h1
  ·split
   ·omega
   ·exact h3
theorem MV {g:T->T->Int} (hg:∀ x y,-2<=g x y/\g x y<=2) (a b:T):-2<=jy g a b/\jy g a b<=2:=by
 have h1:=MU hg a b (min (nL a) (nL b));have h2:=rV (nL a) (nL b);unfold jy;split<;>omega
theorem EU:∀ (f:Nat) (a b:T),-2<=iH f a b/\iH f a b<=2
 | 0,_,_=>by simp [iH]
 | f+1,a,b=>by
  have h1:=MV (EU f) a b;have h2:=rV (ah a) (ah b);have h3:=rV (aB a) (aB b);have h4:=rW (aF a) (aF b);simp only [iH];split
  ·omega
  ·split<;>omega
theorem zo:∀ (f:Nat) (a b:T),-2<=bq f a b/\bq f a b<=2
 | 0,_,_=>by simp [bq]
 | f+1,a,b=>by
  have h1:=MV (zo f) a b;have h2:=rV (ah a) (ah b);have h3:=rV (aB a) (aB b);have h4:=rW (aF a) (aF b);simp only [bq];split
  ·omega
  ·split
   ·omega
   ·split
    ·omega
    ·split<;>omega
theorem gV {w wr:World} {c0 c1 c2 c3 c4 d0 d1 d2 d3 d4:Value} (hb:Below (w.heap.size+2) ((w.alloc (.cells #[c0,c1,c2,c3,c4] 25)).alloc (.cells #[d0,d1,d2,d3,d4] 25)) wr) :
  (wr.cell? ⟨w.heap.size,0,none⟩=some c0/\wr.cell? ⟨w.heap.size,1,none⟩=some c1/\wr.cell? ⟨w.heap.size,2,none⟩=some c2/\wr.cell? ⟨w.heap.size,3,none⟩=some c3/\wr.cell? ⟨w.heap.size,4,none⟩=some c4) /\
  (wr.cell? ⟨w.heap.size+1,0,none⟩=some d0/\wr.cell? ⟨w.heap.size+1,1,none⟩=some d1/\wr.cell? ⟨w.heap.size+1,2,none⟩=some d2/\wr.cell? ⟨w.heap.size+1,3,none⟩=some d3/\wr.cell? ⟨w.heap.size+1,4,none⟩=some d4)/\w.heap.size+1<wr.heap.size/\Below w.heap.size w wr:=by
 have hz:=hb.size;refine ⟨⟨?_,?_,?_,?_,?_⟩,⟨?_,?_,?_,?_,?_⟩,by simp at hz;omega,((bG _ _).alloc (by simp) _).trans (hb.mono (by omega))⟩
 all_goals (rw [hb.cell (p:=⟨_,_,none⟩) (by simp)];simp [go_sem])
theorem ak (w:World):Below w.heap.size w w.drew:=(Below.refl _ _).drew
def dY (g:T->Nat) (t:T):Nat->Nat
 | 0=>0
 | k+1=>dY g t k+g (elt t k)
def pK (t:T):Nat->Nat
 | 0=>0
 | k+1=>pK t k+(2+(bf t k).size)
def cZ (t:T):Nat:=if ah t=1 then 1 else if ah t=2 then 2 else if ah t=3 then 9 else 5+(aF t).size
def aN:Nat->T->Nat
 | 0,t=>cZ t
 | m+1,t=>if ah t=5 then 5+dY (aN m) t (nL t) else if ah t=6 then 5+pK t (nK t)+dY (aN m) t (nL t) else cZ t
def bF (t:T):Prop :=
 nL t=0/\nK t=0/\((ah t=1/\aB t=0/\aY t=true)\/(ah t=2/\(aB t=0\/aB t=1)/\aY t=true)\/(ah t=3/\aY t=true)\/(ah t=4/\aB t=0/\(aF t).size<=4000/\J8 (aF t)=true))
def fJ:Nat->T->Prop
 | 0,t=>bF t
 | m+1,t=>bF t\/(aB t=0/\aY t=true/\(∀ i,i<nL t->fJ m (elt t i))/\((ah t=5/\nK t=0)\/(ah t=6/\nK t=nL t/\iZ t (nK t)=true/\fq t (nK t)=false)))
theorem nD (t:T):dX t=true ↔ nL t=0/\nK t=0:=by simp [dX]
theorem kJ (n l:Int):aV n l=if n<=l then some (l - n) else none:=rfl
theorem Gv (t:T) (l:Int) (_h:0<=l):oz t l=some (l - cZ t)/\bF t/\(cZ t:Int)<=l\/oz t l=none/\¬ (bF t/\(cZ t:Int)<=l):=by
 unfold oz bF cZ;by_cases k1:ah t=1
 ·simp only [k1,if_true,nD,kJ];by_cases c:aB t=0/\aY t=true/\nL t=0/\nK t=0
  ·rw [if_pos c];obtain ⟨c1,c2,c3,c4⟩:=c;by_cases d:(1:Int)<=l
   ·left;simp [d,c1,c2,c3,c4]
   ·right;simp [d,c1,c2,c3,c4]
  ·rw [if_neg c]
   right
   refine ⟨rfl,fun h=>c ?_⟩;obtain ⟨⟨a,b,h⟩,_⟩:=h;rcases h with ⟨_,h1,h2⟩ | ⟨h,_⟩ | ⟨h,_⟩ | ⟨h,_⟩
   ·exact ⟨h1,h2,a,b⟩
   ·omega
   ·omega
   ·omega
 by_cases k2:ah t=2
 ·rw [if_neg k1,if_pos k2,if_neg k1,if_pos k2];simp only [nD,kJ];by_cases c:(aB t=0\/aB t=1)/\aY t=true/\nL t=0/\nK t=0
  ·rw [if_pos c];obtain ⟨c1,c2,c3,c4⟩:=c;by_cases d:(2:Int)<=l
   ·left;exact ⟨by rw [if_pos d];rfl,⟨c3,c4,Or.inr (Or.inl ⟨k2,c1,c2⟩)⟩,d⟩
   ·right;exact ⟨if_neg d,fun h=>d h.2⟩
  ·rw [if_neg c]
   right
   refine ⟨rfl,fun h=>c ?_⟩;obtain ⟨⟨a,b,h⟩,_⟩:=h;rcases h with ⟨h,_⟩ | ⟨_,h1,h2⟩ | ⟨h,_⟩ | ⟨h,_⟩
   ·omega
   ·exact ⟨h1,h2,a,b⟩
   ·omega
   ·omega
 by_cases k3:ah t=3
 ·rw [if_neg k1,if_neg k2,if_pos k3,if_neg k1,if_neg k2,if_pos k3];simp only [nD,kJ];by_cases c:aY t=true/\nL t=0/\nK t=0
  ·rw [if_pos c];obtain ⟨c2,c3,c4⟩:=c;by_cases d:(9:Int)<=l
   ·left;exact ⟨by rw [if_pos d];rfl,⟨c3,c4,Or.inr (Or.inr (Or.inl ⟨k3,c2⟩))⟩,d⟩
   ·right;exact ⟨if_neg d,fun h=>d h.2⟩
  ·rw [if_neg c]
   right
   refine ⟨rfl,fun h=>c ?_⟩;obtain ⟨⟨a,b,h⟩,_⟩:=h;rcases h with ⟨h,_⟩ | ⟨h,_⟩ | ⟨_,h2⟩ | ⟨h,_⟩
   ·omega
   ·omega
   ·exact ⟨h2,a,b⟩
   ·omega
 by_cases k4:ah t=4
 ·rw [if_neg k1,if_neg k2,if_neg k3,if_pos k4,if_neg k1,if_neg k2,if_neg k3];simp only [nD,kJ];by_cases c:aB t=0/\nL t=0/\nK t=0
  ·rw [if_pos c];obtain ⟨c2,c3,c4⟩:=c;by_cases d:(5:Int)<=l
   ·rw [if_pos d];show (if (aF t).size<=4000/\((aF t).size:Int)<=l - 5/\J8 (aF t)=true then some (l - 5 - ((aF t).size:Int)) else none)=_/\_\/_;by_cases e:(aF t).size<=4000/\((aF t).size:Int)<=l - 5/\J8 (aF t)=true
    ·left
     refine ⟨?_,⟨c3,c4,Or.inr (Or.inr (Or.inr ⟨k4,c2,e.1,e.2.2⟩))⟩,by omega⟩;rw [if_pos e]
     congr 1
     omega
    ·right
     refine ⟨if_neg e,fun h=>e ?_⟩;obtain ⟨⟨a,b,h⟩,hb⟩:=h;rcases h with ⟨h,_⟩ | ⟨h,_⟩ | ⟨h,_⟩ | ⟨_,h1,h2,h3⟩
     ·omega
     ·omega
     ·omega
     ·exact ⟨h2,by omega,h3⟩
   ·right
    rw [if_neg d];exact ⟨rfl,fun h=>d (by have:=h.2;omega)⟩
  ·rw [if_neg c]
   right
   refine ⟨rfl,fun h=>c ?_⟩;obtain ⟨⟨a,b,h⟩,_⟩:=h;rcases h with ⟨h,_⟩ | ⟨h,_⟩ | ⟨h,_⟩ | ⟨_,h2,_⟩
   ·omega
   ·omega
   ·omega
   ·exact ⟨h2,a,b⟩
 ·rw [if_neg k1,if_neg k2,if_neg k3,if_neg k4]
  right
  refine ⟨rfl,fun h=>?_⟩;obtain ⟨⟨a,b,h⟩,_⟩:=h;rcases h with ⟨h,_⟩ | ⟨h,_⟩ | ⟨h,_⟩ | ⟨h,_⟩<;>omega
def J9 (r:Option Int) (good:Prop) (n:Nat) (l:Int):Prop:=r=some (l - n)/\good/\(n:Int)<=l\/r=none/\¬ (good/\(n:Int)<=l)
theorem Ac (t:T) (l:Int) (h:0<=l):∀ k,J9 (jw t k l) (iZ t k=true) (pK t k) l
 | 0=>Or.inl ⟨by simp [jw,pK],rfl,by simpa [pK] using h⟩
 | k+1=>by
  rcases Ac t l h k with ⟨h1,h2,h3⟩ | ⟨h1,h2⟩
  ·by_cases c:(J8 (bf t k)=true/\(bf t k).size<=4000)/\((pK t k+(2+(bf t k).size):Nat):Int)<=l
   ·left
    refine ⟨?_,by simp [iZ,h2,c.1.1,c.1.2],c.2⟩;simp only [jw,h1,Option.bind_some,kJ];rw [if_pos (by omega)];simp only [Option.bind_some,mH];rw [if_pos ⟨c.1.2,by omega,c.1.1⟩];simp only [pK]
    congr 1
    omega
   ·right
    refine ⟨?_,fun hh=>c ?_⟩
    ·simp only [jw,h1,Option.bind_some,kJ];by_cases d:(2:Int)<=l - pK t k
     ·rw [if_pos d];simp only [Option.bind_some,mH];rw [if_neg (fun e=>c ⟨⟨e.2.2,e.1⟩,by omega⟩)]
     ·rw [if_neg d];rfl
    ·have:=hh.1;simp only [iZ,Bool.and_eq_true,decide_eq_true_eq] at this;exact ⟨this.2,hh.2⟩
  ·right
   refine ⟨by simp [jw,h1],fun hh=>h2 ⟨?_,?_⟩⟩
   ·have:=hh.1;simp only [iZ,Bool.and_eq_true] at this;exact this.1
   ·have:=hh.2;simp only [pK] at this;omega
theorem qP {m:Nat} (ih:∀ (t:T) (l:Int),0<=l->J9 (aM m t l) (fJ m t) (aN m t) l) (t:T) (l:Int) (h:0<=l):∀ k,J9 (bU (aM m) t k l) (∀ i,i<k->fJ m (elt t i)) (dY (aN m) t k) l
 | 0=>Or.inl ⟨by simp [bU,dY],fun i hi=>absurd hi (Nat.not_lt_zero _),by simpa [dY] using h⟩
 | k+1=>by
  rcases qP ih t l h k with ⟨h1,h2,h3⟩ | ⟨h1,h2⟩
  ·rcases ih (elt t k) (l - dY (aN m) t k) (by omega) with ⟨g1,g2,g3⟩ | ⟨g1,g2⟩
   ·left
    refine ⟨?_,fun i hi=>?_,by simp only [dY];omega⟩
    ·simp only [bU,h1,Option.bind_some,g1,dY]
     congr 1
     omega
    ·by_cases e:i=k
     ·subst e;exact g2
     ·exact h2 i (by omega)
   ·right
    refine ⟨by simp [bU,h1,g1],fun hh=>g2 ⟨hh.1 k (by omega),?_⟩⟩;have:=hh.2;simp only [dY] at this;omega
  ·right
   refine ⟨by simp [bU,h1],fun hh=>h2 ⟨fun i hi=>hh.1 i (by omega),?_⟩⟩;have:=hh.2;simp only [dY] at this;omega
theorem fK {t:T} (h:bF t):ah t≠5/\ah t≠6:=by
 obtain ⟨_,_,h⟩:=h;rcases h with ⟨h,_⟩ | ⟨h,_⟩ | ⟨h,_⟩ | ⟨h,_⟩<;>omega
theorem Ad:∀ (m:Nat) (t:T) (l:Int),0<=l->J9 (aM m t l) (fJ m t) (aN m t) l
 | 0,t,l,h=>Gv t l h
 | m+1,t,l,h=>by
  by_cases k5:ah t=5
  ·have ng:¬ bF t:=fun hh=>(fK hh).1 k5
   have eg:fJ (m+1) t ↔ aB t=0/\aY t=true/\nK t=0/\(∀ i,i<nL t->fJ m (elt t i)):=by
    simp only [fJ];constructor
    ·rintro (hh | ⟨a,b,c,d⟩)
     ·exact absurd hh ng
     ·rcases d with ⟨_,d⟩ | ⟨d,_⟩
      ·exact ⟨a,b,d,c⟩
      ·omega
    ·rintro ⟨a,b,c,d⟩;exact Or.inr ⟨a,b,d,Or.inl ⟨k5,c⟩⟩
   have eb:aN (m+1) t=5+dY (aN m) t (nL t):=by simp [aN,k5]
   have ec:aM (m+1) t l=if aB t=0/\aY t=true/\nK t=0 then (aV 5 l).bind (bU (aM m) t (nL t)) else none:=by simp [aM,k5]
   unfold J9;rw [eg,eb,ec];by_cases c:aB t=0/\aY t=true/\nK t=0
   ·rw [if_pos c,kJ];by_cases d:(5:Int)<=l
    ·rw [if_pos d,Option.bind_some];rcases qP (Ad m) t (l - 5) (by omega) (nL t) with ⟨h1,h2,h3⟩ | ⟨h1,h2⟩
     ·left
      refine ⟨?_,⟨c.1,c.2.1,c.2.2,h2⟩,by omega⟩;rw [h1]
      congr 1
      omega
     ·right
      exact ⟨h1,fun hh=>h2 ⟨hh.1.2.2.2,by have:=hh.2;omega⟩⟩
    ·right
     rw [if_neg d];exact ⟨rfl,fun hh=>d (by have:=hh.2;omega)⟩
   ·rw [if_neg c];exact Or.inr ⟨rfl,fun hh=>c ⟨hh.1.1,hh.1.2.1,hh.1.2.2.1⟩⟩
  by_cases k6:ah t=6
  ·have ng:¬ bF t:=fun hh=>(fK hh).2 k6
   have eg:fJ (m+1) t ↔ aB t=0/\aY t=true/\nK t=nL t/\(iZ t (nK t)=true/\fq t (nK t)=false)/\(∀ i,i<nL t->fJ m (elt t i)):=by
    simp only [fJ];constructor
    ·rintro (hh | ⟨a,b,c,d⟩)
     ·exact absurd hh ng
     ·rcases d with ⟨d,_⟩ | ⟨_,d,e,f⟩
      ·omega
      ·exact ⟨a,b,d,⟨e,f⟩,c⟩
    ·rintro ⟨a,b,c,⟨d,e⟩,f⟩;exact Or.inr ⟨a,b,f,Or.inr ⟨k6,c,d,e⟩⟩
   have eb:aN (m+1) t=5+pK t (nK t)+dY (aN m) t (nL t):=by simp [aN,k6]
   have ec:aM (m+1) t l=if aB t=0/\aY t=true/\nK t=nL t then ((aV 5 l).bind (lH t)).bind (bU (aM m) t (nL t)) else none:=by simp [aM,k6]
   unfold J9;rw [eg,eb,ec];by_cases c:aB t=0/\aY t=true/\nK t=nL t
   ·rw [if_pos c,kJ];by_cases d:(5:Int)<=l
    ·rw [if_pos d,Option.bind_some];unfold lH;rcases Ac t (l - 5) (by omega) (nK t) with ⟨h1,h2,h3⟩ | ⟨h1,h2⟩
     ·rw [h1,Option.bind_some];cases hd:fq t (nK t) with
      | true =>
       right
       refine ⟨by simp,fun hh=>?_⟩;have:=hh.1.2.2.2.1.2;cases this
      | false =>
       simp only [Bool.false_eq_true,if_false,Option.bind_some];rcases qP (Ad m) t (l - 5 - pK t (nK t)) (by omega) (nL t) with ⟨g1,g2,g3⟩ | ⟨g1,g2⟩
       ·left
        refine ⟨?_,⟨c.1,c.2.1,c.2.2,⟨h2,by trivial⟩,g2⟩,by omega⟩;rw [g1]
        congr 1
        omega
       ·right
        exact ⟨g1,fun hh=>g2 ⟨hh.1.2.2.2.2,by have:=hh.2;omega⟩⟩
     ·right
      rw [h1];exact ⟨rfl,fun hh=>h2 ⟨hh.1.2.2.2.1.1,by have:=hh.2;omega⟩⟩
    ·right
     rw [if_neg d];exact ⟨rfl,fun hh=>d (by have:=hh.2;omega)⟩
   ·rw [if_neg c];exact Or.inr ⟨rfl,fun hh=>c ⟨hh.1.1,hh.1.2.1,hh.1.2.2.1⟩⟩
  ·have eg:fJ (m+1) t ↔ bF t:=by
    simp only [fJ];constructor
    ·rintro (hh | ⟨_,_,_,⟨d,_⟩ | ⟨d,_⟩⟩)
     ·exact hh
     ·exact absurd d k5
     ·exact absurd d k6
    ·exact Or.inl
   have eb:aN (m+1) t=cZ t:=by simp [aN,k5,k6]
   have ec:aM (m+1) t l=oz t l:=by simp [aM,k5,k6]
   unfold J9;rw [eg,eb,ec];exact Gv t l h
def uP:Nat->T->Prop
 | 0,_=>False
 | f+1,t=>∀ i,i<nL t->uP f (elt t i)
theorem At.Xp {w:World}:∀ {f:Nat} {v:Value} {t:T},At w f v t->uP f t:=by
 intro f
 induction f with
 | zero=>intro v t h;exact h
 | succ f ih =>
  rintro v t ⟨La,Ka,Lc,Kc,_,_,hl,_⟩ i hi;obtain ⟨b,o,c0,c1,c2,c3,c4,_,_,_,_,_,_,_,ha⟩:=hl i hi;exact ih ha
theorem Gw {g:T->Bool} {t:T}:∀ {k:Nat},gB g t k=true ↔ ∀ i,i<k->g (elt t i)=true
 | 0=>by simp [gB]
 | k+1=>by
  simp only [gB,Bool.and_eq_true,Gw];constructor
  ·rintro ⟨a,b⟩ i hi;by_cases e:i=k
   ·subst e;exact b
   ·exact a i (by omega)
  ·intro h;exact ⟨fun i hi=>h i (by omega),h k (by omega)⟩
theorem Gx {g:T->Bool} {t:T}:∀ {k:Nat},bg g t k=false ↔ ∀ i,i<k->g (elt t i)=false
 | 0=>by simp [bg]
 | k+1=>by
  simp only [bg,Bool.or_eq_false_iff,Gx];constructor
  ·rintro ⟨a,b⟩ i hi;by_cases e:i=k
   ·subst e;exact b
   ·exact a i (by omega)
  ·intro h;exact ⟨fun i hi=>h i (by omega),h k (by omega)⟩
theorem YR (t:T) (hb:dJ t=false):bF t ↔ Aa t=true/\Ab t=true:=by
 simp only [dJ,Bool.or_eq_false_iff,beq_eq_false_iff_ne] at hb;obtain ⟨h5,h6⟩:=hb;unfold bF Aa Ab;simp only [h5,h6,false_or,or_false,Bool.and_eq_true,decide_eq_true_eq,if_false];constructor
 ·rintro ⟨a,b,h⟩;rcases h with ⟨k,h1,h2⟩ | ⟨k,h1,h2⟩ | ⟨k,h1⟩ | ⟨k,h1,h2,h3⟩
  ·refine ⟨⟨⟨Or.inr (Or.inr h1),Or.inr h2⟩,b,a⟩,?_⟩;rw [if_pos (Or.inl k)]
  ·refine ⟨⟨⟨Or.inl k,Or.inr h2⟩,b,a⟩,?_⟩;rw [if_neg (by omega),if_pos k];simpa using h1
  ·refine ⟨⟨⟨Or.inr (Or.inl k),Or.inr h1⟩,b,a⟩,?_⟩;rw [if_pos (Or.inr k)]
  ·refine ⟨⟨⟨Or.inr (Or.inr h1),Or.inl k⟩,b,a⟩,?_⟩;rw [if_neg (by omega),if_neg (by omega),if_pos k];simp [h2,h3]
 ·rintro ⟨⟨⟨a,b⟩,c,d⟩,e⟩;refine ⟨d,c,?_⟩;by_cases k1:ah t=1
  ·left
   exact ⟨k1,by omega,by rcases b with b | b;omega;exact b⟩
  by_cases k2:ah t=2
  ·rw [if_neg (by omega),if_pos k2] at e
   right;left
   exact ⟨k2,by simpa using e,by rcases b with b | b;omega;exact b⟩
  by_cases k3:ah t=3
  ·right;right;left
   exact ⟨k3,by rcases b with b | b;omega;exact b⟩
  by_cases k4:ah t=4
  ·rw [if_neg (by omega),if_neg (by omega),if_pos k4] at e;simp only [Bool.and_eq_true,decide_eq_true_eq] at e
   right;right;right
   exact ⟨k4,by omega,e.2,e.1⟩
  ·rw [if_neg (by omega),if_neg (by omega),if_neg k4] at e;cases e
theorem wP {m:Nat} {t:T} (hb:dJ t=false):fJ m t ↔ bF t:=by
 simp only [dJ,Bool.or_eq_false_iff,beq_eq_false_iff_ne] at hb;cases m with
 | zero=>exact Iff.rfl
 | succ m =>
  simp only [fJ];constructor
  ·rintro (hh | ⟨_,_,_,⟨d,_⟩ | ⟨d,_⟩⟩)
   ·exact hh
   ·exact absurd d hb.1
   ·exact absurd d hb.2
  ·exact Or.inl
theorem Ae {m:Nat} {t:T} (hb:dJ t=true):fJ (m+1) t ↔ (Aa t=true/\Ab t=true/\fq t (nK t)=false)/\∀ i,i<nL t->fJ m (elt t i):=by
 simp only [dJ,Bool.or_eq_true,beq_iff_eq] at hb;have ng:¬ bF t:=fun hh=>by have:=fK hh;omega
 simp only [fJ];constructor
 ·rintro (hh | ⟨a,b,c,d⟩)
  ·exact absurd hh ng
  ·refine ⟨?_,c⟩;rcases d with ⟨k,d⟩ | ⟨k,d,e,f⟩
   ·refine ⟨by simp [Aa,k,a,b,d],by simp [Ab,k],?_⟩;rw [d];rfl
   ·exact ⟨by simp [Aa,k,a,b],by simp [Ab,k,d];rw [<- d];exact e,f⟩
 ·rintro ⟨⟨a,b,c⟩,d⟩
  right
  simp only [Aa,Bool.and_eq_true,decide_eq_true_eq] at a;obtain ⟨⟨a1,a2⟩,a3,a4⟩:=a;refine ⟨by omega,by rcases a2 with a2 | a2;omega;exact a2,d,?_⟩;rcases hb with k | k
  ·left
   exact ⟨k,by omega⟩
  ·right
   simp only [Ab] at b;rw [if_neg (by omega),if_neg (by omega),if_neg (by omega),if_pos k] at b;simp only [Bool.and_eq_true,decide_eq_true_eq] at b;exact ⟨k,b.1,b.2,c⟩
theorem kr (t:T):(aM 12 t 1048576).isSome=true ↔ fJ 12 t/\(aN 12 t:Int)<=1048576:=by
 rcases Ad 12 t 1048576 (by omega) with ⟨h1,h2,h3⟩ | ⟨h1,h2⟩
 ·rw [h1];simp [h2,h3]
 ·rw [h1];constructor
  ·intro h;cases h
  ·intro h;exact absurd h h2
theorem Gy:∀ (f m:Nat) (t:T),fJ m t->Oo f t
 | 0,_,_,_=>trivial
 | f+1,m,t,hg=>by
  cases hb:dJ t with
  | false =>
   have hl:=(wP hb).1 hg;have hn:=fK hl;exact ⟨fun h=>absurd h hn.2,fun i hi=>by have:=hl.1;omega⟩
  | true =>
   cases m with
   | zero =>
    have:=fK hg;simp only [dJ,Bool.or_eq_true,beq_iff_eq] at hb;omega
   | succ m =>
    obtain ⟨⟨_,hk,_⟩,hc⟩:=(Ae hb).1 hg;refine ⟨fun k=>?_,fun i hi=>Gy f m _ (hc i hi)⟩;simp only [Ab] at hk;rw [if_neg (by omega),if_neg (by omega),if_neg (by omega),if_pos k] at hk;simp only [Bool.and_eq_true,decide_eq_true_eq] at hk;exact hk.1
theorem Dj:∀ l:List UInt8,Op.bytesLess l l=false
 | []=>rfl
 | c::r=>by simp [Op.bytesLess,Dj r]
theorem wQ (a:ByteArray):lV a a=0:=ER (Dj _) (by simp)
theorem rZ (a:Int):jL a a=0:=uN (by omega) (by omega)
theorem jf {t:T} (h:aY t=true):aF t=ByteArray.empty:=by
 unfold aY at h;have h1:(aF t).toList=[]:=by simpa using h
 apply (kg _ _).1;rw [h1,ByteArray.toList_eq];rfl
theorem Af {g h:T->T->Int} {a b:T}:∀ k,(∀ i,i<k->g (elt a i) (elt b i)=h (elt a i) (elt b i))->iq g a b k=iq h a b k
 | 0,_=>rfl
 | k+1,hh=>by
  simp only [iq];rw [Af k (fun i hi=>hh i (by omega)),hh k (by omega)]
theorem Ke {g h:T->T->Int} {a b:T} (hh:∀ i,i<nL a->i<nL b->g (elt a i) (elt b i)=h (elt a i) (elt b i)):jy g a b=jy h a b:=by
 unfold jy;rw [Af _ (fun i hi=>hh i (by omega) (by omega))]
theorem Dk {g:T->T->Int} {a b:T} (ha:nL a=0) (hb:nL b=0):jy g a b=0:=by
 unfold jy;rw [ha,hb];simp [iq,rZ]
theorem MW:∀ (f m m':Nat) (a b:T),fJ m a->fJ m' b->bq f a b=iH f a b
 | 0,_,_,_,_,_,_=>rfl
 | f+1,m,m',a,b,ga,gb=>by
  by_cases k:ah a=ah b
  ·have e1:bq (f+1) a b=if ah a=2\/ah a=3 then jL (aB a) (aB b) else if ah a=4 then lV (aF a) (aF b) else if dJ a=true then jy (bq f) a b else 0:=by
    simp only [bq];exact if_neg (by simp [k])
   have e2:iH (f+1) a b=if aB a≠aB b\/aF a≠aF b then jL (aB a) (aB b)+lV (aF a) (aF b) else jy (iH f) a b:=by
    simp only [iH];exact if_neg (by simp [k])
   rw [e1,e2];cases hb:dJ a with
   | false =>
    have hb':dJ b=false:=by simp only [dJ] at hb ⊢;rw [<- k];exact hb
    obtain ⟨la,_,ha⟩:=(wP hb).1 ga;obtain ⟨lb,_,hc⟩:=(wP hb').1 gb;rw [Dk (g:=bq f) la lb,Dk (g:=iH f) la lb];rcases ha with ⟨k1,a1,a2⟩ | ⟨k1,a1,a2⟩ | ⟨k1,a2⟩ | ⟨k1,a1,a2,a3⟩
    ·rcases hc with ⟨k2,b1,b2⟩ | ⟨k2,b1,b2⟩ | ⟨k2,b2⟩ | ⟨k2,b1,b2,b3⟩
     ·rw [if_neg (by omega),if_neg (by omega),if_neg (by simp),if_neg (by rw [a1,b1,jf a2,jf b2];simp)]
     ·omega
     ·omega
     ·omega
    ·rcases hc with ⟨k2,b1,b2⟩ | ⟨k2,b1,b2⟩ | ⟨k2,b2⟩ | ⟨k2,b1,b2,b3⟩
     ·omega
     ·rw [if_pos (by omega),jf a2,jf b2,wQ];by_cases e:aB a=aB b
      ·rw [if_neg (by simp [e]),e,rZ]
      ·rw [if_pos (Or.inl e)];omega
     ·omega
     ·omega
    ·rcases hc with ⟨k2,b1,b2⟩ | ⟨k2,b1,b2⟩ | ⟨k2,b2⟩ | ⟨k2,b1,b2,b3⟩
     ·omega
     ·omega
     ·rw [if_pos (by omega),jf a2,jf b2,wQ];by_cases e:aB a=aB b
      ·rw [if_neg (by simp [e]),e,rZ]
      ·rw [if_pos (Or.inl e)];omega
     ·omega
    ·rcases hc with ⟨k2,b1,b2⟩ | ⟨k2,b1,b2⟩ | ⟨k2,b2⟩ | ⟨k2,b1,b2,b3⟩
     ·omega
     ·omega
     ·omega
     ·rw [if_neg (by omega),if_pos k1,a1,b1,rZ];by_cases e:aF a=aF b
      ·rw [if_neg (by simp [e]),e,wQ]
      ·rw [if_pos (Or.inr e)];omega
   | true =>
    have hb':dJ b=true:=by simp only [dJ] at hb ⊢;rw [<- k];exact hb
    cases m with
    | zero=>have:=fK ga;simp only [dJ,Bool.or_eq_true,beq_iff_eq] at hb;omega
    | succ m =>
    cases m' with
    | zero=>have:=fK gb;simp only [dJ,Bool.or_eq_true,beq_iff_eq] at hb';omega
    | succ m' =>
     have ca:=((Ae hb).1 ga);have cb:=((Ae hb').1 gb);have ha:=ca.1.1;have hc:=cb.1.1;simp only [dJ,Bool.or_eq_true,beq_iff_eq] at hb hb';simp only [Aa,Bool.and_eq_true,decide_eq_true_eq] at ha hc;have na:aB a=aB b:=by omega
     have ta:aY a=true:=by rcases ha.1.2 with h | h;omega;exact h
     have tb:aY b=true:=by rcases hc.1.2 with h | h;omega;exact h
     rw [if_neg (by omega),if_neg (by omega),if_pos rfl,if_neg (by rw [na,jf ta,jf tb];simp)];exact Ke fun i hi hj=>MW f m m' _ _ (ca.2 i hi) (cb.2 i hj)
  ·simp only [bq,iH];rw [if_pos k,if_pos k]
def nE (s:ByteArray) (n:Nat):ByteArray:=s.extract n s.size
theorem qQ (s:ByteArray) (n:Nat):(nE s n).size=s.size - n:=by simp [nE,ByteArray.size_extract]
def aR (k n:Int) (s:ByteArray):T:=dU k n s [] []
theorem pO (k n:Int) (s:ByteArray) (l:List T) (ks:List ByteArray) (i:Nat):elt (dU k n s l ks) i=l.getD i .nil:=rfl
theorem cK (k n:Int) (s:ByteArray) (l:List T) (ks:List ByteArray):nL (dU k n s l ks)=l.length:=rfl
theorem lU (k n:Int) (s:ByteArray) (l:List T) (ks:List ByteArray):nK (dU k n s l ks)=ks.length:=by unfold nK;rw [tY]
theorem Xq (k n:Int) (s:ByteArray) (l:List T) (ks:List ByteArray) (i:Nat):bf (dU k n s l ks) i=ks.getD i ByteArray.empty:=by unfold bf;rw [tY]
theorem wR (g:T->Nat) (t:T):∀ k,k<=nL t->dY g t k=(((UU t).take k).map g).sum
 | 0,_=>by simp [dY]
 | k+1,h=>by
  have hk:k<(UU t).length:=h;rw [dY,wR g t k (by omega),List.take_succ_eq_append_getElem hk,List.map_append,List.sum_append];have e:elt t k=(UU t)[k]:=by simp [elt,List.getD_eq_getElem?_getD,hk]
  rw [e];rfl
theorem Dl (t:T):∀ k,k<=nK t->pK t k=(((rU t).take k).map fun s=>2+s.size).sum
 | 0,_=>by simp [pK]
 | k+1,h=>by
  have hk:k<(rU t).length:=h;rw [pK,Dl t k (by omega),List.take_succ_eq_append_getElem hk,List.map_append,List.sum_append];have e:bf t k=(rU t)[k]:=by simp [bf,List.getD_eq_getElem?_getD,hk]
  rw [e];rfl
theorem Dn (d:Nat) (k:Int) (l:List T) (ks:List ByteArray) (hk:k=5\/k=6) (h5:k=5->ks=[]) :
  aN (d+1) (dU k 0 ByteArray.empty l ks)=5+(ks.map fun s=>2+s.size).sum+(l.map (aN d)).sum:=by
 have e1:dY (aN d) (dU k 0 ByteArray.empty l ks) (nL (dU k 0 ByteArray.empty l ks))=(l.map (aN d)).sum:=by
  rw [wR _ _ _ (Nat.le_refl _),zY,cK,List.take_length]
 have e2:pK (dU k 0 ByteArray.empty l ks) (nK (dU k 0 ByteArray.empty l ks))=(ks.map fun s=>2+s.size).sum:=by
  rw [Dl _ _ (Nat.le_refl _),tY,lU,List.take_length]
 unfold aN;rw [dP];rcases hk with hk | hk
 ·rw [if_pos hk,e1,h5 hk];simp
 ·rw [if_neg (by omega),if_pos hk,e1,e2]
def bt (s:ByteArray) (i:Nat):Nat:=(s.get! i).toNat
theorem Dp (s:ByteArray) (i:Nat):bt s i<256:=(s.get! i).toNat_lt
def bV (s:ByteArray):Nat->Bool
 | 0=>true
 | k+1=>bV s k&&(decide (128<=bt s (k+1))&&decide (bt s (k+1)<=191))
def mI (s:ByteArray) (c0:Int):Nat->Int
 | 0=>c0
 | k+1=>64*mI s c0 k+(bt s (k+1):Int) - 128
theorem iw {s:ByteArray} {j k:Nat} (h:j<=k) (hc:bV s j=false):bV s k=false:=by
 induction h with
 | refl=>exact hc
 | step _ ih=>simp [bV,ih]
def bM (least c:Int):Bool:=decide (c<least) || decide (1114111<c) || (decide (55296<=c)&&decide (c<57344))
def lI (s:ByteArray) (n:Nat) (least c0:Int):Nat :=
 if s.size<n then 0 else if bV s (n - 1)=false then 0 else if bM least (mI s c0 (n - 1))=true then 0 else n
def aW (s:ByteArray):Nat :=
 if bt s 0<128 then 1 else if 192<=bt s 0/\bt s 0<224 then lI s 2 128 (bt s 0 - 192) else if 224<=bt s 0/\bt s 0<240 then lI s 3 2048 (bt s 0 - 224) else if 240<=bt s 0/\bt s 0<248 then lI s 4 65536 (bt s 0 - 240) else 0
theorem tZ (s:ByteArray):Lib.decodeL s.data.toList=Utf8.decode s 0:=by
 unfold Lib.decodeL;cases s with
 | mk d=>rfl
theorem qR (s:ByteArray):aW s=if (Utf8.decode s 0).1=65533/\(Utf8.decode s 0).2=1 then 0 else (Utf8.decode s 0).2:=by
 have l0:=Dp s 0;have l1:=Dp s 1;have l2:=Dp s 2;have l3:=Dp s 3;simp only [aW,lI,bV,mI,bM,Utf8.decode,Utf8.runeError,Utf8.valid,Nat.zero_add];simp only [<- bt.eq_def];generalize bt s 0=a at *;generalize bt s 1=b at *;generalize bt s 2=c at *;generalize bt s 3=d at *;generalize s.size=n at *;by_cases h1:a<128
 ·simp only [h1,if_true];rw [if_neg (by omega)]
 rw [if_neg h1,if_neg h1];by_cases h2:192<=a/\a<224
 ·have e:(a / 32==6)=true:=by simp;omega
  rw [if_pos h2];by_cases hc:1<n/\b / 64=2
  ·have e1:(decide (1<n)&&b / 64==2)=true:=by simp;exact hc
   rw [e,e1];simp only [Bool.and_self,if_true];rw [if_neg (by omega),if_neg (by simp;omega)];by_cases hv:a % 32*64+b % 64 ≥ 128
   ·rw [if_pos hv,if_neg (by simp;omega)];simp
   ·rw [if_neg hv,if_pos (by simp;omega)];simp
  ·have e1:(decide (1<n)&&b / 64==2)=false:=by
    simp only [Bool.and_eq_false_iff,decide_eq_false_iff_not,beq_eq_false_iff_ne];omega
   have e2:(a / 16==14)=false:=by simp;omega
   have e3:(a / 8==30)=false:=by simp;omega
   rw [e1,e2,e3];simp only [Bool.and_false,Bool.false_and,Bool.false_eq_true,if_false];by_cases hn:n<2
   ·simp [hn]
   ·rw [if_neg hn,if_pos (by simp;omega)];simp
 rw [if_neg h2];have g2:(a / 32==6)=false:=by simp;omega
 rw [g2];simp only [Bool.false_and,Bool.false_eq_true,if_false];by_cases h3:224<=a/\a<240
 ·have e:(a / 16==14)=true:=by simp;omega
  rw [if_pos h3];by_cases hc:(1<n/\b / 64=2)/\2<n/\c / 64=2
  ·have e1:(decide (1<n)&&b / 64==2)=true:=by simp;exact hc.1
   have e2:(decide (2<n)&&c / 64==2)=true:=by simp;exact hc.2
   rw [e,e1,e2];simp only [Bool.and_self,if_true];rw [if_neg (by omega),if_neg (by simp;omega)];generalize hX:a % 16*4096+b % 64*64+c % 64=X at *;by_cases hv:2048<=X/\(X<55296\/57344<=X)
   ·have hi:(decide (X ≥ 2048)&&(decide ((0:Int)<=X)&&decide ((X:Int)<55296) || decide ((57344:Int)<=X)&&decide ((X:Int)<=1114111)))=true:=by simp;omega
    rw [hi,if_neg (by simp;omega)];simp
   ·have hi:(decide (X ≥ 2048)&&(decide ((0:Int)<=X)&&decide ((X:Int)<55296) || decide ((57344:Int)<=X)&&decide ((X:Int)<=1114111)))=false:=by
     simp only [Bool.and_eq_false_iff,Bool.or_eq_false_iff,decide_eq_false_iff_not];omega
    rw [hi,if_pos (by simp;omega)];simp
  ·have e1:((decide (1<n)&&b / 64==2)&&(decide (2<n)&&c / 64==2))=false:=by
    simp only [Bool.and_eq_false_iff,decide_eq_false_iff_not,beq_eq_false_iff_ne];omega
   have e3:(a / 8==30)=false:=by simp;omega
   rw [e,e3];simp only [Bool.true_and,Bool.false_and];rw [e1];simp only [Bool.false_eq_true,if_false];by_cases hn:n<3
   ·simp [hn]
   ·rw [if_neg hn,if_pos (by simp;omega)];simp
 rw [if_neg h3];have g3:(a / 16==14)=false:=by simp;omega
 rw [g3];simp only [Bool.false_and,Bool.false_eq_true,if_false];by_cases h4:240<=a/\a<248
 ·have e:(a / 8==30)=true:=by simp;omega
  rw [if_pos h4];by_cases hc:(1<n/\b / 64=2)/\(2<n/\c / 64=2)/\3<n/\d / 64=2
  ·have e1:(decide (1<n)&&b / 64==2)=true:=by simp;exact hc.1
   have e2:(decide (2<n)&&c / 64==2)=true:=by simp;exact hc.2.1
   have e3:(decide (3<n)&&d / 64==2)=true:=by simp;exact hc.2.2
   rw [e,e1,e2,e3];simp only [Bool.and_self,if_true];rw [if_neg (by omega),if_neg (by simp;omega)];generalize hX:a % 8*262144+b % 64*4096+c % 64*64+d % 64=X at *;by_cases hv:65536<=X/\X<=1114111
   ·have hi:(decide (X ≥ 65536)&&(decide ((0:Int)<=X)&&decide ((X:Int)<55296) || decide ((57344:Int)<=X)&&decide ((X:Int)<=1114111)))=true:=by simp;omega
    rw [hi,if_neg (by simp;omega)];simp
   ·have hi:(decide (X ≥ 65536)&&(decide ((0:Int)<=X)&&decide ((X:Int)<55296) || decide ((57344:Int)<=X)&&decide ((X:Int)<=1114111)))=false:=by
     simp only [Bool.and_eq_false_iff,Bool.or_eq_false_iff,decide_eq_false_iff_not];omega
    rw [hi,if_pos (by simp;omega)];simp
  ·have e1:(((decide (1<n)&&b / 64==2)&&(decide (2<n)&&c / 64==2))&&(decide (3<n)&&d / 64==2))=false:=by
    simp only [Bool.and_eq_false_iff,decide_eq_false_iff_not,beq_eq_false_iff_ne];omega
   rw [e];simp only [Bool.true_and];rw [e1];simp only [Bool.false_eq_true,if_false];by_cases hn:n<4
   ·simp [hn]
   ·rw [if_neg hn,if_pos (by simp;omega)];simp
 rw [if_neg h4];have g4:(a / 8==30)=false:=by simp;omega
 rw [g4];simp
end Go.Proofs.YtknakfpciccoaaaGreatDoor
