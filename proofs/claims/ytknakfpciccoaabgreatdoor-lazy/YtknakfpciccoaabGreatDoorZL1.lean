import Derived.WalkKit
import Derived.Deep.Slices
import Derived.Test.YtknakfpciccoaabGreatDoorProg
import Derived.WalkSpells
import Derived.WalkLawsBesides
import Derived.Deep.LoopGhost
import Derived.Maps.OwnSet
import Derived.Lib.ValidU
import Derived.BigQuiet
import Derived.Deep.QuietTactic
import Derived.Deep.RegionHeld
/- Values as trees, and what it means that one lies in memory. -/
set_option maxHeartbeats 2000000
set_option maxRecDepth 100000
namespace Go.Proofs.YtknakfpciccoaabGreatDoor
open Go.RowKit
theorem aj {p:Prop} (h:p):Hid p:=h
abbrev T:=DataW Unit
def aaE:T->ByteArray
 | .lit (.string s)=>⟨s.toArray⟩
 | _=>ByteArray.empty
def ah:T->Int
 | .agg [.lit (.int _ k),_,_,_,_]=>k
 | _=>0
def au:T->Int
 | .agg [_,.lit (.int _ k),_,_,_]=>k
 | _=>0
def ay:T->ByteArray
 | .agg [_,_,s,_,_]=>aaE s
 | _=>ByteArray.empty
def zL:T->List T
 | .agg [_,_,_,.slice l _,_]=>l
 | _=>[]
def kQ:T->List ByteArray
 | .agg [_,_,_,_,.slice l _]=>l.map aaE
 | _=>[]
def aX (k n:Int) (s:ByteArray) (l:List T) (ks:List ByteArray):T :=
 .agg [.lit (.int .i64 k),.lit (.int .i64 n),.lit (.string s.data.toList),.slice l [],.slice (ks.map fun s=>.lit (.string s.data.toList)) []]
theorem bE (k n:Int) (s:ByteArray) (l:List T) (ks:List ByteArray):ah (aX k n s l ks)=k:=rfl
theorem fu (k n:Int) (s:ByteArray) (l:List T) (ks:List ByteArray):au (aX k n s l ks)=n:=rfl
theorem gD (k n:Int) (s:ByteArray) (l:List T) (ks:List ByteArray):ay (aX k n s l ks)=s:=rfl
theorem uT (k n:Int) (s:ByteArray) (l:List T) (ks:List ByteArray):zL (aX k n s l ks)=l:=rfl
theorem rJ (k n:Int) (s:ByteArray) (l:List T) (ks:List ByteArray):kQ (aX k n s l ks)=ks:=by
 simp only [kQ,aX,List.map_map]
 conv=>rhs;rw [<- List.map_id ks]
 exact List.map_congr_left fun x _=>rfl
def elt (t:T) (i:Nat):T:=(zL t).getD i .nil
def bR (t:T) (i:Nat):ByteArray:=(kQ t).getD i ByteArray.empty
def nL (t:T):Nat:=(zL t).length
def nK (t:T):Nat:=(kQ t).length
structure zk (t:T):Prop where
 k0:-9223372036854775808<=ah t
 k1:ah t<=9223372036854775807
 n0:-9223372036854775808<=au t
 n1:au t<=9223372036854775807
 s1:(ay t).size<=140737488355328
 l1:nL t<=1759218604442
 m1:nK t<=8796093022208
def ji (w:World) (Ka:Option Addr) (t:T):Prop :=
 ∀ i,i<nK t->∃ b o,Ka=some ⟨b,o,none⟩/\b<w.heap.size/\(bR t i).size<=140737488355328/\w.cell? ⟨b,o+i,none⟩=some (.string (bR t i))
def At (w:World):Nat->Value->T->Prop
 | 0,_,_=>False
 | f+1,v,t=>∃ (La Ka:Option Addr) (Lc Kc:Nat),
   v=.agg #[.int .i64 (ah t),.int .i64 (au t),.string (ay t),.slice La (nL t) Lc,.slice Ka (nK t) Kc]/\zk t /\
   (∀ i,i<nL t->∃ b o c0 c1 c2 c3 c4,La=some ⟨b,o,none⟩/\b<w.heap.size/\w.cell? ⟨b,o+i*5,none⟩=some c0/\w.cell? ⟨b,o+i*5+1,none⟩=some c1/\w.cell? ⟨b,o+i*5+2,none⟩=some c2/\w.cell? ⟨b,o+i*5+3,none⟩=some c3/\w.cell? ⟨b,o+i*5+4,none⟩=some c4/\At w f (.agg #[c0,c1,c2,c3,c4]) (elt t i)) /\
   ji w Ka t
def bK (w:World) (f:Nat) (La:Option Addr) (t:T):Prop :=
 ∀ i,i<nL t->∃ b o c0 c1 c2 c3 c4,La=some ⟨b,o,none⟩/\b<w.heap.size/\w.cell? ⟨b,o+i*5,none⟩=some c0/\w.cell? ⟨b,o+i*5+1,none⟩=some c1/\w.cell? ⟨b,o+i*5+2,none⟩=some c2/\w.cell? ⟨b,o+i*5+3,none⟩=some c3/\w.cell? ⟨b,o+i*5+4,none⟩=some c4/\Hid (At w f (.agg #[c0,c1,c2,c3,c4]) (elt t i))
theorem ji.keep {w w':World} (h:Below w.heap.size w w') {Ka:Option Addr} {t:T} (hk:ji w Ka t):ji w' Ka t:=by
 intro i hi;obtain ⟨b,o,h0,hb,hs,q⟩:=hk i hi;exact ⟨b,o,h0,Nat.lt_of_lt_of_le hb h.size,hs,by rw [h.cell (p:=⟨b,_,none⟩) hb];exact q⟩
theorem At.keep {w w':World} (h:Below w.heap.size w w'):∀ {f:Nat} {v:Value} {t:T},At w f v t->At w' f v t:=by
 intro f
 induction f with
 | zero=>intro v t h;exact h
 | succ f ih =>
  rintro v t ⟨La,Ka,Lc,Kc,rfl,hf,hl,hk⟩;refine ⟨La,Ka,Lc,Kc,rfl,hf,fun i hi=>?_,hk.keep h⟩;obtain ⟨b,o,c0,c1,c2,c3,c4,h0,hb,q0,q1,q2,q3,q4,ha⟩:=hl i hi;refine ⟨b,o,c0,c1,c2,c3,c4,h0,Nat.lt_of_lt_of_le hb h.size,?_,?_,?_,?_,?_,ih ha⟩
  ·rw [h.cell (p:=⟨b,_,none⟩) hb];exact q0
  ·rw [h.cell (p:=⟨b,_,none⟩) hb];exact q1
  ·rw [h.cell (p:=⟨b,_,none⟩) hb];exact q2
  ·rw [h.cell (p:=⟨b,_,none⟩) hb];exact q3
  ·rw [h.cell (p:=⟨b,_,none⟩) hb];exact q4
theorem bK.keep {w w':World} (h:Below w.heap.size w w') {f:Nat} {La:Option Addr} {t:T} (hl:bK w f La t):bK w' f La t:=by
 intro i hi;obtain ⟨b,o,c0,c1,c2,c3,c4,h0,hb,q0,q1,q2,q3,q4,ha⟩:=hl i hi;refine ⟨b,o,c0,c1,c2,c3,c4,h0,Nat.lt_of_lt_of_le hb h.size,?_,?_,?_,?_,?_,At.keep h ha⟩
 ·rw [h.cell (p:=⟨b,_,none⟩) hb];exact q0
 ·rw [h.cell (p:=⟨b,_,none⟩) hb];exact q1
 ·rw [h.cell (p:=⟨b,_,none⟩) hb];exact q2
 ·rw [h.cell (p:=⟨b,_,none⟩) hb];exact q3
 ·rw [h.cell (p:=⟨b,_,none⟩) hb];exact q4
theorem At.open {w:World} {f:Nat} {v:Value} {t:T} (h:At w f v t):∃ (g:Nat) (La Ka:Option Addr) (Lc Kc:Nat),f=g+1 /\
   v=.agg #[.int .i64 (ah t),.int .i64 (au t),.string (ay t),.slice La (nL t) Lc,.slice Ka (nK t) Kc]/\zk t/\Hid (bK w g La t)/\Hid (ji w Ka t):=by
 cases f with
 | zero=>exact h.elim
 | succ f =>
  obtain ⟨La,Ka,Lc,Kc,rfl,hf,hl,hk⟩:=h;exact ⟨f,La,Ka,Lc,Kc,rfl,rfl,hf,hl,hk⟩
theorem dB {w wr:World} {c0 c1 c2 c3 c4:Value} (hb:Below (w.heap.size+1) (w.alloc (.cells #[c0,c1,c2,c3,c4] 36)) wr) :
  wr.cell? ⟨w.heap.size,0,none⟩=some c0/\wr.cell? ⟨w.heap.size,1,none⟩=some c1/\wr.cell? ⟨w.heap.size,2,none⟩=some c2/\wr.cell? ⟨w.heap.size,3,none⟩=some c3/\wr.cell? ⟨w.heap.size,4,none⟩=some c4/\w.heap.size<wr.heap.size/\Below w.heap.size w wr:=by
 have hz:=hb.size;refine ⟨?_,?_,?_,?_,?_,by simp at hz;omega,((Below.refl _ _).alloc (Nat.le_refl _) _).trans (hb.mono (by omega))⟩
 ·rw [hb.cell (p:=⟨_,_,none⟩) (by simp)];simp [go_sem]
 ·rw [hb.cell (p:=⟨_,_,none⟩) (by simp)];simp [go_sem]
 ·rw [hb.cell (p:=⟨_,_,none⟩) (by simp)];simp [go_sem]
 ·rw [hb.cell (p:=⟨_,_,none⟩) (by simp)];simp [go_sem]
 ·rw [hb.cell (p:=⟨_,_,none⟩) (by simp)];simp [go_sem]
theorem aR {k:IntKind} {a b:Int} (h:a=b):Ending.returned (.int k a)=.returned (.int k b):=by rw [h]
theorem aA {a b:Bool} (h:a=b):Ending.returned (.bool a)=.returned (.bool b):=by rw [h]
def qQ (f:T->Nat) (t:T):Nat->Nat
 | 0=>0
 | k+1=>max (qQ f t k) (f (elt t k))
def gL (t:T):Bool:=ah t==5 || ah t==6
def eF:Nat->T->Nat
 | 0,_=>0
 | m+1,t=>if gL t then qQ (eF m) t (nL t)+1 else 0
theorem II {f:T->Nat} {m:Nat} (h:∀ t,f t<=m) (t:T) (k:Nat):qQ f t k<=m:=by
 induction k with
 | zero=>exact Nat.zero_le _
 | succ k ih=>have:=h (elt t k);simp only [qQ];omega
theorem IJ:∀ (m:Nat) (t:T),eF m t<=m:=by
 intro m
 induction m with
 | zero=>intro t;exact Nat.le_refl _
 | succ m ih=>intro t;have:=II ih t (nL t);unfold eF;split<;>omega
def kR (a b:Int):Int:=if a<b then -1 else if b<a then 1 else 0
theorem zM {a b:Int} (h:a<b):kR a b=-1:=by unfold kR;rw [if_pos h]
theorem zN {a b:Int} (h:b<a):kR a b=1:=by unfold kR;rw [if_neg (by omega),if_pos h]
theorem zO {a b:Int} (h1:b<=a) (h2:a<=b):kR a b=0:=by unfold kR;rw [if_neg (by omega),if_neg (by omega)]
def qX (a b:ByteArray):Int:=if Op.bytesLess a.toList b.toList=true then -1 else if (!Op.bytesLess a.toList b.toList&&!(a.toList==b.toList))=true then 1 else 0
theorem vQ (a b:Int):-1<=kR a b/\kR a b<=1:=by unfold kR;split<;>(try split)<;>omega
theorem zP (a b:ByteArray):-1<=qX a b/\qX a b<=1:=by unfold qX;split<;>(try split)<;>omega
theorem Yz {a b:ByteArray} (h:Op.bytesLess a.toList b.toList=true):qX a b=-1:=by unfold qX;rw [if_pos h]
theorem YA {a b:ByteArray} (h:Op.bytesLess a.toList b.toList=false) (h2:(!a.toList==b.toList)=true):qX a b=1:=by
 unfold qX;rw [if_neg (by simp [h]),if_pos (by simp [h];simpa using h2)]
theorem YB {a b:ByteArray} (h:Op.bytesLess a.toList b.toList=false) (h2:(!a.toList==b.toList)=false):qX a b=0:=by
 unfold qX;rw [if_neg (by simp [h]),if_neg (by simp [h];simpa using h2)]
def cZ (f:T->Bool) (t:T):Nat->Bool
 | 0=>false
 | k+1=>cZ f t k || f (elt t k)
def jE (f:T->Bool) (t:T):Nat->Bool
 | 0=>true
 | k+1=>jE f t k&&f (elt t k)
def qR (t:T) (i:Nat):Nat->Bool
 | 0=>false
 | k+1=>qR t i k || ((bR t i).toList==(bR t k).toList)
def iP (t:T):Nat->Bool
 | 0=>false
 | i+1=>iP t i || qR t i i
def dZ:Nat->T->Bool
 | 0,_=>false
 | f+1,t=>iP t (nK t) || cZ (dZ f) t (nL t)
theorem Qy (f:T->Bool) (t:T) {j k:Nat} (h:j<=k) (hd:cZ f t j=true):cZ f t k=true:=by
 induction h with
 | refl=>exact hd
 | step _ ih=>simp [cZ,ih]
theorem zQ {f:T->Bool} {t:T} {j k:Nat} (h:j<k) (hd:f (elt t j)=true):cZ f t k=true :=
 Qy f t h (by simp [cZ,hd])
theorem Qz (f:T->Bool) (t:T) {j k:Nat} (h:j<=k) (hd:jE f t j=false):jE f t k=false:=by
 induction h with
 | refl=>exact hd
 | step _ ih=>simp [jE,ih]
theorem OX {f:T->Bool} {t:T} {j k:Nat} (h:j<k) (hd:f (elt t j)=false):jE f t k=false :=
 Qz f t h (by simp [jE,hd])
abbrev vC (t:T) (A:Option Addr) (b:Nat) (C:Option Addr) (d:Nat):Obj:=.cells #[.int .i64 (ah t),.int .i64 (au t),.string (ay t),.slice A (nL t) b,.slice C (nK t) d] 36
theorem aQ (w:World) (a:Obj):Below w.heap.size w (w.alloc a):=(Below.refl _ _).alloc (Nat.le_refl _) _
end Go.Proofs.YtknakfpciccoaabGreatDoor
/- A set of names: how many it holds, and whether one stands twice. -/
namespace Go.Proofs.YtknakfpciccoaabGreatDoor
open Go.RowKit Go.Maps Go.WideMaps
def rM (t:T) (k:Nat):Lit:=.string (bR t k).data.toList
def j6 (t:T) (k:Nat):List Lit:=(List.range k).map (rM t)
def Sn (t:T) (k:Nat):DataW Unit:=setOf (.agg []) (j6 t k)
theorem yH (t:T) (k:Nat):j6 t (k+1)=j6 t k++[rM t k]:=by simp [j6,List.range_succ]
theorem YC (t:T) (k:Nat):Sn t (k+1)=(Sn t k).put (rM t k) (.agg []):=by unfold Sn;rw [yH,setOf_snoc]
theorem YD (t:T):Sn t 0=.map []:=by simp [Sn,j6,setOf]
theorem OY (t:T) (k:Nat):WideAt.IsKeyLit (rM t k):=by simp [rM,WideAt.IsKeyLit]
theorem nQ (a b:ByteArray):a.data.toList=b.data.toList ↔ a=b:=by
 constructor
 ·intro h;cases a;cases b;simp at h;rw [h]
 ·intro h;rw [h]
theorem oJ (a b:ByteArray):a.toList=b.toList ↔ a=b:=by
 rw [ByteArray.toList_eq,ByteArray.toList_eq];exact nQ a b
theorem Dv (t:T) (i:Nat):∀ k,qR t i k=true ↔ ∃ j,j<k/\bR t i=bR t j
 | 0=>by simp [qR]
 | k+1=>by
  simp only [qR,Bool.or_eq_true,beq_iff_eq,oJ,Dv t i k];constructor
  ·rintro (⟨j,hj,h⟩ | h)
   ·exact ⟨j,by omega,h⟩
   ·exact ⟨k,by omega,h⟩
  ·rintro ⟨j,hj,h⟩;by_cases e:j=k
   ·subst e;exact Or.inr h
   ·exact Or.inl ⟨j,by omega,h⟩
theorem xA (t:T):∀ k,((j6 t k).foldl addKey []).length<=k/\(((j6 t k).foldl addKey []).length=k ↔ iP t k=false)/\∀ x,((j6 t k).foldl addKey []).any (fun y=>y.sameKey x)=true ↔ ∃ j,j<k/\(rM t j).sameKey x=true
 | 0=>by simp [j6,iP]
 | k+1=>by
  obtain ⟨h1,h2,h3⟩:=xA t k
  have hd:(((j6 t k).foldl addKey []).any (fun y=>y.sameKey (rM t k))=true) ↔ qR t k k=true:=by
   rw [h3,Dv];constructor
   ·rintro ⟨j,hj,h⟩;refine ⟨j,hj,?_⟩;have:=(WideAt.sameKey_iff (OY t k)).1 h;simp only [rM,Lit.string.injEq] at this;exact ((nQ _ _).1 this).symm
   ·rintro ⟨j,hj,h⟩;refine ⟨j,hj,(WideAt.sameKey_iff (OY t k)).2 ?_⟩;simp only [rM,h]
  rw [yH,List.foldl_append];simp only [List.foldl_cons,List.foldl_nil];generalize List.foldl addKey [] (j6 t k)=L at *;unfold addKey;by_cases h:(L.any fun y=>y.sameKey (rM t k))=true
  ·rw [if_pos h];refine ⟨by omega,⟨fun e=>by omega,fun e=>?_⟩,fun x=>?_⟩
   ·simp only [iP,hd.1 h,Bool.or_true] at e;cases e
   ·rw [h3];constructor
    ·rintro ⟨j,hj,hs⟩;exact ⟨j,by omega,hs⟩
    ·rintro ⟨j,hj,hs⟩;by_cases e:j=k
     ·subst e;obtain ⟨i,hi,hh⟩:=(h3 _).1 h;refine ⟨i,hi,?_⟩;rw [(WideAt.sameKey_iff (OY t j)).1 hh];exact hs
     ·exact ⟨j,by omega,hs⟩
  ·rw [if_neg h]
   have hf:qR t k k=false:=by
    cases hc:qR t k k with
    | false=>rfl
    | true=>exact absurd (hd.2 hc) h
   refine ⟨by simp;omega,?_,fun x=>?_⟩
   ·simp only [List.length_append,List.length_singleton,iP,hf,Bool.or_false];rw [<- h2];omega
   ·rw [List.any_append,Bool.or_eq_true,h3];simp only [List.any_cons,List.any_nil,Bool.or_false];constructor
    ·rintro (⟨j,hj,hs⟩ | hs)
     ·exact ⟨j,by omega,hs⟩
     ·exact ⟨k,by omega,hs⟩
    ·rintro ⟨j,hj,hs⟩;by_cases e:j=k
     ·subst e;exact Or.inr hs
     ·exact Or.inl ⟨j,by omega,hs⟩
theorem YE (t:T) (k:Nat):Maps.size (Sn t k)<=k/\(Maps.size (Sn t k)=k ↔ iP t k=false):=by
 have e:Maps.size (Sn t k)=((j6 t k).foldl addKey []).length:=size_setOf _ _ (by
  intro x hx;simp only [j6,List.mem_map] at hx;obtain ⟨j,_,rfl⟩:=hx;exact OY t j)
 rw [e];exact ⟨(xA t k).1,(xA t k).2.1⟩
structure bI (c:Nat) (w w':World):Prop where
 os:w'.os=w.os
 tape:w'.tape=w.tape
 output:w'.output=w.output
 size:w.heap.size<=w'.heap.size
 block:∀ k,k<w.heap.size->k≠c->w'.heap[k]?=w.heap[k]?
theorem bI.refl (c:Nat) (w:World):bI c w w:=⟨rfl,rfl,rfl,Nat.le_refl _,fun _ _ _=>rfl⟩
theorem bI.trans {c:Nat} {a b d:World} (h:bI c a b) (k:bI c b d):bI c a d :=
 ⟨k.os.trans h.os,k.tape.trans h.tape,k.output.trans h.output,Nat.le_trans h.size k.size,fun i hi hc=>(k.block i (Nat.lt_of_lt_of_le hi h.size) hc).trans (h.block i hi hc)⟩
theorem bI.of {c:Nat} {a b:World} (h:Below a.heap.size a b):bI c a b:=⟨h.os,h.tape,h.output,h.size,fun k hk _=>h.block k hk⟩
theorem bI.set (w:World) (c o:Nat) (u:Value):bI c w (w.setCell ⟨c,o,none⟩ u) :=
 ⟨rfl,rfl,rfl,by simp [World.setCell],fun k _ hc=>Below.heap_setCell _ _ _ _ (by simpa using hc)⟩
theorem bI.cell {c:Nat} {w w':World} (h:bI c w w') {p:Addr} (hp:p.block<w.heap.size) (hc:p.block≠c):w'.cell? p=w.cell? p:=World.cell?_of_block (w:=w) (h.block p.block hp hc)
theorem bI.below {c:Nat} {w w':World} (h:bI c w w') (hc:c<=w.heap.size):Below c w w' :=
 ⟨h.os,h.tape,h.output,h.size,fun k hk=>h.block k (by omega) (by omega)⟩
def aZ (n l:Int):Option Int:=if n<=l then some (l - n) else none
def zR (s:ByteArray):Bool:=Lib.validD s.data.toList
def mK (s:ByteArray) (l:Int):Option Int:=if s.size<=4000/\(s.size:Int)<=l/\zR s=true then some (l - s.size) else none
def jF (t:T):Nat->Int->Option Int
 | 0,l=>some l
 | k+1,l=>(jF t k l).bind fun x=>(aZ 2 x).bind (mK (bR t k))
def lQ (t:T) (l:Int):Option Int:=(jF t (nK t) l).bind fun x=>if iP t (nK t)=true then none else some x
def dQ (f:T->Int->Option Int) (t:T):Nat->Int->Option Int
 | 0,l=>some l
 | k+1,l=>(dQ f t k l).bind (f (elt t k))
def fH (t:T):Bool:=decide (nL t=0)&&decide (nK t=0)
def bF (t:T):Bool:=(ay t).toList.isEmpty
def pG (t:T) (l:Int):Option Int :=
 if ah t=1 then (if au t=0/\bF t=true/\fH t=true then aZ 1 l else none)
 else if ah t=2 then (if (au t=0\/au t=1)/\bF t=true/\fH t=true then aZ 2 l else none)
 else if ah t=3 then (if bF t=true/\fH t=true then aZ 9 l else none)
 else if ah t=4 then (if au t=0/\fH t=true then (aZ 5 l).bind (mK (ay t)) else none)
 else none
def aP:Nat->T->Int->Option Int
 | 0,t,l=>pG t l
 | m+1,t,l =>
  if ah t=5 then (if au t=0/\bF t=true/\nK t=0 then (aZ 5 l).bind (dQ (aP m) t (nL t)) else none)
  else if ah t=6 then (if au t=0/\bF t=true/\nK t=nL t then ((aZ 5 l).bind (lQ t)).bind (dQ (aP m) t (nL t)) else none)
  else pG t l
theorem yI {t:T} {l:Int} {j k:Nat} (h:j<=k) (hx:jF t j l=none):jF t k l=none:=by
 induction h with
 | refl=>exact hx
 | step _ ih=>simp [jF,ih]
theorem FM {f:T->Int->Option Int} {t:T} {l:Int} {j k:Nat} (h:j<=k) (hx:dQ f t j l=none):dQ f t k l=none:=by
 induction h with
 | refl=>exact hx
 | step _ ih=>simp [dQ,ih]
structure gM (c:Nat) (l:Int) (w:World):Prop where
 cell:w.cell? ⟨c,0,none⟩=some (.int .i64 l)
 free:w.frozen? ⟨c,0,none⟩=false
 lt:c<w.heap.size
def iK (c:Nat) (w:World) (r:Option Int) (e:Ending) (w':World):Prop :=
 bI c w w'/\∃ l',gM c l' w'/\((r=some l'/\0<=l'/\l'<=1048576/\e=.returned (.bool true))\/(r=none/\e=.returned (.bool false)))
theorem gM.set {c:Nat} {l:Int} {w:World} (h:gM c l w) (x:Int):gM c x (w.setCell ⟨c,0,none⟩ (.int .i64 x))/\bI c w (w.setCell ⟨c,0,none⟩ (.int .i64 x)):=by
 refine ⟨⟨?_,?_,by simp [World.setCell];exact h.lt⟩,bI.set _ _ _ _⟩
 ·have:=h.cell;simp [go_sem,this]
 ·have:=h.free;simp [go_sem,this]
theorem gM.keep {c:Nat} {l:Int} {w w':World} (h:gM c l w) (hb:Below w.heap.size w w'):gM c l w' :=
 ⟨by rw [hb.cell (p:=⟨c,0,none⟩) h.lt];exact h.cell,by rw [hb.frozen (p:=⟨c,0,none⟩) h.lt];exact h.free,Nat.lt_of_lt_of_le h.lt hb.size⟩
theorem bK.later {w w':World} (h:Below w.heap.size w w') {f:Nat} {La:Option Addr} {t:T} (hl:bK w f La t) (i:Nat) (hi:i<nL t) :
  ∃ b o c0 c1 c2 c3 c4,La=some ⟨b,o,none⟩/\b<w.heap.size/\w'.cell? ⟨b,o+i*5,none⟩=some c0/\w'.cell? ⟨b,o+i*5+1,none⟩=some c1/\w'.cell? ⟨b,o+i*5+2,none⟩=some c2/\w'.cell? ⟨b,o+i*5+3,none⟩=some c3/\w'.cell? ⟨b,o+i*5+4,none⟩=some c4/\Hid (At w f (.agg #[c0,c1,c2,c3,c4]) (elt t i)):=by
 obtain ⟨b,o,c0,c1,c2,c3,c4,h0,hb,q0,q1,q2,q3,q4,ha⟩:=hl i hi;refine ⟨b,o,c0,c1,c2,c3,c4,h0,hb,?_,?_,?_,?_,?_,ha⟩
 ·rw [h.cell (p:=⟨b,_,none⟩) hb];exact q0
 ·rw [h.cell (p:=⟨b,_,none⟩) hb];exact q1
 ·rw [h.cell (p:=⟨b,_,none⟩) hb];exact q2
 ·rw [h.cell (p:=⟨b,_,none⟩) hb];exact q3
 ·rw [h.cell (p:=⟨b,_,none⟩) hb];exact q4
theorem bK.shape {w w':World} (h:Below w.heap.size w w') {f:Nat} {La:Option Addr} {t:T} (hl:bK w f La t) (i:Nat) (hi:i<nL t) :
  ∃ b o A B C D,La=some ⟨b,o,none⟩/\b<w.heap.size/\w'.cell? ⟨b,o+i*5,none⟩=some (.int .i64 (ah (elt t i)))/\w'.cell? ⟨b,o+i*5+1,none⟩=some (.int .i64 (au (elt t i)))/\w'.cell? ⟨b,o+i*5+2,none⟩=some (.string (ay (elt t i)))/\w'.cell? ⟨b,o+i*5+3,none⟩=some (.slice A (nL (elt t i)) B)/\w'.cell? ⟨b,o+i*5+4,none⟩=some (.slice C (nK (elt t i)) D) /\
   Hid (At w f (.agg #[.int .i64 (ah (elt t i)),.int .i64 (au (elt t i)),.string (ay (elt t i)),.slice A (nL (elt t i)) B,.slice C (nK (elt t i)) D]) (elt t i)):=by
 obtain ⟨b,o,c0,c1,c2,c3,c4,h0,hb,q0,q1,q2,q3,q4,ha⟩:=hl.later h i hi;obtain ⟨g,A,C,B,D,_,hv,_⟩:=ha.out.open;simp only [Value.agg.injEq,Array.mk.injEq,List.cons.injEq,and_true] at hv;obtain ⟨rfl,rfl,rfl,rfl,rfl⟩:=hv;exact ⟨b,o,A,B,C,D,h0,hb,q0,q1,q2,q3,q4,ha⟩
theorem zS {c:Nat} {w wr:World} {c0 c1 c2 c3 c4:Value} (hc:c<w.heap.size) (hb:bI c (w.alloc (.cells #[c0,c1,c2,c3,c4] 36)) wr) :
  wr.cell? ⟨w.heap.size,0,none⟩=some c0/\wr.cell? ⟨w.heap.size,1,none⟩=some c1/\wr.cell? ⟨w.heap.size,2,none⟩=some c2/\wr.cell? ⟨w.heap.size,3,none⟩=some c3/\wr.cell? ⟨w.heap.size,4,none⟩=some c4/\w.heap.size<wr.heap.size:=by
 have hz:=hb.size;refine ⟨?_,?_,?_,?_,?_,by simp at hz;omega⟩
 ·rw [hb.cell (p:=⟨_,_,none⟩) (by simp) (by show w.heap.size≠c;omega)];simp [go_sem]
 ·rw [hb.cell (p:=⟨_,_,none⟩) (by simp) (by show w.heap.size≠c;omega)];simp [go_sem]
 ·rw [hb.cell (p:=⟨_,_,none⟩) (by simp) (by show w.heap.size≠c;omega)];simp [go_sem]
 ·rw [hb.cell (p:=⟨_,_,none⟩) (by simp) (by show w.heap.size≠c;omega)];simp [go_sem]
 ·rw [hb.cell (p:=⟨_,_,none⟩) (by simp) (by show w.heap.size≠c;omega)];simp [go_sem]
def gF (t:T):Nat->Bool
 | 0=>true
 | k+1=>gF t k&&(zR (bR t k)&&decide ((bR t k).size<=4000))
def Dw (t:T):Bool:=(decide (ah t=2\/ah t=3\/au t=0)&&decide (ah t=4\/bF t=true))&&(decide (ah t=6\/nK t=0)&&decide (ah t=6\/ah t=5\/nL t=0))
def Ag (t:T):Bool:=if ah t=1\/ah t=3\/ah t=5 then true else if ah t=2 then decide (au t=0\/au t=1) else if ah t=4 then zR (ay t)&&decide ((ay t).size<=4000) else if ah t=6 then decide (nK t=nL t)&&gF t (nK t) else false
theorem Ah (a b:Int) (w:World) :
  Calls Tryz.prog 48 #[.int .i64 a,.int .i64 b] w fun e w'=>e=.returned (.int .i64 (kR a b))/\w'=w:=by
 go_in;go_wp2
 all_goals (go_ret;refine ⟨?_,rfl⟩)
 ·exact aR (zM (by assumption)).symm
 ·exact aR (zN (by assumption)).symm
 ·exact aR (zO (by assumption) (by assumption)).symm
theorem vR (a b:Int) (w:World) :
  Calls Tryz.prog 49 #[.int .i64 a,.int .i64 b] w fun e w'=>e=.returned (.int .i64 (kR a b))/\w'=w:=by
 go_in;go_wp2
 all_goals (go_ret;refine ⟨?_,rfl⟩)
 ·exact aR (zM (by assumption)).symm
 ·exact aR (zN (by assumption)).symm
 ·exact aR (zO (by assumption) (by assumption)).symm
theorem uz (a b:ByteArray) (w:World) :
  Calls Tryz.prog 50 #[.string a,.string b] w fun e w'=>e=.returned (.int .i64 (qX a b))/\w'=w:=by
 go_in;go_wp2
 all_goals (go_ret;refine ⟨?_,rfl⟩)
 ·exact aR (Yz (by assumption)).symm
 ·exact aR (YA (by assumption) (by assumption)).symm
 ·exact aR (YB (by assumption) (by assumption)).symm
theorem jG (f:Nat) (v:Value) (t:T) (w:World) (h:At w f v t) :
  Calls Tryz.prog 74 #[v] w fun e w'=>e=.returned (.bool (fH t))/\Below w.heap.size w w':=by
 obtain ⟨f,La,Ka,Lc,Kc,rfl,rfl,hf,hl,hk⟩:=h.open;clear h hf hl hk;by_cases h1:nL t=0
 ·have g1:((nL t:Int)==0)=true:=by simp [h1]
  have H1:=aj h1;clear h1;by_cases h2:nK t=0
  ·have g2:((nK t:Int)==0)=true:=by simp [h2]
   have H2:=aj h2;clear h2;go_in;go_wp2_with fail;go_ret;exact ⟨aA (by simp [fH,H1.out,H2.out]),aQ _ _⟩
  ·have g2:((nK t:Int)==0)=false:=by simp;omega
   have H2:=aj h2;clear h2;go_in;go_wp2_with fail;go_ret;exact ⟨aA (by simp [fH,H1.out,H2.out]),aQ _ _⟩
 ·have g1:((nL t:Int)==0)=false:=by simp;omega
  have H1:=aj h1;clear h1;go_in;go_wp2_with fail;go_ret;exact ⟨aA (by simp [fH,H1.out]),aQ _ _⟩
theorem Tx (c:Nat) (l n:Int) (w:World) (hc:w.cell? ⟨c,0,none⟩=some (.int .i64 l)) (hz:w.frozen? ⟨c,0,none⟩=false) (l0:-1000000<=l) (l1:l<=1048576) (n0:0<=n) (n1:n<=1000000) :
  Calls Tryz.prog 75 #[.pointer (some ⟨c,0,none⟩),.int .i64 n] w fun e w'=>e=.returned (.bool (decide (n<=l)))/\w'=w.setCell ⟨c,0,none⟩ (.int .i64 (l - n)):=by
 go_in;go_wp2_with fail;go_ret;exact ⟨rfl,rfl⟩
def Tz:Nat->T->Prop
 | 0,_=>True
 | f+1,t=>(ah t=6->nK t=nL t)/\∀ i,i<nL t->Tz f (elt t i)
def kS (g:T->T->Int) (a b:T):Nat->Int
 | 0=>0
 | k+1=>if kS g a b k≠0 then kS g a b k else if ah a=6/\qX (bR a k) (bR b k)≠0 then qX (bR a k) (bR b k) else g (elt a k) (elt b k)
def uf (g:T->T->Int) (a b:T):Int:=if kS g a b (min (nL a) (nL b))≠0 then kS g a b (min (nL a) (nL b)) else kR (nL a) (nL b)
def TF:Nat->T->T->Int
 | 0,_,_=>0
 | f+1,a,b=>if ah a≠ah b then kR (ah a) (ah b) else if au a≠au b\/ay a≠ay b then kR (au a) (au b)+qX (ay a) (ay b) else uf (TF f) a b
def bS:Nat->T->T->Int
 | 0,_,_=>0
 | f+1,a,b=>if ah a≠ah b then kR (ah a) (ah b) else if ah a=2\/ah a=3 then kR (au a) (au b) else if ah a=4 then qX (ay a) (ay b) else if gL a=true then uf (bS f) a b else 0
theorem QA {g:T->T->Int} {a b:T} {j k:Nat} (h:j<=k) (hx:kS g a b j≠0):kS g a b k=kS g a b j:=by
 induction h with
 | refl=>rfl
 | step _ ih=>simp only [kS];rw [ih,if_pos hx]
theorem Dx {g:T->T->Int} {a b:T} {k:Nat} (h:kS g a b k=0):kS g a b (k+1)=if ah a=6/\qX (bR a k) (bR b k)≠0 then qX (bR a k) (bR b k) else g (elt a k) (elt b k):=by
 simp [kS,h]
theorem OZ {g:T->T->Int} (hg:∀ x y,-2<=g x y/\g x y<=2) (a b:T):∀ k,-2<=kS g a b k/\kS g a b k<=2
 | 0=>by simp [kS]
 | k+1=>by
  have h1:=OZ hg a b k;have h2:=zP (bR a k) (bR b k);have h3:=hg (elt a k) (elt b k);simp only [kS];split
  ·exact h1
  ·split
   ·omega
   ·exact h3
theorem O1 {g:T->T->Int} (hg:∀ x y,-2<=g x y/\g x y<=2) (a b:T):-2<=uf g a b/\uf g a b<=2:=by
 have h1:=OZ hg a b (min (nL a) (nL b));have h2:=vQ (nL a) (nL b);unfold uf;split<;>omega
theorem YF:∀ (f:Nat) (a b:T),-2<=TF f a b/\TF f a b<=2
 | 0,_,_=>by simp [TF]
 | f+1,a,b=>by
  have h1:=O1 (YF f) a b;have h2:=vQ (ah a) (ah b);have h3:=vQ (au a) (au b);have h4:=zP (ay a) (ay b);simp only [TF];split
  ·omega
  ·split<;>omega
theorem zT:∀ (f:Nat) (a b:T),-2<=bS f a b/\bS f a b<=2
 | 0,_,_=>by simp [bS]
 | f+1,a,b=>by
  have h1:=O1 (zT f) a b;have h2:=vQ (ah a) (ah b);have h3:=vQ (au a) (au b);have h4:=zP (ay a) (ay b);simp only [bS];split
  ·omega
  ·split
   ·omega
   ·split
    ·omega
    ·split<;>omega
theorem LW {w wr:World} {c0 c1 c2 c3 c4 d0 d1 d2 d3 d4:Value} (hb:Below (w.heap.size+2) ((w.alloc (.cells #[c0,c1,c2,c3,c4] 36)).alloc (.cells #[d0,d1,d2,d3,d4] 36)) wr) :
  (wr.cell? ⟨w.heap.size,0,none⟩=some c0/\wr.cell? ⟨w.heap.size,1,none⟩=some c1/\wr.cell? ⟨w.heap.size,2,none⟩=some c2/\wr.cell? ⟨w.heap.size,3,none⟩=some c3/\wr.cell? ⟨w.heap.size,4,none⟩=some c4) /\
  (wr.cell? ⟨w.heap.size+1,0,none⟩=some d0/\wr.cell? ⟨w.heap.size+1,1,none⟩=some d1/\wr.cell? ⟨w.heap.size+1,2,none⟩=some d2/\wr.cell? ⟨w.heap.size+1,3,none⟩=some d3/\wr.cell? ⟨w.heap.size+1,4,none⟩=some d4)/\w.heap.size+1<wr.heap.size/\Below w.heap.size w wr:=by
 have hz:=hb.size;refine ⟨⟨?_,?_,?_,?_,?_⟩,⟨?_,?_,?_,?_,?_⟩,by simp at hz;omega,((aQ _ _).alloc (by simp) _).trans (hb.mono (by omega))⟩
 all_goals (rw [hb.cell (p:=⟨_,_,none⟩) (by simp)];simp [go_sem])
theorem ak (w:World):Below w.heap.size w w.drew:=(Below.refl _ _).drew
def FN (f:Nat):Prop:=∀ (g:Nat) (va vb:Value) (a b:T) (w:World),At w f va a->At w g vb b->Tz f a->Tz f b ->
  Calls Tryz.prog 30 #[va,vb] w fun e w'=>e=.returned (.int .i64 (bS f a b))/\Below w.heap.size w w'
theorem xB {g:T->T->Int} {a b:T} {k:Nat} (h:min (nL a) (nL b)=k) (h0:kS g a b k=0):uf g a b=kR (nL a) (nL b):=by
 rw [uf,h,h0];rfl
theorem xC {g:T->T->Int} {a b:T} {k:Nat} {x:Int} (ha:k<nL a) (hb:k<nL b) (h:kS g a b (k+1)=x) (h0:x≠0):uf g a b=x:=by
 rw [uf,QA (j:=k+1) (by omega) (by rw [h];exact h0),h,if_pos h0]
theorem zl (f:Nat) (hc:FN f) (g:Nat) (La Ma:Option Addr) (Lc Mc:Nat) (a b:T) (w:World) (hl:bK w f La a) (hl':bK w g Ma b) (hlen:nL a<=1759218604442) (_hlen':nL b<=1759218604442)
  (k5:ah a≠6) (oka:∀ i,i<nL a->Tz f (elt a i)) (okb:∀ i,i<nL b->Tz f (elt b i)) :
  Calls Tryz.prog 51 #[.slice La (nL a) Lc,.slice Ma (nL b) Mc,.func (Fn.func 30) #[] #[]] w fun e w'=>e=.returned (.int .i64 (uf (bS f) a b))/\Below w.heap.size w w':=by
 have Hc:=aj hc;have Hl:=aj hl;have Hl':=aj hl';have K5:=aj k5;have Hoa:=aj oka;have Hob:=aj okb;clear hc hl hl' k5 oka okb;go_in;go_wp2_with fail;go_loopg [13] (nL a) (fun g i wr=>∃ k:Nat,g=nL a - k/\k<=nL a/\k<=nL b/\i=.int .i64 k/\Hid (kS (bS f) a b k=0)/\Hid (Below w.heap.size w wr))
 case atStart=>exact ⟨0,rfl,Nat.zero_le _,Nat.zero_le _,rfl,rfl,Below.refl _ _⟩
 case round =>
  obtain ⟨k,rfl,hka,hkb,rfl,HO,Hb⟩:=hrel;by_cases hlt:k<nL a
  ·obtain ⟨ba,oa,A,B,C,D,rfl,hba,p0,p1,p2,p3,p4,Ha⟩:=Hl.out.shape Hb.out k hlt;by_cases hlt':k<nL b
   ·obtain ⟨bb,ob,P,Q,R,S,rfl,hbb,t0,t1,t2,t3,t4,Hd⟩:=Hl'.out.shape Hb.out k hlt';have x1:(k:Int)<(nL a:Int):=by omega
    have x2:(k:Int)<(nL b:Int):=by omega
    have hsz:=Hb.out.size;have s1:ba<wr.heap.size:=by omega
    have s2:bb<wr.heap.size:=by omega
    have HB1:Hid (Below wr.heap.size wr ((wr.alloc (vC (elt a k) A B C D)).alloc (vC (elt b k) P Q R S))):=(aQ _ _).alloc (by simp) _;have bd:=zT f (elt a k) (elt b k);go_wp2_with fail;refine (Hc.out _ _ _ _ _ _ (Ha.out.keep (Hb.out.trans (HB1.out.mono hsz))) (Hd.out.keep (Hb.out.trans (HB1.out.mono hsz))) (Hoa.out k hlt) (Hob.out k hlt')).mono ?_;rintro e w2 ⟨rfl,hb2⟩;have HB2:=aj (Hb.out.trans ((HB1.out.trans (hb2.mono HB1.out.size)).mono hsz));clear hb2;have HS:=aj (Dx (g:=bS f) (b:=b) HO.out);generalize hx:bS f (elt a k) (elt b k)=x at bd ⊢;have HS2:Hid (kS (bS f) a b (k+1)=x):=by show _=_;rw [HS.out,if_neg (fun h=>K5.out h.1),hx]
    clear hx;by_cases hx0:x=0
    ·subst hx0;go_wp2_with fail;go_roundg (nL a - (k+1))
     case rel=>exact ⟨k+1,rfl,by omega,by omega,by go_num,HS2,HB2⟩
     case measure=>omega
    ·have ex:(x != 0)=true:=by simpa using hx0
     have HX:=aj hx0;clear hx0;go_wp2_with fail;go_ret;exact ⟨aR (xC hlt hlt' HS2.out HX.out).symm,HB2.out⟩
   ·have HE:=aj (xB (g:=bS f) (k:=k) (show min (nL a) (nL b)=k by omega) HO.out);have HE2:=aj (zN (show (nL b:Int)<(nL a:Int) by omega));have s1:ba<wr.heap.size:=by have:=Hb.out.size;omega
    go_wp2_with fail;go_ret;exact ⟨aR (by rw [HE.out,HE2.out]),Hb.out.trans ((aQ _ _).mono Hb.out.size)⟩
  ·have HE:=aj (xB (g:=bS f) (k:=k) (show min (nL a) (nL b)=k by omega) HO.out);by_cases h3:nL a<nL b
   ·have HE2:=aj (zM (show (nL a:Int)<(nL b:Int) by omega));go_wp2_with fail;go_ret;exact ⟨aR (by rw [HE.out,HE2.out]),Hb.out⟩
   ·have HE2:=aj (zO (show (nL b:Int)<=(nL a:Int) by omega) (show (nL a:Int)<=(nL b:Int) by omega));go_wp2_with fail;go_ret;exact ⟨aR (by rw [HE.out,HE2.out]),Hb.out⟩
theorem uU (f:Nat) (hc:FN f) (g:Nat) (va vb:Value) (a b:T) (w:World) (h:At w (f+1) va a) (h':At w g vb b) (ka:Tz (f+1) a) (kb:Tz (f+1) b) (k6:ah a=6) (k6b:ah b=6) :
  Calls Tryz.prog 52 #[va,vb] w fun e w'=>e=.returned (.int .i64 (uf (bS f) a b))/\Below w.heap.size w w':=by
 obtain ⟨f1,La,Ka,Lc,Kc,hf1,rfl,hf,hl,hk⟩:=h.open;obtain rfl:f=f1:=by omega
 obtain ⟨g1,Ma,Na,Mc,Nc,hg1,rfl,hf',hl',hk'⟩:=h'.open;have hlen:=hf.l1;have hlen':=hf'.l1;have HKa:=aj ka;have HKb:=aj kb;have K6:=aj k6;have K6b:=aj k6b;have LX:=aj hc;clear h h' hf hf' hf1 hg1 ka kb hc k6 k6b
 obtain ⟨M,HM,hMa,hMb,hcase⟩:∃ M:Nat,Hid (min (nL a) (nL b)=M)/\M<=nL a/\M<=nL b/\((nL a:Int)<=(nL b:Int)/\Hid (M=nL a)\/(nL b:Int)<(nL a:Int)/\Hid (M=nL b)):=by
  by_cases hh:nL a<=nL b
  ·exact ⟨nL a,by show min _ _=_;omega,by omega,by omega,Or.inl ⟨by omega,rfl⟩⟩
  ·exact ⟨nL b,by show min _ _=_;omega,by omega,by omega,Or.inr ⟨by omega,rfl⟩⟩
 rcases hcase with ⟨hcs,HMM⟩ | ⟨hcs,HMM⟩
 all_goals
  have hmm:=HMM.out;go_in;go_wp2_with fail;go_loopg [15] M (fun g i wr=>∃ k:Nat,g=M - k/\k<=M/\i=.int .i64 k/\Hid (kS (bS f) a b k=0)/\Below (w.heap.size+2) ((w.alloc (vC a La Lc Ka Kc)).alloc (vC b Ma Mc Na Nc)) wr)
  case atStart=>exact ⟨0,rfl,Nat.zero_le _,rfl,rfl,Below.refl _ _⟩
  case round =>
   obtain ⟨k,rfl,hkm,rfl,HO,hb⟩:=hrel;obtain ⟨⟨q0,q1,q2,q3,q4⟩,⟨r0,r1,r2,r3,r4⟩,hz,hbw⟩:=LW hb;have Hb:=aj hb;clear hb;have hz0:w.heap.size<wr.heap.size:=by omega
   by_cases hlt:k<M
   ·have TG:k<nL a:=by omega
    have TH:k<nL b:=by omega
    obtain ⟨ba,oa,c0,c1,c2,c3,c4,rfl,hba,p0,p1,p2,p3,p4,Ha⟩:=hl.out.keep hbw k TG;obtain ⟨bb,ob,d0,d1,d2,d3,d4,rfl,hbb,t0,t1,t2,t3,t4,Hc⟩:=hl'.out.keep hbw k TH;have x1:(k:Int)<(nL a:Int):=by omega
    have x2:(k:Int)<(nL b:Int):=by omega
    clear hmm;have HS:=aj (Dx (g:=bS f) (b:=b) HO.out);have na:k<nK a:=by rw [HKa.out.1 K6.out];exact TG
    have nb:k<nK b:=by rw [HKb.out.1 K6b.out];exact TH
    obtain ⟨ea,fa,rfl,hea,hsa,n0⟩:=hk.out.keep hbw k na;obtain ⟨eb,fb,rfl,heb,hsb,m0⟩:=hk'.out.keep hbw k nb;have x3:(k:Int)<(nK a:Int):=by omega
    have x4:(k:Int)<(nK b:Int):=by omega
    have bc:=zP (bR a k) (bR b k);go_wp2_with fail;go_quiet ((go_at_call 50;exact Calls.quiet_of_same (uz _ _ _)));generalize hcc:qX (bR a k) (bR b k)=c at bc ⊢;have HCC:=aj hcc;clear hcc;have FP:Hid (Below wr.heap.size wr (wr.drewN nq)):=below_drewN (Below.refl _ _) nq;generalize wr.drewN nq=wq at FP ⊢;have hzq:=FP.out.size;have y0:=(FP.out.cell (p:=⟨w.heap.size,3,none⟩) hz0).trans q3;have y1:=(FP.out.cell (p:=⟨w.heap.size+1,3,none⟩) hz).trans r3;have u0:=(FP.out.cell (p:=⟨ba,oa+k*5,none⟩) hba).trans p0;have u1:=(FP.out.cell (p:=⟨ba,oa+k*5+1,none⟩) hba).trans p1;have u2:=(FP.out.cell (p:=⟨ba,oa+k*5+2,none⟩) hba).trans p2;have u3:=(FP.out.cell (p:=⟨ba,oa+k*5+3,none⟩) hba).trans p3;have u4:=(FP.out.cell (p:=⟨ba,oa+k*5+4,none⟩) hba).trans p4;have v0:=(FP.out.cell (p:=⟨bb,ob+k*5,none⟩) hbb).trans t0;have v1:=(FP.out.cell (p:=⟨bb,ob+k*5+1,none⟩) hbb).trans t1;have v2:=(FP.out.cell (p:=⟨bb,ob+k*5+2,none⟩) hbb).trans t2;have v3:=(FP.out.cell (p:=⟨bb,ob+k*5+3,none⟩) hbb).trans t3;have v4:=(FP.out.cell (p:=⟨bb,ob+k*5+4,none⟩) hbb).trans t4;have aeE:=aj (Hb.out.trans (FP.out.mono (by omega)));have hz0':w.heap.size<wq.heap.size:=Nat.lt_of_lt_of_le hz0 hzq;have hz1':w.heap.size+1<wq.heap.size:=Nat.lt_of_lt_of_le hz hzq;have alj:ba<wq.heap.size:=Nat.lt_of_lt_of_le hba hzq;have alk:bb<wq.heap.size:=Nat.lt_of_lt_of_le hbb hzq;clear q0 q1 q2 q3 q4 r0 r1 r2 r3 r4 p0 p1 p2 p3 p4 t0 t1 t2 t3 t4 n0 m0;by_cases hc0:c=0
    ·subst hc0;have HC0:=HCC;go_wp2_with fail;have HA1:=aj (Ha.out.keep ((FP.out).trans ((ak wq).mono FP.out.size)));have HC1:=aj (Hc.out.keep ((FP.out).trans ((ak wq).mono FP.out.size)));have HOa:=aj (HKa.out.2 k TG);have HOb:=aj (HKb.out.2 k TH);have bd:=zT f (elt a k) (elt b k)
     have Yn:Hid (∀ wx:World,Below wq.drew.heap.size wq.drew wx->wx.cell? ⟨w.heap.size,3,none⟩=some (.slice (some ⟨ba,oa,none⟩) (nL a) Lc)/\wx.cell? ⟨w.heap.size+1,3,none⟩=some (.slice (some ⟨bb,ob,none⟩) (nL b) Mc)/\wx.cell? ⟨ba,oa+k*5,none⟩=some c0/\wx.cell? ⟨ba,oa+k*5+1,none⟩=some c1/\wx.cell? ⟨ba,oa+k*5+2,none⟩=some c2/\wx.cell? ⟨ba,oa+k*5+3,none⟩=some c3/\wx.cell? ⟨ba,oa+k*5+4,none⟩=some c4/\wx.cell? ⟨bb,ob+k*5,none⟩=some d0/\wx.cell? ⟨bb,ob+k*5+1,none⟩=some d1/\wx.cell? ⟨bb,ob+k*5+2,none⟩=some d2/\wx.cell? ⟨bb,ob+k*5+3,none⟩=some d3/\wx.cell? ⟨bb,ob+k*5+4,none⟩=some d4):=by
      intro wx hx;have hh:=(ak wq).trans hx;refine ⟨?_,?_,?_,?_,?_,?_,?_,?_,?_,?_,?_,?_⟩
      all_goals (rw [hh.cell (p:=⟨_,_,none⟩) (by first | assumption | omega)];assumption)
     go_region_held (fun wx=>wx.cell? ⟨w.heap.size,3,none⟩=some (.slice (some ⟨ba,oa,none⟩) (nL a) Lc)/\wx.cell? ⟨w.heap.size+1,3,none⟩=some (.slice (some ⟨bb,ob,none⟩) (nL b) Mc)/\wx.cell? ⟨ba,oa+k*5,none⟩=some c0/\wx.cell? ⟨ba,oa+k*5+1,none⟩=some c1/\wx.cell? ⟨ba,oa+k*5+2,none⟩=some c2/\wx.cell? ⟨ba,oa+k*5+3,none⟩=some c3/\wx.cell? ⟨ba,oa+k*5+4,none⟩=some c4/\wx.cell? ⟨bb,ob+k*5,none⟩=some d0/\wx.cell? ⟨bb,ob+k*5+1,none⟩=some d1/\wx.cell? ⟨bb,ob+k*5+2,none⟩=some d2/\wx.cell? ⟨bb,ob+k*5+3,none⟩=some d3/\wx.cell? ⟨bb,ob+k*5+4,none⟩=some d4) (go_keep) ((go_at_call 30;refine (LX.out _ _ _ _ _ _ HA1.out HC1.out HOa.out HOb.out).mono ?_;rintro e w2 ⟨rfl,hb2⟩;have hc2:=Yn.out _ hb2));have HB2:=aj (aeE.out.trans (((ak wq).trans hb2).mono (by omega)));clear hb2 hc2 HA1 HC1;generalize hx:bS f (elt a k) (elt b k)=x at bd ⊢;have HS2:Hid (kS (bS f) a b (k+1)=x):=by show _=_;rw [HS.out,if_neg (fun h=>h.2 HC0.out),hx]
     clear hx;by_cases hx0:x=0
     ·subst hx0;go_wp2_with fail;go_roundg (M - (k+1))
      case rel=>exact ⟨k+1,rfl,by omega,by go_num,HS2,HB2.out⟩
      case measure=>omega
     ·have ex:(x != 0)=true:=by simpa using hx0
      have HX:=aj hx0;clear hx0;go_wp2_with fail;go_ret;refine ⟨aR ?_,((aQ _ _).alloc (by simp) _).trans (HB2.out.mono (by omega))⟩;exact (xC TG TH HS2.out HX.out).symm
    ·have ex:(c != 0)=true:=by simpa using hc0
     have HX:=aj hc0;clear hc0;have HS2:Hid (kS (bS f) a b (k+1)=c):=by show _=_;rw [HS.out,HCC.out,if_pos ⟨K6.out,HX.out⟩]
     go_wp2_with fail;go_ret;refine ⟨aR ?_,((aQ _ _).alloc (by simp) _).trans (aeE.out.mono (by omega))⟩;exact (xC TG TH HS2.out HX.out).symm
   ·have HE:=aj (xB (g:=bS f) (k:=k) (by rw [HM.out];omega) HO.out);go_wp2_with fail;refine (Ah _ _ _).mono ?_;rintro e w2 ⟨rfl,rfl⟩;go_wp2_with fail;go_ret;exact ⟨aR (by rw [HE.out]),hbw⟩
theorem yJ (f:Nat):FN f:=by
 induction f with
 | zero=>intro g va vb a b w h;exact h.elim
 | succ f ih =>
  intro g va vb a b w h h' ka kb;have HA:=aj h;have HA':=aj h';obtain ⟨f1,La,Ka,Lc,Kc,hf1,rfl,hf,hl,hk⟩:=h.open;obtain rfl:f=f1:=by omega
  obtain ⟨g1,Ma,Na,Mc,Nc,hg1,rfl,hf',hl',hk'⟩:=h'.open;have hlen:=hf.l1;have hlen':=hf'.l1;have HKa:=aj ka;have HKb:=aj kb;have LX:=aj ih;have HB1:Hid (Below w.heap.size w ((w.alloc (vC a La Lc Ka Kc)).alloc (vC b Ma Mc Na Nc))):=(aQ _ _).alloc (by simp) _;clear h h' hf hf' hf1 hg1 ka kb ih hk hk';by_cases k1:ah a=ah b
  ·have e1:(ah a != ah b)=false:=by simp [k1]
   by_cases k0:ah a=2
   ·have HR:Hid (bS (f+1) a b=kR (au a) (au b)):=by show bS (f+1) a b=_;simp [bS,<- k1,k0]
    have g2:(ah a==2)=true:=by rw [k0];rfl
    have g3:(ah a==3)=false:=by rw [k0];rfl
    have g4:(ah a==4)=false:=by rw [k0];rfl
    have g5:(ah a==5)=false:=by rw [k0];rfl
    have g6:(ah a==6)=false:=by rw [k0];rfl
    clear k0 k1;go_in;go_wp2_with fail;refine (vR _ _ _).mono ?_;rintro e w2 ⟨rfl,rfl⟩;go_wp2_with fail;go_ret;exact ⟨aR (by rw [HR.out]),HB1.out⟩
   by_cases k0:ah a=3
   ·have HR:Hid (bS (f+1) a b=kR (au a) (au b)):=by show bS (f+1) a b=_;simp [bS,<- k1,k0]
    have g2:(ah a==2)=false:=by rw [k0];rfl
    have g3:(ah a==3)=true:=by rw [k0];rfl
    have g4:(ah a==4)=false:=by rw [k0];rfl
    have g5:(ah a==5)=false:=by rw [k0];rfl
    have g6:(ah a==6)=false:=by rw [k0];rfl
    clear k0 k1;go_in;go_wp2_with fail;refine (vR _ _ _).mono ?_;rintro e w2 ⟨rfl,rfl⟩;go_wp2_with fail;go_ret;exact ⟨aR (by rw [HR.out]),HB1.out⟩
   by_cases k0:ah a=4
   ·have HR:Hid (bS (f+1) a b=qX (ay a) (ay b)):=by show bS (f+1) a b=_;simp [bS,<- k1,k0]
    have g2:(ah a==2)=false:=by rw [k0];rfl
    have g3:(ah a==3)=false:=by rw [k0];rfl
    have g4:(ah a==4)=true:=by rw [k0];rfl
    have g5:(ah a==5)=false:=by rw [k0];rfl
    have g6:(ah a==6)=false:=by rw [k0];rfl
    clear k0 k1;go_in;go_wp2_with fail;refine (uz _ _ _).mono ?_;rintro e w2 ⟨rfl,rfl⟩;go_wp2_with fail;go_ret;exact ⟨aR (by rw [HR.out]),HB1.out⟩
   by_cases k0:ah a=5
   ·have HR:Hid (bS (f+1) a b=uf (bS f) a b):=by show bS (f+1) a b=_;simp [bS,<- k1,k0,gL]
    have g2:(ah a==2)=false:=by rw [k0];rfl
    have g3:(ah a==3)=false:=by rw [k0];rfl
    have g4:(ah a==4)=false:=by rw [k0];rfl
    have g5:(ah a==5)=true:=by rw [k0];rfl
    have g6:(ah a==6)=false:=by rw [k0];rfl
    have K5:Hid (ah a≠6):=by show ah a≠6;omega
    clear k0 k1;go_in;go_wp2_with fail;refine (zl f LX.out _ La Ma Lc Mc a b _ (hl.out.keep HB1.out) (hl'.out.keep HB1.out) hlen hlen' K5.out HKa.out.2 HKb.out.2).mono ?_;rintro e w2 ⟨rfl,hb2⟩;have HB2:=aj (HB1.out.trans (hb2.mono HB1.out.size));clear hb2;go_wp2_with fail;go_ret;exact ⟨aR (by rw [HR.out]),HB2.out⟩
   by_cases k0:ah a=6
   ·have HR:Hid (bS (f+1) a b=uf (bS f) a b):=by show bS (f+1) a b=_;simp [bS,<- k1,k0,gL]
    have g2:(ah a==2)=false:=by rw [k0];rfl
    have g3:(ah a==3)=false:=by rw [k0];rfl
    have g4:(ah a==4)=false:=by rw [k0];rfl
    have g5:(ah a==5)=false:=by rw [k0];rfl
    have g6:(ah a==6)=true:=by rw [k0];rfl
    have K6:=aj k0;have K6b:Hid (ah b=6):=by show ah b=6;omega
    clear k0 k1;go_in;go_wp2_with fail;refine (uU f LX.out _ _ _ a b _ (HA.out.keep HB1.out) (HA'.out.keep HB1.out) HKa.out HKb.out K6.out K6b.out).mono ?_;rintro e w2 ⟨rfl,hb2⟩;have HB2:=aj (HB1.out.trans (hb2.mono HB1.out.size));clear hb2;go_wp2_with fail;go_ret;exact ⟨aR (by rw [HR.out]),HB2.out⟩
   have HR:Hid (bS (f+1) a b=0):=by
    show bS (f+1) a b=_;simp only [bS,gL];rw [if_neg (by omega),if_neg (by omega),if_neg (by omega)];exact if_neg (by simp;omega)
   have g2:(ah a==2)=false:=by simp;omega
   have g3:(ah a==3)=false:=by simp;omega
   have g4:(ah a==4)=false:=by simp;omega
   have g5:(ah a==5)=false:=by simp;omega
   have g6:(ah a==6)=false:=by simp;omega
   clear k1;go_in;go_wp2_with fail;go_ret;exact ⟨aR (by rw [HR.out]),HB1.out⟩
  ·have e1:(ah a != ah b)=true:=by simpa using k1
   have HR:Hid (bS (f+1) a b=kR (ah a) (ah b)):=by show bS (f+1) a b=_;simp only [bS];rw [if_pos k1]
   clear k1;go_in;go_wp2_with fail;refine (Ah _ _ _).mono ?_;rintro e w2 ⟨rfl,rfl⟩;go_wp2_with fail;go_ret;exact ⟨aR (by rw [HR.out]),HB1.out⟩
end Go.Proofs.YtknakfpciccoaabGreatDoor
