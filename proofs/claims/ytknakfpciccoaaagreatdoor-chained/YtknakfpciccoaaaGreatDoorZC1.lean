import Derived.WalkKit
import Derived.Deep.Slices
import Derived.Test.YtknakfpciccoaaaGreatDoorProg
import Derived.WalkSpells
import Derived.WalkLawsBesides
import Derived.Deep.LoopGhost
import Derived.Maps.OwnSet
import Derived.Lib.ValidU
import Derived.BigQuiet
import Derived.Deep.QuietTactic
import Derived.Deep.RegionHeld
/- Values as trees, and what it means that one lies in memory. -/
set_option maxHeartbeats 2000000
set_option maxRecDepth 100000
namespace Go.Proofs.YtknakfpciccoaaaGreatDoor
open Go.RowKit
theorem ak {p:Prop} (h:p):Hid p:=h
abbrev T:=DataW Unit
def aav:T->ByteArray
 | .lit (.string s)=>⟨s.toArray⟩
 | _=>ByteArray.empty
def aj:T->Int
 | .agg [.lit (.int _ k),_,_,_,_]=>k
 | _=>0
def av:T->Int
 | .agg [_,.lit (.int _ k),_,_,_]=>k
 | _=>0
def ay:T->ByteArray
 | .agg [_,_,s,_,_]=>aav s
 | _=>ByteArray.empty
def lH:T->List T
 | .agg [_,_,_,.slice l _,_]=>l
 | _=>[]
def jZ:T->List ByteArray
 | .agg [_,_,_,_,.slice l _]=>l.map aav
 | _=>[]
def aO (k n:Int) (s:ByteArray) (l:List T) (ks:List ByteArray):T :=
 .agg [.lit (.int .i64 k),.lit (.int .i64 n),.lit (.string s.data.toList),.slice l [],.slice (ks.map fun s=>.lit (.string s.data.toList)) []]
theorem bg (k n:Int) (s:ByteArray) (l:List T) (ks:List ByteArray):aj (aO k n s l ks)=k:=rfl
theorem eP (k n:Int) (s:ByteArray) (l:List T) (ks:List ByteArray):av (aO k n s l ks)=n:=rfl
theorem gu (k n:Int) (s:ByteArray) (l:List T) (ks:List ByteArray):ay (aO k n s l ks)=s:=rfl
theorem rV (k n:Int) (s:ByteArray) (l:List T) (ks:List ByteArray):lH (aO k n s l ks)=l:=rfl
theorem qg (k n:Int) (s:ByteArray) (l:List T) (ks:List ByteArray):jZ (aO k n s l ks)=ks:=by
 simp only [jZ,aO,List.map_map]
 conv=>rhs;rw [<- List.map_id ks]
 exact List.map_congr_left fun x _=>rfl
def elt (t:T) (i:Nat):T:=(lH t).getD i .nil
def bO (t:T) (i:Nat):ByteArray:=(jZ t).getD i ByteArray.empty
def nL (t:T):Nat:=(lH t).length
def nK (t:T):Nat:=(jZ t).length
structure zI (t:T):Prop where
 k0:-9223372036854775808<=aj t
 k1:aj t<=9223372036854775807
 n0:-9223372036854775808<=av t
 n1:av t<=9223372036854775807
 s1:(ay t).size<=140737488355328
 l1:nL t<=1759218604442
 m1:nK t<=8796093022208
def jl (w:World) (Ka:Option Addr) (t:T):Prop :=
 ∀ i,i<nK t->∃ b o,Ka=some ⟨b,o,none⟩/\b<w.heap.size/\(bO t i).size<=140737488355328/\w.cell? ⟨b,o+i,none⟩=some (.string (bO t i))
def At (w:World):Nat->Value->T->Prop
 | 0,_,_=>False
 | f+1,v,t=>∃ (La Ka:Option Addr) (Lc Kc:Nat),
   v=.agg #[.int .i64 (aj t),.int .i64 (av t),.string (ay t),.slice La (nL t) Lc,.slice Ka (nK t) Kc]/\zI t /\
   (∀ i,i<nL t->∃ b o c0 c1 c2 c3 c4,La=some ⟨b,o,none⟩/\b<w.heap.size/\w.cell? ⟨b,o+i*5,none⟩=some c0/\w.cell? ⟨b,o+i*5+1,none⟩=some c1/\w.cell? ⟨b,o+i*5+2,none⟩=some c2/\w.cell? ⟨b,o+i*5+3,none⟩=some c3/\w.cell? ⟨b,o+i*5+4,none⟩=some c4/\At w f (.agg #[c0,c1,c2,c3,c4]) (elt t i)) /\
   jl w Ka t
def bJ (w:World) (f:Nat) (La:Option Addr) (t:T):Prop :=
 ∀ i,i<nL t->∃ b o c0 c1 c2 c3 c4,La=some ⟨b,o,none⟩/\b<w.heap.size/\w.cell? ⟨b,o+i*5,none⟩=some c0/\w.cell? ⟨b,o+i*5+1,none⟩=some c1/\w.cell? ⟨b,o+i*5+2,none⟩=some c2/\w.cell? ⟨b,o+i*5+3,none⟩=some c3/\w.cell? ⟨b,o+i*5+4,none⟩=some c4/\Hid (At w f (.agg #[c0,c1,c2,c3,c4]) (elt t i))
theorem jl.keep {w w':World} (h:Below w.heap.size w w') {Ka:Option Addr} {t:T} (hk:jl w Ka t):jl w' Ka t:=by
 intro i hi;obtain ⟨b,o,h0,hb,hs,q⟩:=hk i hi;exact ⟨b,o,h0,Nat.lt_of_lt_of_le hb h.size,hs,by rw [h.cell (p:=⟨b,_,none⟩) hb];exact q⟩
theorem At.keep {w w':World} (h:Below w.heap.size w w'):∀ {f:Nat} {v:Value} {t:T},At w f v t->At w' f v t:=by
 intro f
 induction f with
 | zero=>intro v t h;exact h
 | succ f ih =>
  rintro v t ⟨La,Ka,Lc,Kc,rfl,hf,hl,hk⟩;refine ⟨La,Ka,Lc,Kc,rfl,hf,fun i hi=>?_,hk.keep h⟩;obtain ⟨b,o,c0,c1,c2,c3,c4,h0,hb,q0,q1,q2,q3,q4,ha⟩:=hl i hi;refine ⟨b,o,c0,c1,c2,c3,c4,h0,Nat.lt_of_lt_of_le hb h.size,?_,?_,?_,?_,?_,ih ha⟩
  ·rw [h.cell (p:=⟨b,_,none⟩) hb];exact q0
  ·rw [h.cell (p:=⟨b,_,none⟩) hb];exact q1
  ·rw [h.cell (p:=⟨b,_,none⟩) hb];exact q2
  ·rw [h.cell (p:=⟨b,_,none⟩) hb];exact q3
  ·rw [h.cell (p:=⟨b,_,none⟩) hb];exact q4
theorem bJ.keep {w w':World} (h:Below w.heap.size w w') {f:Nat} {La:Option Addr} {t:T} (hl:bJ w f La t):bJ w' f La t:=by
 intro i hi;obtain ⟨b,o,c0,c1,c2,c3,c4,h0,hb,q0,q1,q2,q3,q4,ha⟩:=hl i hi;refine ⟨b,o,c0,c1,c2,c3,c4,h0,Nat.lt_of_lt_of_le hb h.size,?_,?_,?_,?_,?_,At.keep h ha⟩
 ·rw [h.cell (p:=⟨b,_,none⟩) hb];exact q0
 ·rw [h.cell (p:=⟨b,_,none⟩) hb];exact q1
 ·rw [h.cell (p:=⟨b,_,none⟩) hb];exact q2
 ·rw [h.cell (p:=⟨b,_,none⟩) hb];exact q3
 ·rw [h.cell (p:=⟨b,_,none⟩) hb];exact q4
theorem At.open {w:World} {f:Nat} {v:Value} {t:T} (h:At w f v t):∃ (g:Nat) (La Ka:Option Addr) (Lc Kc:Nat),f=g+1 /\
   v=.agg #[.int .i64 (aj t),.int .i64 (av t),.string (ay t),.slice La (nL t) Lc,.slice Ka (nK t) Kc]/\zI t/\Hid (bJ w g La t)/\Hid (jl w Ka t):=by
 cases f with
 | zero=>exact h.elim
 | succ f =>
  obtain ⟨La,Ka,Lc,Kc,rfl,hf,hl,hk⟩:=h;exact ⟨f,La,Ka,Lc,Kc,rfl,rfl,hf,hl,hk⟩
theorem dz {w wr:World} {c0 c1 c2 c3 c4:Value} (hb:Below (w.heap.size+1) (w.alloc (.cells #[c0,c1,c2,c3,c4] 25)) wr) :
  wr.cell? ⟨w.heap.size,0,none⟩=some c0/\wr.cell? ⟨w.heap.size,1,none⟩=some c1/\wr.cell? ⟨w.heap.size,2,none⟩=some c2/\wr.cell? ⟨w.heap.size,3,none⟩=some c3/\wr.cell? ⟨w.heap.size,4,none⟩=some c4/\w.heap.size<wr.heap.size/\Below w.heap.size w wr:=by
 have hz:=hb.size;refine ⟨?_,?_,?_,?_,?_,by simp at hz;omega,((Below.refl _ _).alloc (Nat.le_refl _) _).trans (hb.mono (by omega))⟩
 ·rw [hb.cell (p:=⟨_,_,none⟩) (by simp)];simp [go_sem]
 ·rw [hb.cell (p:=⟨_,_,none⟩) (by simp)];simp [go_sem]
 ·rw [hb.cell (p:=⟨_,_,none⟩) (by simp)];simp [go_sem]
 ·rw [hb.cell (p:=⟨_,_,none⟩) (by simp)];simp [go_sem]
 ·rw [hb.cell (p:=⟨_,_,none⟩) (by simp)];simp [go_sem]
theorem aQ {k:IntKind} {a b:Int} (h:a=b):Ending.returned (.int k a)=.returned (.int k b):=by rw [h]
theorem aB {a b:Bool} (h:a=b):Ending.returned (.bool a)=.returned (.bool b):=by rw [h]
def qR (f:T->Nat) (t:T):Nat->Nat
 | 0=>0
 | k+1=>max (qR f t k) (f (elt t k))
def gL (t:T):Bool:=aj t==5 || aj t==6
def dY:Nat->T->Nat
 | 0,_=>0
 | m+1,t=>if gL t then qR (dY m) t (nL t)+1 else 0
theorem I9 {f:T->Nat} {m:Nat} (h:∀ t,f t<=m) (t:T) (k:Nat):qR f t k<=m:=by
 induction k with
 | zero=>exact Nat.zero_le _
 | succ k ih=>have:=h (elt t k);simp only [qR];omega
theorem Ja:∀ (m:Nat) (t:T),dY m t<=m:=by
 intro m
 induction m with
 | zero=>intro t;exact Nat.le_refl _
 | succ m ih=>intro t;have:=I9 ih t (nL t);unfold dY;split<;>omega
def oC (a b:Int):Int:=if a<b then -1 else if b<a then 1 else 0
theorem Ac {a b:Int} (h:a<b):oC a b=-1:=by unfold oC;rw [if_pos h]
theorem Ad {a b:Int} (h:b<a):oC a b=1:=by unfold oC;rw [if_neg (by omega),if_pos h]
theorem Ae {a b:Int} (h1:b<=a) (h2:a<=b):oC a b=0:=by unfold oC;rw [if_neg (by omega),if_neg (by omega)]
def ru (a b:ByteArray):Int:=if Op.bytesLess a.toList b.toList=true then -1 else if (!Op.bytesLess a.toList b.toList&&!(a.toList==b.toList))=true then 1 else 0
theorem wh (a b:Int):-1<=oC a b/\oC a b<=1:=by unfold oC;split<;>(try split)<;>omega
theorem Af (a b:ByteArray):-1<=ru a b/\ru a b<=1:=by unfold ru;split<;>(try split)<;>omega
theorem Yy {a b:ByteArray} (h:Op.bytesLess a.toList b.toList=true):ru a b=-1:=by unfold ru;rw [if_pos h]
theorem Yz {a b:ByteArray} (h:Op.bytesLess a.toList b.toList=false) (h2:(!a.toList==b.toList)=true):ru a b=1:=by
 unfold ru;rw [if_neg (by simp [h]),if_pos (by simp [h];simpa using h2)]
theorem YA {a b:ByteArray} (h:Op.bytesLess a.toList b.toList=false) (h2:(!a.toList==b.toList)=false):ru a b=0:=by
 unfold ru;rw [if_neg (by simp [h]),if_neg (by simp [h];simpa using h2)]
def dw (f:T->Bool) (t:T):Nat->Bool
 | 0=>false
 | k+1=>dw f t k || f (elt t k)
def jD (f:T->Bool) (t:T):Nat->Bool
 | 0=>true
 | k+1=>jD f t k&&f (elt t k)
def qU (t:T) (i:Nat):Nat->Bool
 | 0=>false
 | k+1=>qU t i k || ((bO t i).toList==(bO t k).toList)
def iP (t:T):Nat->Bool
 | 0=>false
 | i+1=>iP t i || qU t i i
def dU:Nat->T->Bool
 | 0,_=>false
 | f+1,t=>iP t (nK t) || dw (dU f) t (nL t)
theorem QZ (f:T->Bool) (t:T) {j k:Nat} (h:j<=k) (hd:dw f t j=true):dw f t k=true:=by
 induction h with
 | refl=>exact hd
 | step _ ih=>simp [dw,ih]
theorem Ag {f:T->Bool} {t:T} {j k:Nat} (h:j<k) (hd:f (elt t j)=true):dw f t k=true :=
 QZ f t h (by simp [dw,hd])
theorem Q0 (f:T->Bool) (t:T) {j k:Nat} (h:j<=k) (hd:jD f t j=false):jD f t k=false:=by
 induction h with
 | refl=>exact hd
 | step _ ih=>simp [jD,ih]
theorem Pw {f:T->Bool} {t:T} {j k:Nat} (h:j<k) (hd:f (elt t j)=false):jD f t k=false :=
 Q0 f t h (by simp [jD,hd])
abbrev vC (t:T) (A:Option Addr) (b:Nat) (C:Option Addr) (d:Nat):Obj:=.cells #[.int .i64 (aj t),.int .i64 (av t),.string (ay t),.slice A (nL t) b,.slice C (nK t) d] 25
theorem aY (w:World) (a:Obj):Below w.heap.size w (w.alloc a):=(Below.refl _ _).alloc (Nat.le_refl _) _
end Go.Proofs.YtknakfpciccoaaaGreatDoor
/- A set of names: how many it holds, and whether one stands twice. -/
namespace Go.Proofs.YtknakfpciccoaaaGreatDoor
open Go.RowKit Go.Maps Go.WideMaps
def rW (t:T) (k:Nat):Lit:=.string (bO t k).data.toList
def kC (t:T) (k:Nat):List Lit:=(List.range k).map (rW t)
def Sn (t:T) (k:Nat):DataW Unit:=setOf (.agg []) (kC t k)
theorem yS (t:T) (k:Nat):kC t (k+1)=kC t k++[rW t k]:=by simp [kC,List.range_succ]
theorem YB (t:T) (k:Nat):Sn t (k+1)=(Sn t k).put (rW t k) (.agg []):=by unfold Sn;rw [yS,setOf_snoc]
theorem YC (t:T):Sn t 0=.map []:=by simp [Sn,kC,setOf]
theorem Px (t:T) (k:Nat):WideAt.IsKeyLit (rW t k):=by simp [rW,WideAt.IsKeyLit]
theorem nG (a b:ByteArray):a.data.toList=b.data.toList ↔ a=b:=by
 constructor
 ·intro h;cases a;cases b;simp at h;rw [h]
 ·intro h;rw [h]
theorem oD (a b:ByteArray):a.toList=b.toList ↔ a=b:=by
 rw [ByteArray.toList_eq,ByteArray.toList_eq];exact nG a b
theorem DZ (t:T) (i:Nat):∀ k,qU t i k=true ↔ ∃ j,j<k/\bO t i=bO t j
 | 0=>by simp [qU]
 | k+1=>by
  simp only [qU,Bool.or_eq_true,beq_iff_eq,oD,DZ t i k];constructor
  ·rintro (⟨j,hj,h⟩ | h)
   ·exact ⟨j,by omega,h⟩
   ·exact ⟨k,by omega,h⟩
  ·rintro ⟨j,hj,h⟩;by_cases e:j=k
   ·subst e;exact Or.inr h
   ·exact Or.inl ⟨j,by omega,h⟩
theorem xP (t:T):∀ k,((kC t k).foldl addKey []).length<=k/\(((kC t k).foldl addKey []).length=k ↔ iP t k=false)/\∀ x,((kC t k).foldl addKey []).any (fun y=>y.sameKey x)=true ↔ ∃ j,j<k/\(rW t j).sameKey x=true
 | 0=>by simp [kC,iP]
 | k+1=>by
  obtain ⟨h1,h2,h3⟩:=xP t k
  have hd:(((kC t k).foldl addKey []).any (fun y=>y.sameKey (rW t k))=true) ↔ qU t k k=true:=by
   rw [h3,DZ];constructor
   ·rintro ⟨j,hj,h⟩;refine ⟨j,hj,?_⟩;have:=(WideAt.sameKey_iff (Px t k)).1 h;simp only [rW,Lit.string.injEq] at this;exact ((nG _ _).1 this).symm
   ·rintro ⟨j,hj,h⟩;refine ⟨j,hj,(WideAt.sameKey_iff (Px t k)).2 ?_⟩;simp only [rW,h]
  rw [yS,List.foldl_append];simp only [List.foldl_cons,List.foldl_nil];generalize List.foldl addKey [] (kC t k)=L at *;unfold addKey;by_cases h:(L.any fun y=>y.sameKey (rW t k))=true
  ·rw [if_pos h];refine ⟨by omega,⟨fun e=>by omega,fun e=>?_⟩,fun x=>?_⟩
   ·simp only [iP,hd.1 h,Bool.or_true] at e;cases e
   ·rw [h3];constructor
    ·rintro ⟨j,hj,hs⟩;exact ⟨j,by omega,hs⟩
    ·rintro ⟨j,hj,hs⟩;by_cases e:j=k
     ·subst e;obtain ⟨i,hi,hh⟩:=(h3 _).1 h;refine ⟨i,hi,?_⟩;rw [(WideAt.sameKey_iff (Px t j)).1 hh];exact hs
     ·exact ⟨j,by omega,hs⟩
  ·rw [if_neg h]
   have hf:qU t k k=false:=by
    cases hc:qU t k k with
    | false=>rfl
    | true=>exact absurd (hd.2 hc) h
   refine ⟨by simp;omega,?_,fun x=>?_⟩
   ·simp only [List.length_append,List.length_singleton,iP,hf,Bool.or_false];rw [<- h2];omega
   ·rw [List.any_append,Bool.or_eq_true,h3];simp only [List.any_cons,List.any_nil,Bool.or_false];constructor
    ·rintro (⟨j,hj,hs⟩ | hs)
     ·exact ⟨j,by omega,hs⟩
     ·exact ⟨k,by omega,hs⟩
    ·rintro ⟨j,hj,hs⟩;by_cases e:j=k
     ·subst e;exact Or.inr hs
     ·exact Or.inl ⟨j,by omega,hs⟩
theorem YD (t:T) (k:Nat):Maps.size (Sn t k)<=k/\(Maps.size (Sn t k)=k ↔ iP t k=false):=by
 have e:Maps.size (Sn t k)=((kC t k).foldl addKey []).length:=size_setOf _ _ (by
  intro x hx;simp only [kC,List.mem_map] at hx;obtain ⟨j,_,rfl⟩:=hx;exact Px t j)
 rw [e];exact ⟨(xP t k).1,(xP t k).2.1⟩
structure bq (c:Nat) (w w':World):Prop where
 os:w'.os=w.os
 tape:w'.tape=w.tape
 output:w'.output=w.output
 size:w.heap.size<=w'.heap.size
 block:∀ k,k<w.heap.size->k≠c->w'.heap[k]?=w.heap[k]?
theorem bq.refl (c:Nat) (w:World):bq c w w:=⟨rfl,rfl,rfl,Nat.le_refl _,fun _ _ _=>rfl⟩
theorem bq.trans {c:Nat} {a b d:World} (h:bq c a b) (k:bq c b d):bq c a d :=
 ⟨k.os.trans h.os,k.tape.trans h.tape,k.output.trans h.output,Nat.le_trans h.size k.size,fun i hi hc=>(k.block i (Nat.lt_of_lt_of_le hi h.size) hc).trans (h.block i hi hc)⟩
theorem bq.of {c:Nat} {a b:World} (h:Below a.heap.size a b):bq c a b:=⟨h.os,h.tape,h.output,h.size,fun k hk _=>h.block k hk⟩
theorem bq.set (w:World) (c o:Nat) (u:Value):bq c w (w.setCell ⟨c,o,none⟩ u) :=
 ⟨rfl,rfl,rfl,by simp [World.setCell],fun k _ hc=>Below.heap_setCell _ _ _ _ (by simpa using hc)⟩
theorem bq.cell {c:Nat} {w w':World} (h:bq c w w') {p:Addr} (hp:p.block<w.heap.size) (hc:p.block≠c):w'.cell? p=w.cell? p:=World.cell?_of_block (w:=w) (h.block p.block hp hc)
theorem bq.below {c:Nat} {w w':World} (h:bq c w w') (hc:c<=w.heap.size):Below c w w' :=
 ⟨h.os,h.tape,h.output,h.size,fun k hk=>h.block k (by omega) (by omega)⟩
def aZ (n l:Int):Option Int:=if n<=l then some (l - n) else none
def Ah (s:ByteArray):Bool:=Lib.validD s.data.toList
def mF (s:ByteArray) (l:Int):Option Int:=if s.size<=4000/\(s.size:Int)<=l/\Ah s=true then some (l - s.size) else none
def jG (t:T):Nat->Int->Option Int
 | 0,l=>some l
 | k+1,l=>(jG t k l).bind fun x=>(aZ 2 x).bind (mF (bO t k))
def lI (t:T) (l:Int):Option Int:=(jG t (nK t) l).bind fun x=>if iP t (nK t)=true then none else some x
def dN (f:T->Int->Option Int) (t:T):Nat->Int->Option Int
 | 0,l=>some l
 | k+1,l=>(dN f t k l).bind (f (elt t k))
def fF (t:T):Bool:=decide (nL t=0)&&decide (nK t=0)
def bn (t:T):Bool:=(ay t).toList.isEmpty
def o8 (t:T) (l:Int):Option Int :=
 if aj t=1 then (if av t=0/\bn t=true/\fF t=true then aZ 1 l else none)
 else if aj t=2 then (if (av t=0\/av t=1)/\bn t=true/\fF t=true then aZ 2 l else none)
 else if aj t=3 then (if bn t=true/\fF t=true then aZ 9 l else none)
 else if aj t=4 then (if av t=0/\fF t=true then (aZ 5 l).bind (mF (ay t)) else none)
 else none
def aP:Nat->T->Int->Option Int
 | 0,t,l=>o8 t l
 | m+1,t,l =>
  if aj t=5 then (if av t=0/\bn t=true/\nK t=0 then (aZ 5 l).bind (dN (aP m) t (nL t)) else none)
  else if aj t=6 then (if av t=0/\bn t=true/\nK t=nL t then ((aZ 5 l).bind (lI t)).bind (dN (aP m) t (nL t)) else none)
  else o8 t l
theorem yT {t:T} {l:Int} {j k:Nat} (h:j<=k) (hx:jG t j l=none):jG t k l=none:=by
 induction h with
 | refl=>exact hx
 | step _ ih=>simp [jG,ih]
theorem F7 {f:T->Int->Option Int} {t:T} {l:Int} {j k:Nat} (h:j<=k) (hx:dN f t j l=none):dN f t k l=none:=by
 induction h with
 | refl=>exact hx
 | step _ ih=>simp [dN,ih]
structure gM (c:Nat) (l:Int) (w:World):Prop where
 cell:w.cell? ⟨c,0,none⟩=some (.int .i64 l)
 free:w.frozen? ⟨c,0,none⟩=false
 lt:c<w.heap.size
def iK (c:Nat) (w:World) (r:Option Int) (e:Ending) (w':World):Prop :=
 bq c w w'/\∃ l',gM c l' w'/\((r=some l'/\0<=l'/\l'<=1048576/\e=.returned (.bool true))\/(r=none/\e=.returned (.bool false)))
theorem gM.set {c:Nat} {l:Int} {w:World} (h:gM c l w) (x:Int):gM c x (w.setCell ⟨c,0,none⟩ (.int .i64 x))/\bq c w (w.setCell ⟨c,0,none⟩ (.int .i64 x)):=by
 refine ⟨⟨?_,?_,by simp [World.setCell];exact h.lt⟩,bq.set _ _ _ _⟩
 ·have:=h.cell;simp [go_sem,this]
 ·have:=h.free;simp [go_sem,this]
theorem gM.keep {c:Nat} {l:Int} {w w':World} (h:gM c l w) (hb:Below w.heap.size w w'):gM c l w' :=
 ⟨by rw [hb.cell (p:=⟨c,0,none⟩) h.lt];exact h.cell,by rw [hb.frozen (p:=⟨c,0,none⟩) h.lt];exact h.free,Nat.lt_of_lt_of_le h.lt hb.size⟩
theorem bJ.later {w w':World} (h:Below w.heap.size w w') {f:Nat} {La:Option Addr} {t:T} (hl:bJ w f La t) (i:Nat) (hi:i<nL t) :
  ∃ b o c0 c1 c2 c3 c4,La=some ⟨b,o,none⟩/\b<w.heap.size/\w'.cell? ⟨b,o+i*5,none⟩=some c0/\w'.cell? ⟨b,o+i*5+1,none⟩=some c1/\w'.cell? ⟨b,o+i*5+2,none⟩=some c2/\w'.cell? ⟨b,o+i*5+3,none⟩=some c3/\w'.cell? ⟨b,o+i*5+4,none⟩=some c4/\Hid (At w f (.agg #[c0,c1,c2,c3,c4]) (elt t i)):=by
 obtain ⟨b,o,c0,c1,c2,c3,c4,h0,hb,q0,q1,q2,q3,q4,ha⟩:=hl i hi;refine ⟨b,o,c0,c1,c2,c3,c4,h0,hb,?_,?_,?_,?_,?_,ha⟩
 ·rw [h.cell (p:=⟨b,_,none⟩) hb];exact q0
 ·rw [h.cell (p:=⟨b,_,none⟩) hb];exact q1
 ·rw [h.cell (p:=⟨b,_,none⟩) hb];exact q2
 ·rw [h.cell (p:=⟨b,_,none⟩) hb];exact q3
 ·rw [h.cell (p:=⟨b,_,none⟩) hb];exact q4
theorem bJ.shape {w w':World} (h:Below w.heap.size w w') {f:Nat} {La:Option Addr} {t:T} (hl:bJ w f La t) (i:Nat) (hi:i<nL t) :
  ∃ b o A B C D,La=some ⟨b,o,none⟩/\b<w.heap.size/\w'.cell? ⟨b,o+i*5,none⟩=some (.int .i64 (aj (elt t i)))/\w'.cell? ⟨b,o+i*5+1,none⟩=some (.int .i64 (av (elt t i)))/\w'.cell? ⟨b,o+i*5+2,none⟩=some (.string (ay (elt t i)))/\w'.cell? ⟨b,o+i*5+3,none⟩=some (.slice A (nL (elt t i)) B)/\w'.cell? ⟨b,o+i*5+4,none⟩=some (.slice C (nK (elt t i)) D) /\
   Hid (At w f (.agg #[.int .i64 (aj (elt t i)),.int .i64 (av (elt t i)),.string (ay (elt t i)),.slice A (nL (elt t i)) B,.slice C (nK (elt t i)) D]) (elt t i)):=by
 obtain ⟨b,o,c0,c1,c2,c3,c4,h0,hb,q0,q1,q2,q3,q4,ha⟩:=hl.later h i hi;obtain ⟨g,A,C,B,D,_,hv,_⟩:=ha.out.open;simp only [Value.agg.injEq,Array.mk.injEq,List.cons.injEq,and_true] at hv;obtain ⟨rfl,rfl,rfl,rfl,rfl⟩:=hv;exact ⟨b,o,A,B,C,D,h0,hb,q0,q1,q2,q3,q4,ha⟩
theorem Ai {c:Nat} {w wr:World} {c0 c1 c2 c3 c4:Value} (hc:c<w.heap.size) (hb:bq c (w.alloc (.cells #[c0,c1,c2,c3,c4] 25)) wr) :
  wr.cell? ⟨w.heap.size,0,none⟩=some c0/\wr.cell? ⟨w.heap.size,1,none⟩=some c1/\wr.cell? ⟨w.heap.size,2,none⟩=some c2/\wr.cell? ⟨w.heap.size,3,none⟩=some c3/\wr.cell? ⟨w.heap.size,4,none⟩=some c4/\w.heap.size<wr.heap.size:=by
 have hz:=hb.size;refine ⟨?_,?_,?_,?_,?_,by simp at hz;omega⟩
 ·rw [hb.cell (p:=⟨_,_,none⟩) (by simp) (by show w.heap.size≠c;omega)];simp [go_sem]
 ·rw [hb.cell (p:=⟨_,_,none⟩) (by simp) (by show w.heap.size≠c;omega)];simp [go_sem]
 ·rw [hb.cell (p:=⟨_,_,none⟩) (by simp) (by show w.heap.size≠c;omega)];simp [go_sem]
 ·rw [hb.cell (p:=⟨_,_,none⟩) (by simp) (by show w.heap.size≠c;omega)];simp [go_sem]
 ·rw [hb.cell (p:=⟨_,_,none⟩) (by simp) (by show w.heap.size≠c;omega)];simp [go_sem]
def gy (t:T):Nat->Bool
 | 0=>true
 | k+1=>gy t k&&(Ah (bO t k)&&decide ((bO t k).size<=4000))
def D5 (t:T):Bool:=(decide (aj t=2\/aj t=3\/av t=0)&&decide (aj t=4\/bn t=true))&&(decide (aj t=6\/nK t=0)&&decide (aj t=6\/aj t=5\/nL t=0))
def AP (t:T):Bool:=if aj t=1\/aj t=3\/aj t=5 then true else if aj t=2 then decide (av t=0\/av t=1) else if aj t=4 then Ah (ay t)&&decide ((ay t).size<=4000) else if aj t=6 then decide (nK t=nL t)&&gy t (nK t) else false
theorem AQ (a b:Int) (w:World) :
  Calls Tryz.prog 103 #[.int .i64 a,.int .i64 b] w fun e w'=>e=.returned (.int .i64 (oC a b))/\w'=w:=by
 go_in;go_wp2
 all_goals (go_ret;refine ⟨?_,rfl⟩)
 ·exact aQ (Ac (by assumption)).symm
 ·exact aQ (Ad (by assumption)).symm
 ·exact aQ (Ae (by assumption) (by assumption)).symm
theorem wm (a b:Int) (w:World) :
  Calls Tryz.prog 104 #[.int .i64 a,.int .i64 b] w fun e w'=>e=.returned (.int .i64 (oC a b))/\w'=w:=by
 go_in;go_wp2
 all_goals (go_ret;refine ⟨?_,rfl⟩)
 ·exact aQ (Ac (by assumption)).symm
 ·exact aQ (Ad (by assumption)).symm
 ·exact aQ (Ae (by assumption) (by assumption)).symm
theorem uP (a b:ByteArray) (w:World) :
  Calls Tryz.prog 105 #[.string a,.string b] w fun e w'=>e=.returned (.int .i64 (ru a b))/\w'=w:=by
 go_in;go_wp2
 all_goals (go_ret;refine ⟨?_,rfl⟩)
 ·exact aQ (Yy (by assumption)).symm
 ·exact aQ (Yz (by assumption) (by assumption)).symm
 ·exact aQ (YA (by assumption) (by assumption)).symm
theorem jH (f:Nat) (v:Value) (t:T) (w:World) (h:At w f v t) :
  Calls Tryz.prog 120 #[v] w fun e w'=>e=.returned (.bool (fF t))/\Below w.heap.size w w':=by
 obtain ⟨f,La,Ka,Lc,Kc,rfl,rfl,hf,hl,hk⟩:=h.open;clear h hf hl hk;by_cases h1:nL t=0
 ·have g1:((nL t:Int)==0)=true:=by simp [h1]
  have H1:=ak h1;clear h1;by_cases h2:nK t=0
  ·have g2:((nK t:Int)==0)=true:=by simp [h2]
   have H2:=ak h2;clear h2;go_in;go_wp2_with fail;go_ret;exact ⟨aB (by simp [fF,H1.out,H2.out]),aY _ _⟩
  ·have g2:((nK t:Int)==0)=false:=by simp;omega
   have H2:=ak h2;clear h2;go_in;go_wp2_with fail;go_ret;exact ⟨aB (by simp [fF,H1.out,H2.out]),aY _ _⟩
 ·have g1:((nL t:Int)==0)=false:=by simp;omega
  have H1:=ak h1;clear h1;go_in;go_wp2_with fail;go_ret;exact ⟨aB (by simp [fF,H1.out]),aY _ _⟩
theorem Uc (c:Nat) (l n:Int) (w:World) (hc:w.cell? ⟨c,0,none⟩=some (.int .i64 l)) (hz:w.frozen? ⟨c,0,none⟩=false) (l0:-1000000<=l) (l1:l<=1048576) (n0:0<=n) (n1:n<=1000000) :
  Calls Tryz.prog 121 #[.pointer (some ⟨c,0,none⟩),.int .i64 n] w fun e w'=>e=.returned (.bool (decide (n<=l)))/\w'=w.setCell ⟨c,0,none⟩ (.int .i64 (l - n)):=by
 go_in;go_wp2_with fail;go_ret;exact ⟨rfl,rfl⟩
def Ud:Nat->T->Prop
 | 0,_=>True
 | f+1,t=>(aj t=6->nK t=nL t)/\∀ i,i<nL t->Ud f (elt t i)
def kP (g:T->T->Int) (a b:T):Nat->Int
 | 0=>0
 | k+1=>if kP g a b k≠0 then kP g a b k else if aj a=6/\ru (bO a k) (bO b k)≠0 then ru (bO a k) (bO b k) else g (elt a k) (elt b k)
def uG (g:T->T->Int) (a b:T):Int:=if kP g a b (min (nL a) (nL b))≠0 then kP g a b (min (nL a) (nL b)) else oC (nL a) (nL b)
def Ue:Nat->T->T->Int
 | 0,_,_=>0
 | f+1,a,b=>if aj a≠aj b then oC (aj a) (aj b) else if av a≠av b\/ay a≠ay b then oC (av a) (av b)+ru (ay a) (ay b) else uG (Ue f) a b
def bQ:Nat->T->T->Int
 | 0,_,_=>0
 | f+1,a,b=>if aj a≠aj b then oC (aj a) (aj b) else if aj a=2\/aj a=3 then oC (av a) (av b) else if aj a=4 then ru (ay a) (ay b) else if gL a=true then uG (bQ f) a b else 0
theorem Q5 {g:T->T->Int} {a b:T} {j k:Nat} (h:j<=k) (hx:kP g a b j≠0):kP g a b k=kP g a b j:=by
 induction h with
 | refl=>rfl
 | step _ ih=>simp only [kP];rw [ih,if_pos hx]
theorem D6 {g:T->T->Int} {a b:T} {k:Nat} (h:kP g a b k=0):kP g a b (k+1)=if aj a=6/\ru (bO a k) (bO b k)≠0 then ru (bO a k) (bO b k) else g (elt a k) (elt b k):=by
 simp [kP,h]
theorem Py {g:T->T->Int} (hg:∀ x y,-2<=g x y/\g x y<=2) (a b:T):∀ k,-2<=kP g a b k/\kP g a b k<=2
 | 0=>by simp [kP]
 | k+1=>by
  have h1:=Py hg a b k;have h2:=Af (bO a k) (bO b k);have h3:=hg (elt a k) (elt b k);simp only [kP];split
  ·exact h1
  ·split
   ·omega
   ·exact h3
theorem Pz {g:T->T->Int} (hg:∀ x y,-2<=g x y/\g x y<=2) (a b:T):-2<=uG g a b/\uG g a b<=2:=by
 have h1:=Py hg a b (min (nL a) (nL b));have h2:=wh (nL a) (nL b);unfold uG;split<;>omega
theorem YE:∀ (f:Nat) (a b:T),-2<=Ue f a b/\Ue f a b<=2
 | 0,_,_=>by simp [Ue]
 | f+1,a,b=>by
  have h1:=Pz (YE f) a b;have h2:=wh (aj a) (aj b);have h3:=wh (av a) (av b);have h4:=Af (ay a) (ay b);simp only [Ue];split
  ·omega
  ·split<;>omega
theorem Aj:∀ (f:Nat) (a b:T),-2<=bQ f a b/\bQ f a b<=2
 | 0,_,_=>by simp [bQ]
 | f+1,a,b=>by
  have h1:=Pz (Aj f) a b;have h2:=wh (aj a) (aj b);have h3:=wh (av a) (av b);have h4:=Af (ay a) (ay b);simp only [bQ];split
  ·omega
  ·split
   ·omega
   ·split
    ·omega
    ·split<;>omega
theorem ME {w wr:World} {c0 c1 c2 c3 c4 d0 d1 d2 d3 d4:Value} (hb:Below (w.heap.size+2) ((w.alloc (.cells #[c0,c1,c2,c3,c4] 25)).alloc (.cells #[d0,d1,d2,d3,d4] 25)) wr) :
  (wr.cell? ⟨w.heap.size,0,none⟩=some c0/\wr.cell? ⟨w.heap.size,1,none⟩=some c1/\wr.cell? ⟨w.heap.size,2,none⟩=some c2/\wr.cell? ⟨w.heap.size,3,none⟩=some c3/\wr.cell? ⟨w.heap.size,4,none⟩=some c4) /\
  (wr.cell? ⟨w.heap.size+1,0,none⟩=some d0/\wr.cell? ⟨w.heap.size+1,1,none⟩=some d1/\wr.cell? ⟨w.heap.size+1,2,none⟩=some d2/\wr.cell? ⟨w.heap.size+1,3,none⟩=some d3/\wr.cell? ⟨w.heap.size+1,4,none⟩=some d4)/\w.heap.size+1<wr.heap.size/\Below w.heap.size w wr:=by
 have hz:=hb.size;refine ⟨⟨?_,?_,?_,?_,?_⟩,⟨?_,?_,?_,?_,?_⟩,by simp at hz;omega,((aY _ _).alloc (by simp) _).trans (hb.mono (by omega))⟩
 all_goals (rw [hb.cell (p:=⟨_,_,none⟩) (by simp)];simp [go_sem])
theorem au (w:World):Below w.heap.size w w.drew:=(Below.refl _ _).drew
def F8 (f:Nat):Prop:=∀ (g:Nat) (va vb:Value) (a b:T) (w:World),At w f va a->At w g vb b->Ud f a->Ud f b ->
  Calls Tryz.prog 58 #[va,vb] w fun e w'=>e=.returned (.int .i64 (bQ f a b))/\Below w.heap.size w w'
theorem xQ {g:T->T->Int} {a b:T} {k:Nat} (h:min (nL a) (nL b)=k) (h0:kP g a b k=0):uG g a b=oC (nL a) (nL b):=by
 rw [uG,h,h0];rfl
theorem xR {g:T->T->Int} {a b:T} {k:Nat} {x:Int} (ha:k<nL a) (hb:k<nL b) (h:kP g a b (k+1)=x) (h0:x≠0):uG g a b=x:=by
 rw [uG,Q5 (j:=k+1) (by omega) (by rw [h];exact h0),h,if_pos h0]
theorem zJ (f:Nat) (hc:F8 f) (g:Nat) (La Ma:Option Addr) (Lc Mc:Nat) (a b:T) (w:World) (hl:bJ w f La a) (hl':bJ w g Ma b) (hlen:nL a<=1759218604442) (_hlen':nL b<=1759218604442)
  (k5:aj a≠6) (oka:∀ i,i<nL a->Ud f (elt a i)) (okb:∀ i,i<nL b->Ud f (elt b i)) :
  Calls Tryz.prog 106 #[.slice La (nL a) Lc,.slice Ma (nL b) Mc,.func (Fn.func 58) #[] #[]] w fun e w'=>e=.returned (.int .i64 (uG (bQ f) a b))/\Below w.heap.size w w':=by
 have Hc:=ak hc;have Hl:=ak hl;have Hl':=ak hl';have K5:=ak k5;have Hoa:=ak oka;have Hob:=ak okb;clear hc hl hl' k5 oka okb;go_in;go_wp2_with fail;go_loopg [13] (nL a) (fun g i wr=>∃ k:Nat,g=nL a - k/\k<=nL a/\k<=nL b/\i=.int .i64 k/\Hid (kP (bQ f) a b k=0)/\Hid (Below w.heap.size w wr))
 case atStart=>exact ⟨0,rfl,Nat.zero_le _,Nat.zero_le _,rfl,rfl,Below.refl _ _⟩
 case round =>
  obtain ⟨k,rfl,hka,hkb,rfl,HO,Hb⟩:=hrel;by_cases hlt:k<nL a
  ·obtain ⟨ba,oa,A,B,C,D,rfl,hba,p0,p1,p2,p3,p4,Ha⟩:=Hl.out.shape Hb.out k hlt;by_cases hlt':k<nL b
   ·obtain ⟨bb,ob,P,Q,R,S,rfl,hbb,t0,t1,t2,t3,t4,Hd⟩:=Hl'.out.shape Hb.out k hlt';have x1:(k:Int)<(nL a:Int):=by omega
    have x2:(k:Int)<(nL b:Int):=by omega
    have hsz:=Hb.out.size;have s1:ba<wr.heap.size:=by omega
    have s2:bb<wr.heap.size:=by omega
    have HB1:Hid (Below wr.heap.size wr ((wr.alloc (vC (elt a k) A B C D)).alloc (vC (elt b k) P Q R S))):=(aY _ _).alloc (by simp) _;have bd:=Aj f (elt a k) (elt b k);go_wp2_with fail;refine (Hc.out _ _ _ _ _ _ (Ha.out.keep (Hb.out.trans (HB1.out.mono hsz))) (Hd.out.keep (Hb.out.trans (HB1.out.mono hsz))) (Hoa.out k hlt) (Hob.out k hlt')).mono ?_;rintro e w2 ⟨rfl,hb2⟩;have HB2:=ak (Hb.out.trans ((HB1.out.trans (hb2.mono HB1.out.size)).mono hsz));clear hb2;have HS:=ak (D6 (g:=bQ f) (b:=b) HO.out);generalize hx:bQ f (elt a k) (elt b k)=x at bd ⊢;have HS2:Hid (kP (bQ f) a b (k+1)=x):=by show _=_;rw [HS.out,if_neg (fun h=>K5.out h.1),hx]
    clear hx;by_cases hx0:x=0
    ·subst hx0;go_wp2_with fail;go_roundg (nL a - (k+1))
     case rel=>exact ⟨k+1,rfl,by omega,by omega,by go_num,HS2,HB2⟩
     case measure=>omega
    ·have ex:(x != 0)=true:=by simpa using hx0
     have HX:=ak hx0;clear hx0;go_wp2_with fail;go_ret;exact ⟨aQ (xR hlt hlt' HS2.out HX.out).symm,HB2.out⟩
   ·have HE:=ak (xQ (g:=bQ f) (k:=k) (show min (nL a) (nL b)=k by omega) HO.out);have HE2:=ak (Ad (show (nL b:Int)<(nL a:Int) by omega));have s1:ba<wr.heap.size:=by have:=Hb.out.size;omega
    go_wp2_with fail;go_ret;exact ⟨aQ (by rw [HE.out,HE2.out]),Hb.out.trans ((aY _ _).mono Hb.out.size)⟩
  ·have HE:=ak (xQ (g:=bQ f) (k:=k) (show min (nL a) (nL b)=k by omega) HO.out);by_cases h3:nL a<nL b
   ·have HE2:=ak (Ac (show (nL a:Int)<(nL b:Int) by omega));go_wp2_with fail;go_ret;exact ⟨aQ (by rw [HE.out,HE2.out]),Hb.out⟩
   ·have HE2:=ak (Ae (show (nL b:Int)<=(nL a:Int) by omega) (show (nL a:Int)<=(nL b:Int) by omega));go_wp2_with fail;go_ret;exact ⟨aQ (by rw [HE.out,HE2.out]),Hb.out⟩
theorem vF (f:Nat) (hc:F8 f) (g:Nat) (va vb:Value) (a b:T) (w:World) (h:At w (f+1) va a) (h':At w g vb b) (ka:Ud (f+1) a) (kb:Ud (f+1) b) (k6:aj a=6) (k6b:aj b=6) :
  Calls Tryz.prog 107 #[va,vb] w fun e w'=>e=.returned (.int .i64 (uG (bQ f) a b))/\Below w.heap.size w w':=by
 obtain ⟨f1,La,Ka,Lc,Kc,hf1,rfl,hf,hl,hk⟩:=h.open;obtain rfl:f=f1:=by omega
 obtain ⟨g1,Ma,Na,Mc,Nc,hg1,rfl,hf',hl',hk'⟩:=h'.open;have hlen:=hf.l1;have hlen':=hf'.l1;have HKa:=ak ka;have HKb:=ak kb;have K6:=ak k6;have K6b:=ak k6b;have MF:=ak hc;clear h h' hf hf' hf1 hg1 ka kb hc k6 k6b
 obtain ⟨M,HM,hMa,hMb,hcase⟩:∃ M:Nat,Hid (min (nL a) (nL b)=M)/\M<=nL a/\M<=nL b/\((nL a:Int)<=(nL b:Int)/\Hid (M=nL a)\/(nL b:Int)<(nL a:Int)/\Hid (M=nL b)):=by
  by_cases hh:nL a<=nL b
  ·exact ⟨nL a,by show min _ _=_;omega,by omega,by omega,Or.inl ⟨by omega,rfl⟩⟩
  ·exact ⟨nL b,by show min _ _=_;omega,by omega,by omega,Or.inr ⟨by omega,rfl⟩⟩
 rcases hcase with ⟨hcs,HMM⟩ | ⟨hcs,HMM⟩
 all_goals
  have hmm:=HMM.out;go_in;go_wp2_with fail;go_loopg [15] M (fun g i wr=>∃ k:Nat,g=M - k/\k<=M/\i=.int .i64 k/\Hid (kP (bQ f) a b k=0)/\Below (w.heap.size+2) ((w.alloc (vC a La Lc Ka Kc)).alloc (vC b Ma Mc Na Nc)) wr)
  case atStart=>exact ⟨0,rfl,Nat.zero_le _,rfl,rfl,Below.refl _ _⟩
  case round =>
   obtain ⟨k,rfl,hkm,rfl,HO,hb⟩:=hrel;obtain ⟨⟨q0,q1,q2,q3,q4⟩,⟨r0,r1,r2,r3,r4⟩,hz,hbw⟩:=ME hb;have Hb:=ak hb;clear hb;have hz0:w.heap.size<wr.heap.size:=by omega
   by_cases hlt:k<M
   ·have Uf:k<nL a:=by omega
    have Ug:k<nL b:=by omega
    obtain ⟨ba,oa,c0,c1,c2,c3,c4,rfl,hba,p0,p1,p2,p3,p4,Ha⟩:=hl.out.keep hbw k Uf;obtain ⟨bb,ob,d0,d1,d2,d3,d4,rfl,hbb,t0,t1,t2,t3,t4,Hc⟩:=hl'.out.keep hbw k Ug;have x1:(k:Int)<(nL a:Int):=by omega
    have x2:(k:Int)<(nL b:Int):=by omega
    clear hmm;have HS:=ak (D6 (g:=bQ f) (b:=b) HO.out);have na:k<nK a:=by rw [HKa.out.1 K6.out];exact Uf
    have nb:k<nK b:=by rw [HKb.out.1 K6b.out];exact Ug
    obtain ⟨ea,fa,rfl,hea,hsa,n0⟩:=hk.out.keep hbw k na;obtain ⟨eb,fb,rfl,heb,hsb,m0⟩:=hk'.out.keep hbw k nb;have x3:(k:Int)<(nK a:Int):=by omega
    have x4:(k:Int)<(nK b:Int):=by omega
    have bc:=Af (bO a k) (bO b k);go_wp2_with fail;go_quiet ((go_at_call 105;exact Calls.quiet_of_same (uP _ _ _)));generalize hcc:ru (bO a k) (bO b k)=c at bc ⊢;have HCC:=ak hcc;clear hcc;have F9:Hid (Below wr.heap.size wr (wr.drewN nq)):=below_drewN (Below.refl _ _) nq;generalize wr.drewN nq=wq at F9 ⊢;have hzq:=F9.out.size;have y0:=(F9.out.cell (p:=⟨w.heap.size,3,none⟩) hz0).trans q3;have y1:=(F9.out.cell (p:=⟨w.heap.size+1,3,none⟩) hz).trans r3;have u0:=(F9.out.cell (p:=⟨ba,oa+k*5,none⟩) hba).trans p0;have u1:=(F9.out.cell (p:=⟨ba,oa+k*5+1,none⟩) hba).trans p1;have u2:=(F9.out.cell (p:=⟨ba,oa+k*5+2,none⟩) hba).trans p2;have u3:=(F9.out.cell (p:=⟨ba,oa+k*5+3,none⟩) hba).trans p3;have u4:=(F9.out.cell (p:=⟨ba,oa+k*5+4,none⟩) hba).trans p4;have v0:=(F9.out.cell (p:=⟨bb,ob+k*5,none⟩) hbb).trans t0;have v1:=(F9.out.cell (p:=⟨bb,ob+k*5+1,none⟩) hbb).trans t1;have v2:=(F9.out.cell (p:=⟨bb,ob+k*5+2,none⟩) hbb).trans t2;have v3:=(F9.out.cell (p:=⟨bb,ob+k*5+3,none⟩) hbb).trans t3;have v4:=(F9.out.cell (p:=⟨bb,ob+k*5+4,none⟩) hbb).trans t4;have aeh:=ak (Hb.out.trans (F9.out.mono (by omega)));have hz0':w.heap.size<wq.heap.size:=Nat.lt_of_lt_of_le hz0 hzq;have hz1':w.heap.size+1<wq.heap.size:=Nat.lt_of_lt_of_le hz hzq;have ak0:ba<wq.heap.size:=Nat.lt_of_lt_of_le hba hzq;have ak1:bb<wq.heap.size:=Nat.lt_of_lt_of_le hbb hzq;clear q0 q1 q2 q3 q4 r0 r1 r2 r3 r4 p0 p1 p2 p3 p4 t0 t1 t2 t3 t4 n0 m0;by_cases hc0:c=0
    ·subst hc0;have HC0:=HCC;go_wp2_with fail;have HA1:=ak (Ha.out.keep ((F9.out).trans ((au wq).mono F9.out.size)));have HC1:=ak (Hc.out.keep ((F9.out).trans ((au wq).mono F9.out.size)));have HOa:=ak (HKa.out.2 k Uf);have HOb:=ak (HKb.out.2 k Ug);have bd:=Aj f (elt a k) (elt b k)
     have Yn:Hid (∀ wx:World,Below wq.drew.heap.size wq.drew wx->wx.cell? ⟨w.heap.size,3,none⟩=some (.slice (some ⟨ba,oa,none⟩) (nL a) Lc)/\wx.cell? ⟨w.heap.size+1,3,none⟩=some (.slice (some ⟨bb,ob,none⟩) (nL b) Mc)/\wx.cell? ⟨ba,oa+k*5,none⟩=some c0/\wx.cell? ⟨ba,oa+k*5+1,none⟩=some c1/\wx.cell? ⟨ba,oa+k*5+2,none⟩=some c2/\wx.cell? ⟨ba,oa+k*5+3,none⟩=some c3/\wx.cell? ⟨ba,oa+k*5+4,none⟩=some c4/\wx.cell? ⟨bb,ob+k*5,none⟩=some d0/\wx.cell? ⟨bb,ob+k*5+1,none⟩=some d1/\wx.cell? ⟨bb,ob+k*5+2,none⟩=some d2/\wx.cell? ⟨bb,ob+k*5+3,none⟩=some d3/\wx.cell? ⟨bb,ob+k*5+4,none⟩=some d4):=by
      intro wx hx;have hh:=(au wq).trans hx;refine ⟨?_,?_,?_,?_,?_,?_,?_,?_,?_,?_,?_,?_⟩
      all_goals (rw [hh.cell (p:=⟨_,_,none⟩) (by first | assumption | omega)];assumption)
     go_region_held (fun wx=>wx.cell? ⟨w.heap.size,3,none⟩=some (.slice (some ⟨ba,oa,none⟩) (nL a) Lc)/\wx.cell? ⟨w.heap.size+1,3,none⟩=some (.slice (some ⟨bb,ob,none⟩) (nL b) Mc)/\wx.cell? ⟨ba,oa+k*5,none⟩=some c0/\wx.cell? ⟨ba,oa+k*5+1,none⟩=some c1/\wx.cell? ⟨ba,oa+k*5+2,none⟩=some c2/\wx.cell? ⟨ba,oa+k*5+3,none⟩=some c3/\wx.cell? ⟨ba,oa+k*5+4,none⟩=some c4/\wx.cell? ⟨bb,ob+k*5,none⟩=some d0/\wx.cell? ⟨bb,ob+k*5+1,none⟩=some d1/\wx.cell? ⟨bb,ob+k*5+2,none⟩=some d2/\wx.cell? ⟨bb,ob+k*5+3,none⟩=some d3/\wx.cell? ⟨bb,ob+k*5+4,none⟩=some d4) (go_keep) ((go_at_call 58;refine (MF.out _ _ _ _ _ _ HA1.out HC1.out HOa.out HOb.out).mono ?_;rintro e w2 ⟨rfl,hb2⟩;have hc2:=Yn.out _ hb2));have HB2:=ak (aeh.out.trans (((au wq).trans hb2).mono (by omega)));clear hb2 hc2 HA1 HC1;generalize hx:bQ f (elt a k) (elt b k)=x at bd ⊢;have HS2:Hid (kP (bQ f) a b (k+1)=x):=by show _=_;rw [HS.out,if_neg (fun h=>h.2 HC0.out),hx]
     clear hx;by_cases hx0:x=0
     ·subst hx0;go_wp2_with fail;go_roundg (M - (k+1))
      case rel=>exact ⟨k+1,rfl,by omega,by go_num,HS2,HB2.out⟩
      case measure=>omega
     ·have ex:(x != 0)=true:=by simpa using hx0
      have HX:=ak hx0;clear hx0;go_wp2_with fail;go_ret;refine ⟨aQ ?_,((aY _ _).alloc (by simp) _).trans (HB2.out.mono (by omega))⟩;exact (xR Uf Ug HS2.out HX.out).symm
    ·have ex:(c != 0)=true:=by simpa using hc0
     have HX:=ak hc0;clear hc0;have HS2:Hid (kP (bQ f) a b (k+1)=c):=by show _=_;rw [HS.out,HCC.out,if_pos ⟨K6.out,HX.out⟩]
     go_wp2_with fail;go_ret;refine ⟨aQ ?_,((aY _ _).alloc (by simp) _).trans (aeh.out.mono (by omega))⟩;exact (xR Uf Ug HS2.out HX.out).symm
   ·have HE:=ak (xQ (g:=bQ f) (k:=k) (by rw [HM.out];omega) HO.out);go_wp2_with fail;refine (AQ _ _ _).mono ?_;rintro e w2 ⟨rfl,rfl⟩;go_wp2_with fail;go_ret;exact ⟨aQ (by rw [HE.out]),hbw⟩
theorem yU (f:Nat):F8 f:=by
 induction f with
 | zero=>intro g va vb a b w h;exact h.elim
 | succ f ih =>
  intro g va vb a b w h h' ka kb;have HA:=ak h;have HA':=ak h';obtain ⟨f1,La,Ka,Lc,Kc,hf1,rfl,hf,hl,hk⟩:=h.open;obtain rfl:f=f1:=by omega
  obtain ⟨g1,Ma,Na,Mc,Nc,hg1,rfl,hf',hl',hk'⟩:=h'.open;have hlen:=hf.l1;have hlen':=hf'.l1;have HKa:=ak ka;have HKb:=ak kb;have MF:=ak ih;have HB1:Hid (Below w.heap.size w ((w.alloc (vC a La Lc Ka Kc)).alloc (vC b Ma Mc Na Nc))):=(aY _ _).alloc (by simp) _;clear h h' hf hf' hf1 hg1 ka kb ih hk hk';by_cases k1:aj a=aj b
  ·have e1:(aj a != aj b)=false:=by simp [k1]
   by_cases k0:aj a=2
   ·have HR:Hid (bQ (f+1) a b=oC (av a) (av b)):=by show bQ (f+1) a b=_;simp [bQ,<- k1,k0]
    have g2:(aj a==2)=true:=by rw [k0];rfl
    have g3:(aj a==3)=false:=by rw [k0];rfl
    have g4:(aj a==4)=false:=by rw [k0];rfl
    have g5:(aj a==5)=false:=by rw [k0];rfl
    have g6:(aj a==6)=false:=by rw [k0];rfl
    clear k0 k1;go_in;go_wp2_with fail;refine (wm _ _ _).mono ?_;rintro e w2 ⟨rfl,rfl⟩;go_wp2_with fail;go_ret;exact ⟨aQ (by rw [HR.out]),HB1.out⟩
   by_cases k0:aj a=3
   ·have HR:Hid (bQ (f+1) a b=oC (av a) (av b)):=by show bQ (f+1) a b=_;simp [bQ,<- k1,k0]
    have g2:(aj a==2)=false:=by rw [k0];rfl
    have g3:(aj a==3)=true:=by rw [k0];rfl
    have g4:(aj a==4)=false:=by rw [k0];rfl
    have g5:(aj a==5)=false:=by rw [k0];rfl
    have g6:(aj a==6)=false:=by rw [k0];rfl
    clear k0 k1;go_in;go_wp2_with fail;refine (wm _ _ _).mono ?_;rintro e w2 ⟨rfl,rfl⟩;go_wp2_with fail;go_ret;exact ⟨aQ (by rw [HR.out]),HB1.out⟩
   by_cases k0:aj a=4
   ·have HR:Hid (bQ (f+1) a b=ru (ay a) (ay b)):=by show bQ (f+1) a b=_;simp [bQ,<- k1,k0]
    have g2:(aj a==2)=false:=by rw [k0];rfl
    have g3:(aj a==3)=false:=by rw [k0];rfl
    have g4:(aj a==4)=true:=by rw [k0];rfl
    have g5:(aj a==5)=false:=by rw [k0];rfl
    have g6:(aj a==6)=false:=by rw [k0];rfl
    clear k0 k1;go_in;go_wp2_with fail;refine (uP _ _ _).mono ?_;rintro e w2 ⟨rfl,rfl⟩;go_wp2_with fail;go_ret;exact ⟨aQ (by rw [HR.out]),HB1.out⟩
   by_cases k0:aj a=5
   ·have HR:Hid (bQ (f+1) a b=uG (bQ f) a b):=by show bQ (f+1) a b=_;simp [bQ,<- k1,k0,gL]
    have g2:(aj a==2)=false:=by rw [k0];rfl
    have g3:(aj a==3)=false:=by rw [k0];rfl
    have g4:(aj a==4)=false:=by rw [k0];rfl
    have g5:(aj a==5)=true:=by rw [k0];rfl
    have g6:(aj a==6)=false:=by rw [k0];rfl
    have K5:Hid (aj a≠6):=by show aj a≠6;omega
    clear k0 k1;go_in;go_wp2_with fail;refine (zJ f MF.out _ La Ma Lc Mc a b _ (hl.out.keep HB1.out) (hl'.out.keep HB1.out) hlen hlen' K5.out HKa.out.2 HKb.out.2).mono ?_;rintro e w2 ⟨rfl,hb2⟩;have HB2:=ak (HB1.out.trans (hb2.mono HB1.out.size));clear hb2;go_wp2_with fail;go_ret;exact ⟨aQ (by rw [HR.out]),HB2.out⟩
   by_cases k0:aj a=6
   ·have HR:Hid (bQ (f+1) a b=uG (bQ f) a b):=by show bQ (f+1) a b=_;simp [bQ,<- k1,k0,gL]
    have g2:(aj a==2)=false:=by rw [k0];rfl
    have g3:(aj a==3)=false:=by rw [k0];rfl
    have g4:(aj a==4)=false:=by rw [k0];rfl
    have g5:(aj a==5)=false:=by rw [k0];rfl
    have g6:(aj a==6)=true:=by rw [k0];rfl
    have K6:=ak k0;have K6b:Hid (aj b=6):=by show aj b=6;omega
    clear k0 k1;go_in;go_wp2_with fail;refine (vF f MF.out _ _ _ a b _ (HA.out.keep HB1.out) (HA'.out.keep HB1.out) HKa.out HKb.out K6.out K6b.out).mono ?_;rintro e w2 ⟨rfl,hb2⟩;have HB2:=ak (HB1.out.trans (hb2.mono HB1.out.size));clear hb2;go_wp2_with fail;go_ret;exact ⟨aQ (by rw [HR.out]),HB2.out⟩
   have HR:Hid (bQ (f+1) a b=0):=by
    show bQ (f+1) a b=_;simp only [bQ,gL];rw [if_neg (by omega),if_neg (by omega),if_neg (by omega)];exact if_neg (by simp;omega)
   have g2:(aj a==2)=false:=by simp;omega
   have g3:(aj a==3)=false:=by simp;omega
   have g4:(aj a==4)=false:=by simp;omega
   have g5:(aj a==5)=false:=by simp;omega
   have g6:(aj a==6)=false:=by simp;omega
   clear k1;go_in;go_wp2_with fail;go_ret;exact ⟨aQ (by rw [HR.out]),HB1.out⟩
  ·have e1:(aj a != aj b)=true:=by simpa using k1
   have HR:Hid (bQ (f+1) a b=oC (aj a) (aj b)):=by show bQ (f+1) a b=_;simp only [bQ];rw [if_pos k1]
   clear k1;go_in;go_wp2_with fail;refine (AQ _ _ _).mono ?_;rintro e w2 ⟨rfl,rfl⟩;go_wp2_with fail;go_ret;exact ⟨aQ (by rw [HR.out]),HB1.out⟩
end Go.Proofs.YtknakfpciccoaaaGreatDoor
