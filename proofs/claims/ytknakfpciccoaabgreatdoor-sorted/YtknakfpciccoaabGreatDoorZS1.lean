import Derived.WalkKit
import Derived.Deep.Slices
import Derived.Test.YtknakfpciccoaabGreatDoorProg
import Derived.WalkSpells
import Derived.WalkLawsBesides
import Derived.Deep.LoopGhost
import Derived.Maps.OwnSet
import Derived.Lib.ValidU
import Derived.BigQuiet
import Derived.Deep.QuietTactic
import Derived.Deep.RegionHeld
/- Values as trees, and what it means that one lies in memory. -/
namespace Go.Proofs.YtknakfpciccoaabGreatDoor
open Go.RowKit
theorem hid {p:Prop} (h:p):Hid p:=h
abbrev T:=DataW Unit
def strOf:T→ByteArray
 | .lit (.string s)=>⟨s.toArray⟩
 | _=>ByteArray.empty
def kindOf:T→Int
 | .agg [.lit (.int _ k),_,_,_,_]=>k
 | _=>0
def nOf:T→Int
 | .agg [_,.lit (.int _ k),_,_,_]=>k
 | _=>0
def sOf:T→ByteArray
 | .agg [_,_,s,_,_]=>strOf s
 | _=>ByteArray.empty
def lOf:T→List T
 | .agg [_,_,_,.slice l _,_]=>l
 | _=>[]
def kOf:T→List ByteArray
 | .agg [_,_,_,_,.slice l _]=>l.map strOf
 | _=>[]
def mkT (k n:Int) (s:ByteArray) (l:List T) (ks:List ByteArray):T :=
 .agg [.lit (.int .i64 k),.lit (.int .i64 n),.lit (.string s.data.toList),.slice l [],.slice (ks.map fun s=>.lit (.string s.data.toList)) []]
theorem kindOf_mk (k n:Int) (s:ByteArray) (l:List T) (ks:List ByteArray):kindOf (mkT k n s l ks)=k:=rfl
theorem nOf_mk (k n:Int) (s:ByteArray) (l:List T) (ks:List ByteArray):nOf (mkT k n s l ks)=n:=rfl
theorem sOf_mk (k n:Int) (s:ByteArray) (l:List T) (ks:List ByteArray):sOf (mkT k n s l ks)=s:=rfl
theorem lOf_mk (k n:Int) (s:ByteArray) (l:List T) (ks:List ByteArray):lOf (mkT k n s l ks)=l:=rfl
theorem kOf_mk (k n:Int) (s:ByteArray) (l:List T) (ks:List ByteArray):kOf (mkT k n s l ks)=ks:=by
 simp only [kOf,mkT,List.map_map]
 conv=>rhs;rw [← List.map_id ks]
 exact List.map_congr_left fun x _=>rfl
def elt (t:T) (i:Nat):T:=(lOf t).getD i .nil
def nam (t:T) (i:Nat):ByteArray:=(kOf t).getD i ByteArray.empty
def nL (t:T):Nat:=(lOf t).length
def nK (t:T):Nat:=(kOf t).length
structure Fits (t:T):Prop where
 k0:-9223372036854775808≤kindOf t
 k1:kindOf t≤9223372036854775807
 n0:-9223372036854775808≤nOf t
 n1:nOf t≤9223372036854775807
 s1:(sOf t).size≤140737488355328
 l1:nL t≤1759218604442
 m1:nK t≤8796093022208
def NamesAt (w:World) (Ka:Option Addr) (t:T):Prop :=
 ∀ i,i<nK t→∃ b o,Ka=some ⟨b,o,none⟩∧b<w.heap.size∧(nam t i).size≤140737488355328∧w.cell? ⟨b,o+i,none⟩=some (.string (nam t i))
def At (w:World):Nat→Value→T→Prop
 | 0,_,_=>False
 | f+1,v,t=>∃ (La Ka:Option Addr) (Lc Kc:Nat),
   v=.agg #[.int .i64 (kindOf t),.int .i64 (nOf t),.string (sOf t),.slice La (nL t) Lc,.slice Ka (nK t) Kc]∧Fits t ∧
   (∀ i,i<nL t→∃ b o c0 c1 c2 c3 c4,La=some ⟨b,o,none⟩∧b<w.heap.size∧w.cell? ⟨b,o+i*5,none⟩=some c0∧w.cell? ⟨b,o+i*5+1,none⟩=some c1∧w.cell? ⟨b,o+i*5+2,none⟩=some c2∧w.cell? ⟨b,o+i*5+3,none⟩=some c3∧w.cell? ⟨b,o+i*5+4,none⟩=some c4∧At w f (.agg #[c0,c1,c2,c3,c4]) (elt t i)) ∧
   NamesAt w Ka t
def ElemsAt (w:World) (f:Nat) (La:Option Addr) (t:T):Prop :=
 ∀ i,i<nL t→∃ b o c0 c1 c2 c3 c4,La=some ⟨b,o,none⟩∧b<w.heap.size∧w.cell? ⟨b,o+i*5,none⟩=some c0∧w.cell? ⟨b,o+i*5+1,none⟩=some c1∧w.cell? ⟨b,o+i*5+2,none⟩=some c2∧w.cell? ⟨b,o+i*5+3,none⟩=some c3∧w.cell? ⟨b,o+i*5+4,none⟩=some c4∧Hid (At w f (.agg #[c0,c1,c2,c3,c4]) (elt t i))
theorem NamesAt.keep {w w':World} (h:Below w.heap.size w w') {Ka:Option Addr} {t:T} (hk:NamesAt w Ka t):NamesAt w' Ka t:=by
 intro i hi
 obtain ⟨b,o,h0,hb,hs,q⟩:=hk i hi
 exact ⟨b,o,h0,Nat.lt_of_lt_of_le hb h.size,hs,by rw [h.cell (p:=⟨b,_,none⟩) hb];exact q⟩
theorem At.keep {w w':World} (h:Below w.heap.size w w'):∀ {f:Nat} {v:Value} {t:T},At w f v t→At w' f v t:=by
 intro f
 induction f with
 | zero=>intro v t h;exact h
 | succ f ih =>
  rintro v t ⟨La,Ka,Lc,Kc,rfl,hf,hl,hk⟩
  refine ⟨La,Ka,Lc,Kc,rfl,hf,fun i hi=>?_,hk.keep h⟩
  obtain ⟨b,o,c0,c1,c2,c3,c4,h0,hb,q0,q1,q2,q3,q4,ha⟩:=hl i hi
  refine ⟨b,o,c0,c1,c2,c3,c4,h0,Nat.lt_of_lt_of_le hb h.size,?_,?_,?_,?_,?_,ih ha⟩
  ·rw [h.cell (p:=⟨b,_,none⟩) hb];exact q0
  ·rw [h.cell (p:=⟨b,_,none⟩) hb];exact q1
  ·rw [h.cell (p:=⟨b,_,none⟩) hb];exact q2
  ·rw [h.cell (p:=⟨b,_,none⟩) hb];exact q3
  ·rw [h.cell (p:=⟨b,_,none⟩) hb];exact q4
theorem ElemsAt.keep {w w':World} (h:Below w.heap.size w w') {f:Nat} {La:Option Addr} {t:T} (hl:ElemsAt w f La t):ElemsAt w' f La t:=by
 intro i hi
 obtain ⟨b,o,c0,c1,c2,c3,c4,h0,hb,q0,q1,q2,q3,q4,ha⟩:=hl i hi
 refine ⟨b,o,c0,c1,c2,c3,c4,h0,Nat.lt_of_lt_of_le hb h.size,?_,?_,?_,?_,?_,At.keep h ha⟩
 ·rw [h.cell (p:=⟨b,_,none⟩) hb];exact q0
 ·rw [h.cell (p:=⟨b,_,none⟩) hb];exact q1
 ·rw [h.cell (p:=⟨b,_,none⟩) hb];exact q2
 ·rw [h.cell (p:=⟨b,_,none⟩) hb];exact q3
 ·rw [h.cell (p:=⟨b,_,none⟩) hb];exact q4
theorem At.open {w:World} {f:Nat} {v:Value} {t:T} (h:At w f v t):∃ (g:Nat) (La Ka:Option Addr) (Lc Kc:Nat),f=g+1 ∧
   v=.agg #[.int .i64 (kindOf t),.int .i64 (nOf t),.string (sOf t),.slice La (nL t) Lc,.slice Ka (nK t) Kc]∧Fits t∧Hid (ElemsAt w g La t)∧Hid (NamesAt w Ka t):=by
 cases f with
 | zero=>exact h.elim
 | succ f =>
  obtain ⟨La,Ka,Lc,Kc,rfl,hf,hl,hk⟩:=h
  exact ⟨f,La,Ka,Lc,Kc,rfl,rfl,hf,hl,hk⟩
theorem box_facts {w wr:World} {c0 c1 c2 c3 c4:Value} (hb:Below (w.heap.size+1) (w.alloc (.cells #[c0,c1,c2,c3,c4] 36)) wr) :
  wr.cell? ⟨w.heap.size,0,none⟩=some c0∧wr.cell? ⟨w.heap.size,1,none⟩=some c1∧wr.cell? ⟨w.heap.size,2,none⟩=some c2∧wr.cell? ⟨w.heap.size,3,none⟩=some c3∧wr.cell? ⟨w.heap.size,4,none⟩=some c4∧w.heap.size<wr.heap.size∧Below w.heap.size w wr:=by
 have hz:=hb.size
 refine ⟨?_,?_,?_,?_,?_,by simp at hz;omega,((Below.refl _ _).alloc (Nat.le_refl _) _).trans (hb.mono (by omega))⟩
 ·rw [hb.cell (p:=⟨_,_,none⟩) (by simp)];simp [go_sem]
 ·rw [hb.cell (p:=⟨_,_,none⟩) (by simp)];simp [go_sem]
 ·rw [hb.cell (p:=⟨_,_,none⟩) (by simp)];simp [go_sem]
 ·rw [hb.cell (p:=⟨_,_,none⟩) (by simp)];simp [go_sem]
 ·rw [hb.cell (p:=⟨_,_,none⟩) (by simp)];simp [go_sem]
theorem ret_int {k:IntKind} {a b:Int} (h:a=b):Ending.returned (.int k a)=.returned (.int k b):=by rw [h]
theorem ret_bool {a b:Bool} (h:a=b):Ending.returned (.bool a)=.returned (.bool b):=by rw [h]
def deepL (f:T→Nat) (t:T):Nat→Nat
 | 0=>0
 | k+1=>max (deepL f t k) (f (elt t k))
def isBox (t:T):Bool:=kindOf t==5 || kindOf t==6
def deepT:Nat→T→Nat
 | 0,_=>0
 | m+1,t=>if isBox t then deepL (deepT m) t (nL t)+1 else 0
theorem deepL_le {f:T→Nat} {m:Nat} (h:∀ t,f t≤m) (t:T) (k:Nat):deepL f t k≤m:=by
 induction k with
 | zero=>exact Nat.zero_le _
 | succ k ih=>have:=h (elt t k);simp only [deepL];omega
theorem deepT_le:∀ (m:Nat) (t:T),deepT m t≤m:=by
 intro m
 induction m with
 | zero=>intro t;exact Nat.le_refl _
 | succ m ih=>intro t;have:=deepL_le ih t (nL t);unfold deepT;split<;>omega
def cmpI (a b:Int):Int:=if a<b then -1 else if b<a then 1 else 0
theorem cmpI_lt {a b:Int} (h:a<b):cmpI a b=-1:=by unfold cmpI;rw [if_pos h]
theorem cmpI_gt {a b:Int} (h:b<a):cmpI a b=1:=by unfold cmpI;rw [if_neg (by omega),if_pos h]
theorem cmpI_eq {a b:Int} (h1:b≤a) (h2:a≤b):cmpI a b=0:=by unfold cmpI;rw [if_neg (by omega),if_neg (by omega)]
def cmpS (a b:ByteArray):Int:=if Op.bytesLess a.toList b.toList=true then -1 else if (!Op.bytesLess a.toList b.toList&&!(a.toList==b.toList))=true then 1 else 0
theorem cmpI_bd (a b:Int):-1≤cmpI a b∧cmpI a b≤1:=by unfold cmpI;split<;>(try split)<;>omega
theorem cmpS_bd (a b:ByteArray):-1≤cmpS a b∧cmpS a b≤1:=by unfold cmpS;split<;>(try split)<;>omega
theorem cmpS_lt {a b:ByteArray} (h:Op.bytesLess a.toList b.toList=true):cmpS a b=-1:=by unfold cmpS;rw [if_pos h]
theorem cmpS_gt {a b:ByteArray} (h:Op.bytesLess a.toList b.toList=false) (h2:(!a.toList==b.toList)=true):cmpS a b=1:=by
 unfold cmpS;rw [if_neg (by simp [h]),if_pos (by simp [h];simpa using h2)]
theorem cmpS_eq {a b:ByteArray} (h:Op.bytesLess a.toList b.toList=false) (h2:(!a.toList==b.toList)=false):cmpS a b=0:=by
 unfold cmpS;rw [if_neg (by simp [h]),if_neg (by simp [h];simpa using h2)]
def anyL (f:T→Bool) (t:T):Nat→Bool
 | 0=>false
 | k+1=>anyL f t k || f (elt t k)
def allL (f:T→Bool) (t:T):Nat→Bool
 | 0=>true
 | k+1=>allL f t k&&f (elt t k)
def dupIn (t:T) (i:Nat):Nat→Bool
 | 0=>false
 | k+1=>dupIn t i k || ((nam t i).toList==(nam t k).toList)
def dupTo (t:T):Nat→Bool
 | 0=>false
 | i+1=>dupTo t i || dupIn t i i
def twiceT:Nat→T→Bool
 | 0,_=>false
 | f+1,t=>dupTo t (nK t) || anyL (twiceT f) t (nL t)
theorem anyL_mono (f:T→Bool) (t:T) {j k:Nat} (h:j≤k) (hd:anyL f t j=true):anyL f t k=true:=by
 induction h with
 | refl=>exact hd
 | step _ ih=>simp [anyL,ih]
theorem anyL_at {f:T→Bool} {t:T} {j k:Nat} (h:j<k) (hd:f (elt t j)=true):anyL f t k=true :=
 anyL_mono f t h (by simp [anyL,hd])
theorem allL_mono (f:T→Bool) (t:T) {j k:Nat} (h:j≤k) (hd:allL f t j=false):allL f t k=false:=by
 induction h with
 | refl=>exact hd
 | step _ ih=>simp [allL,ih]
theorem allL_at {f:T→Bool} {t:T} {j k:Nat} (h:j<k) (hd:f (elt t j)=false):allL f t k=false :=
 allL_mono f t h (by simp [allL,hd])
end Go.Proofs.YtknakfpciccoaabGreatDoor
/- The walks of sheafref.numbers and its kin: what each returns. -/
namespace Go.Proofs.YtknakfpciccoaabGreatDoor
open Go.RowKit
end Go.Proofs.YtknakfpciccoaabGreatDoor
/- A set of names: how many it holds, and whether one stands twice. -/
namespace Go.Proofs.YtknakfpciccoaabGreatDoor
open Go.RowKit Go.Maps Go.WideMaps
def keyAt (t:T) (k:Nat):Lit:=.string (nam t k).data.toList
def keysTo (t:T) (k:Nat):List Lit:=(List.range k).map (keyAt t)
def Sn (t:T) (k:Nat):DataW Unit:=setOf (.agg []) (keysTo t k)
theorem keysTo_succ (t:T) (k:Nat):keysTo t (k+1)=keysTo t k++[keyAt t k]:=by simp [keysTo,List.range_succ]
theorem Sn_succ (t:T) (k:Nat):Sn t (k+1)=(Sn t k).put (keyAt t k) (.agg []):=by unfold Sn;rw [keysTo_succ,setOf_snoc]
theorem Sn_zero (t:T):Sn t 0=.map []:=by simp [Sn,keysTo,setOf]
theorem isKey (t:T) (k:Nat):WideAt.IsKeyLit (keyAt t k):=by simp [keyAt,WideAt.IsKeyLit]
theorem data_eq_iff (a b:ByteArray):a.data.toList=b.data.toList ↔ a=b:=by
 constructor
 ·intro h
  cases a;cases b
  simp at h
  rw [h]
 ·intro h;rw [h]
theorem toList_eq_iff (a b:ByteArray):a.toList=b.toList ↔ a=b:=by
 rw [ByteArray.toList_eq,ByteArray.toList_eq]
 exact data_eq_iff a b
theorem dupIn_iff (t:T) (i:Nat):∀ k,dupIn t i k=true ↔ ∃ j,j<k∧nam t i=nam t j
 | 0=>by simp [dupIn]
 | k+1=>by
  simp only [dupIn,Bool.or_eq_true,beq_iff_eq,toList_eq_iff,dupIn_iff t i k]
  constructor
  ·rintro (⟨j,hj,h⟩ | h)
   ·exact ⟨j,by omega,h⟩
   ·exact ⟨k,by omega,h⟩
  ·rintro ⟨j,hj,h⟩
   by_cases e:j=k
   ·subst e;exact Or.inr h
   ·exact Or.inl ⟨j,by omega,h⟩
theorem keys_fold (t:T):∀ k,((keysTo t k).foldl addKey []).length≤k∧(((keysTo t k).foldl addKey []).length=k ↔ dupTo t k=false)∧∀ x,((keysTo t k).foldl addKey []).any (fun y=>y.sameKey x)=true ↔ ∃ j,j<k∧(keyAt t j).sameKey x=true
 | 0=>by simp [keysTo,dupTo]
 | k+1=>by
  obtain ⟨h1,h2,h3⟩:=keys_fold t k
  have hd:(((keysTo t k).foldl addKey []).any (fun y=>y.sameKey (keyAt t k))=true) ↔ dupIn t k k=true:=by
   rw [h3,dupIn_iff]
   constructor
   ·rintro ⟨j,hj,h⟩
    refine ⟨j,hj,?_⟩
    have:=(WideAt.sameKey_iff (isKey t k)).1 h
    simp only [keyAt,Lit.string.injEq] at this
    exact ((data_eq_iff _ _).1 this).symm
   ·rintro ⟨j,hj,h⟩
    refine ⟨j,hj,(WideAt.sameKey_iff (isKey t k)).2 ?_⟩
    simp only [keyAt,h]
  rw [keysTo_succ,List.foldl_append]
  simp only [List.foldl_cons,List.foldl_nil]
  generalize List.foldl addKey [] (keysTo t k)=L at *
  unfold addKey
  by_cases h:(L.any fun y=>y.sameKey (keyAt t k))=true
  ·rw [if_pos h]
   refine ⟨by omega,⟨fun e=>by omega,fun e=>?_⟩,fun x=>?_⟩
   ·simp only [dupTo,hd.1 h,Bool.or_true] at e;cases e
   ·rw [h3]
    constructor
    ·rintro ⟨j,hj,hs⟩;exact ⟨j,by omega,hs⟩
    ·rintro ⟨j,hj,hs⟩
     by_cases e:j=k
     ·subst e
      obtain ⟨i,hi,hh⟩:=(h3 _).1 h
      refine ⟨i,hi,?_⟩
      rw [(WideAt.sameKey_iff (isKey t j)).1 hh];exact hs
     ·exact ⟨j,by omega,hs⟩
  ·rw [if_neg h]
   have hf:dupIn t k k=false:=by
    cases hc:dupIn t k k with
    | false=>rfl
    | true=>exact absurd (hd.2 hc) h
   refine ⟨by simp;omega,?_,fun x=>?_⟩
   ·simp only [List.length_append,List.length_singleton,dupTo,hf,Bool.or_false]
    rw [← h2];omega
   ·rw [List.any_append,Bool.or_eq_true,h3]
    simp only [List.any_cons,List.any_nil,Bool.or_false]
    constructor
    ·rintro (⟨j,hj,hs⟩ | hs)
     ·exact ⟨j,by omega,hs⟩
     ·exact ⟨k,by omega,hs⟩
    ·rintro ⟨j,hj,hs⟩
     by_cases e:j=k
     ·subst e;exact Or.inr hs
     ·exact Or.inl ⟨j,by omega,hs⟩
theorem size_Sn (t:T) (k:Nat):Maps.size (Sn t k)≤k∧(Maps.size (Sn t k)=k ↔ dupTo t k=false):=by
 have e:Maps.size (Sn t k)=((keysTo t k).foldl addKey []).length:=size_setOf _ _ (by
  intro x hx
  simp only [keysTo,List.mem_map] at hx
  obtain ⟨j,_,rfl⟩:=hx
  exact isKey t j)
 rw [e]
 exact ⟨(keys_fold t k).1,(keys_fold t k).2.1⟩
structure But (c:Nat) (w w':World):Prop where
 os:w'.os=w.os
 tape:w'.tape=w.tape
 output:w'.output=w.output
 size:w.heap.size≤w'.heap.size
 block:∀ k,k<w.heap.size→k≠c→w'.heap[k]?=w.heap[k]?
theorem But.refl (c:Nat) (w:World):But c w w:=⟨rfl,rfl,rfl,Nat.le_refl _,fun _ _ _=>rfl⟩
theorem But.trans {c:Nat} {a b d:World} (h:But c a b) (k:But c b d):But c a d :=
 ⟨k.os.trans h.os,k.tape.trans h.tape,k.output.trans h.output,Nat.le_trans h.size k.size,fun i hi hc=>(k.block i (Nat.lt_of_lt_of_le hi h.size) hc).trans (h.block i hi hc)⟩
theorem But.of {c:Nat} {a b:World} (h:Below a.heap.size a b):But c a b:=⟨h.os,h.tape,h.output,h.size,fun k hk _=>h.block k hk⟩
theorem But.set (w:World) (c o:Nat) (u:Value):But c w (w.setCell ⟨c,o,none⟩ u) :=
 ⟨rfl,rfl,rfl,by simp [World.setCell],fun k _ hc=>Below.heap_setCell _ _ _ _ (by simpa using hc)⟩
theorem But.cell {c:Nat} {w w':World} (h:But c w w') {p:Addr} (hp:p.block<w.heap.size) (hc:p.block≠c):w'.cell? p=w.cell? p:=World.cell?_of_block (w:=w) (h.block p.block hp hc)
theorem But.below {c:Nat} {w w':World} (h:But c w w') (hc:c≤w.heap.size):Below c w w' :=
 ⟨h.os,h.tape,h.output,h.size,fun k hk=>h.block k (by omega) (by omega)⟩
def takeO (n l:Int):Option Int:=if n≤l then some (l - n) else none
def okS (s:ByteArray):Bool:=Lib.validD s.data.toList
def textO (s:ByteArray) (l:Int):Option Int:=if s.size≤4000∧(s.size:Int)≤l∧okS s=true then some (l - s.size) else none
def namesL (t:T):Nat→Int→Option Int
 | 0,l=>some l
 | k+1,l=>(namesL t k l).bind fun x=>(takeO 2 x).bind (textO (nam t k))
def namesO (t:T) (l:Int):Option Int:=(namesL t (nK t) l).bind fun x=>if dupTo t (nK t)=true then none else some x
def valuesL (f:T→Int→Option Int) (t:T):Nat→Int→Option Int
 | 0,l=>some l
 | k+1,l=>(valuesL f t k l).bind (f (elt t k))
def noLists (t:T):Bool:=decide (nL t=0)&&decide (nK t=0)
def noText (t:T):Bool:=(sOf t).toList.isEmpty
def leafO (t:T) (l:Int):Option Int :=
 if kindOf t=1 then (if nOf t=0∧noText t=true∧noLists t=true then takeO 1 l else none)
 else if kindOf t=2 then (if (nOf t=0∨nOf t=1)∧noText t=true∧noLists t=true then takeO 2 l else none)
 else if kindOf t=3 then (if noText t=true∧noLists t=true then takeO 9 l else none)
 else if kindOf t=4 then (if nOf t=0∧noLists t=true then (takeO 5 l).bind (textO (sOf t)) else none)
 else none
def chkT:Nat→T→Int→Option Int
 | 0,t,l=>leafO t l
 | m+1,t,l =>
  if kindOf t=5 then (if nOf t=0∧noText t=true∧nK t=0 then (takeO 5 l).bind (valuesL (chkT m) t (nL t)) else none)
  else if kindOf t=6 then (if nOf t=0∧noText t=true∧nK t=nL t then ((takeO 5 l).bind (namesO t)).bind (valuesL (chkT m) t (nL t)) else none)
  else leafO t l
theorem namesL_none {t:T} {l:Int} {j k:Nat} (h:j≤k) (hx:namesL t j l=none):namesL t k l=none:=by
 induction h with
 | refl=>exact hx
 | step _ ih=>simp [namesL,ih]
theorem valuesL_none {f:T→Int→Option Int} {t:T} {l:Int} {j k:Nat} (h:j≤k) (hx:valuesL f t j l=none):valuesL f t k l=none:=by
 induction h with
 | refl=>exact hx
 | step _ ih=>simp [valuesL,ih]
structure Holds (c:Nat) (l:Int) (w:World):Prop where
 cell:w.cell? ⟨c,0,none⟩=some (.int .i64 l)
 free:w.frozen? ⟨c,0,none⟩=false
 lt:c<w.heap.size
def ChkPost (c:Nat) (w:World) (r:Option Int) (e:Ending) (w':World):Prop :=
 But c w w'∧∃ l',Holds c l' w'∧((r=some l'∧0≤l'∧l'≤1048576∧e=.returned (.bool true))∨(r=none∧e=.returned (.bool false)))
theorem Holds.set {c:Nat} {l:Int} {w:World} (h:Holds c l w) (x:Int):Holds c x (w.setCell ⟨c,0,none⟩ (.int .i64 x))∧But c w (w.setCell ⟨c,0,none⟩ (.int .i64 x)):=by
 refine ⟨⟨?_,?_,by simp [World.setCell];exact h.lt⟩,But.set _ _ _ _⟩
 ·have:=h.cell
  simp [go_sem,this]
 ·have:=h.free
  simp [go_sem,this]
theorem Holds.keep {c:Nat} {l:Int} {w w':World} (h:Holds c l w) (hb:Below w.heap.size w w'):Holds c l w' :=
 ⟨by rw [hb.cell (p:=⟨c,0,none⟩) h.lt];exact h.cell,by rw [hb.frozen (p:=⟨c,0,none⟩) h.lt];exact h.free,Nat.lt_of_lt_of_le h.lt hb.size⟩
theorem ElemsAt.later {w w':World} (h:Below w.heap.size w w') {f:Nat} {La:Option Addr} {t:T} (hl:ElemsAt w f La t) (i:Nat) (hi:i<nL t) :
  ∃ b o c0 c1 c2 c3 c4,La=some ⟨b,o,none⟩∧b<w.heap.size∧w'.cell? ⟨b,o+i*5,none⟩=some c0∧w'.cell? ⟨b,o+i*5+1,none⟩=some c1∧w'.cell? ⟨b,o+i*5+2,none⟩=some c2∧w'.cell? ⟨b,o+i*5+3,none⟩=some c3∧w'.cell? ⟨b,o+i*5+4,none⟩=some c4∧Hid (At w f (.agg #[c0,c1,c2,c3,c4]) (elt t i)):=by
 obtain ⟨b,o,c0,c1,c2,c3,c4,h0,hb,q0,q1,q2,q3,q4,ha⟩:=hl i hi
 refine ⟨b,o,c0,c1,c2,c3,c4,h0,hb,?_,?_,?_,?_,?_,ha⟩
 ·rw [h.cell (p:=⟨b,_,none⟩) hb];exact q0
 ·rw [h.cell (p:=⟨b,_,none⟩) hb];exact q1
 ·rw [h.cell (p:=⟨b,_,none⟩) hb];exact q2
 ·rw [h.cell (p:=⟨b,_,none⟩) hb];exact q3
 ·rw [h.cell (p:=⟨b,_,none⟩) hb];exact q4
theorem ElemsAt.shape {w w':World} (h:Below w.heap.size w w') {f:Nat} {La:Option Addr} {t:T} (hl:ElemsAt w f La t) (i:Nat) (hi:i<nL t) :
  ∃ b o A B C D,La=some ⟨b,o,none⟩∧b<w.heap.size∧w'.cell? ⟨b,o+i*5,none⟩=some (.int .i64 (kindOf (elt t i)))∧w'.cell? ⟨b,o+i*5+1,none⟩=some (.int .i64 (nOf (elt t i)))∧w'.cell? ⟨b,o+i*5+2,none⟩=some (.string (sOf (elt t i)))∧w'.cell? ⟨b,o+i*5+3,none⟩=some (.slice A (nL (elt t i)) B)∧w'.cell? ⟨b,o+i*5+4,none⟩=some (.slice C (nK (elt t i)) D) ∧
   Hid (At w f (.agg #[.int .i64 (kindOf (elt t i)),.int .i64 (nOf (elt t i)),.string (sOf (elt t i)),.slice A (nL (elt t i)) B,.slice C (nK (elt t i)) D]) (elt t i)):=by
 obtain ⟨b,o,c0,c1,c2,c3,c4,h0,hb,q0,q1,q2,q3,q4,ha⟩:=hl.later h i hi
 obtain ⟨g,A,C,B,D,_,hv,_⟩:=ha.out.open
 simp only [Value.agg.injEq,Array.mk.injEq,List.cons.injEq,and_true] at hv
 obtain ⟨rfl,rfl,rfl,rfl,rfl⟩:=hv
 exact ⟨b,o,A,B,C,D,h0,hb,q0,q1,q2,q3,q4,ha⟩
theorem box_but {c:Nat} {w wr:World} {c0 c1 c2 c3 c4:Value} (hc:c<w.heap.size) (hb:But c (w.alloc (.cells #[c0,c1,c2,c3,c4] 36)) wr) :
  wr.cell? ⟨w.heap.size,0,none⟩=some c0∧wr.cell? ⟨w.heap.size,1,none⟩=some c1∧wr.cell? ⟨w.heap.size,2,none⟩=some c2∧wr.cell? ⟨w.heap.size,3,none⟩=some c3∧wr.cell? ⟨w.heap.size,4,none⟩=some c4∧w.heap.size<wr.heap.size:=by
 have hz:=hb.size
 refine ⟨?_,?_,?_,?_,?_,by simp at hz;omega⟩
 ·rw [hb.cell (p:=⟨_,_,none⟩) (by simp) (by show w.heap.size≠c;omega)];simp [go_sem]
 ·rw [hb.cell (p:=⟨_,_,none⟩) (by simp) (by show w.heap.size≠c;omega)];simp [go_sem]
 ·rw [hb.cell (p:=⟨_,_,none⟩) (by simp) (by show w.heap.size≠c;omega)];simp [go_sem]
 ·rw [hb.cell (p:=⟨_,_,none⟩) (by simp) (by show w.heap.size≠c;omega)];simp [go_sem]
 ·rw [hb.cell (p:=⟨_,_,none⟩) (by simp) (by show w.heap.size≠c;omega)];simp [go_sem]
def namesF (t:T):Nat→Bool
 | 0=>true
 | k+1=>namesF t k&&(okS (nam t k)&&decide ((nam t k).size≤4000))
def headF (t:T):Bool:=(decide (kindOf t=2∨kindOf t=3∨nOf t=0)&&decide (kindOf t=4∨noText t=true))&&(decide (kindOf t=6∨nK t=0)&&decide (kindOf t=6∨kindOf t=5∨nL t=0))
def kindF (t:T):Bool:=if kindOf t=1∨kindOf t=3∨kindOf t=5 then true else if kindOf t=2 then decide (nOf t=0∨nOf t=1) else if kindOf t=4 then okS (sOf t)&&decide ((sOf t).size≤4000) else if kindOf t=6 then decide (nK t=nL t)&&namesF t (nK t) else false
end Go.Proofs.YtknakfpciccoaabGreatDoor
/- The walks of cmp.Compare, of the mark, and of the checker's small parts. -/
namespace Go.Proofs.YtknakfpciccoaabGreatDoor
open Go.RowKit
set_option maxHeartbeats 400000 in
theorem cmpInt_any (a b:Int) (w:World) :
  Calls Tryz.prog 48 #[.int .i64 a,.int .i64 b] w fun e w'=>e=.returned (.int .i64 (cmpI a b))∧w'=w:=by
 go_enter Tryz.func48,Tryz.ntmps48
 go_wp2
 all_goals (go_ret;refine ⟨?_,rfl⟩)
 ·exact ret_int (cmpI_lt (by assumption)).symm
 ·exact ret_int (cmpI_gt (by assumption)).symm
 ·exact ret_int (cmpI_eq (by assumption) (by assumption)).symm
set_option maxHeartbeats 400000 in
theorem cmpInt64_any (a b:Int) (w:World) :
  Calls Tryz.prog 49 #[.int .i64 a,.int .i64 b] w fun e w'=>e=.returned (.int .i64 (cmpI a b))∧w'=w:=by
 go_enter Tryz.func49,Tryz.ntmps49
 go_wp2
 all_goals (go_ret;refine ⟨?_,rfl⟩)
 ·exact ret_int (cmpI_lt (by assumption)).symm
 ·exact ret_int (cmpI_gt (by assumption)).symm
 ·exact ret_int (cmpI_eq (by assumption) (by assumption)).symm
set_option maxHeartbeats 400000 in
theorem cmpString_any (a b:ByteArray) (w:World) :
  Calls Tryz.prog 50 #[.string a,.string b] w fun e w'=>e=.returned (.int .i64 (cmpS a b))∧w'=w:=by
 go_enter Tryz.func50,Tryz.ntmps50
 go_wp2
 all_goals (go_ret;refine ⟨?_,rfl⟩)
 ·exact ret_int (cmpS_lt (by assumption)).symm
 ·exact ret_int (cmpS_gt (by assumption) (by assumption)).symm
 ·exact ret_int (cmpS_eq (by assumption) (by assumption)).symm
set_option maxHeartbeats 400000 in
theorem hasNoLists_any (f:Nat) (v:Value) (t:T) (w:World) (h:At w f v t) :
  Calls Tryz.prog 74 #[v] w fun e w'=>e=.returned (.bool (noLists t))∧Below w.heap.size w w':=by
 obtain ⟨f,La,Ka,Lc,Kc,rfl,rfl,hf,hl,hk⟩:=h.open
 clear h hf hl hk
 by_cases h1:nL t=0
 ·have g1:((nL t:Int)==0)=true:=by simp [h1]
  have H1:=hid h1
  clear h1
  by_cases h2:nK t=0
  ·have g2:((nK t:Int)==0)=true:=by simp [h2]
   have H2:=hid h2
   clear h2
   go_enter Tryz.func74,Tryz.ntmps74
   go_wp2_with fail
   go_ret
   exact ⟨ret_bool (by simp [noLists,H1.out,H2.out]),(Below.refl _ _).alloc (Nat.le_refl _) _⟩
  ·have g2:((nK t:Int)==0)=false:=by simp;omega
   have H2:=hid h2
   clear h2
   go_enter Tryz.func74,Tryz.ntmps74
   go_wp2_with fail
   go_ret
   exact ⟨ret_bool (by simp [noLists,H1.out,H2.out]),(Below.refl _ _).alloc (Nat.le_refl _) _⟩
 ·have g1:((nL t:Int)==0)=false:=by simp;omega
  have H1:=hid h1
  clear h1
  go_enter Tryz.func74,Tryz.ntmps74
  go_wp2_with fail
  go_ret
  exact ⟨ret_bool (by simp [noLists,H1.out]),(Below.refl _ _).alloc (Nat.le_refl _) _⟩
set_option maxHeartbeats 400000 in
theorem take_any (c:Nat) (l n:Int) (w:World) (hc:w.cell? ⟨c,0,none⟩=some (.int .i64 l)) (hz:w.frozen? ⟨c,0,none⟩=false) (l0:-1000000≤l) (l1:l≤1048576) (n0:0≤n) (n1:n≤1000000) :
  Calls Tryz.prog 75 #[.pointer (some ⟨c,0,none⟩),.int .i64 n] w fun e w'=>e=.returned (.bool (decide (n≤l)))∧w'=w.setCell ⟨c,0,none⟩ (.int .i64 (l - n)):=by
 go_enter Tryz.func75,Tryz.ntmps75
 go_wp2_with fail
 go_ret
 exact ⟨rfl,rfl⟩
end Go.Proofs.YtknakfpciccoaabGreatDoor
/- The order of two values, by the reference and by the program. -/
namespace Go.Proofs.YtknakfpciccoaabGreatDoor
open Go.RowKit
def okK:Nat→T→Prop
 | 0,_=>True
 | f+1,t=>(kindOf t=6→nK t=nL t)∧∀ i,i<nL t→okK f (elt t i)
def ordL (g:T→T→Int) (a b:T):Nat→Int
 | 0=>0
 | k+1=>if ordL g a b k≠0 then ordL g a b k else if kindOf a=6∧cmpS (nam a k) (nam b k)≠0 then cmpS (nam a k) (nam b k) else g (elt a k) (elt b k)
def ordE (g:T→T→Int) (a b:T):Int:=if ordL g a b (min (nL a) (nL b))≠0 then ordL g a b (min (nL a) (nL b)) else cmpI (nL a) (nL b)
def ordT:Nat→T→T→Int
 | 0,_,_=>0
 | f+1,a,b=>if kindOf a≠kindOf b then cmpI (kindOf a) (kindOf b) else if nOf a≠nOf b∨sOf a≠sOf b then cmpI (nOf a) (nOf b)+cmpS (sOf a) (sOf b) else ordE (ordT f) a b
def cmpT:Nat→T→T→Int
 | 0,_,_=>0
 | f+1,a,b=>if kindOf a≠kindOf b then cmpI (kindOf a) (kindOf b) else if kindOf a=2∨kindOf a=3 then cmpI (nOf a) (nOf b) else if kindOf a=4 then cmpS (sOf a) (sOf b) else if isBox a=true then ordE (cmpT f) a b else 0
theorem ordL_stop {g:T→T→Int} {a b:T} {j k:Nat} (h:j≤k) (hx:ordL g a b j≠0):ordL g a b k=ordL g a b j:=by
 induction h with
 | refl=>rfl
 | step _ ih=>simp only [ordL];rw [ih,if_pos hx]
theorem ordL_step {g:T→T→Int} {a b:T} {k:Nat} (h:ordL g a b k=0):ordL g a b (k+1)=if kindOf a=6∧cmpS (nam a k) (nam b k)≠0 then cmpS (nam a k) (nam b k) else g (elt a k) (elt b k):=by
 simp [ordL,h]
theorem ordL_bd {g:T→T→Int} (hg:∀ x y,-2≤g x y∧g x y≤2) (a b:T):∀ k,-2≤ordL g a b k∧ordL g a b k≤2
 | 0=>by simp [ordL]
 | k+1=>by
  have h1:=ordL_bd hg a b k
  have h2:=cmpS_bd (nam a k) (nam b k)
  have h3:=hg (elt a k) (elt b k)
  simp only [ordL]
  split
  ·exact h1
  ·split
   ·omega
   ·exact h3
theorem ordE_bd {g:T→T→Int} (hg:∀ x y,-2≤g x y∧g x y≤2) (a b:T):-2≤ordE g a b∧ordE g a b≤2:=by
 have h1:=ordL_bd hg a b (min (nL a) (nL b))
 have h2:=cmpI_bd (nL a) (nL b)
 unfold ordE
 split<;>omega
theorem ordT_bd:∀ (f:Nat) (a b:T),-2≤ordT f a b∧ordT f a b≤2
 | 0,_,_=>by simp [ordT]
 | f+1,a,b=>by
  have h1:=ordE_bd (ordT_bd f) a b
  have h2:=cmpI_bd (kindOf a) (kindOf b)
  have h3:=cmpI_bd (nOf a) (nOf b)
  have h4:=cmpS_bd (sOf a) (sOf b)
  simp only [ordT]
  split
  ·omega
  ·split<;>omega
theorem cmpT_bd:∀ (f:Nat) (a b:T),-2≤cmpT f a b∧cmpT f a b≤2
 | 0,_,_=>by simp [cmpT]
 | f+1,a,b=>by
  have h1:=ordE_bd (cmpT_bd f) a b
  have h2:=cmpI_bd (kindOf a) (kindOf b)
  have h3:=cmpI_bd (nOf a) (nOf b)
  have h4:=cmpS_bd (sOf a) (sOf b)
  simp only [cmpT]
  split
  ·omega
  ·split
   ·omega
   ·split
    ·omega
    ·split<;>omega
theorem box2_facts {w wr:World} {c0 c1 c2 c3 c4 d0 d1 d2 d3 d4:Value} (hb:Below (w.heap.size+2) ((w.alloc (.cells #[c0,c1,c2,c3,c4] 36)).alloc (.cells #[d0,d1,d2,d3,d4] 36)) wr) :
  (wr.cell? ⟨w.heap.size,0,none⟩=some c0∧wr.cell? ⟨w.heap.size,1,none⟩=some c1∧wr.cell? ⟨w.heap.size,2,none⟩=some c2∧wr.cell? ⟨w.heap.size,3,none⟩=some c3∧wr.cell? ⟨w.heap.size,4,none⟩=some c4) ∧
  (wr.cell? ⟨w.heap.size+1,0,none⟩=some d0∧wr.cell? ⟨w.heap.size+1,1,none⟩=some d1∧wr.cell? ⟨w.heap.size+1,2,none⟩=some d2∧wr.cell? ⟨w.heap.size+1,3,none⟩=some d3∧wr.cell? ⟨w.heap.size+1,4,none⟩=some d4)∧w.heap.size+1<wr.heap.size∧Below w.heap.size w wr:=by
 have hz:=hb.size
 refine ⟨⟨?_,?_,?_,?_,?_⟩,⟨?_,?_,?_,?_,?_⟩,by simp at hz;omega,(((Below.refl _ _).alloc (Nat.le_refl _) _).alloc (by simp) _).trans (hb.mono (by omega))⟩
 all_goals (rw [hb.cell (p:=⟨_,_,none⟩) (by simp)];simp [go_sem])
theorem below_drew (w:World):Below w.heap.size w w.drew:=(Below.refl _ _).drew
end Go.Proofs.YtknakfpciccoaabGreatDoor
/- The walks of slices.CompareFunc and compareObjects, over one another's contract. -/
namespace Go.Proofs.YtknakfpciccoaabGreatDoor
open Go.RowKit
def CmpSaid (f:Nat):Prop:=∀ (g:Nat) (va vb:Value) (a b:T) (w:World),At w f va a→At w g vb b→okK f a→okK f b →
  Calls Tryz.prog 30 #[va,vb] w fun e w'=>e=.returned (.int .i64 (cmpT f a b))∧Below w.heap.size w w'
theorem ordE_none {g:T→T→Int} {a b:T} {k:Nat} (h:min (nL a) (nL b)=k) (h0:ordL g a b k=0):ordE g a b=cmpI (nL a) (nL b):=by
 rw [ordE,h,h0];rfl
theorem ordE_some {g:T→T→Int} {a b:T} {k:Nat} {x:Int} (ha:k<nL a) (hb:k<nL b) (h:ordL g a b (k+1)=x) (h0:x≠0):ordE g a b=x:=by
 rw [ordE,ordL_stop (j:=k+1) (by omega) (by rw [h];exact h0),h,if_pos h0]
set_option maxHeartbeats 1000000 in
set_option maxRecDepth 100000 in
theorem CompareFunc_any (f:Nat) (hc:CmpSaid f) (g:Nat) (La Ma:Option Addr) (Lc Mc:Nat) (a b:T) (w:World) (hl:ElemsAt w f La a) (hl':ElemsAt w g Ma b) (hlen:nL a≤1759218604442) (_hlen':nL b≤1759218604442)
  (k5:kindOf a≠6) (oka:∀ i,i<nL a→okK f (elt a i)) (okb:∀ i,i<nL b→okK f (elt b i)) :
  Calls Tryz.prog 51 #[.slice La (nL a) Lc,.slice Ma (nL b) Mc,.func (Fn.func 30) #[] #[]] w fun e w'=>e=.returned (.int .i64 (ordE (cmpT f) a b))∧Below w.heap.size w w':=by
 have Hc:=hid hc
 have Hl:=hid hl
 have Hl':=hid hl'
 have K5:=hid k5
 have Hoa:=hid oka
 have Hob:=hid okb
 clear hc hl hl' k5 oka okb
 go_enter Tryz.func51,Tryz.ntmps51
 go_wp2_with fail
 go_loopg [13] (nL a) (fun g i wr=>∃ k:Nat,g=nL a - k∧k≤nL a∧k≤nL b∧i=.int .i64 k∧Hid (ordL (cmpT f) a b k=0)∧Hid (Below w.heap.size w wr))
 case atStart=>exact ⟨0,rfl,Nat.zero_le _,Nat.zero_le _,rfl,rfl,Below.refl _ _⟩
 case round =>
  obtain ⟨k,rfl,hka,hkb,rfl,HO,Hb⟩:=hrel
  by_cases hlt:k<nL a
  ·obtain ⟨ba,oa,A,B,C,D,rfl,hba,p0,p1,p2,p3,p4,Ha⟩:=Hl.out.shape Hb.out k hlt
   by_cases hlt':k<nL b
   ·obtain ⟨bb,ob,P,Q,R,S,rfl,hbb,t0,t1,t2,t3,t4,Hd⟩:=Hl'.out.shape Hb.out k hlt'
    have x1:(k:Int)<(nL a:Int):=by omega
    have x2:(k:Int)<(nL b:Int):=by omega
    have hsz:=Hb.out.size
    have s1:ba<wr.heap.size:=by omega
    have s2:bb<wr.heap.size:=by omega
    have HB1:Hid (Below wr.heap.size wr ((wr.alloc (.cells #[.int .i64 (kindOf (elt a k)),.int .i64 (nOf (elt a k)),.string (sOf (elt a k)),.slice A (nL (elt a k)) B,.slice C (nK (elt a k)) D] 36)).alloc (.cells #[.int .i64 (kindOf (elt b k)),.int .i64 (nOf (elt b k)),.string (sOf (elt b k)),.slice P (nL (elt b k)) Q,.slice R (nK (elt b k)) S] 36))):=((Below.refl _ _).alloc (Nat.le_refl _) _).alloc (by simp) _
    have bd:=cmpT_bd f (elt a k) (elt b k)
    go_wp2_with fail
    refine (Hc.out _ _ _ _ _ _ (Ha.out.keep (Hb.out.trans (HB1.out.mono hsz))) (Hd.out.keep (Hb.out.trans (HB1.out.mono hsz))) (Hoa.out k hlt) (Hob.out k hlt')).mono ?_
    rintro e w2 ⟨rfl,hb2⟩
    have HB2:=hid (Hb.out.trans ((HB1.out.trans (hb2.mono HB1.out.size)).mono hsz))
    clear hb2
    have HS:=hid (ordL_step (g:=cmpT f) (b:=b) HO.out)
    generalize hx:cmpT f (elt a k) (elt b k)=x at bd ⊢
    have HS2:Hid (ordL (cmpT f) a b (k+1)=x):=by show _=_;rw [HS.out,if_neg (fun h=>K5.out h.1),hx]
    clear hx
    by_cases hx0:x=0
    ·subst hx0
     go_wp2_with fail
     go_roundg (nL a - (k+1))
     case rel=>exact ⟨k+1,rfl,by omega,by omega,by go_num,HS2,HB2⟩
     case measure=>omega
    ·have ex:(x != 0)=true:=by simpa using hx0
     have HX:=hid hx0
     clear hx0
     go_wp2_with fail
     go_ret
     exact ⟨ret_int (ordE_some hlt hlt' HS2.out HX.out).symm,HB2.out⟩
   ·have HE:=hid (ordE_none (g:=cmpT f) (k:=k) (show min (nL a) (nL b)=k by omega) HO.out)
    have HE2:=hid (cmpI_gt (show (nL b:Int)<(nL a:Int) by omega))
    have s1:ba<wr.heap.size:=by have:=Hb.out.size;omega
    go_wp2_with fail
    go_ret
    exact ⟨ret_int (by rw [HE.out,HE2.out]),Hb.out.trans (((Below.refl _ _).alloc (Nat.le_refl _) _).mono Hb.out.size)⟩
  ·have HE:=hid (ordE_none (g:=cmpT f) (k:=k) (show min (nL a) (nL b)=k by omega) HO.out)
   by_cases h3:nL a<nL b
   ·have HE2:=hid (cmpI_lt (show (nL a:Int)<(nL b:Int) by omega))
    go_wp2_with fail
    go_ret
    exact ⟨ret_int (by rw [HE.out,HE2.out]),Hb.out⟩
   ·have HE2:=hid (cmpI_eq (show (nL b:Int)≤(nL a:Int) by omega) (show (nL a:Int)≤(nL b:Int) by omega))
    go_wp2_with fail
    go_ret
    exact ⟨ret_int (by rw [HE.out,HE2.out]),Hb.out⟩
set_option maxHeartbeats 1000000 in
set_option maxRecDepth 100000 in
theorem compareObjects_any (f:Nat) (hc:CmpSaid f) (g:Nat) (va vb:Value) (a b:T) (w:World) (h:At w (f+1) va a) (h':At w g vb b) (ka:okK (f+1) a) (kb:okK (f+1) b) (k6:kindOf a=6) (k6b:kindOf b=6) :
  Calls Tryz.prog 52 #[va,vb] w fun e w'=>e=.returned (.int .i64 (ordE (cmpT f) a b))∧Below w.heap.size w w':=by
 obtain ⟨f1,La,Ka,Lc,Kc,hf1,rfl,hf,hl,hk⟩:=h.open
 obtain rfl:f=f1:=by omega
 obtain ⟨g1,Ma,Na,Mc,Nc,hg1,rfl,hf',hl',hk'⟩:=h'.open
 have hlen:=hf.l1
 have hlen':=hf'.l1
 have HKa:=hid ka
 have HKb:=hid kb
 have K6:=hid k6
 have K6b:=hid k6b
 have Hih:=hid hc
 clear h h' hf hf' hf1 hg1 ka kb hc k6 k6b
 obtain ⟨M,HM,hMa,hMb,hcase⟩:∃ M:Nat,Hid (min (nL a) (nL b)=M)∧M≤nL a∧M≤nL b∧((nL a:Int)≤(nL b:Int)∧Hid (M=nL a)∨(nL b:Int)<(nL a:Int)∧Hid (M=nL b)):=by
  by_cases hh:nL a≤nL b
  ·exact ⟨nL a,by show min _ _=_;omega,by omega,by omega,Or.inl ⟨by omega,rfl⟩⟩
  ·exact ⟨nL b,by show min _ _=_;omega,by omega,by omega,Or.inr ⟨by omega,rfl⟩⟩
 rcases hcase with ⟨hcs,HMM⟩ | ⟨hcs,HMM⟩
 all_goals
  have hmm:=HMM.out
  go_enter Tryz.func52,Tryz.ntmps52
  go_wp2_with fail
  go_loopg [15] M (fun g i wr=>∃ k:Nat,g=M - k∧k≤M∧i=.int .i64 k∧Hid (ordL (cmpT f) a b k=0)∧Below (w.heap.size+2) ((w.alloc (.cells #[.int .i64 (kindOf a),.int .i64 (nOf a),.string (sOf a),.slice La (nL a) Lc,.slice Ka (nK a) Kc] 36)).alloc (.cells #[.int .i64 (kindOf b),.int .i64 (nOf b),.string (sOf b),.slice Ma (nL b) Mc,.slice Na (nK b) Nc] 36)) wr)
  case atStart=>exact ⟨0,rfl,Nat.zero_le _,rfl,rfl,Below.refl _ _⟩
  case round =>
   obtain ⟨k,rfl,hkm,rfl,HO,hb⟩:=hrel
   obtain ⟨⟨q0,q1,q2,q3,q4⟩,⟨r0,r1,r2,r3,r4⟩,hz,hbw⟩:=box2_facts hb
   have Hb:=hid hb
   clear hb
   have hz0:w.heap.size<wr.heap.size:=by omega
   by_cases hlt:k<M
   ·have hlta:k<nL a:=by omega
    have hltb:k<nL b:=by omega
    obtain ⟨ba,oa,c0,c1,c2,c3,c4,rfl,hba,p0,p1,p2,p3,p4,Ha⟩:=hl.out.keep hbw k hlta
    obtain ⟨bb,ob,d0,d1,d2,d3,d4,rfl,hbb,t0,t1,t2,t3,t4,Hc⟩:=hl'.out.keep hbw k hltb
    have x1:(k:Int)<(nL a:Int):=by omega
    have x2:(k:Int)<(nL b:Int):=by omega
    clear hmm
    have HS:=hid (ordL_step (g:=cmpT f) (b:=b) HO.out)
    have na:k<nK a:=by rw [HKa.out.1 K6.out];exact hlta
    have nb:k<nK b:=by rw [HKb.out.1 K6b.out];exact hltb
    obtain ⟨ea,fa,rfl,hea,hsa,n0⟩:=hk.out.keep hbw k na
    obtain ⟨eb,fb,rfl,heb,hsb,m0⟩:=hk'.out.keep hbw k nb
    have x3:(k:Int)<(nK a:Int):=by omega
    have x4:(k:Int)<(nK b:Int):=by omega
    have bc:=cmpS_bd (nam a k) (nam b k)
    go_wp2_with fail
    go_quiet ((go_at_call 50;exact Calls.quiet_of_same (cmpString_any _ _ _)))
    generalize hcc:cmpS (nam a k) (nam b k)=c at bc ⊢
    have HCC:=hid hcc
    clear hcc
    have Hbq:Hid (Below wr.heap.size wr (wr.drewN nq)):=below_drewN (Below.refl _ _) nq
    generalize wr.drewN nq=wq at Hbq ⊢
    have hzq:=Hbq.out.size
    have y0:=(Hbq.out.cell (p:=⟨w.heap.size,3,none⟩) hz0).trans q3
    have y1:=(Hbq.out.cell (p:=⟨w.heap.size+1,3,none⟩) hz).trans r3
    have u0:=(Hbq.out.cell (p:=⟨ba,oa+k*5,none⟩) hba).trans p0
    have u1:=(Hbq.out.cell (p:=⟨ba,oa+k*5+1,none⟩) hba).trans p1
    have u2:=(Hbq.out.cell (p:=⟨ba,oa+k*5+2,none⟩) hba).trans p2
    have u3:=(Hbq.out.cell (p:=⟨ba,oa+k*5+3,none⟩) hba).trans p3
    have u4:=(Hbq.out.cell (p:=⟨ba,oa+k*5+4,none⟩) hba).trans p4
    have v0:=(Hbq.out.cell (p:=⟨bb,ob+k*5,none⟩) hbb).trans t0
    have v1:=(Hbq.out.cell (p:=⟨bb,ob+k*5+1,none⟩) hbb).trans t1
    have v2:=(Hbq.out.cell (p:=⟨bb,ob+k*5+2,none⟩) hbb).trans t2
    have v3:=(Hbq.out.cell (p:=⟨bb,ob+k*5+3,none⟩) hbb).trans t3
    have v4:=(Hbq.out.cell (p:=⟨bb,ob+k*5+4,none⟩) hbb).trans t4
    have Hbq2:=hid (Hb.out.trans (Hbq.out.mono (by omega)))
    have hz0':w.heap.size<wq.heap.size:=Nat.lt_of_lt_of_le hz0 hzq
    have hz1':w.heap.size+1<wq.heap.size:=Nat.lt_of_lt_of_le hz hzq
    have hba':ba<wq.heap.size:=Nat.lt_of_lt_of_le hba hzq
    have hbb':bb<wq.heap.size:=Nat.lt_of_lt_of_le hbb hzq
    clear q0 q1 q2 q3 q4 r0 r1 r2 r3 r4 p0 p1 p2 p3 p4 t0 t1 t2 t3 t4 n0 m0
    by_cases hc0:c=0
    ·subst hc0
     have HC0:=HCC
     go_wp2_with fail
     have HA1:=hid (Ha.out.keep ((Hbq.out).trans ((below_drew wq).mono Hbq.out.size)))
     have HC1:=hid (Hc.out.keep ((Hbq.out).trans ((below_drew wq).mono Hbq.out.size)))
     have HOa:=hid (HKa.out.2 k hlta)
     have HOb:=hid (HKb.out.2 k hltb)
     have bd:=cmpT_bd f (elt a k) (elt b k)
     have HSS:Hid (∀ wx:World,Below wq.drew.heap.size wq.drew wx→wx.cell? ⟨w.heap.size,3,none⟩=some (.slice (some ⟨ba,oa,none⟩) (nL a) Lc)∧wx.cell? ⟨w.heap.size+1,3,none⟩=some (.slice (some ⟨bb,ob,none⟩) (nL b) Mc)∧wx.cell? ⟨ba,oa+k*5,none⟩=some c0∧wx.cell? ⟨ba,oa+k*5+1,none⟩=some c1∧wx.cell? ⟨ba,oa+k*5+2,none⟩=some c2∧wx.cell? ⟨ba,oa+k*5+3,none⟩=some c3∧wx.cell? ⟨ba,oa+k*5+4,none⟩=some c4∧wx.cell? ⟨bb,ob+k*5,none⟩=some d0∧wx.cell? ⟨bb,ob+k*5+1,none⟩=some d1∧wx.cell? ⟨bb,ob+k*5+2,none⟩=some d2∧wx.cell? ⟨bb,ob+k*5+3,none⟩=some d3∧wx.cell? ⟨bb,ob+k*5+4,none⟩=some d4):=by
      intro wx hx
      have hh:=(below_drew wq).trans hx
      refine ⟨?_,?_,?_,?_,?_,?_,?_,?_,?_,?_,?_,?_⟩
      all_goals (rw [hh.cell (p:=⟨_,_,none⟩) (by first | assumption | omega)];assumption)
     go_region_held (fun wx=>wx.cell? ⟨w.heap.size,3,none⟩=some (.slice (some ⟨ba,oa,none⟩) (nL a) Lc)∧wx.cell? ⟨w.heap.size+1,3,none⟩=some (.slice (some ⟨bb,ob,none⟩) (nL b) Mc)∧wx.cell? ⟨ba,oa+k*5,none⟩=some c0∧wx.cell? ⟨ba,oa+k*5+1,none⟩=some c1∧wx.cell? ⟨ba,oa+k*5+2,none⟩=some c2∧wx.cell? ⟨ba,oa+k*5+3,none⟩=some c3∧wx.cell? ⟨ba,oa+k*5+4,none⟩=some c4∧wx.cell? ⟨bb,ob+k*5,none⟩=some d0∧wx.cell? ⟨bb,ob+k*5+1,none⟩=some d1∧wx.cell? ⟨bb,ob+k*5+2,none⟩=some d2∧wx.cell? ⟨bb,ob+k*5+3,none⟩=some d3∧wx.cell? ⟨bb,ob+k*5+4,none⟩=some d4) (go_keep) ((go_at_call 30;refine (Hih.out _ _ _ _ _ _ HA1.out HC1.out HOa.out HOb.out).mono ?_;rintro e w2 ⟨rfl,hb2⟩;have hc2:=HSS.out _ hb2))
     have HB2:=hid (Hbq2.out.trans (((below_drew wq).trans hb2).mono (by omega)))
     clear hb2 hc2 HA1 HC1
     generalize hx:cmpT f (elt a k) (elt b k)=x at bd ⊢
     have HS2:Hid (ordL (cmpT f) a b (k+1)=x):=by show _=_;rw [HS.out,if_neg (fun h=>h.2 HC0.out),hx]
     clear hx
     by_cases hx0:x=0
     ·subst hx0
      go_wp2_with fail
      go_roundg (M - (k+1))
      case rel=>exact ⟨k+1,rfl,by omega,by go_num,HS2,HB2.out⟩
      case measure=>omega
     ·have ex:(x != 0)=true:=by simpa using hx0
      have HX:=hid hx0
      clear hx0
      go_wp2_with fail
      go_ret
      refine ⟨ret_int ?_,(((Below.refl _ _).alloc (Nat.le_refl _) _).alloc (by simp) _).trans (HB2.out.mono (by omega))⟩
      exact (ordE_some hlta hltb HS2.out HX.out).symm
    ·have ex:(c != 0)=true:=by simpa using hc0
     have HX:=hid hc0
     clear hc0
     have HS2:Hid (ordL (cmpT f) a b (k+1)=c):=by show _=_;rw [HS.out,HCC.out,if_pos ⟨K6.out,HX.out⟩]
     go_wp2_with fail
     go_ret
     refine ⟨ret_int ?_,(((Below.refl _ _).alloc (Nat.le_refl _) _).alloc (by simp) _).trans (Hbq2.out.mono (by omega))⟩
     exact (ordE_some hlta hltb HS2.out HX.out).symm
   ·have HE:=hid (ordE_none (g:=cmpT f) (k:=k) (by rw [HM.out];omega) HO.out)
    go_wp2_with fail
    refine (cmpInt_any _ _ _).mono ?_
    rintro e w2 ⟨rfl,rfl⟩
    go_wp2_with fail
    go_ret
    exact ⟨ret_int (by rw [HE.out]),hbw⟩
end Go.Proofs.YtknakfpciccoaabGreatDoor
