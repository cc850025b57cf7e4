import Derived.WalkKit
import Derived.Deep.Slices
/- Values as trees, and what it means that one lies in memory. -/
namespace Go.Proofs.YtknakfpciccoaaaGreatDoor
open Go.RowKit
theorem aj {p:Prop} (h:p):Hid p:=h
abbrev T:=DataW Unit
def Wx:T->ByteArray
 | .lit (.string s)=>⟨s.toArray⟩
 | _=>ByteArray.empty
def ah:T->Int
 | .agg [.lit (.int _ k),_,_,_,_]=>k
 | _=>0
def aB:T->Int
 | .agg [_,.lit (.int _ k),_,_,_]=>k
 | _=>0
def aF:T->ByteArray
 | .agg [_,_,s,_,_]=>Wx s
 | _=>ByteArray.empty
def UU:T->List T
 | .agg [_,_,_,.slice l _,_]=>l
 | _=>[]
def rU:T->List ByteArray
 | .agg [_,_,_,_,.slice l _]=>l.map Wx
 | _=>[]
def dU (k n:Int) (s:ByteArray) (l:List T) (ks:List ByteArray):T :=
 .agg [.lit (.int .i64 k),.lit (.int .i64 n),.lit (.string s.data.toList),.slice l [],.slice (ks.map fun s=>.lit (.string s.data.toList)) []]
theorem dP (k n:Int) (s:ByteArray) (l:List T) (ks:List ByteArray):ah (dU k n s l ks)=k:=rfl
theorem mF (k n:Int) (s:ByteArray) (l:List T) (ks:List ByteArray):aB (dU k n s l ks)=n:=rfl
theorem nW (k n:Int) (s:ByteArray) (l:List T) (ks:List ByteArray):aF (dU k n s l ks)=s:=rfl
theorem zY (k n:Int) (s:ByteArray) (l:List T) (ks:List ByteArray):UU (dU k n s l ks)=l:=rfl
theorem tY (k n:Int) (s:ByteArray) (l:List T) (ks:List ByteArray):rU (dU k n s l ks)=ks:=by
 simp only [rU,dU,List.map_map]
 conv=>rhs;rw [<- List.map_id ks]
 exact List.map_congr_left fun x _=>rfl
def elt (t:T) (i:Nat):T:=(UU t).getD i .nil
def bf (t:T) (i:Nat):ByteArray:=(rU t).getD i ByteArray.empty
def nL (t:T):Nat:=(UU t).length
def nK (t:T):Nat:=(rU t).length
structure Cu (t:T):Prop where
 k0:-9223372036854775808<=ah t
 k1:ah t<=9223372036854775807
 n0:-9223372036854775808<=aB t
 n1:aB t<=9223372036854775807
 s1:(aF t).size<=140737488355328
 l1:nL t<=1759218604442
 m1:nK t<=8796093022208
def gI (w:World) (Ka:Option Addr) (t:T):Prop :=
 ∀ i,i<nK t->∃ b o,Ka=some ⟨b,o,none⟩/\b<w.heap.size/\(bf t i).size<=140737488355328/\w.cell? ⟨b,o+i,none⟩=some (.string (bf t i))
def At (w:World):Nat->Value->T->Prop
 | 0,_,_=>False
 | f+1,v,t=>∃ (La Ka:Option Addr) (Lc Kc:Nat),
   v=.agg #[.int .i64 (ah t),.int .i64 (aB t),.string (aF t),.slice La (nL t) Lc,.slice Ka (nK t) Kc]/\Cu t /\
   (∀ i,i<nL t->∃ b o c0 c1 c2 c3 c4,La=some ⟨b,o,none⟩/\b<w.heap.size/\w.cell? ⟨b,o+i*5,none⟩=some c0/\w.cell? ⟨b,o+i*5+1,none⟩=some c1/\w.cell? ⟨b,o+i*5+2,none⟩=some c2/\w.cell? ⟨b,o+i*5+3,none⟩=some c3/\w.cell? ⟨b,o+i*5+4,none⟩=some c4/\At w f (.agg #[c0,c1,c2,c3,c4]) (elt t i)) /\
   gI w Ka t
def bC (w:World) (f:Nat) (La:Option Addr) (t:T):Prop :=
 ∀ i,i<nL t->∃ b o c0 c1 c2 c3 c4,La=some ⟨b,o,none⟩/\b<w.heap.size/\w.cell? ⟨b,o+i*5,none⟩=some c0/\w.cell? ⟨b,o+i*5+1,none⟩=some c1/\w.cell? ⟨b,o+i*5+2,none⟩=some c2/\w.cell? ⟨b,o+i*5+3,none⟩=some c3/\w.cell? ⟨b,o+i*5+4,none⟩=some c4/\Hid (At w f (.agg #[c0,c1,c2,c3,c4]) (elt t i))
theorem gI.keep {w w':World} (h:Below w.heap.size w w') {Ka:Option Addr} {t:T} (hk:gI w Ka t):gI w' Ka t:=by
 intro i hi;obtain ⟨b,o,h0,hb,hs,q⟩:=hk i hi;exact ⟨b,o,h0,Nat.lt_of_lt_of_le hb h.size,hs,by rw [h.cell (p:=⟨b,_,none⟩) hb];exact q⟩
theorem At.keep {w w':World} (h:Below w.heap.size w w'):∀ {f:Nat} {v:Value} {t:T},At w f v t->At w' f v t:=by
 intro f
 induction f with
 | zero=>intro v t h;exact h
 | succ f ih =>
  rintro v t ⟨La,Ka,Lc,Kc,rfl,hf,hl,hk⟩;refine ⟨La,Ka,Lc,Kc,rfl,hf,fun i hi=>?_,hk.keep h⟩;obtain ⟨b,o,c0,c1,c2,c3,c4,h0,hb,q0,q1,q2,q3,q4,ha⟩:=hl i hi;refine ⟨b,o,c0,c1,c2,c3,c4,h0,Nat.lt_of_lt_of_le hb h.size,?_,?_,?_,?_,?_,ih ha⟩
  ·rw [h.cell (p:=⟨b,_,none⟩) hb];exact q0
  ·rw [h.cell (p:=⟨b,_,none⟩) hb];exact q1
  ·rw [h.cell (p:=⟨b,_,none⟩) hb];exact q2
  ·rw [h.cell (p:=⟨b,_,none⟩) hb];exact q3
  ·rw [h.cell (p:=⟨b,_,none⟩) hb];exact q4
theorem bC.keep {w w':World} (h:Below w.heap.size w w') {f:Nat} {La:Option Addr} {t:T} (hl:bC w f La t):bC w' f La t:=by
 intro i hi;obtain ⟨b,o,c0,c1,c2,c3,c4,h0,hb,q0,q1,q2,q3,q4,ha⟩:=hl i hi;refine ⟨b,o,c0,c1,c2,c3,c4,h0,Nat.lt_of_lt_of_le hb h.size,?_,?_,?_,?_,?_,At.keep h ha⟩
 ·rw [h.cell (p:=⟨b,_,none⟩) hb];exact q0
 ·rw [h.cell (p:=⟨b,_,none⟩) hb];exact q1
 ·rw [h.cell (p:=⟨b,_,none⟩) hb];exact q2
 ·rw [h.cell (p:=⟨b,_,none⟩) hb];exact q3
 ·rw [h.cell (p:=⟨b,_,none⟩) hb];exact q4
theorem At.open {w:World} {f:Nat} {v:Value} {t:T} (h:At w f v t):∃ (g:Nat) (La Ka:Option Addr) (Lc Kc:Nat),f=g+1 /\
   v=.agg #[.int .i64 (ah t),.int .i64 (aB t),.string (aF t),.slice La (nL t) Lc,.slice Ka (nK t) Kc]/\Cu t/\Hid (bC w g La t)/\Hid (gI w Ka t):=by
 cases f with
 | zero=>exact h.elim
 | succ f =>
  obtain ⟨La,Ka,Lc,Kc,rfl,hf,hl,hk⟩:=h;exact ⟨f,La,Ka,Lc,Kc,rfl,rfl,hf,hl,hk⟩
theorem aI {w wr:World} {c0 c1 c2 c3 c4:Value} (hb:Below (w.heap.size+1) (w.alloc (.cells #[c0,c1,c2,c3,c4] 25)) wr) :
  wr.cell? ⟨w.heap.size,0,none⟩=some c0/\wr.cell? ⟨w.heap.size,1,none⟩=some c1/\wr.cell? ⟨w.heap.size,2,none⟩=some c2/\wr.cell? ⟨w.heap.size,3,none⟩=some c3/\wr.cell? ⟨w.heap.size,4,none⟩=some c4/\w.heap.size<wr.heap.size/\Below w.heap.size w wr:=by
 have hz:=hb.size;refine ⟨?_,?_,?_,?_,?_,by simp at hz;omega,((Below.refl _ _).alloc (Nat.le_refl _) _).trans (hb.mono (by omega))⟩
 ·rw [hb.cell (p:=⟨_,_,none⟩) (by simp)];simp [go_sem]
 ·rw [hb.cell (p:=⟨_,_,none⟩) (by simp)];simp [go_sem]
 ·rw [hb.cell (p:=⟨_,_,none⟩) (by simp)];simp [go_sem]
 ·rw [hb.cell (p:=⟨_,_,none⟩) (by simp)];simp [go_sem]
 ·rw [hb.cell (p:=⟨_,_,none⟩) (by simp)];simp [go_sem]
theorem aH {k:IntKind} {a b:Int} (h:a=b):Ending.returned (.int k a)=.returned (.int k b):=by rw [h]
theorem av {a b:Bool} (h:a=b):Ending.returned (.bool a)=.returned (.bool b):=by rw [h]
def jv (f:T->Nat) (t:T):Nat->Nat
 | 0=>0
 | k+1=>max (jv f t k) (f (elt t k))
def dJ (t:T):Bool:=ah t==5 || ah t==6
def bn:Nat->T->Nat
 | 0,_=>0
 | m+1,t=>if dJ t then jv (bn m) t (nL t)+1 else 0
theorem zZ {f:T->Nat} {m:Nat} (h:∀ t,f t<=m) (t:T) (k:Nat):jv f t k<=m:=by
 induction k with
 | zero=>exact Nat.zero_le _
 | succ k ih=>have:=h (elt t k);simp only [jv];omega
theorem qM:∀ (m:Nat) (t:T),bn m t<=m:=by
 intro m
 induction m with
 | zero=>intro t;exact Nat.le_refl _
 | succ m ih=>intro t;have:=zZ ih t (nL t);unfold bn;split<;>omega
def jL (a b:Int):Int:=if a<b then -1 else if b<a then 1 else 0
theorem zl {a b:Int} (h:a<b):jL a b=-1:=by unfold jL;rw [if_pos h]
theorem zm {a b:Int} (h:b<a):jL a b=1:=by unfold jL;rw [if_neg (by omega),if_pos h]
theorem uN {a b:Int} (h1:b<=a) (h2:a<=b):jL a b=0:=by unfold jL;rw [if_neg (by omega),if_neg (by omega)]
def lV (a b:ByteArray):Int:=if Op.bytesLess a.toList b.toList=true then -1 else if (!Op.bytesLess a.toList b.toList&&!(a.toList==b.toList))=true then 1 else 0
theorem rV (a b:Int):-1<=jL a b/\jL a b<=1:=by unfold jL;split<;>(try split)<;>omega
theorem rW (a b:ByteArray):-1<=lV a b/\lV a b<=1:=by unfold lV;split<;>(try split)<;>omega
theorem MQ {a b:ByteArray} (h:Op.bytesLess a.toList b.toList=true):lV a b=-1:=by unfold lV;rw [if_pos h]
theorem MR {a b:ByteArray} (h:Op.bytesLess a.toList b.toList=false) (h2:(!a.toList==b.toList)=true):lV a b=1:=by
 unfold lV;rw [if_neg (by simp [h]),if_pos (by simp [h];simpa using h2)]
theorem ER {a b:ByteArray} (h:Op.bytesLess a.toList b.toList=false) (h2:(!a.toList==b.toList)=false):lV a b=0:=by
 unfold lV;rw [if_neg (by simp [h]),if_neg (by simp [h];simpa using h2)]
def bg (f:T->Bool) (t:T):Nat->Bool
 | 0=>false
 | k+1=>bg f t k || f (elt t k)
def gB (f:T->Bool) (t:T):Nat->Bool
 | 0=>true
 | k+1=>gB f t k&&f (elt t k)
def mG (t:T) (i:Nat):Nat->Bool
 | 0=>false
 | k+1=>mG t i k || ((bf t i).toList==(bf t k).toList)
def fq (t:T):Nat->Bool
 | 0=>false
 | i+1=>fq t i || mG t i i
def bN:Nat->T->Bool
 | 0,_=>false
 | f+1,t=>fq t (nK t) || bg (bN f) t (nL t)
theorem J6 (t:T) (i:Nat) {j k:Nat} (h:j<=k) (hd:mG t i j=true):mG t i k=true:=by
 induction h with
 | refl=>exact hd
 | step _ ih=>simp [mG,ih]
theorem J7 (t:T) {j k:Nat} (h:j<=k) (hd:fq t j=true):fq t k=true:=by
 induction h with
 | refl=>exact hd
 | step _ ih=>simp [fq,ih]
theorem wN (f:T->Bool) (t:T) {j k:Nat} (h:j<=k) (hd:bg f t j=true):bg f t k=true:=by
 induction h with
 | refl=>exact hd
 | step _ ih=>simp [bg,ih]
theorem uO {f:T->Bool} {t:T} {j k:Nat} (h:j<k) (hd:f (elt t j)=true):bg f t k=true :=
 wN f t h (by simp [bg,hd])
theorem Ol (f:T->Bool) (t:T) {j k:Nat} (h:j<=k) (hd:gB f t j=false):gB f t k=false:=by
 induction h with
 | refl=>exact hd
 | step _ ih=>simp [gB,ih]
theorem ES {f:T->Bool} {t:T} {j k:Nat} (h:j<k) (hd:f (elt t j)=false):gB f t k=false :=
 Ol f t h (by simp [gB,hd])
theorem Om {t:T} {k j n:Nat} (hk:k<n) (hj:j<k) (h:((bf t k).toList==(bf t j).toList)=true):fq t n=true:=by
 refine J7 t hk ?_;simp only [fq,Bool.or_eq_true];exact Or.inr (J6 t k hj (by simp [mG,h]))
abbrev vC (t:T) (A:Option Addr) (b:Nat) (C:Option Addr) (d:Nat):Obj:=.cells #[.int .i64 (ah t),.int .i64 (aB t),.string (aF t),.slice A (nL t) b,.slice C (nK t) d] 25
theorem bG (w:World) (a:Obj):Below w.heap.size w (w.alloc a):=(Below.refl _ _).alloc (Nat.le_refl _) _
end Go.Proofs.YtknakfpciccoaaaGreatDoor
