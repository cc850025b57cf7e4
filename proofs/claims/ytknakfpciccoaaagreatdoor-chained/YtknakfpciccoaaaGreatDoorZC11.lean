import Derived.Test.YtknakfpciccoaaaGreatDoorZC10
import Derived.Deep.RegionHeld3
/- slices.IndexFunc and ContainsFunc of values, of a function that only looks. -/
set_option maxHeartbeats 4000000
set_option maxRecDepth 100000
namespace Go.Proofs.YtknakfpciccoaaaGreatDoor
open Go.RowKit
theorem mJ (P:T->Bool) (g:FuncId) (hg:∀ (a:Array Value) (w:World),(callFunc g a).run Tryz.prog w=.ok (.enter g a) w) (p:Value) (f:Nat) (La:Option Addr) (Lc:Nat) (t:T) (w:World) (hl:bJ w f La t) (hn:nL t<=1759218604442)
  (hP:∀ k,k<nL t->∀ (wr:World) (v:Value),Below w.heap.size w wr->At wr f v (elt t k)->Calls Tryz.prog g #[v,p] wr fun e w'=>e=.returned (.bool (P (elt t k)))/\Below wr.heap.size wr w') :
  Calls Tryz.prog 151 #[.slice La (nL t) Lc,.func (Fn.func g) #[] #[p]] w fun e w'=>Below w.heap.size w w'/\∃ n:Int,e=.returned (.int .i64 n)/\((n=-1/\dw P t (nL t)=false)\/∃ k:Nat,n=(k:Int)/\k<nL t/\P (elt t k)=true/\dw P t k=false):=by
 have Hl:=ak hl;have HP:=ak hP;clear hl hP;go_in;go_wp2_with fail;go_loopg [8] (nL t) (fun g' i wr=>∃ k:Nat,g'=nL t - k/\k<=nL t/\i=.int .i64 k/\Hid (Below w.heap.size w wr)/\Hid (dw P t k=false))
 case atStart=>exact ⟨0,rfl,Nat.zero_le _,rfl,Below.refl _ _,rfl⟩
 case round =>
  obtain ⟨k,rfl,hk,rfl,HB,HN⟩:=hrel;by_cases hlt:k<nL t
  ·obtain ⟨bb,o,A,B,C,D,rfl,hbl,p0,p1,p2,p3,p4,Ha⟩:=Hl.out.shape HB.out k hlt;have HC:=ak (HP.out k hlt wr _ HB.out (At.keep HB.out Ha.out));cases hp:P (elt t k) with
   | true =>
    rw [hp] at HC;have Hp:=ak hp;clear hp;go_wp2_with fail;refine HC.out.mono ?_;rintro e w2 ⟨rfl,b2⟩;have HB2:=ak (HB.out.trans (b2.mono HB.out.size));clear b2;go_wp2_with fail;go_ret;exact ⟨HB2.out,_,rfl,.inr ⟨k,rfl,hlt,Hp.out,HN.out⟩⟩
   | false =>
    rw [hp] at HC;have HN2:Hid (dw P t (k+1)=false):=by show _=_;rw [dw,HN.out,hp];rfl
    clear hp;go_wp2_with fail;refine HC.out.mono ?_;rintro e w2 ⟨rfl,b2⟩;have HB2:=ak (HB.out.trans (b2.mono HB.out.size));clear b2;go_wp2_with fail;go_roundg (nL t - (k+1))
    case rel=>exact ⟨k+1,rfl,by omega,by go_num,HB2,HN2⟩
    case measure=>omega
  ·obtain rfl:k=nL t:=by omega
   go_wp2_with fail;go_ret;exact ⟨HB.out,_,rfl,.inl ⟨rfl,HN.out⟩⟩
theorem nU (P:T->Bool) (g:FuncId) (hg:∀ (a:Array Value) (w:World),(callFunc g a).run Tryz.prog w=.ok (.enter g a) w) (p:Value) (f:Nat) (La:Option Addr) (Lc:Nat) (t:T) (w:World) (hl:bJ w f La t) (hn:nL t<=1759218604442)
  (hP:∀ k,k<nL t->∀ (wr:World) (v:Value),Below w.heap.size w wr->At wr f v (elt t k)->Calls Tryz.prog g #[v,p] wr fun e w'=>e=.returned (.bool (P (elt t k)))/\Below wr.heap.size wr w') :
  Calls Tryz.prog 156 #[.slice La (nL t) Lc,.func (Fn.func g) #[] #[p]] w fun e w'=>e=.returned (.bool (dw P t (nL t)))/\Below w.heap.size w w':=by
 have HC:=ak (mJ P g hg p f La Lc t w hl hn hP);clear hl hP hn;go_in;go_wp2_with fail;refine HC.out.mono ?_;rintro e w2 ⟨b2,n,rfl,⟨rfl,hn⟩ | ⟨k,rfl,hk,hp,_⟩⟩
 ·have HB:=ak b2;have HN:=ak hn;clear b2 hn;go_wp2_with fail;go_ret;exact ⟨aB HN.out.symm,HB.out⟩
 ·have HB:=ak b2;have HN:=ak (Ag hk hp);clear b2 hp;go_wp2_with fail;go_ret;exact ⟨aB HN.out.symm,HB.out⟩
theorem Bz (P:T->Bool) (g:FuncId) (hg:∀ (a:Array Value) (w:World),(callFunc g a).run Tryz.prog w=.ok (.enter g a) w) (p:Value) (f:Nat) (La:Option Addr) (Lc:Nat) (t:T) (w:World) (hl:bJ w f La t) (hn:nL t<=1759218604442)
  (hP:∀ k,k<nL t->∀ (wr:World) (v:Value),Below w.heap.size w wr->At wr f v (elt t k)->Calls Tryz.prog g #[p,v] wr fun e w'=>e=.returned (.bool (P (elt t k)))/\Below wr.heap.size wr w') :
  Calls Tryz.prog 151 #[.slice La (nL t) Lc,.func (Fn.func g) #[p] #[]] w fun e w'=>Below w.heap.size w w'/\∃ n:Int,e=.returned (.int .i64 n)/\((n=-1/\dw P t (nL t)=false)\/∃ k:Nat,n=(k:Int)/\k<nL t/\P (elt t k)=true/\dw P t k=false):=by
 have Hl:=ak hl;have HP:=ak hP;clear hl hP;go_in;go_wp2_with fail;go_loopg [8] (nL t) (fun g' i wr=>∃ k:Nat,g'=nL t - k/\k<=nL t/\i=.int .i64 k/\Hid (Below w.heap.size w wr)/\Hid (dw P t k=false))
 case atStart=>exact ⟨0,rfl,Nat.zero_le _,rfl,Below.refl _ _,rfl⟩
 case round =>
  obtain ⟨k,rfl,hk,rfl,HB,HN⟩:=hrel;by_cases hlt:k<nL t
  ·obtain ⟨bb,o,A,B,C,D,rfl,hbl,p0,p1,p2,p3,p4,Ha⟩:=Hl.out.shape HB.out k hlt;have HC:=ak (HP.out k hlt wr _ HB.out (At.keep HB.out Ha.out));cases hp:P (elt t k) with
   | true =>
    rw [hp] at HC;have Hp:=ak hp;clear hp;go_wp2_with fail;refine HC.out.mono ?_;rintro e w2 ⟨rfl,b2⟩;have HB2:=ak (HB.out.trans (b2.mono HB.out.size));clear b2;go_wp2_with fail;go_ret;exact ⟨HB2.out,_,rfl,.inr ⟨k,rfl,hlt,Hp.out,HN.out⟩⟩
   | false =>
    rw [hp] at HC;have HN2:Hid (dw P t (k+1)=false):=by show _=_;rw [dw,HN.out,hp];rfl
    clear hp;go_wp2_with fail;refine HC.out.mono ?_;rintro e w2 ⟨rfl,b2⟩;have HB2:=ak (HB.out.trans (b2.mono HB.out.size));clear b2;go_wp2_with fail;go_roundg (nL t - (k+1))
    case rel=>exact ⟨k+1,rfl,by omega,by go_num,HB2,HN2⟩
    case measure=>omega
  ·obtain rfl:k=nL t:=by omega
   go_wp2_with fail;go_ret;exact ⟨HB.out,_,rfl,.inl ⟨rfl,HN.out⟩⟩
theorem wQ (P:T->Bool) (g:FuncId) (hg:∀ (a:Array Value) (w:World),(callFunc g a).run Tryz.prog w=.ok (.enter g a) w) (p:Value) (f:Nat) (La:Option Addr) (Lc:Nat) (t:T) (w:World) (hl:bJ w f La t) (hn:nL t<=1759218604442)
  (hP:∀ k,k<nL t->∀ (wr:World) (v:Value),Below w.heap.size w wr->At wr f v (elt t k)->Calls Tryz.prog g #[p,v] wr fun e w'=>e=.returned (.bool (P (elt t k)))/\Below wr.heap.size wr w') :
  Calls Tryz.prog 156 #[.slice La (nL t) Lc,.func (Fn.func g) #[p] #[]] w fun e w'=>e=.returned (.bool (dw P t (nL t)))/\Below w.heap.size w w':=by
 have HC:=ak (Bz P g hg p f La Lc t w hl hn hP);clear hl hP hn;go_in;go_wp2_with fail;refine HC.out.mono ?_;rintro e w2 ⟨b2,n,rfl,⟨rfl,hn⟩ | ⟨k,rfl,hk,hp,_⟩⟩
 ·have HB:=ak b2;have HN:=ak hn;clear b2 hn;go_wp2_with fail;go_ret;exact ⟨aB HN.out.symm,HB.out⟩
 ·have HB:=ak b2;have HN:=ak (Ag hk hp);clear b2 hp;go_wp2_with fail;go_ret;exact ⟨aB HN.out.symm,HB.out⟩
def JR:ByteArray:=⟨#[36,110,101]⟩
def zh:ByteArray:=⟨#[36,110,105,110]⟩
def wR:ByteArray:=⟨#[36,110,111,116]⟩
def je:ByteArray:=⟨#[36,101,120,105,115,116,115]⟩
def wS:ByteArray:=⟨#[36,101,113]⟩
def Dz:ByteArray:=⟨#[36,105,110]⟩
def oK:ByteArray:=⟨#[36,115,105,122,101]⟩
def oL:ByteArray:=⟨#[36,107,105,110,100]⟩
def sH:ByteArray:=⟨#[36,97,110,121]⟩
def Ey:ByteArray:=⟨#[36,103,116,101]⟩
def BA:ByteArray:=⟨#[36,103,116]⟩
def JU:ByteArray:=⟨#[36,108,116,101]⟩
def RI:ByteArray:=⟨#[36,108,116]⟩
theorem Ez {g g':T->T->Int} {a b:T}:∀ k,(∀ i,i<k->g (elt a i) (elt b i)=g' (elt a i) (elt b i))->kP g a b k=kP g' a b k
 | 0,_=>rfl
 | k+1,h=>by rw [kP,kP,Ez k (fun i hi=>h i (by omega)),h k (by omega)]
theorem xZ:∀ (f f':Nat) (a b:T),xS f a->f<=f'->bQ f' a b=bQ f a b
 | 0,f',a,b,h,_=>h.elim
 | f+1,f',a,b,h,hf=>by
  obtain ⟨f',rfl⟩:∃ x,f'=x+1:=⟨f' - 1,by omega⟩
  have e:uG (bQ f') a b=uG (bQ f) a b:=by
   unfold uG;rw [Ez (min (nL a) (nL b)) (fun i hi=>xZ f f' _ _ (h i (by omega)) (by omega))]
  unfold bQ;rw [e]
def yc (a b:T):Bool:=bQ 16 a b==0
def nV (op:ByteArray) (c:Int):Bool:=if op=Ey then (c==0 || decide (0<c)) else if op=BA then decide (0<c) else if op=JU then (c==0 || decide (c<0)) else if op=RI then decide (c<0) else false
def lZ (j:T):List (ByteArray×T):=(List.range (nK j)).map fun i=>(bO j i,elt j i)
def xO:Nat->ByteArray×T->T->Bool->Bool
 | 0,_,_,_=>false
 | m+1,p,v,there =>
  if p.1=JR then !(there&&yc v p.2)
  else if p.1=zh then !(there&&dw (yc v) p.2 (nL p.2))
  else if p.1=wR then !((lZ p.2).all fun q=>xO m q v there)
  else if p.1=je then there==(av p.2==1)
  else there&&(if p.1=wS then yc v p.2 else if p.1=Dz then dw (yc v) p.2 (nL p.2)
   else if p.1=oK then (aj v==5&&((nL v:Int)==av p.2)) else if p.1=oL then aj v==av p.2
   else if p.1=sH then (aj v==5&&dw (fun e=>(lZ p.2).all fun q=>xO m q e true) v (nL v))
   else (aj v==aj p.2&&nV p.1 (bQ 16 v p.2)))
def P9 (m:Nat) (ps:List (ByteArray×T)) (v:T) (there:Bool):Bool:=ps.all fun q=>xO m q v there
def kg (op:ByteArray):Prop:=op=wR\/op=sH
abbrev R7:=Value->Value->Value->Value->Value->Value->Value->ByteArray×T->Prop
def M6 (w:World) (R:R7) (v:Value) (ps:List (ByteArray×T)):Prop :=
 ∃ (A:Option Addr) (c:Nat),v=.slice A ps.length c/\ps.length<=1000000000/\∀ i,(h:i<ps.length)->∃ b o c0 c1 c2 c3 c4 c5 c6,A=some ⟨b,o,none⟩/\b<w.heap.size/\w.cell? ⟨b,o+i*7,none⟩=some c0/\w.cell? ⟨b,o+i*7+1,none⟩=some c1/\w.cell? ⟨b,o+i*7+2,none⟩=some c2/\w.cell? ⟨b,o+i*7+3,none⟩=some c3/\w.cell? ⟨b,o+i*7+4,none⟩=some c4/\w.cell? ⟨b,o+i*7+5,none⟩=some c5/\w.cell? ⟨b,o+i*7+6,none⟩=some c6/\R c0 c1 c2 c3 c4 c5 c6 ps[i]
theorem M6.keep {w w':World} {R R':R7} {v:Value} {ps:List (ByteArray×T)} (h:M6 w R v ps) (hb:Below w.heap.size w w') (hR:∀ c0 c1 c2 c3 c4 c5 c6 p,R c0 c1 c2 c3 c4 c5 c6 p->R' c0 c1 c2 c3 c4 c5 c6 p):M6 w' R' v ps:=by
 obtain ⟨A,c,hv,hn,h⟩:=h;refine ⟨A,c,hv,hn,fun i hi=>?_⟩;obtain ⟨b,o,c0,c1,c2,c3,c4,c5,c6,h0,hl,q0,q1,q2,q3,q4,q5,q6,hr⟩:=h i hi;exact ⟨b,o,c0,c1,c2,c3,c4,c5,c6,h0,Nat.lt_of_lt_of_le hl hb.size,(hb.cell (p:=⟨b,_,none⟩) hl).trans q0,(hb.cell (p:=⟨b,_,none⟩) hl).trans q1,(hb.cell (p:=⟨b,_,none⟩) hl).trans q2,(hb.cell (p:=⟨b,_,none⟩) hl).trans q3,(hb.cell (p:=⟨b,_,none⟩) hl).trans q4,(hb.cell (p:=⟨b,_,none⟩) hl).trans q5,(hb.cell (p:=⟨b,_,none⟩) hl).trans q6,hR _ _ _ _ _ _ _ _ hr⟩
def lK (w : World) : Nat -> R7
  | 0 => fun _ _ _ _ _ _ _ _ => False
  | m + 1 => fun c0 c1 c2 c3 c4 c5 c6 p => c0 = .string p.1 /\ p.1.size <= 140737488355328 /\
      ((kg p.1 /\ c1 = .int .i64 0 /\ c2 = .int .i64 0 /\ c3 = .string ⟨#[]⟩ /\ c4 = .slice none 0 0 /\ c5 = .slice none 0 0 /\ M6 w (lK w m) c6 (lZ p.2)) \/
       (¬ kg p.1 /\ c6 = .slice none 0 0 /\ ∃ g A B C D, g <= 16 /\ c1 = .int .i64 (aj p.2) /\ c2 = .int .i64 (av p.2) /\ c3 = .string (ay p.2) /\ c4 = .slice A (nL p.2) B /\ c5 = .slice C (nK p.2) D /\ At w g (.agg #[.int .i64 (aj p.2), .int .i64 (av p.2), .string (ay p.2), .slice A (nL p.2) B, .slice C (nK p.2) D]) p.2 /\ bM p.2))
theorem lK.keep {w w':World} (hb:Below w.heap.size w w'):∀ (m:Nat) (c0 c1 c2 c3 c4 c5 c6:Value) (p:ByteArray×T),lK w m c0 c1 c2 c3 c4 c5 c6 p->lK w' m c0 c1 c2 c3 c4 c5 c6 p
 | 0,_,_,_,_,_,_,_,_,h=>h
 | m+1,c0,c1,c2,c3,c4,c5,c6,p,h=>by
  obtain ⟨h0,h1,⟨hi,z1,z2,z3,z4,z5,hr⟩ | ⟨hi,z6,g,A,B,C,D,hg,z1,z2,z3,z4,z5,ha,hk⟩⟩:=h
  ·exact ⟨h0,h1,.inl ⟨hi,z1,z2,z3,z4,z5,hr.keep hb (lK.keep hb m)⟩⟩
  ·exact ⟨h0,h1,.inr ⟨hi,z6,g,A,B,C,D,hg,z1,z2,z3,z4,z5,ha.keep hb,hk⟩⟩
def kM (w:World) (m:Nat) (v:Value) (ps:List (ByteArray×T)):Prop:=M6 w (lK w m) v ps
theorem kM.keep {w w':World} {m:Nat} {v:Value} {ps:List (ByteArray×T)} (h:kM w m v ps) (hb:Below w.heap.size w w'):kM w' m v ps:=M6.keep h hb (lK.keep hb m)
theorem wT {w:World} {f g:Nat} {va vb:Value} {a b:T} (h:At w f va a) (h':At w g vb b) (hf:f<=16) (ka:bM a) (kb:bM b) :
  Calls Tryz.prog 158 #[va,vb] w fun e w'=>e=.returned (.bool (yc a b))/\Below w.heap.size w w':=by
 have:=RG f g va vb a b w h h' (ka.1 f) (kb.1 f);have e:yc a b=(bQ f a b==0):=by unfold yc;rw [xZ f 16 a b h.aej hf]
 rw [e];exact this
theorem YV {a b:ByteArray} (h:a.data.toList=b.data.toList):a=b:=by
 apply ByteArray.ext;exact Array.toList_inj.1 h
theorem bS {a b:ByteArray} (h:a=b):(a.toList==b.data.toList)=true:=by rw [h,ByteArray.toList_eq];exact beq_self_eq_true _
theorem aF {a b:ByteArray} (h:¬ a=b):(a.toList==b.data.toList)=false:=by
 rw [beq_eq_false_iff_ne];intro e;apply h;rw [ByteArray.toList_eq] at e;exact YV e
theorem DC (op:ByteArray) (j:T) (A C:Option Addr) (B D:Nat) (n:Int) (w:World) :
  Calls Tryz.prog 344 #[.agg #[.string op,.int .i64 (aj j),.int .i64 (av j),.string (ay j),.slice A (nL j) B,.slice C (nK j) D,.slice none 0 0],.int .i64 n] w fun e w'=>e=.returned (.bool (nV op n))/\Below w.heap.size w w':=by
 have HB:=ak (aY w (.cells #[.string op,.int .i64 (aj j),.int .i64 (av j),.string (ay j),.slice A (nL j) B,.slice C (nK j) D,.slice none 0 0] 293));by_cases zM:op=Ey
 ·have ahw:(op.toList==[36,103,116,101])=true:=bS zM;have HR:Hid (nV op n=(n==0 || decide (0<n))):=by show _=_;unfold nV;rw [if_pos zM]
  clear zM;by_cases h0:n=0
  ·subst h0;go_in;go_wp2_with fail;go_ret;exact ⟨aB (by rw [HR.out];rfl),HB.out⟩
  ·have e0:(n==0)=false:=by simpa using h0
   clear h0;go_in;go_wp2_with fail;go_ret;exact ⟨aB (by rw [HR.out,e0];rfl),HB.out⟩
 ·have ahw:(op.toList==[36,103,116,101])=false:=aF zM;by_cases Yq:op=BA
  ·have eGt:(op.toList==[36,103,116])=true:=bS Yq;have HR:Hid (nV op n=decide (0<n)):=by show _=_;unfold nV;rw [if_neg zM,if_pos Yq]
   clear zM Yq;go_in;go_wp2_with fail;go_ret;exact ⟨aB (by rw [HR.out]),HB.out⟩
  ·have eGt:(op.toList==[36,103,116])=false:=aF Yq;by_cases JV:op=JU
   ·have ahx:(op.toList==[36,108,116,101])=true:=bS JV;have HR:Hid (nV op n=(n==0 || decide (n<0))):=by show _=_;unfold nV;rw [if_neg zM,if_neg Yq,if_pos JV]
    clear zM Yq JV;by_cases h0:n=0
    ·subst h0;go_in;go_wp2_with fail;go_ret;exact ⟨aB (by rw [HR.out];rfl),HB.out⟩
    ·have e0:(n==0)=false:=by simpa using h0
     clear h0;go_in;go_wp2_with fail;go_ret;exact ⟨aB (by rw [HR.out,e0];rfl),HB.out⟩
   ·have ahx:(op.toList==[36,108,116,101])=false:=aF JV;by_cases gLt:op=RI
    ·have eLt:(op.toList==[36,108,116])=true:=bS gLt;have HR:Hid (nV op n=decide (n<0)):=by show _=_;unfold nV;rw [if_neg zM,if_neg Yq,if_neg JV,if_pos gLt]
     clear zM Yq JV gLt;go_in;go_wp2_with fail;go_ret;exact ⟨aB (by rw [HR.out]),HB.out⟩
    ·have eLt:(op.toList==[36,108,116])=false:=aF gLt;have HR:Hid (nV op n=false):=by show _=_;unfold nV;rw [if_neg zM,if_neg Yq,if_neg JV,if_neg gLt]
     clear zM Yq JV gLt;go_in;go_wp2_with fail;go_ret;exact ⟨aB (by rw [HR.out]),HB.out⟩
theorem M7 (b:Nat) (f g:Nat) (v:T) (one:Value) (x:T) (A C:Option Addr) (B D:Nat) (w:World) (h0:w.cell? ⟨b,0,none⟩=some (.int .i64 (aj v))) (h1:w.cell? ⟨b,1,none⟩=some (.int .i64 (av v))) (h2:w.cell? ⟨b,2,none⟩=some (.string (ay v))) (h3:w.cell? ⟨b,3,none⟩=some (.slice A (nL v) B)) (h4:w.cell? ⟨b,4,none⟩=some (.slice C (nK v) D)) (hb:b<w.heap.size)
  (ha:At w f (.agg #[.int .i64 (aj v),.int .i64 (av v),.string (ay v),.slice A (nL v) B,.slice C (nK v) D]) v) (hx:At w g one x) (hf:f<=16) (ka:bM v) (kx:bM x) :
  Calls Tryz.prog 342 #[one,.pointer (some ⟨b,0,none⟩)] w fun e w'=>e=.returned (.bool (yc v x))/\Below w.heap.size w w':=by
 obtain ⟨g1,La,Ka,Lc,Kc,hg1,rfl,_,_,_⟩:=hx.open;have HB:=ak (aY w (vC x La Lc Ka Kc));have q0:=(HB.out.cell (p:=⟨b,0,none⟩) hb).trans h0;have q1:=(HB.out.cell (p:=⟨b,1,none⟩) hb).trans h1;have q2:=(HB.out.cell (p:=⟨b,2,none⟩) hb).trans h2;have q3:=(HB.out.cell (p:=⟨b,3,none⟩) hb).trans h3;have q4:=(HB.out.cell (p:=⟨b,4,none⟩) hb).trans h4;have HC:=ak (wT (ha.keep HB.out) (hx.keep HB.out) hf ka kx);clear h0 h1 h2 h3 h4 ha hx ka kx hg1;go_in;go_wp2_with fail;refine HC.out.mono ?_;rintro e w2 ⟨rfl,b2⟩;have HB2:=ak (HB.out.trans (b2.mono HB.out.size));clear b2;go_wp2_with fail;go_ret;exact ⟨rfl,HB2.out⟩
theorem EB (op:ByteArray) (j:T) (A C:Option Addr) (B D:Nat) (gj f:Nat) (x:Value) (v:T) (w:World) (hj:At w gj (.agg #[.int .i64 (aj j),.int .i64 (av j),.string (ay j),.slice A (nL j) B,.slice C (nK j) D]) j) (hv:At w f x v) (hf:f<=16) (kj:bM j) (kv:bM v) :
  Calls Tryz.prog 339 #[.agg #[.string op,.int .i64 (aj j),.int .i64 (av j),.string (ay j),.slice A (nL j) B,.slice C (nK j) D,.slice none 0 0],x] w fun e w'=>e=.returned (.bool (dw (yc v) j (nL j)))/\Below w.heap.size w w':=by
 obtain ⟨g1,La,Ka,Lc,Kc,hg1,rfl,_,_,_⟩:=hv.open;obtain ⟨g2,A',C',B',D',hg2,he,hfj,hel,_⟩:=hj.open;simp only [Value.agg.injEq,Array.mk.injEq,List.cons.injEq,Value.slice.injEq,and_true,true_and] at he;obtain ⟨⟨rfl,rfl⟩,rfl,rfl⟩:=he;have HB1:=ak (aY w (.cells #[.string op,.int .i64 (aj j),.int .i64 (av j),.string (ay j),.slice A (nL j) B,.slice C (nK j) D,.slice none 0 0] 293));have HB2:Hid (Below (w.heap.size+1) (w.alloc (.cells #[.string op,.int .i64 (aj j),.int .i64 (av j),.string (ay j),.slice A (nL j) B,.slice C (nK j) D,.slice none 0 0] 293)) ((w.alloc (.cells #[.string op,.int .i64 (aj j),.int .i64 (av j),.string (ay j),.slice A (nL j) B,.slice C (nK j) D,.slice none 0 0] 293)).alloc (vC v La Lc Ka Kc))):=(Below.refl _ _).alloc (by simp) _;have HB:=ak (HB1.out.trans (HB2.out.mono (by omega)))
 have HX:Hid (aJ (w.heap.size+1) (.int .i64 (aj v)) (.int .i64 (av v)) (.string (ay v)) (.slice La (nL v) Lc) (.slice Ka (nK v) Kc) ((w.alloc (.cells #[.string op,.int .i64 (aj j),.int .i64 (av j),.string (ay j),.slice A (nL j) B,.slice C (nK j) D,.slice none 0 0] 293)).alloc (vC v La Lc Ka Kc))):=by
  constructor<;>simp [go_sem]
 have HC:=ak (nU (yc v) 342 (fun _ _=>rfl) (.pointer (some ⟨w.heap.size+1,0,none⟩)) g2 A B j _ (hel.out.keep HB.out) hfj.l1 (fun k hk wr y hb ha=>by
   have hbx:=HX.out.move hb.size (hb.block _ HX.out.lt);have hbw:=HB.out.trans (hb.mono HB.out.size);exact M7 (w.heap.size+1) f g2 v y (elt j k) La Ka Lc Kc wr hbx.q0 hbx.q1 hbx.q2 hbx.q3 hbx.q4 hbx.lt (hv.keep hbw) ha hf kv (kj.elt hk)))
 clear hv hj hel kj kv hfj hg1 hg2;go_in;go_wp2_with fail;refine HC.out.mono ?_;rintro e w2 ⟨rfl,b2⟩;have HB3:=ak (HB.out.trans (b2.mono HB.out.size));clear b2;go_wp2_with fail;go_ret;exact ⟨rfl,HB3.out⟩
def JW (m:Nat) (p:ByteArray×T) (v:T):Bool :=
 if p.1=wS then yc v p.2 else if p.1=Dz then dw (yc v) p.2 (nL p.2)
   else if p.1=oK then (aj v==5&&((nL v:Int)==av p.2)) else if p.1=oL then aj v==av p.2
   else if p.1=sH then (aj v==5&&dw (fun e=>(lZ p.2).all fun q=>xO m q e true) v (nL v))
   else (aj v==aj p.2&&nV p.1 (bQ 16 v p.2))
structure RJ (b:Nat) (c0 c1 c2 c3 c4 c5 c6:Value) (w:World):Prop where
 q0:w.cell? ⟨b,0,none⟩=some c0
 q1:w.cell? ⟨b,1,none⟩=some c1
 q2:w.cell? ⟨b,2,none⟩=some c2
 q3:w.cell? ⟨b,3,none⟩=some c3
 q4:w.cell? ⟨b,4,none⟩=some c4
 q5:w.cell? ⟨b,5,none⟩=some c5
 q6:w.cell? ⟨b,6,none⟩=some c6
 lt:b<w.heap.size
theorem RJ.keep {b:Nat} {c0 c1 c2 c3 c4 c5 c6:Value} {w w':World} (h:RJ b c0 c1 c2 c3 c4 c5 c6 w) (hb:Below w.heap.size w w'):RJ b c0 c1 c2 c3 c4 c5 c6 w' :=
 ⟨(hb.cell (p:=⟨b,0,none⟩) h.lt).trans h.q0,(hb.cell (p:=⟨b,1,none⟩) h.lt).trans h.q1,(hb.cell (p:=⟨b,2,none⟩) h.lt).trans h.q2,(hb.cell (p:=⟨b,3,none⟩) h.lt).trans h.q3,(hb.cell (p:=⟨b,4,none⟩) h.lt).trans h.q4,(hb.cell (p:=⟨b,5,none⟩) h.lt).trans h.q5,(hb.cell (p:=⟨b,6,none⟩) h.lt).trans h.q6,Nat.lt_of_lt_of_le h.lt hb.size⟩
theorem aJ.stay {b:Nat} {c0 c1 c2 c3 c4:Value} {w w':World} (h:aJ b c0 c1 c2 c3 c4 w) (hb:Below w.heap.size w w'):aJ b c0 c1 c2 c3 c4 w':=h.move hb.size (hb.block _ h.lt)
theorem yg {w:World} {f g:Nat} {va vb:Value} {a b:T} (h:At w f va a) (h':At w g vb b) (hf:f<=16) (ka:bM a) (kb:bM b) :
  Calls Tryz.prog 58 #[va,vb] w fun e w'=>e=.returned (.int .i64 (bQ 16 a b))/\Below w.heap.size w w':=by
 have:=yU f g va vb a b w h h' (ka.1 f) (kb.1 f);rw [<- xZ f 16 a b h.aej hf] at this;exact this
theorem Gy (m:Nat) (op:ByteArray) (j:T) (A C:Option Addr) (B D:Nat) (gj f:Nat) (x:Value) (v:T) (w:World) (hop:¬ kg op) (hj:At w gj (.agg #[.int .i64 (aj j),.int .i64 (av j),.string (ay j),.slice A (nL j) B,.slice C (nK j) D]) j) (hv:At w f x v) (hf:f<=16) (kj:bM j) (kv:bM v) :
  Calls Tryz.prog 340 #[.agg #[.string op,.int .i64 (aj j),.int .i64 (av j),.string (ay j),.slice A (nL j) B,.slice C (nK j) D,.slice none 0 0],x] w fun e w'=>e=.returned (.bool (JW m (op,j) v))/\Below w.heap.size w w':=by
 obtain ⟨g1,La,Ka,Lc,Kc,hg1,rfl,U6,_,_⟩:=hv.open;have hnl:=U6.l1;have HB:Hid (Below w.heap.size w ((w.alloc (.cells #[.string op,.int .i64 (aj j),.int .i64 (av j),.string (ay j),.slice A (nL j) B,.slice C (nK j) D,.slice none 0 0] 293)).alloc (vC v La Lc Ka Kc))):=(aY _ _).alloc (by simp) _;have HJ:=ak (hj.keep HB.out);have HV:=ak (hv.keep HB.out);have BD:=ak kj;have Gz:=ak kv;have rD:¬ op=sH:=fun h=>hop (.inr h);clear hj hv kj kv U6 hg1 hop;by_cases Mq:op=wS
 ·have eEq:(op.toList==[36,101,113])=true:=bS Mq;have HR:Hid (JW m (op,j) v=yc v j):=by show _=_;unfold JW;rw [if_pos Mq]
  have HC:=ak (wT HV.out HJ.out hf Gz.out BD.out);clear Mq rD;go_in;go_wp2_with fail;refine HC.out.mono ?_;rintro e w2 ⟨rfl,b2⟩;have HB3:=ak (HB.out.trans (b2.mono HB.out.size));clear b2;go_wp2_with fail;go_ret;exact ⟨aB (by rw [HR.out]),HB3.out⟩
 have eEq:(op.toList==[36,101,113])=false:=aF Mq;by_cases Qa:op=Dz
 ·have eIn:(op.toList==[36,105,110])=true:=bS Qa;have HR:Hid (JW m (op,j) v=dw (yc v) j (nL j)):=by show _=_;unfold JW;rw [if_neg Mq,if_pos Qa]
  have HC:=ak (EB op j A C B D gj f _ v ((w.alloc (.cells #[.string op,.int .i64 (aj j),.int .i64 (av j),.string (ay j),.slice A (nL j) B,.slice C (nK j) D,.slice none 0 0] 293)).alloc (vC v La Lc Ka Kc)) HJ.out HV.out hf BD.out Gz.out);clear Mq rD Qa;go_in;go_wp2_with fail;refine HC.out.mono ?_;rintro e w2 ⟨rfl,b2⟩;have HB3:=ak (HB.out.trans (b2.mono HB.out.size));clear b2;go_wp2_with fail;go_ret;exact ⟨aB (by rw [HR.out]),HB3.out⟩
 have eIn:(op.toList==[36,105,110])=false:=aF Qa;by_cases qV:op=oK
 ·have aaK:(op.toList==[36,115,105,122,101])=true:=bS qV;have HR:Hid (JW m (op,j) v=(aj v==5&&((nL v:Int)==av j))):=by show _=_;unfold JW;rw [if_neg Mq,if_neg Qa,if_pos qV]
  clear Mq rD Qa qV;cases h5:aj v==5 with
  | true =>
   have H5:=ak h5;go_in;go_wp2_with fail;go_ret;exact ⟨aB (by rw [HR.out,H5.out];rfl),HB.out⟩
  | false =>
   have H5:=ak h5;go_in;go_wp2_with fail;go_ret;exact ⟨aB (by rw [HR.out,H5.out];rfl),HB.out⟩
 have aaK:(op.toList==[36,115,105,122,101])=false:=aF qV;by_cases uW:op=oL
 ·have aaL:(op.toList==[36,107,105,110,100])=true:=bS uW;have HR:Hid (JW m (op,j) v=(aj v==av j)):=by show _=_;unfold JW;rw [if_neg Mq,if_neg Qa,if_neg qV,if_pos uW]
  clear Mq rD Qa qV uW;go_in;go_wp2_with fail;go_ret;exact ⟨aB (by rw [HR.out]),HB.out⟩
 have aaL:(op.toList==[36,107,105,110,100])=false:=aF uW;have ahy:(op.toList==[36,97,110,121])=false:=aF rD;have HR:Hid (JW m (op,j) v=(aj v==aj j&&nV op (bQ 16 v j))):=by show _=_;unfold JW;rw [if_neg Mq,if_neg Qa,if_neg qV,if_neg uW,if_neg rD]
 clear Mq rD Qa qV uW
 have H7:Hid (RJ w.heap.size (.string op) (.int .i64 (aj j)) (.int .i64 (av j)) (.string (ay j)) (.slice A (nL j) B) (.slice C (nK j) D) (.slice none 0 0) ((w.alloc (.cells #[.string op,.int .i64 (aj j),.int .i64 (av j),.string (ay j),.slice A (nL j) B,.slice C (nK j) D,.slice none 0 0] 293)).alloc (vC v La Lc Ka Kc))):=by
  constructor<;>simp [go_sem]
 have H5:Hid (aJ (w.heap.size+1) (.int .i64 (aj v)) (.int .i64 (av v)) (.string (ay v)) (.slice La (nL v) Lc) (.slice Ka (nK v) Kc) ((w.alloc (.cells #[.string op,.int .i64 (aj j),.int .i64 (av j),.string (ay j),.slice A (nL j) B,.slice C (nK j) D,.slice none 0 0] 293)).alloc (vC v La Lc Ka Kc))):=by
  constructor<;>simp [go_sem]
 cases hkk:aj v==aj j with
 | false =>
  have Hkk:=ak hkk;go_in;go_wp2_with fail;go_quiet (fail);go_wp2_with fail;go_ret;exact ⟨aB (by rw [HR.out,Hkk.out];rfl),below_drewN HB.out _⟩
 | true =>
  have Hkk:=ak hkk;have YW:=ak (au ((w.alloc (.cells #[.string op,.int .i64 (aj j),.int .i64 (av j),.string (ay j),.slice A (nL j) B,.slice C (nK j) D,.slice none 0 0] 293)).alloc (vC v La Lc Ka Kc)));have HC:=ak (yg (HV.out.keep YW.out) (HJ.out.keep YW.out) hf Gz.out BD.out);generalize bQ 16 v j=cc at HC HR;have HO:=ak (fun w'=>DC op j A C B D cc w');have H7d:=ak (H7.out.keep YW.out);have H5d:=ak (H5.out.stay YW.out);have qw:=ak (HB.out.drew);go_in;go_wp2_with fail
  have qW:Hid (∀ wx,RJ w.heap.size (.string op) (.int .i64 (aj j)) (.int .i64 (av j)) (.string (ay j)) (.slice A (nL j) B) (.slice C (nK j) D) (.slice none 0 0) wx->aJ (w.heap.size+1) (.int .i64 (aj v)) (.int .i64 (av v)) (.string (ay v)) (.slice La (nL v) Lc) (.slice Ka (nK v) Kc) wx->(fun wx=>wx.cell? ⟨w.heap.size,0,none⟩=some (.string op)/\wx.cell? ⟨w.heap.size,1,none⟩=some (.int .i64 (aj j))/\wx.cell? ⟨w.heap.size,2,none⟩=some (.int .i64 (av j))/\wx.cell? ⟨w.heap.size,3,none⟩=some (.string (ay j))/\wx.cell? ⟨w.heap.size,4,none⟩=some (.slice A (nL j) B)/\wx.cell? ⟨w.heap.size,5,none⟩=some (.slice C (nK j) D)/\wx.cell? ⟨w.heap.size,6,none⟩=some (.slice none 0 0)/\wx.cell? ⟨w.heap.size+1,0,none⟩=some (.int .i64 (aj v))/\wx.cell? ⟨w.heap.size+1,1,none⟩=some (.int .i64 (av v))/\wx.cell? ⟨w.heap.size+1,2,none⟩=some (.string (ay v))/\wx.cell? ⟨w.heap.size+1,3,none⟩=some (.slice La (nL v) Lc)/\wx.cell? ⟨w.heap.size+1,4,none⟩=some (.slice Ka (nK v) Kc)) wx):=fun wx a b=>⟨a.q0,a.q1,a.q2,a.q3,a.q4,a.q5,a.q6,b.q0,b.q1,b.q2,b.q3,b.q4⟩;have qy:=ak (qW.out _ H7d.out H5d.out)
  go_region_held3 (fun wx=>wx.cell? ⟨w.heap.size,0,none⟩=some (.string op)/\wx.cell? ⟨w.heap.size,1,none⟩=some (.int .i64 (aj j))/\wx.cell? ⟨w.heap.size,2,none⟩=some (.int .i64 (av j))/\wx.cell? ⟨w.heap.size,3,none⟩=some (.string (ay j))/\wx.cell? ⟨w.heap.size,4,none⟩=some (.slice A (nL j) B)/\wx.cell? ⟨w.heap.size,5,none⟩=some (.slice C (nK j) D)/\wx.cell? ⟨w.heap.size,6,none⟩=some (.slice none 0 0)/\wx.cell? ⟨w.heap.size+1,0,none⟩=some (.int .i64 (aj v))/\wx.cell? ⟨w.heap.size+1,1,none⟩=some (.int .i64 (av v))/\wx.cell? ⟨w.heap.size+1,2,none⟩=some (.string (ay v))/\wx.cell? ⟨w.heap.size+1,3,none⟩=some (.slice La (nL v) Lc)/\wx.cell? ⟨w.heap.size+1,4,none⟩=some (.slice Ka (nK v) Kc)) (first | exact hS4 | exact hS3 | exact qy.out) (first | (go_at_call 58;refine HC.out.mono ?_;rintro e w3 ⟨rfl,b3⟩;have H73:=ak (H7d.out.keep b3);have H53:=ak (H5d.out.stay b3);have hS3:=qW.out _ H73.out H53.out) | (go_at_call 344;refine (HO.out _).mono ?_;rintro e w4 ⟨rfl,b4⟩;have hS4:=qW.out _ (H73.out.keep b4) (H53.out.stay b4)));have fI:=ak ((qw.out.trans (b3.mono qw.out.size)).trans (b4.mono (qw.out.trans (b3.mono qw.out.size)).size));clear b3 b4 hS3 hS4;go_wp2_with fail;go_ret;exact ⟨aB (by rw [HR.out,Hkk.out];rfl),fI.out⟩
def kX (m:Nat):Prop:=∀ (tv:Value) (ps:List (ByteArray×T)) (f:Nat) (x:Value) (v:T) (there:Bool) (w:World),kM w m tv ps->At w f x v->f<=16->bM v ->
  Calls Tryz.prog 334 #[tv,x,.bool there] w fun e w'=>e=.returned (.bool (P9 m ps v there))/\Below w.heap.size w w'
theorem DF (m:Nat) (ih:kX m) (op:ByteArray) (j:T) (inn:Value) (f:Nat) (x:Value) (v:T) (w:World) (hi:kM w m inn (lZ j)) (hv:At w f x v) (hf:f<=16) (kv:bM v) :
  Calls Tryz.prog 343 #[.agg #[.string op,.int .i64 0,.int .i64 0,.string ⟨#[]⟩,.slice none 0 0,.slice none 0 0,inn],x] w fun e w'=>e=.returned (.bool (P9 m (lZ j) v true))/\Below w.heap.size w w':=by
 obtain ⟨g1,La,Ka,Lc,Kc,hg1,rfl,_,_,_⟩:=hv.open;have HB:Hid (Below w.heap.size w ((w.alloc (.cells #[.string op,.int .i64 0,.int .i64 0,.string ⟨#[]⟩,.slice none 0 0,.slice none 0 0,inn] 293)).alloc (vC v La Lc Ka Kc))):=(aY _ _).alloc (by simp) _;have HC:=ak (ih inn (lZ j) f _ v true ((w.alloc (.cells #[.string op,.int .i64 0,.int .i64 0,.string ⟨#[]⟩,.slice none 0 0,.slice none 0 0,inn] 293)).alloc (vC v La Lc Ka Kc)) (hi.keep HB.out) (hv.keep HB.out) hf kv);clear hi hv ih kv hg1;generalize P9 m (lZ j) v true=r at HC;go_in;go_wp2_with fail;refine HC.out.mono ?_;rintro e w2 ⟨rfl,b2⟩;have HB3:=ak (HB.out.trans (b2.mono HB.out.size));clear b2;go_wp2_with fail;go_ret;exact ⟨rfl,HB3.out⟩
theorem JX (m:Nat) (ih:kX m) (op:ByteArray) (j:T) (inn:Value) (f:Nat) (x:Value) (v:T) (w:World) (rD:op=sH) (hi:kM w m inn (lZ j)) (hv:At w f x v) (hf:f<=16) (kv:bM v) :
  Calls Tryz.prog 340 #[.agg #[.string op,.int .i64 0,.int .i64 0,.string ⟨#[]⟩,.slice none 0 0,.slice none 0 0,inn],x] w fun e w'=>e=.returned (.bool (JW m (op,j) v))/\Below w.heap.size w w':=by
 obtain ⟨g1,La,Ka,Lc,Kc,hg1,rfl,U6,hel,_⟩:=hv.open;have hnl:=U6.l1;have HB:Hid (Below w.heap.size w ((w.alloc (.cells #[.string op,.int .i64 0,.int .i64 0,.string ⟨#[]⟩,.slice none 0 0,.slice none 0 0,inn] 293)).alloc (vC v La Lc Ka Kc))):=(aY _ _).alloc (by simp) _;have Mq:¬ op=wS:=by rw [rD];decide
 have Qa:¬ op=Dz:=by rw [rD];decide
 have qV:¬ op=oK:=by rw [rD];decide
 have uW:¬ op=oL:=by rw [rD];decide
 have HR:Hid (JW m (op,j) v=(aj v==5&&dw (fun e=>P9 m (lZ j) e true) v (nL v))):=by show _=_;unfold JW;rw [if_neg Mq,if_neg Qa,if_neg qV,if_neg uW,if_pos rD];rfl
 have eEq:(op.toList==[36,101,113])=false:=aF Mq;have eIn:(op.toList==[36,105,110])=false:=aF Qa;have aaK:(op.toList==[36,115,105,122,101])=false:=aF qV;have aaL:(op.toList==[36,107,105,110,100])=false:=aF uW;have ahy:(op.toList==[36,97,110,121])=true:=bS rD;have HC:=ak (wQ (fun e=>P9 m (lZ j) e true) 343 (fun _ _=>rfl) (.agg #[.string op,.int .i64 0,.int .i64 0,.string ⟨#[]⟩,.slice none 0 0,.slice none 0 0,inn]) g1 La Lc v ((w.alloc (.cells #[.string op,.int .i64 0,.int .i64 0,.string ⟨#[]⟩,.slice none 0 0,.slice none 0 0,inn] 293)).alloc (vC v La Lc Ka Kc)) (hel.out.keep HB.out) U6.l1 (fun k hk wr y hb ha=>DF m ih op j inn g1 y (elt v k) wr (hi.keep (HB.out.trans (hb.mono HB.out.size))) ha (by omega) (kv.elt hk)));clear Mq Qa qV uW rD hi hv hel kv ih U6 hg1;generalize dw (fun e=>P9 m (lZ j) e true) v (nL v)=r at HC HR;cases h5:aj v==5 with
 | true =>
  have H5:=ak h5;go_in;go_wp2_with fail;refine HC.out.mono ?_;rintro e w2 ⟨rfl,b2⟩;have HB3:=ak (HB.out.trans (b2.mono HB.out.size));clear b2;go_wp2_with fail;go_ret;exact ⟨aB (by rw [HR.out,H5.out];rfl),HB3.out⟩
 | false =>
  have H5:=ak h5;go_in;go_wp2_with fail;go_ret;exact ⟨aB (by rw [HR.out,H5.out];rfl),HB.out⟩
theorem EC {m:Nat} {op:ByteArray} {j v:T} {there:Bool} (h1:¬ op=JR) (h2:¬ op=zh) (h3:¬ op=wR) (h4:¬ op=je):xO (m+1) (op,j) v there=(there&&JW m (op,j) v):=by
 rw [xO,if_neg h1,if_neg h2,if_neg h3,if_neg h4];rfl
theorem M8 (m:Nat) (op:ByteArray) (j:T) (A C:Option Addr) (B D:Nat) (gj f:Nat) (x:Value) (v:T) (there:Bool) (w:World) (hop:¬ kg op) (hj:At w gj (.agg #[.int .i64 (aj j),.int .i64 (av j),.string (ay j),.slice A (nL j) B,.slice C (nK j) D]) j) (hv:At w f x v) (hf:f<=16) (kj:bM j) (kv:bM v) :
  Calls Tryz.prog 337 #[.agg #[.string op,.int .i64 (aj j),.int .i64 (av j),.string (ay j),.slice A (nL j) B,.slice C (nK j) D,.slice none 0 0],x,.bool there] w fun e w'=>e=.returned (.bool (xO (m+1) (op,j) v there))/\Below w.heap.size w w':=by
 obtain ⟨g1,La,Ka,Lc,Kc,hg1,rfl,_,_,_⟩:=hv.open;have HB:Hid (Below w.heap.size w ((w.alloc (.cells #[.string op,.int .i64 (aj j),.int .i64 (av j),.string (ay j),.slice A (nL j) B,.slice C (nK j) D,.slice none 0 0] 293)).alloc (vC v La Lc Ka Kc))):=(aY _ _).alloc (by simp) _;have HJ:=ak (hj.keep HB.out);have HV:=ak (hv.keep HB.out);have BD:=ak kj;have Gz:=ak kv;have HOp:=ak hop;have vI:¬ op=wR:=fun h=>hop (.inl h);clear hj hv kj kv hg1 hop;by_cases Mr:op=JR
 ·have eNe:(op.toList==[36,110,101])=true:=bS Mr;have HR:Hid (xO (m+1) (op,j) v there=!(there&&yc v j)):=by show _=_;rw [xO,if_pos Mr]
  have HC:=ak (wT HV.out HJ.out hf Gz.out BD.out);generalize yc v j=r at HC HR;clear Mr vI;cases there with
  | true =>
   go_in;go_wp2_with fail;refine HC.out.mono ?_;rintro e w2 ⟨rfl,b2⟩;have HB3:=ak (HB.out.trans (b2.mono HB.out.size));clear b2;go_wp2_with fail;go_ret;exact ⟨aB (by rw [HR.out];rfl),HB3.out⟩
  | false =>
   go_in;go_wp2_with fail;go_ret;exact ⟨aB (by rw [HR.out];rfl),HB.out⟩
 have eNe:(op.toList==[36,110,101])=false:=aF Mr;by_cases wU:op=zh
 ·have aeM:(op.toList==[36,110,105,110])=true:=bS wU;have HR:Hid (xO (m+1) (op,j) v there=!(there&&dw (yc v) j (nL j))):=by show _=_;rw [xO,if_neg Mr,if_pos wU]
  have HC:=ak (EB op j A C B D gj f _ v ((w.alloc (.cells #[.string op,.int .i64 (aj j),.int .i64 (av j),.string (ay j),.slice A (nL j) B,.slice C (nK j) D,.slice none 0 0] 293)).alloc (vC v La Lc Ka Kc)) HJ.out HV.out hf BD.out Gz.out);generalize dw (yc v) j (nL j)=r at HC HR;clear Mr vI wU;cases there with
  | true =>
   go_in;go_wp2_with fail;refine HC.out.mono ?_;rintro e w2 ⟨rfl,b2⟩;have HB3:=ak (HB.out.trans (b2.mono HB.out.size));clear b2;go_wp2_with fail;go_ret;exact ⟨aB (by rw [HR.out];rfl),HB3.out⟩
  | false =>
   go_in;go_wp2_with fail;go_ret;exact ⟨aB (by rw [HR.out];rfl),HB.out⟩
 have aeM:(op.toList==[36,110,105,110])=false:=aF wU;have aeN:(op.toList==[36,110,111,116])=false:=aF vI;by_cases jO:op=je
 ·have Qb:(op.toList==[36,101,120,105,115,116,115])=true:=bS jO;have HR:Hid (xO (m+1) (op,j) v there=(there==(av j==1))):=by show _=_;rw [xO,if_neg Mr,if_neg wU,if_neg vI,if_pos jO]
  clear Mr vI wU jO;go_in;go_wp2_with fail;go_ret;exact ⟨aB (by rw [HR.out]),HB.out⟩
 have Qb:(op.toList==[36,101,120,105,115,116,115])=false:=aF jO;have HR:=ak (EC (m:=m) (j:=j) (v:=v) (there:=there) Mr wU vI jO);have HC:=ak (Gy m op j A C B D gj f _ v ((w.alloc (.cells #[.string op,.int .i64 (aj j),.int .i64 (av j),.string (ay j),.slice A (nL j) B,.slice C (nK j) D,.slice none 0 0] 293)).alloc (vC v La Lc Ka Kc)) HOp.out HJ.out HV.out hf BD.out Gz.out);generalize JW m (op,j) v=r at HC HR;clear Mr vI wU jO;cases there with
 | true =>
  go_in;go_wp2_with fail;refine HC.out.mono ?_;rintro e w2 ⟨rfl,b2⟩;have HB3:=ak (HB.out.trans (b2.mono HB.out.size));clear b2;go_wp2_with fail;go_ret;exact ⟨aB (by rw [HR.out];rfl),HB3.out⟩
 | false =>
  go_in;go_wp2_with fail;go_ret;exact ⟨aB (by rw [HR.out];rfl),HB.out⟩
theorem RL (m:Nat) (ih:kX m) (op:ByteArray) (j:T) (inn:Value) (f:Nat) (x:Value) (v:T) (there:Bool) (w:World) (hop:kg op) (hi:kM w m inn (lZ j)) (hv:At w f x v) (hf:f<=16) (kv:bM v) :
  Calls Tryz.prog 337 #[.agg #[.string op,.int .i64 0,.int .i64 0,.string ⟨#[]⟩,.slice none 0 0,.slice none 0 0,inn],x,.bool there] w fun e w'=>e=.returned (.bool (xO (m+1) (op,j) v there))/\Below w.heap.size w w':=by
 obtain ⟨g1,La,Ka,Lc,Kc,hg1,rfl,_,_,_⟩:=hv.open;have HB:Hid (Below w.heap.size w ((w.alloc (.cells #[.string op,.int .i64 0,.int .i64 0,.string ⟨#[]⟩,.slice none 0 0,.slice none 0 0,inn] 293)).alloc (vC v La Lc Ka Kc))):=(aY _ _).alloc (by simp) _;have HI:=ak (hi.keep HB.out);have HV:=ak (hv.keep HB.out);have Gz:=ak kv;have Qc:=ak ih;clear hi hv kv hg1 ih;have Mr:¬ op=JR:=by rcases hop with h | h<;>(rw [h];decide)
 have wU:¬ op=zh:=by rcases hop with h | h<;>(rw [h];decide)
 have jO:¬ op=je:=by rcases hop with h | h<;>(rw [h];decide)
 have eNe:(op.toList==[36,110,101])=false:=aF Mr;have aeM:(op.toList==[36,110,105,110])=false:=aF wU;have Qb:(op.toList==[36,101,120,105,115,116,115])=false:=aF jO;by_cases vI:op=wR
 ·have aeN:(op.toList==[36,110,111,116])=true:=bS vI;have HR:Hid (xO (m+1) (op,j) v there=!(P9 m (lZ j) v there)):=by show _=_;rw [xO,if_neg Mr,if_neg wU,if_pos vI];rfl
  have HC:=ak (Qc.out inn (lZ j) f _ v there ((w.alloc (.cells #[.string op,.int .i64 0,.int .i64 0,.string ⟨#[]⟩,.slice none 0 0,.slice none 0 0,inn] 293)).alloc (vC v La Lc Ka Kc)) HI.out HV.out hf Gz.out);generalize P9 m (lZ j) v there=r at HC HR;clear Mr vI wU jO hop;go_in;go_wp2_with fail;refine HC.out.mono ?_;rintro e w2 ⟨rfl,b2⟩;have HB3:=ak (HB.out.trans (b2.mono HB.out.size));clear b2;go_wp2_with fail;go_ret;exact ⟨aB (by rw [HR.out]),HB3.out⟩
 have aeN:(op.toList==[36,110,111,116])=false:=aF vI;have rD:op=sH:=hop.resolve_left vI;have HR:=ak (EC (m:=m) (j:=j) (v:=v) (there:=there) Mr wU vI jO);have HC:=ak (JX m Qc.out op j inn f _ v ((w.alloc (.cells #[.string op,.int .i64 0,.int .i64 0,.string ⟨#[]⟩,.slice none 0 0,.slice none 0 0,inn] 293)).alloc (vC v La Lc Ka Kc)) rD HI.out HV.out hf Gz.out);generalize JW m (op,j) v=r at HC HR;clear Mr vI wU jO hop rD;cases there with
 | true =>
  go_in;go_wp2_with fail;refine HC.out.mono ?_;rintro e w2 ⟨rfl,b2⟩;have HB3:=ak (HB.out.trans (b2.mono HB.out.size));clear b2;go_wp2_with fail;go_ret;exact ⟨aB (by rw [HR.out];rfl),HB3.out⟩
 | false =>
  go_in;go_wp2_with fail;go_ret;exact ⟨aB (by rw [HR.out];rfl),HB.out⟩
end Go.Proofs.YtknakfpciccoaaaGreatDoor
