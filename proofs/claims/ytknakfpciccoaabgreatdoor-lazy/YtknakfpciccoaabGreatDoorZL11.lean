import Derived.Test.YtknakfpciccoaabGreatDoorZL10
import Derived.Deep.RegionHeld3
/- slices.IndexFunc and ContainsFunc of values, of a function that only looks. -/
set_option maxHeartbeats 4000000
set_option maxRecDepth 100000
namespace Go.Proofs.YtknakfpciccoaabGreatDoor
open Go.RowKit
theorem mR (P:T->Bool) (g:FuncId) (hg:∀ (a:Array Value) (w:World),(callFunc g a).run Tryz.prog w=.ok (.enter g a) w) (p:Value) (f:Nat) (La:Option Addr) (Lc:Nat) (t:T) (w:World) (hl:bK w f La t) (hn:nL t<=1759218604442)
  (hP:∀ k,k<nL t->∀ (wr:World) (v:Value),Below w.heap.size w wr->At wr f v (elt t k)->Calls Tryz.prog g #[v,p] wr fun e w'=>e=.returned (.bool (P (elt t k)))/\Below wr.heap.size wr w') :
  Calls Tryz.prog 119 #[.slice La (nL t) Lc,.func (Fn.func g) #[] #[p]] w fun e w'=>Below w.heap.size w w'/\∃ n:Int,e=.returned (.int .i64 n)/\((n=-1/\cZ P t (nL t)=false)\/∃ k:Nat,n=(k:Int)/\k<nL t/\P (elt t k)=true/\cZ P t k=false):=by
 have Hl:=aj hl;have HP:=aj hP;clear hl hP;go_in;go_wp2_with fail;go_loopg [8] (nL t) (fun g' i wr=>∃ k:Nat,g'=nL t - k/\k<=nL t/\i=.int .i64 k/\Hid (Below w.heap.size w wr)/\Hid (cZ P t k=false))
 case atStart=>exact ⟨0,rfl,Nat.zero_le _,rfl,Below.refl _ _,rfl⟩
 case round =>
  obtain ⟨k,rfl,hk,rfl,HB,HN⟩:=hrel;by_cases hlt:k<nL t
  ·obtain ⟨bb,o,A,B,C,D,rfl,hbl,p0,p1,p2,p3,p4,Ha⟩:=Hl.out.shape HB.out k hlt;have HC:=aj (HP.out k hlt wr _ HB.out (At.keep HB.out Ha.out));cases hp:P (elt t k) with
   | true =>
    rw [hp] at HC;have Hp:=aj hp;clear hp;go_wp2_with fail;refine HC.out.mono ?_;rintro e w2 ⟨rfl,b2⟩;have HB2:=aj (HB.out.trans (b2.mono HB.out.size));clear b2;go_wp2_with fail;go_ret;exact ⟨HB2.out,_,rfl,.inr ⟨k,rfl,hlt,Hp.out,HN.out⟩⟩
   | false =>
    rw [hp] at HC;have HN2:Hid (cZ P t (k+1)=false):=by show _=_;rw [cZ,HN.out,hp];rfl
    clear hp;go_wp2_with fail;refine HC.out.mono ?_;rintro e w2 ⟨rfl,b2⟩;have HB2:=aj (HB.out.trans (b2.mono HB.out.size));clear b2;go_wp2_with fail;go_roundg (nL t - (k+1))
    case rel=>exact ⟨k+1,rfl,by omega,by go_num,HB2,HN2⟩
    case measure=>omega
  ·obtain rfl:k=nL t:=by omega
   go_wp2_with fail;go_ret;exact ⟨HB.out,_,rfl,.inl ⟨rfl,HN.out⟩⟩
theorem ou (P:T->Bool) (g:FuncId) (hg:∀ (a:Array Value) (w:World),(callFunc g a).run Tryz.prog w=.ok (.enter g a) w) (p:Value) (f:Nat) (La:Option Addr) (Lc:Nat) (t:T) (w:World) (hl:bK w f La t) (hn:nL t<=1759218604442)
  (hP:∀ k,k<nL t->∀ (wr:World) (v:Value),Below w.heap.size w wr->At wr f v (elt t k)->Calls Tryz.prog g #[v,p] wr fun e w'=>e=.returned (.bool (P (elt t k)))/\Below wr.heap.size wr w') :
  Calls Tryz.prog 88 #[.slice La (nL t) Lc,.func (Fn.func g) #[] #[p]] w fun e w'=>e=.returned (.bool (cZ P t (nL t)))/\Below w.heap.size w w':=by
 have HC:=aj (mR P g hg p f La Lc t w hl hn hP);clear hl hP hn;go_in;go_wp2_with fail;refine HC.out.mono ?_;rintro e w2 ⟨b2,n,rfl,⟨rfl,hn⟩ | ⟨k,rfl,hk,hp,_⟩⟩
 ·have HB:=aj b2;have HN:=aj hn;clear b2 hn;go_wp2_with fail;go_ret;exact ⟨aA HN.out.symm,HB.out⟩
 ·have HB:=aj b2;have HN:=aj (zQ hk hp);clear b2 hp;go_wp2_with fail;go_ret;exact ⟨aA HN.out.symm,HB.out⟩
theorem AX (P:T->Bool) (g:FuncId) (hg:∀ (a:Array Value) (w:World),(callFunc g a).run Tryz.prog w=.ok (.enter g a) w) (p:Value) (f:Nat) (La:Option Addr) (Lc:Nat) (t:T) (w:World) (hl:bK w f La t) (hn:nL t<=1759218604442)
  (hP:∀ k,k<nL t->∀ (wr:World) (v:Value),Below w.heap.size w wr->At wr f v (elt t k)->Calls Tryz.prog g #[p,v] wr fun e w'=>e=.returned (.bool (P (elt t k)))/\Below wr.heap.size wr w') :
  Calls Tryz.prog 119 #[.slice La (nL t) Lc,.func (Fn.func g) #[p] #[]] w fun e w'=>Below w.heap.size w w'/\∃ n:Int,e=.returned (.int .i64 n)/\((n=-1/\cZ P t (nL t)=false)\/∃ k:Nat,n=(k:Int)/\k<nL t/\P (elt t k)=true/\cZ P t k=false):=by
 have Hl:=aj hl;have HP:=aj hP;clear hl hP;go_in;go_wp2_with fail;go_loopg [8] (nL t) (fun g' i wr=>∃ k:Nat,g'=nL t - k/\k<=nL t/\i=.int .i64 k/\Hid (Below w.heap.size w wr)/\Hid (cZ P t k=false))
 case atStart=>exact ⟨0,rfl,Nat.zero_le _,rfl,Below.refl _ _,rfl⟩
 case round =>
  obtain ⟨k,rfl,hk,rfl,HB,HN⟩:=hrel;by_cases hlt:k<nL t
  ·obtain ⟨bb,o,A,B,C,D,rfl,hbl,p0,p1,p2,p3,p4,Ha⟩:=Hl.out.shape HB.out k hlt;have HC:=aj (HP.out k hlt wr _ HB.out (At.keep HB.out Ha.out));cases hp:P (elt t k) with
   | true =>
    rw [hp] at HC;have Hp:=aj hp;clear hp;go_wp2_with fail;refine HC.out.mono ?_;rintro e w2 ⟨rfl,b2⟩;have HB2:=aj (HB.out.trans (b2.mono HB.out.size));clear b2;go_wp2_with fail;go_ret;exact ⟨HB2.out,_,rfl,.inr ⟨k,rfl,hlt,Hp.out,HN.out⟩⟩
   | false =>
    rw [hp] at HC;have HN2:Hid (cZ P t (k+1)=false):=by show _=_;rw [cZ,HN.out,hp];rfl
    clear hp;go_wp2_with fail;refine HC.out.mono ?_;rintro e w2 ⟨rfl,b2⟩;have HB2:=aj (HB.out.trans (b2.mono HB.out.size));clear b2;go_wp2_with fail;go_roundg (nL t - (k+1))
    case rel=>exact ⟨k+1,rfl,by omega,by go_num,HB2,HN2⟩
    case measure=>omega
  ·obtain rfl:k=nL t:=by omega
   go_wp2_with fail;go_ret;exact ⟨HB.out,_,rfl,.inl ⟨rfl,HN.out⟩⟩
theorem ow (P:T->Bool) (g:FuncId) (hg:∀ (a:Array Value) (w:World),(callFunc g a).run Tryz.prog w=.ok (.enter g a) w) (p:Value) (f:Nat) (La:Option Addr) (Lc:Nat) (t:T) (w:World) (hl:bK w f La t) (hn:nL t<=1759218604442)
  (hP:∀ k,k<nL t->∀ (wr:World) (v:Value),Below w.heap.size w wr->At wr f v (elt t k)->Calls Tryz.prog g #[p,v] wr fun e w'=>e=.returned (.bool (P (elt t k)))/\Below wr.heap.size wr w') :
  Calls Tryz.prog 88 #[.slice La (nL t) Lc,.func (Fn.func g) #[p] #[]] w fun e w'=>e=.returned (.bool (cZ P t (nL t)))/\Below w.heap.size w w':=by
 have HC:=aj (AX P g hg p f La Lc t w hl hn hP);clear hl hP hn;go_in;go_wp2_with fail;refine HC.out.mono ?_;rintro e w2 ⟨b2,n,rfl,⟨rfl,hn⟩ | ⟨k,rfl,hk,hp,_⟩⟩
 ·have HB:=aj b2;have HN:=aj hn;clear b2 hn;go_wp2_with fail;go_ret;exact ⟨aA HN.out.symm,HB.out⟩
 ·have HB:=aj b2;have HN:=aj (zQ hk hp);clear b2 hp;go_wp2_with fail;go_ret;exact ⟨aA HN.out.symm,HB.out⟩
def Jt:ByteArray:=⟨#[36,110,101]⟩
def yR:ByteArray:=⟨#[36,110,105,110]⟩
def wE:ByteArray:=⟨#[36,110,111,116]⟩
def jd:ByteArray:=⟨#[36,101,120,105,115,116,115]⟩
def wG:ByteArray:=⟨#[36,101,113]⟩
def CU:ByteArray:=⟨#[36,105,110]⟩
def jl:ByteArray:=⟨#[36,115,105,122,101]⟩
def oP:ByteArray:=⟨#[36,107,105,110,100]⟩
def rX:ByteArray:=⟨#[36,97,110,121]⟩
def Eb:ByteArray:=⟨#[36,103,116,101]⟩
def AY:ByteArray:=⟨#[36,103,116]⟩
def Ju:ByteArray:=⟨#[36,108,116,101]⟩
def uZ:ByteArray:=⟨#[36,108,116]⟩
theorem Ec {g g':T->T->Int} {a b:T}:∀ k,(∀ i,i<k->g (elt a i) (elt b i)=g' (elt a i) (elt b i))->kS g a b k=kS g' a b k
 | 0,_=>rfl
 | k+1,h=>by rw [kS,kS,Ec k (fun i hi=>h i (by omega)),h k (by omega)]
theorem xM:∀ (f f':Nat) (a b:T),xE f a->f<=f'->bS f' a b=bS f a b
 | 0,f',a,b,h,_=>h.elim
 | f+1,f',a,b,h,hf=>by
  obtain ⟨f',rfl⟩:∃ x,f'=x+1:=⟨f' - 1,by omega⟩
  have e:uf (bS f') a b=uf (bS f) a b:=by
   unfold uf;rw [Ec (min (nL a) (nL b)) (fun i hi=>xM f f' _ _ (h i (by omega)) (by omega))]
  unfold bS;rw [e]
def xO (a b:T):Bool:=bS 16 a b==0
def mU (op:ByteArray) (c:Int):Bool:=if op=Eb then (c==0 || decide (0<c)) else if op=AY then decide (0<c) else if op=Ju then (c==0 || decide (c<0)) else if op=uZ then decide (c<0) else false
def mg (j:T):List (ByteArray×T):=(List.range (nK j)).map fun i=>(bR j i,elt j i)
def wH:Nat->ByteArray×T->T->Bool->Bool
 | 0,_,_,_=>false
 | m+1,p,v,there =>
  if p.1=Jt then !(there&&xO v p.2)
  else if p.1=yR then !(there&&cZ (xO v) p.2 (nL p.2))
  else if p.1=wE then !((mg p.2).all fun q=>wH m q v there)
  else if p.1=jd then there==(au p.2==1)
  else there&&(if p.1=wG then xO v p.2 else if p.1=CU then cZ (xO v) p.2 (nL p.2)
   else if p.1=jl then (ah v==5&&((nL v:Int)==au p.2)) else if p.1=oP then ah v==au p.2
   else if p.1=rX then (ah v==5&&cZ (fun e=>(mg p.2).all fun q=>wH m q e true) v (nL v))
   else (ah v==ah p.2&&mU p.1 (bS 16 v p.2)))
def Jv (m:Nat) (ps:List (ByteArray×T)) (v:T) (there:Bool):Bool:=ps.all fun q=>wH m q v there
def jZ (op:ByteArray):Prop:=op=wE\/op=rX
abbrev R7:=Value->Value->Value->Value->Value->Value->Value->ByteArray×T->Prop
def Mw (w:World) (R:R7) (v:Value) (ps:List (ByteArray×T)):Prop :=
 ∃ (A:Option Addr) (c:Nat),v=.slice A ps.length c/\ps.length<=1000000000/\∀ i,(h:i<ps.length)->∃ b o c0 c1 c2 c3 c4 c5 c6,A=some ⟨b,o,none⟩/\b<w.heap.size/\w.cell? ⟨b,o+i*7,none⟩=some c0/\w.cell? ⟨b,o+i*7+1,none⟩=some c1/\w.cell? ⟨b,o+i*7+2,none⟩=some c2/\w.cell? ⟨b,o+i*7+3,none⟩=some c3/\w.cell? ⟨b,o+i*7+4,none⟩=some c4/\w.cell? ⟨b,o+i*7+5,none⟩=some c5/\w.cell? ⟨b,o+i*7+6,none⟩=some c6/\R c0 c1 c2 c3 c4 c5 c6 ps[i]
theorem Mw.keep {w w':World} {R R':R7} {v:Value} {ps:List (ByteArray×T)} (h:Mw w R v ps) (hb:Below w.heap.size w w') (hR:∀ c0 c1 c2 c3 c4 c5 c6 p,R c0 c1 c2 c3 c4 c5 c6 p->R' c0 c1 c2 c3 c4 c5 c6 p):Mw w' R' v ps:=by
 obtain ⟨A,c,hv,hn,h⟩:=h;refine ⟨A,c,hv,hn,fun i hi=>?_⟩;obtain ⟨b,o,c0,c1,c2,c3,c4,c5,c6,h0,hl,q0,q1,q2,q3,q4,q5,q6,hr⟩:=h i hi;exact ⟨b,o,c0,c1,c2,c3,c4,c5,c6,h0,Nat.lt_of_lt_of_le hl hb.size,(hb.cell (p:=⟨b,_,none⟩) hl).trans q0,(hb.cell (p:=⟨b,_,none⟩) hl).trans q1,(hb.cell (p:=⟨b,_,none⟩) hl).trans q2,(hb.cell (p:=⟨b,_,none⟩) hl).trans q3,(hb.cell (p:=⟨b,_,none⟩) hl).trans q4,(hb.cell (p:=⟨b,_,none⟩) hl).trans q5,(hb.cell (p:=⟨b,_,none⟩) hl).trans q6,hR _ _ _ _ _ _ _ _ hr⟩
def lT (w : World) : Nat -> R7
  | 0 => fun _ _ _ _ _ _ _ _ => False
  | m + 1 => fun c0 c1 c2 c3 c4 c5 c6 p => c0 = .string p.1 /\ p.1.size <= 140737488355328 /\
      ((jZ p.1 /\ c1 = .int .i64 0 /\ c2 = .int .i64 0 /\ c3 = .string ⟨#[]⟩ /\ c4 = .slice none 0 0 /\ c5 = .slice none 0 0 /\ Mw w (lT w m) c6 (mg p.2)) \/
       (¬ jZ p.1 /\ c6 = .slice none 0 0 /\ ∃ g A B C D, g <= 16 /\ c1 = .int .i64 (ah p.2) /\ c2 = .int .i64 (au p.2) /\ c3 = .string (ay p.2) /\ c4 = .slice A (nL p.2) B /\ c5 = .slice C (nK p.2) D /\ At w g (.agg #[.int .i64 (ah p.2), .int .i64 (au p.2), .string (ay p.2), .slice A (nL p.2) B, .slice C (nK p.2) D]) p.2 /\ bM p.2))
theorem lT.keep {w w':World} (hb:Below w.heap.size w w'):∀ (m:Nat) (c0 c1 c2 c3 c4 c5 c6:Value) (p:ByteArray×T),lT w m c0 c1 c2 c3 c4 c5 c6 p->lT w' m c0 c1 c2 c3 c4 c5 c6 p
 | 0,_,_,_,_,_,_,_,_,h=>h
 | m+1,c0,c1,c2,c3,c4,c5,c6,p,h=>by
  obtain ⟨h0,h1,⟨hi,z1,z2,z3,z4,z5,hr⟩ | ⟨hi,z6,g,A,B,C,D,hg,z1,z2,z3,z4,z5,ha,hk⟩⟩:=h
  ·exact ⟨h0,h1,.inl ⟨hi,z1,z2,z3,z4,z5,hr.keep hb (lT.keep hb m)⟩⟩
  ·exact ⟨h0,h1,.inr ⟨hi,z6,g,A,B,C,D,hg,z1,z2,z3,z4,z5,ha.keep hb,hk⟩⟩
def kL (w:World) (m:Nat) (v:Value) (ps:List (ByteArray×T)):Prop:=Mw w (lT w m) v ps
theorem kL.keep {w w':World} {m:Nat} {v:Value} {ps:List (ByteArray×T)} (h:kL w m v ps) (hb:Below w.heap.size w w'):kL w' m v ps:=Mw.keep h hb (lT.keep hb m)
theorem wI {w:World} {f g:Nat} {va vb:Value} {a b:T} (h:At w f va a) (h':At w g vb b) (hf:f<=16) (ka:bM a) (kb:bM b) :
  Calls Tryz.prog 90 #[va,vb] w fun e w'=>e=.returned (.bool (xO a b))/\Below w.heap.size w w':=by
 have:=Rf f g va vb a b w h h' (ka.1 f) (kb.1 f);have e:xO a b=(bS f a b==0):=by unfold xO;rw [xM f 16 a b h.aeG hf]
 rw [e];exact this
theorem YV {a b:ByteArray} (h:a.data.toList=b.data.toList):a=b:=by
 apply ByteArray.ext;exact Array.toList_inj.1 h
theorem bX {a b:ByteArray} (h:a=b):(a.toList==b.data.toList)=true:=by rw [h,ByteArray.toList_eq];exact beq_self_eq_true _
theorem aF {a b:ByteArray} (h:¬ a=b):(a.toList==b.data.toList)=false:=by
 rw [beq_eq_false_iff_ne];intro e;apply h;rw [ByteArray.toList_eq] at e;exact YV e
theorem CV (op:ByteArray) (j:T) (A C:Option Addr) (B D:Nat) (n:Int) (w:World) :
  Calls Tryz.prog 270 #[.agg #[.string op,.int .i64 (ah j),.int .i64 (au j),.string (ay j),.slice A (nL j) B,.slice C (nK j) D,.slice none 0 0],.int .i64 n] w fun e w'=>e=.returned (.bool (mU op n))/\Below w.heap.size w w':=by
 have HB:=aj (aQ w (.cells #[.string op,.int .i64 (ah j),.int .i64 (au j),.string (ay j),.slice A (nL j) B,.slice C (nK j) D,.slice none 0 0] 233));by_cases zq:op=Eb
 ·have ahL:(op.toList==[36,103,116,101])=true:=bX zq;have HR:Hid (mU op n=(n==0 || decide (0<n))):=by show _=_;unfold mU;rw [if_pos zq]
  clear zq;by_cases h0:n=0
  ·subst h0;go_in;go_wp2_with fail;go_ret;exact ⟨aA (by rw [HR.out];rfl),HB.out⟩
  ·have e0:(n==0)=false:=by simpa using h0
   clear h0;go_in;go_wp2_with fail;go_ret;exact ⟨aA (by rw [HR.out,e0];rfl),HB.out⟩
 ·have ahL:(op.toList==[36,103,116,101])=false:=aF zq;by_cases Yq:op=AY
  ·have eGt:(op.toList==[36,103,116])=true:=bX Yq;have HR:Hid (mU op n=decide (0<n)):=by show _=_;unfold mU;rw [if_neg zq,if_pos Yq]
   clear zq Yq;go_in;go_wp2_with fail;go_ret;exact ⟨aA (by rw [HR.out]),HB.out⟩
  ·have eGt:(op.toList==[36,103,116])=false:=aF Yq;by_cases Jw:op=Ju
   ·have ahM:(op.toList==[36,108,116,101])=true:=bX Jw;have HR:Hid (mU op n=(n==0 || decide (n<0))):=by show _=_;unfold mU;rw [if_neg zq,if_neg Yq,if_pos Jw]
    clear zq Yq Jw;by_cases h0:n=0
    ·subst h0;go_in;go_wp2_with fail;go_ret;exact ⟨aA (by rw [HR.out];rfl),HB.out⟩
    ·have e0:(n==0)=false:=by simpa using h0
     clear h0;go_in;go_wp2_with fail;go_ret;exact ⟨aA (by rw [HR.out,e0];rfl),HB.out⟩
   ·have ahM:(op.toList==[36,108,116,101])=false:=aF Jw;by_cases gLt:op=uZ
    ·have eLt:(op.toList==[36,108,116])=true:=bX gLt;have HR:Hid (mU op n=decide (n<0)):=by show _=_;unfold mU;rw [if_neg zq,if_neg Yq,if_neg Jw,if_pos gLt]
     clear zq Yq Jw gLt;go_in;go_wp2_with fail;go_ret;exact ⟨aA (by rw [HR.out]),HB.out⟩
    ·have eLt:(op.toList==[36,108,116])=false:=aF gLt;have HR:Hid (mU op n=false):=by show _=_;unfold mU;rw [if_neg zq,if_neg Yq,if_neg Jw,if_neg gLt]
     clear zq Yq Jw gLt;go_in;go_wp2_with fail;go_ret;exact ⟨aA (by rw [HR.out]),HB.out⟩
theorem Mx (b:Nat) (f g:Nat) (v:T) (one:Value) (x:T) (A C:Option Addr) (B D:Nat) (w:World) (h0:w.cell? ⟨b,0,none⟩=some (.int .i64 (ah v))) (h1:w.cell? ⟨b,1,none⟩=some (.int .i64 (au v))) (h2:w.cell? ⟨b,2,none⟩=some (.string (ay v))) (h3:w.cell? ⟨b,3,none⟩=some (.slice A (nL v) B)) (h4:w.cell? ⟨b,4,none⟩=some (.slice C (nK v) D)) (hb:b<w.heap.size)
  (ha:At w f (.agg #[.int .i64 (ah v),.int .i64 (au v),.string (ay v),.slice A (nL v) B,.slice C (nK v) D]) v) (hx:At w g one x) (hf:f<=16) (ka:bM v) (kx:bM x) :
  Calls Tryz.prog 268 #[one,.pointer (some ⟨b,0,none⟩)] w fun e w'=>e=.returned (.bool (xO v x))/\Below w.heap.size w w':=by
 obtain ⟨g1,La,Ka,Lc,Kc,hg1,rfl,_,_,_⟩:=hx.open;have HB:=aj (aQ w (vC x La Lc Ka Kc));have q0:=(HB.out.cell (p:=⟨b,0,none⟩) hb).trans h0;have q1:=(HB.out.cell (p:=⟨b,1,none⟩) hb).trans h1;have q2:=(HB.out.cell (p:=⟨b,2,none⟩) hb).trans h2;have q3:=(HB.out.cell (p:=⟨b,3,none⟩) hb).trans h3;have q4:=(HB.out.cell (p:=⟨b,4,none⟩) hb).trans h4;have HC:=aj (wI (ha.keep HB.out) (hx.keep HB.out) hf ka kx);clear h0 h1 h2 h3 h4 ha hx ka kx hg1;go_in;go_wp2_with fail;refine HC.out.mono ?_;rintro e w2 ⟨rfl,b2⟩;have HB2:=aj (HB.out.trans (b2.mono HB.out.size));clear b2;go_wp2_with fail;go_ret;exact ⟨rfl,HB2.out⟩
theorem Ed (op:ByteArray) (j:T) (A C:Option Addr) (B D:Nat) (gj f:Nat) (x:Value) (v:T) (w:World) (hj:At w gj (.agg #[.int .i64 (ah j),.int .i64 (au j),.string (ay j),.slice A (nL j) B,.slice C (nK j) D]) j) (hv:At w f x v) (hf:f<=16) (kj:bM j) (kv:bM v) :
  Calls Tryz.prog 266 #[.agg #[.string op,.int .i64 (ah j),.int .i64 (au j),.string (ay j),.slice A (nL j) B,.slice C (nK j) D,.slice none 0 0],x] w fun e w'=>e=.returned (.bool (cZ (xO v) j (nL j)))/\Below w.heap.size w w':=by
 obtain ⟨g1,La,Ka,Lc,Kc,hg1,rfl,_,_,_⟩:=hv.open;obtain ⟨g2,A',C',B',D',hg2,he,hfj,hel,_⟩:=hj.open;simp only [Value.agg.injEq,Array.mk.injEq,List.cons.injEq,Value.slice.injEq,and_true,true_and] at he;obtain ⟨⟨rfl,rfl⟩,rfl,rfl⟩:=he;have HB1:=aj (aQ w (.cells #[.string op,.int .i64 (ah j),.int .i64 (au j),.string (ay j),.slice A (nL j) B,.slice C (nK j) D,.slice none 0 0] 233));have HB2:Hid (Below (w.heap.size+1) (w.alloc (.cells #[.string op,.int .i64 (ah j),.int .i64 (au j),.string (ay j),.slice A (nL j) B,.slice C (nK j) D,.slice none 0 0] 233)) ((w.alloc (.cells #[.string op,.int .i64 (ah j),.int .i64 (au j),.string (ay j),.slice A (nL j) B,.slice C (nK j) D,.slice none 0 0] 233)).alloc (vC v La Lc Ka Kc))):=(Below.refl _ _).alloc (by simp) _;have HB:=aj (HB1.out.trans (HB2.out.mono (by omega)))
 have HX:Hid (aH (w.heap.size+1) (.int .i64 (ah v)) (.int .i64 (au v)) (.string (ay v)) (.slice La (nL v) Lc) (.slice Ka (nK v) Kc) ((w.alloc (.cells #[.string op,.int .i64 (ah j),.int .i64 (au j),.string (ay j),.slice A (nL j) B,.slice C (nK j) D,.slice none 0 0] 233)).alloc (vC v La Lc Ka Kc))):=by
  constructor<;>simp [go_sem]
 have HC:=aj (ou (xO v) 268 (fun _ _=>rfl) (.pointer (some ⟨w.heap.size+1,0,none⟩)) g2 A B j _ (hel.out.keep HB.out) hfj.l1 (fun k hk wr y hb ha=>by
   have hbx:=HX.out.move hb.size (hb.block _ HX.out.lt);have hbw:=HB.out.trans (hb.mono HB.out.size);exact Mx (w.heap.size+1) f g2 v y (elt j k) La Ka Lc Kc wr hbx.q0 hbx.q1 hbx.q2 hbx.q3 hbx.q4 hbx.lt (hv.keep hbw) ha hf kv (kj.elt hk)))
 clear hv hj hel kj kv hfj hg1 hg2;go_in;go_wp2_with fail;refine HC.out.mono ?_;rintro e w2 ⟨rfl,b2⟩;have HB3:=aj (HB.out.trans (b2.mono HB.out.size));clear b2;go_wp2_with fail;go_ret;exact ⟨rfl,HB3.out⟩
def Jy (m:Nat) (p:ByteArray×T) (v:T):Bool :=
 if p.1=wG then xO v p.2 else if p.1=CU then cZ (xO v) p.2 (nL p.2)
   else if p.1=jl then (ah v==5&&((nL v:Int)==au p.2)) else if p.1=oP then ah v==au p.2
   else if p.1=rX then (ah v==5&&cZ (fun e=>(mg p.2).all fun q=>wH m q e true) v (nL v))
   else (ah v==ah p.2&&mU p.1 (bS 16 v p.2))
structure Ri (b:Nat) (c0 c1 c2 c3 c4 c5 c6:Value) (w:World):Prop where
 q0:w.cell? ⟨b,0,none⟩=some c0
 q1:w.cell? ⟨b,1,none⟩=some c1
 q2:w.cell? ⟨b,2,none⟩=some c2
 q3:w.cell? ⟨b,3,none⟩=some c3
 q4:w.cell? ⟨b,4,none⟩=some c4
 q5:w.cell? ⟨b,5,none⟩=some c5
 q6:w.cell? ⟨b,6,none⟩=some c6
 lt:b<w.heap.size
theorem Ri.keep {b:Nat} {c0 c1 c2 c3 c4 c5 c6:Value} {w w':World} (h:Ri b c0 c1 c2 c3 c4 c5 c6 w) (hb:Below w.heap.size w w'):Ri b c0 c1 c2 c3 c4 c5 c6 w' :=
 ⟨(hb.cell (p:=⟨b,0,none⟩) h.lt).trans h.q0,(hb.cell (p:=⟨b,1,none⟩) h.lt).trans h.q1,(hb.cell (p:=⟨b,2,none⟩) h.lt).trans h.q2,(hb.cell (p:=⟨b,3,none⟩) h.lt).trans h.q3,(hb.cell (p:=⟨b,4,none⟩) h.lt).trans h.q4,(hb.cell (p:=⟨b,5,none⟩) h.lt).trans h.q5,(hb.cell (p:=⟨b,6,none⟩) h.lt).trans h.q6,Nat.lt_of_lt_of_le h.lt hb.size⟩
theorem aH.stay {b:Nat} {c0 c1 c2 c3 c4:Value} {w w':World} (h:aH b c0 c1 c2 c3 c4 w) (hb:Below w.heap.size w w'):aH b c0 c1 c2 c3 c4 w':=h.move hb.size (hb.block _ h.lt)
theorem xP {w:World} {f g:Nat} {va vb:Value} {a b:T} (h:At w f va a) (h':At w g vb b) (hf:f<=16) (ka:bM a) (kb:bM b) :
  Calls Tryz.prog 30 #[va,vb] w fun e w'=>e=.returned (.int .i64 (bS 16 a b))/\Below w.heap.size w w':=by
 have:=yJ f g va vb a b w h h' (ka.1 f) (kb.1 f);rw [<- xM f 16 a b h.aeG hf] at this;exact this
theorem Gf (m:Nat) (op:ByteArray) (j:T) (A C:Option Addr) (B D:Nat) (gj f:Nat) (x:Value) (v:T) (w:World) (hop:¬ jZ op) (hj:At w gj (.agg #[.int .i64 (ah j),.int .i64 (au j),.string (ay j),.slice A (nL j) B,.slice C (nK j) D]) j) (hv:At w f x v) (hf:f<=16) (kj:bM j) (kv:bM v) :
  Calls Tryz.prog 267 #[.agg #[.string op,.int .i64 (ah j),.int .i64 (au j),.string (ay j),.slice A (nL j) B,.slice C (nK j) D,.slice none 0 0],x] w fun e w'=>e=.returned (.bool (Jy m (op,j) v))/\Below w.heap.size w w':=by
 obtain ⟨g1,La,Ka,Lc,Kc,hg1,rfl,UC,_,_⟩:=hv.open;have hnl:=UC.l1;have HB:Hid (Below w.heap.size w ((w.alloc (.cells #[.string op,.int .i64 (ah j),.int .i64 (au j),.string (ay j),.slice A (nL j) B,.slice C (nK j) D,.slice none 0 0] 233)).alloc (vC v La Lc Ka Kc))):=(aQ _ _).alloc (by simp) _;have HJ:=aj (hj.keep HB.out);have HV:=aj (hv.keep HB.out);have zu:=aj kj;have Gg:=aj kv;have q9:¬ op=rX:=fun h=>hop (.inr h);clear hj hv kj kv UC hg1 hop;by_cases LJ:op=wG
 ·have eEq:(op.toList==[36,101,113])=true:=bX LJ;have HR:Hid (Jy m (op,j) v=xO v j):=by show _=_;unfold Jy;rw [if_pos LJ]
  have HC:=aj (wI HV.out HJ.out hf Gg.out zu.out);clear LJ q9;go_in;go_wp2_with fail;refine HC.out.mono ?_;rintro e w2 ⟨rfl,b2⟩;have HB3:=aj (HB.out.trans (b2.mono HB.out.size));clear b2;go_wp2_with fail;go_ret;exact ⟨aA (by rw [HR.out]),HB3.out⟩
 have eEq:(op.toList==[36,101,113])=false:=aF LJ;by_cases Pt:op=CU
 ·have eIn:(op.toList==[36,105,110])=true:=bX Pt;have HR:Hid (Jy m (op,j) v=cZ (xO v) j (nL j)):=by show _=_;unfold Jy;rw [if_neg LJ,if_pos Pt]
  have HC:=aj (Ed op j A C B D gj f _ v ((w.alloc (.cells #[.string op,.int .i64 (ah j),.int .i64 (au j),.string (ay j),.slice A (nL j) B,.slice C (nK j) D,.slice none 0 0] 233)).alloc (vC v La Lc Ka Kc)) HJ.out HV.out hf zu.out Gg.out);clear LJ q9 Pt;go_in;go_wp2_with fail;refine HC.out.mono ?_;rintro e w2 ⟨rfl,b2⟩;have HB3:=aj (HB.out.trans (b2.mono HB.out.size));clear b2;go_wp2_with fail;go_ret;exact ⟨aA (by rw [HR.out]),HB3.out⟩
 have eIn:(op.toList==[36,105,110])=false:=aF Pt;by_cases qU:op=jl
 ·have aaT:(op.toList==[36,115,105,122,101])=true:=bX qU;have HR:Hid (Jy m (op,j) v=(ah v==5&&((nL v:Int)==au j))):=by show _=_;unfold Jy;rw [if_neg LJ,if_neg Pt,if_pos qU]
  clear LJ q9 Pt qU;cases h5:ah v==5 with
  | true =>
   have H5:=aj h5;go_in;go_wp2_with fail;go_ret;exact ⟨aA (by rw [HR.out,H5.out];rfl),HB.out⟩
  | false =>
   have H5:=aj h5;go_in;go_wp2_with fail;go_ret;exact ⟨aA (by rw [HR.out,H5.out];rfl),HB.out⟩
 have aaT:(op.toList==[36,115,105,122,101])=false:=aF qU;by_cases uI:op=oP
 ·have aaU:(op.toList==[36,107,105,110,100])=true:=bX uI;have HR:Hid (Jy m (op,j) v=(ah v==au j)):=by show _=_;unfold Jy;rw [if_neg LJ,if_neg Pt,if_neg qU,if_pos uI]
  clear LJ q9 Pt qU uI;go_in;go_wp2_with fail;go_ret;exact ⟨aA (by rw [HR.out]),HB.out⟩
 have aaU:(op.toList==[36,107,105,110,100])=false:=aF uI;have ahN:(op.toList==[36,97,110,121])=false:=aF q9;have HR:Hid (Jy m (op,j) v=(ah v==ah j&&mU op (bS 16 v j))):=by show _=_;unfold Jy;rw [if_neg LJ,if_neg Pt,if_neg qU,if_neg uI,if_neg q9]
 clear LJ q9 Pt qU uI
 have H7:Hid (Ri w.heap.size (.string op) (.int .i64 (ah j)) (.int .i64 (au j)) (.string (ay j)) (.slice A (nL j) B) (.slice C (nK j) D) (.slice none 0 0) ((w.alloc (.cells #[.string op,.int .i64 (ah j),.int .i64 (au j),.string (ay j),.slice A (nL j) B,.slice C (nK j) D,.slice none 0 0] 233)).alloc (vC v La Lc Ka Kc))):=by
  constructor<;>simp [go_sem]
 have H5:Hid (aH (w.heap.size+1) (.int .i64 (ah v)) (.int .i64 (au v)) (.string (ay v)) (.slice La (nL v) Lc) (.slice Ka (nK v) Kc) ((w.alloc (.cells #[.string op,.int .i64 (ah j),.int .i64 (au j),.string (ay j),.slice A (nL j) B,.slice C (nK j) D,.slice none 0 0] 233)).alloc (vC v La Lc Ka Kc))):=by
  constructor<;>simp [go_sem]
 cases hkk:ah v==ah j with
 | false =>
  have Hkk:=aj hkk;go_in;go_wp2_with fail;go_quiet (fail);go_wp2_with fail;go_ret;exact ⟨aA (by rw [HR.out,Hkk.out];rfl),below_drewN HB.out _⟩
 | true =>
  have Hkk:=aj hkk;have YW:=aj (ak ((w.alloc (.cells #[.string op,.int .i64 (ah j),.int .i64 (au j),.string (ay j),.slice A (nL j) B,.slice C (nK j) D,.slice none 0 0] 233)).alloc (vC v La Lc Ka Kc)));have HC:=aj (xP (HV.out.keep YW.out) (HJ.out.keep YW.out) hf Gg.out zu.out);generalize bS 16 v j=cc at HC HR;have HO:=aj (fun w'=>CV op j A C B D cc w');have H7d:=aj (H7.out.keep YW.out);have H5d:=aj (H5.out.stay YW.out);have oz:=aj (HB.out.drew);go_in;go_wp2_with fail
  have oQ:Hid (∀ wx,Ri w.heap.size (.string op) (.int .i64 (ah j)) (.int .i64 (au j)) (.string (ay j)) (.slice A (nL j) B) (.slice C (nK j) D) (.slice none 0 0) wx->aH (w.heap.size+1) (.int .i64 (ah v)) (.int .i64 (au v)) (.string (ay v)) (.slice La (nL v) Lc) (.slice Ka (nK v) Kc) wx->(fun wx=>wx.cell? ⟨w.heap.size,0,none⟩=some (.string op)/\wx.cell? ⟨w.heap.size,1,none⟩=some (.int .i64 (ah j))/\wx.cell? ⟨w.heap.size,2,none⟩=some (.int .i64 (au j))/\wx.cell? ⟨w.heap.size,3,none⟩=some (.string (ay j))/\wx.cell? ⟨w.heap.size,4,none⟩=some (.slice A (nL j) B)/\wx.cell? ⟨w.heap.size,5,none⟩=some (.slice C (nK j) D)/\wx.cell? ⟨w.heap.size,6,none⟩=some (.slice none 0 0)/\wx.cell? ⟨w.heap.size+1,0,none⟩=some (.int .i64 (ah v))/\wx.cell? ⟨w.heap.size+1,1,none⟩=some (.int .i64 (au v))/\wx.cell? ⟨w.heap.size+1,2,none⟩=some (.string (ay v))/\wx.cell? ⟨w.heap.size+1,3,none⟩=some (.slice La (nL v) Lc)/\wx.cell? ⟨w.heap.size+1,4,none⟩=some (.slice Ka (nK v) Kc)) wx):=fun wx a b=>⟨a.q0,a.q1,a.q2,a.q3,a.q4,a.q5,a.q6,b.q0,b.q1,b.q2,b.q3,b.q4⟩;have pF:=aj (oQ.out _ H7d.out H5d.out)
  go_region_held3 (fun wx=>wx.cell? ⟨w.heap.size,0,none⟩=some (.string op)/\wx.cell? ⟨w.heap.size,1,none⟩=some (.int .i64 (ah j))/\wx.cell? ⟨w.heap.size,2,none⟩=some (.int .i64 (au j))/\wx.cell? ⟨w.heap.size,3,none⟩=some (.string (ay j))/\wx.cell? ⟨w.heap.size,4,none⟩=some (.slice A (nL j) B)/\wx.cell? ⟨w.heap.size,5,none⟩=some (.slice C (nK j) D)/\wx.cell? ⟨w.heap.size,6,none⟩=some (.slice none 0 0)/\wx.cell? ⟨w.heap.size+1,0,none⟩=some (.int .i64 (ah v))/\wx.cell? ⟨w.heap.size+1,1,none⟩=some (.int .i64 (au v))/\wx.cell? ⟨w.heap.size+1,2,none⟩=some (.string (ay v))/\wx.cell? ⟨w.heap.size+1,3,none⟩=some (.slice La (nL v) Lc)/\wx.cell? ⟨w.heap.size+1,4,none⟩=some (.slice Ka (nK v) Kc)) (first | exact hS4 | exact hS3 | exact pF.out) (first | (go_at_call 30;refine HC.out.mono ?_;rintro e w3 ⟨rfl,b3⟩;have H73:=aj (H7d.out.keep b3);have H53:=aj (H5d.out.stay b3);have hS3:=oQ.out _ H73.out H53.out) | (go_at_call 270;refine (HO.out _).mono ?_;rintro e w4 ⟨rfl,b4⟩;have hS4:=oQ.out _ (H73.out.keep b4) (H53.out.stay b4)));have dF:=aj ((oz.out.trans (b3.mono oz.out.size)).trans (b4.mono (oz.out.trans (b3.mono oz.out.size)).size));clear b3 b4 hS3 hS4;go_wp2_with fail;go_ret;exact ⟨aA (by rw [HR.out,Hkk.out];rfl),dF.out⟩
def lq (m:Nat):Prop:=∀ (tv:Value) (ps:List (ByteArray×T)) (f:Nat) (x:Value) (v:T) (there:Bool) (w:World),kL w m tv ps->At w f x v->f<=16->bM v ->
  Calls Tryz.prog 263 #[tv,x,.bool there] w fun e w'=>e=.returned (.bool (Jv m ps v there))/\Below w.heap.size w w'
theorem CW (m:Nat) (ih:lq m) (op:ByteArray) (j:T) (inn:Value) (f:Nat) (x:Value) (v:T) (w:World) (hi:kL w m inn (mg j)) (hv:At w f x v) (hf:f<=16) (kv:bM v) :
  Calls Tryz.prog 269 #[.agg #[.string op,.int .i64 0,.int .i64 0,.string ⟨#[]⟩,.slice none 0 0,.slice none 0 0,inn],x] w fun e w'=>e=.returned (.bool (Jv m (mg j) v true))/\Below w.heap.size w w':=by
 obtain ⟨g1,La,Ka,Lc,Kc,hg1,rfl,_,_,_⟩:=hv.open;have HB:Hid (Below w.heap.size w ((w.alloc (.cells #[.string op,.int .i64 0,.int .i64 0,.string ⟨#[]⟩,.slice none 0 0,.slice none 0 0,inn] 233)).alloc (vC v La Lc Ka Kc))):=(aQ _ _).alloc (by simp) _;have HC:=aj (ih inn (mg j) f _ v true ((w.alloc (.cells #[.string op,.int .i64 0,.int .i64 0,.string ⟨#[]⟩,.slice none 0 0,.slice none 0 0,inn] 233)).alloc (vC v La Lc Ka Kc)) (hi.keep HB.out) (hv.keep HB.out) hf kv);clear hi hv ih kv hg1;generalize Jv m (mg j) v true=r at HC;go_in;go_wp2_with fail;refine HC.out.mono ?_;rintro e w2 ⟨rfl,b2⟩;have HB3:=aj (HB.out.trans (b2.mono HB.out.size));clear b2;go_wp2_with fail;go_ret;exact ⟨rfl,HB3.out⟩
theorem Jz (m:Nat) (ih:lq m) (op:ByteArray) (j:T) (inn:Value) (f:Nat) (x:Value) (v:T) (w:World) (q9:op=rX) (hi:kL w m inn (mg j)) (hv:At w f x v) (hf:f<=16) (kv:bM v) :
  Calls Tryz.prog 267 #[.agg #[.string op,.int .i64 0,.int .i64 0,.string ⟨#[]⟩,.slice none 0 0,.slice none 0 0,inn],x] w fun e w'=>e=.returned (.bool (Jy m (op,j) v))/\Below w.heap.size w w':=by
 obtain ⟨g1,La,Ka,Lc,Kc,hg1,rfl,UC,hel,_⟩:=hv.open;have hnl:=UC.l1;have HB:Hid (Below w.heap.size w ((w.alloc (.cells #[.string op,.int .i64 0,.int .i64 0,.string ⟨#[]⟩,.slice none 0 0,.slice none 0 0,inn] 233)).alloc (vC v La Lc Ka Kc))):=(aQ _ _).alloc (by simp) _;have LJ:¬ op=wG:=by rw [q9];decide
 have Pt:¬ op=CU:=by rw [q9];decide
 have qU:¬ op=jl:=by rw [q9];decide
 have uI:¬ op=oP:=by rw [q9];decide
 have HR:Hid (Jy m (op,j) v=(ah v==5&&cZ (fun e=>Jv m (mg j) e true) v (nL v))):=by show _=_;unfold Jy;rw [if_neg LJ,if_neg Pt,if_neg qU,if_neg uI,if_pos q9];rfl
 have eEq:(op.toList==[36,101,113])=false:=aF LJ;have eIn:(op.toList==[36,105,110])=false:=aF Pt;have aaT:(op.toList==[36,115,105,122,101])=false:=aF qU;have aaU:(op.toList==[36,107,105,110,100])=false:=aF uI;have ahN:(op.toList==[36,97,110,121])=true:=bX q9;have HC:=aj (ow (fun e=>Jv m (mg j) e true) 269 (fun _ _=>rfl) (.agg #[.string op,.int .i64 0,.int .i64 0,.string ⟨#[]⟩,.slice none 0 0,.slice none 0 0,inn]) g1 La Lc v ((w.alloc (.cells #[.string op,.int .i64 0,.int .i64 0,.string ⟨#[]⟩,.slice none 0 0,.slice none 0 0,inn] 233)).alloc (vC v La Lc Ka Kc)) (hel.out.keep HB.out) UC.l1 (fun k hk wr y hb ha=>CW m ih op j inn g1 y (elt v k) wr (hi.keep (HB.out.trans (hb.mono HB.out.size))) ha (by omega) (kv.elt hk)));clear LJ Pt qU uI q9 hi hv hel kv ih UC hg1;generalize cZ (fun e=>Jv m (mg j) e true) v (nL v)=r at HC HR;cases h5:ah v==5 with
 | true =>
  have H5:=aj h5;go_in;go_wp2_with fail;refine HC.out.mono ?_;rintro e w2 ⟨rfl,b2⟩;have HB3:=aj (HB.out.trans (b2.mono HB.out.size));clear b2;go_wp2_with fail;go_ret;exact ⟨aA (by rw [HR.out,H5.out];rfl),HB3.out⟩
 | false =>
  have H5:=aj h5;go_in;go_wp2_with fail;go_ret;exact ⟨aA (by rw [HR.out,H5.out];rfl),HB.out⟩
theorem Ee {m:Nat} {op:ByteArray} {j v:T} {there:Bool} (h1:¬ op=Jt) (h2:¬ op=yR) (h3:¬ op=wE) (h4:¬ op=jd):wH (m+1) (op,j) v there=(there&&Jy m (op,j) v):=by
 rw [wH,if_neg h1,if_neg h2,if_neg h3,if_neg h4];rfl
theorem ME (m:Nat) (op:ByteArray) (j:T) (A C:Option Addr) (B D:Nat) (gj f:Nat) (x:Value) (v:T) (there:Bool) (w:World) (hop:¬ jZ op) (hj:At w gj (.agg #[.int .i64 (ah j),.int .i64 (au j),.string (ay j),.slice A (nL j) B,.slice C (nK j) D]) j) (hv:At w f x v) (hf:f<=16) (kj:bM j) (kv:bM v) :
  Calls Tryz.prog 265 #[.agg #[.string op,.int .i64 (ah j),.int .i64 (au j),.string (ay j),.slice A (nL j) B,.slice C (nK j) D,.slice none 0 0],x,.bool there] w fun e w'=>e=.returned (.bool (wH (m+1) (op,j) v there))/\Below w.heap.size w w':=by
 obtain ⟨g1,La,Ka,Lc,Kc,hg1,rfl,_,_,_⟩:=hv.open;have HB:Hid (Below w.heap.size w ((w.alloc (.cells #[.string op,.int .i64 (ah j),.int .i64 (au j),.string (ay j),.slice A (nL j) B,.slice C (nK j) D,.slice none 0 0] 233)).alloc (vC v La Lc Ka Kc))):=(aQ _ _).alloc (by simp) _;have HJ:=aj (hj.keep HB.out);have HV:=aj (hv.keep HB.out);have zu:=aj kj;have Gg:=aj kv;have HOp:=aj hop;have u7:¬ op=wE:=fun h=>hop (.inl h);clear hj hv kj kv hg1 hop;by_cases LK:op=Jt
 ·have eNe:(op.toList==[36,110,101])=true:=bX LK;have HR:Hid (wH (m+1) (op,j) v there=!(there&&xO v j)):=by show _=_;rw [wH,if_pos LK]
  have HC:=aj (wI HV.out HJ.out hf Gg.out zu.out);generalize xO v j=r at HC HR;clear LK u7;cases there with
  | true =>
   go_in;go_wp2_with fail;refine HC.out.mono ?_;rintro e w2 ⟨rfl,b2⟩;have HB3:=aj (HB.out.trans (b2.mono HB.out.size));clear b2;go_wp2_with fail;go_ret;exact ⟨aA (by rw [HR.out];rfl),HB3.out⟩
  | false =>
   go_in;go_wp2_with fail;go_ret;exact ⟨aA (by rw [HR.out];rfl),HB.out⟩
 have eNe:(op.toList==[36,110,101])=false:=aF LK;by_cases wJ:op=yR
 ·have ae6:(op.toList==[36,110,105,110])=true:=bX wJ;have HR:Hid (wH (m+1) (op,j) v there=!(there&&cZ (xO v) j (nL j))):=by show _=_;rw [wH,if_neg LK,if_pos wJ]
  have HC:=aj (Ed op j A C B D gj f _ v ((w.alloc (.cells #[.string op,.int .i64 (ah j),.int .i64 (au j),.string (ay j),.slice A (nL j) B,.slice C (nK j) D,.slice none 0 0] 233)).alloc (vC v La Lc Ka Kc)) HJ.out HV.out hf zu.out Gg.out);generalize cZ (xO v) j (nL j)=r at HC HR;clear LK u7 wJ;cases there with
  | true =>
   go_in;go_wp2_with fail;refine HC.out.mono ?_;rintro e w2 ⟨rfl,b2⟩;have HB3:=aj (HB.out.trans (b2.mono HB.out.size));clear b2;go_wp2_with fail;go_ret;exact ⟨aA (by rw [HR.out];rfl),HB3.out⟩
  | false =>
   go_in;go_wp2_with fail;go_ret;exact ⟨aA (by rw [HR.out];rfl),HB.out⟩
 have ae6:(op.toList==[36,110,105,110])=false:=aF wJ;have ae7:(op.toList==[36,110,111,116])=false:=aF u7;by_cases jN:op=jd
 ·have Pv:(op.toList==[36,101,120,105,115,116,115])=true:=bX jN;have HR:Hid (wH (m+1) (op,j) v there=(there==(au j==1))):=by show _=_;rw [wH,if_neg LK,if_neg wJ,if_neg u7,if_pos jN]
  clear LK u7 wJ jN;go_in;go_wp2_with fail;go_ret;exact ⟨aA (by rw [HR.out]),HB.out⟩
 have Pv:(op.toList==[36,101,120,105,115,116,115])=false:=aF jN;have HR:=aj (Ee (m:=m) (j:=j) (v:=v) (there:=there) LK wJ u7 jN);have HC:=aj (Gf m op j A C B D gj f _ v ((w.alloc (.cells #[.string op,.int .i64 (ah j),.int .i64 (au j),.string (ay j),.slice A (nL j) B,.slice C (nK j) D,.slice none 0 0] 233)).alloc (vC v La Lc Ka Kc)) HOp.out HJ.out HV.out hf zu.out Gg.out);generalize Jy m (op,j) v=r at HC HR;clear LK u7 wJ jN;cases there with
 | true =>
  go_in;go_wp2_with fail;refine HC.out.mono ?_;rintro e w2 ⟨rfl,b2⟩;have HB3:=aj (HB.out.trans (b2.mono HB.out.size));clear b2;go_wp2_with fail;go_ret;exact ⟨aA (by rw [HR.out];rfl),HB3.out⟩
 | false =>
  go_in;go_wp2_with fail;go_ret;exact ⟨aA (by rw [HR.out];rfl),HB.out⟩
theorem Rj (m:Nat) (ih:lq m) (op:ByteArray) (j:T) (inn:Value) (f:Nat) (x:Value) (v:T) (there:Bool) (w:World) (hop:jZ op) (hi:kL w m inn (mg j)) (hv:At w f x v) (hf:f<=16) (kv:bM v) :
  Calls Tryz.prog 265 #[.agg #[.string op,.int .i64 0,.int .i64 0,.string ⟨#[]⟩,.slice none 0 0,.slice none 0 0,inn],x,.bool there] w fun e w'=>e=.returned (.bool (wH (m+1) (op,j) v there))/\Below w.heap.size w w':=by
 obtain ⟨g1,La,Ka,Lc,Kc,hg1,rfl,_,_,_⟩:=hv.open;have HB:Hid (Below w.heap.size w ((w.alloc (.cells #[.string op,.int .i64 0,.int .i64 0,.string ⟨#[]⟩,.slice none 0 0,.slice none 0 0,inn] 233)).alloc (vC v La Lc Ka Kc))):=(aQ _ _).alloc (by simp) _;have HI:=aj (hi.keep HB.out);have HV:=aj (hv.keep HB.out);have Gg:=aj kv;have Pw:=aj ih;clear hi hv kv hg1 ih;have LK:¬ op=Jt:=by rcases hop with h | h<;>(rw [h];decide)
 have wJ:¬ op=yR:=by rcases hop with h | h<;>(rw [h];decide)
 have jN:¬ op=jd:=by rcases hop with h | h<;>(rw [h];decide)
 have eNe:(op.toList==[36,110,101])=false:=aF LK;have ae6:(op.toList==[36,110,105,110])=false:=aF wJ;have Pv:(op.toList==[36,101,120,105,115,116,115])=false:=aF jN;by_cases u7:op=wE
 ·have ae7:(op.toList==[36,110,111,116])=true:=bX u7;have HR:Hid (wH (m+1) (op,j) v there=!(Jv m (mg j) v there)):=by show _=_;rw [wH,if_neg LK,if_neg wJ,if_pos u7];rfl
  have HC:=aj (Pw.out inn (mg j) f _ v there ((w.alloc (.cells #[.string op,.int .i64 0,.int .i64 0,.string ⟨#[]⟩,.slice none 0 0,.slice none 0 0,inn] 233)).alloc (vC v La Lc Ka Kc)) HI.out HV.out hf Gg.out);generalize Jv m (mg j) v there=r at HC HR;clear LK u7 wJ jN hop;go_in;go_wp2_with fail;refine HC.out.mono ?_;rintro e w2 ⟨rfl,b2⟩;have HB3:=aj (HB.out.trans (b2.mono HB.out.size));clear b2;go_wp2_with fail;go_ret;exact ⟨aA (by rw [HR.out]),HB3.out⟩
 have ae7:(op.toList==[36,110,111,116])=false:=aF u7;have q9:op=rX:=hop.resolve_left u7;have HR:=aj (Ee (m:=m) (j:=j) (v:=v) (there:=there) LK wJ u7 jN);have HC:=aj (Jz m Pw.out op j inn f _ v ((w.alloc (.cells #[.string op,.int .i64 0,.int .i64 0,.string ⟨#[]⟩,.slice none 0 0,.slice none 0 0,inn] 233)).alloc (vC v La Lc Ka Kc)) q9 HI.out HV.out hf Gg.out);generalize Jy m (op,j) v=r at HC HR;clear LK u7 wJ jN hop q9;cases there with
 | true =>
  go_in;go_wp2_with fail;refine HC.out.mono ?_;rintro e w2 ⟨rfl,b2⟩;have HB3:=aj (HB.out.trans (b2.mono HB.out.size));clear b2;go_wp2_with fail;go_ret;exact ⟨aA (by rw [HR.out];rfl),HB3.out⟩
 | false =>
  go_in;go_wp2_with fail;go_ret;exact ⟨aA (by rw [HR.out];rfl),HB.out⟩
end Go.Proofs.YtknakfpciccoaabGreatDoor
