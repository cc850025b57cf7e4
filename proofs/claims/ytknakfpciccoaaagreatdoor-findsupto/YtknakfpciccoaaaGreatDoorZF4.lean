import Derived.Test.YtknakfpciccoaaaGreatDoorZF3
import Derived.Lib.MapLaws
import Derived.Lib.IndexBytes
import Derived.Lib.ParseIntBTie
import Derived.Lib.Strings
import Derived.Test.YtknakfpciccoaaaGreatDoorProg
import Derived.Test.YtknakfpciccoaaaGreatDoorZF1
import Derived.WalkKit
import Derived.WalkSpells
import Derived.WalkLawsBesides
import Derived.Deep.LoopGhost
/- Texts as values: what a text reads as. -/
set_option maxHeartbeats 400000
namespace Go.Proofs.YtknakfpciccoaaaGreatDoor
open Go.RowKit
def cB (s:ByteArray) (i:Nat):Nat:=if i<s.size then bt s i else 256
theorem aZ {s:ByteArray} {i:Nat} (h:cB s i<256):i<s.size:=by
 unfold cB at h;split at h
 ·assumption
 ·omega
theorem qU {s:ByteArray} {i:Nat} (h:i<s.size):cB s i=bt s i:=by unfold cB;rw [if_pos h]
theorem nZ {s:ByteArray} {i:Nat} (h:s.size<=i):cB s i=256:=by unfold cB;rw [if_neg (by omega)]
theorem Wy {s:ByteArray} {i:Nat} (h:i<s.size):cB s i<256:=by rw [qU h];exact Dp _ _
def qV (c:Nat):Bool:=c==32 || c==9 || c==10 || c==13
def uQ (p:Nat->Bool) (s:ByteArray):Nat->Nat->Nat
 | 0,i=>i
 | n+1,i=>if p (cB s i)=true then uQ p s n (i+1) else i
def uf (p:Nat->Bool) (s:ByteArray) (i:Nat):Nat:=uQ p s (s.size - i) i
theorem dK {p:Nat->Bool} (hp:p 256=false) (s:ByteArray) (i:Nat):uf p s i=if p (cB s i)=true then uf p s (i+1) else i:=by
 unfold uf;by_cases h:i<s.size
 ·have e:s.size - i=(s.size - (i+1))+1:=by omega
  rw [e,uQ]
 ·have e:s.size - i=0:=by omega
  rw [e,uQ,nZ (by omega),hp];rfl
theorem Gz (p:Nat->Bool) (s:ByteArray):∀ n i,i<=uQ p s n i
 | 0,i=>Nat.le_refl _
 | n+1,i=>by
  rw [uQ];split
  ·have:=Gz p s n (i+1);omega
  ·exact Nat.le_refl _
theorem Ag (p:Nat->Bool) (s:ByteArray):∀ n i,uQ p s n i<=i+n
 | 0,i=>by rw [uQ];omega
 | n+1,i=>by
  rw [uQ];split
  ·have:=Ag p s n (i+1);omega
  ·omega
theorem uR (p:Nat->Bool) (s:ByteArray) (i:Nat):i<=uf p s i:=Gz p s _ i
theorem MX (p:Nat->Bool) {s:ByteArray} {i:Nat} (h:i<=s.size):uf p s i<=s.size:=by
 have:=Ag p s (s.size - i) i;unfold uf;omega
theorem GA {p:Nat->Bool} (hp:p 256=false) (s:ByteArray):∀ (n i:Nat),s.size - i<=n->p (cB s (uf p s i))=false
 | 0,i,h=>by
  rw [dK hp];have:cB s i=256:=nZ (by omega);rw [this,hp];simp [this,hp]
 | n+1,i,h=>by
  rw [dK hp];by_cases hh:p (cB s i)=true
  ·rw [if_pos hh];exact GA hp s n (i+1) (by omega)
  ·rw [if_neg hh];simpa using hh
theorem Oq {p:Nat->Bool} (hp:p 256=false) (s:ByteArray) (i:Nat):uf p s (uf p s i)=uf p s i:=by
 rw [dK hp,GA hp s _ i (Nat.le_refl _)];rfl
theorem GD {p:Nat->Bool} (hp:p 256=false) (s:ByteArray):∀ (n i j:Nat),s.size - i<=n->i<=j->j<uf p s i->p (cB s j)=true
 | 0,i,j,h,h1,h2=>by
  rw [dK hp,nZ (by omega),hp] at h2;simp at h2;omega
 | n+1,i,j,h,h1,h2=>by
  rw [dK hp] at h2;by_cases hh:p (cB s i)=true
  ·rw [if_pos hh] at h2;by_cases e:i=j
   ·subst e;exact hh
   ·exact GD hp s n (i+1) j (by omega) (by omega) h2
  ·rw [if_neg hh] at h2;omega
theorem Dq:qV 256=false:=rfl
def sk (s:ByteArray) (i:Nat):Nat:=uf qV s i
theorem zq (s:ByteArray) (i:Nat):sk s i=if qV (cB s i)=true then sk s (i+1) else i:=dK Dq s i
theorem eT (s:ByteArray) (i:Nat):i<=sk s i:=uR _ s i
theorem fu {s:ByteArray} {i:Nat} (h:i<=s.size):sk s i<=s.size:=MX _ h
theorem lW (s:ByteArray) (i:Nat):sk s (sk s i)=sk s i:=Oq Dq s i
def iM (c:Nat):Bool:=decide (48<=c)&&decide (c<=57)
theorem lX:iM 256=false:=rfl
def dg (s:ByteArray) (i:Nat):Nat:=uf iM s i
def dv (s:ByteArray) (d:Nat):Nat->Nat
 | 0=>0
 | k+1=>dv s d k*10+(cB s (d+k) - 48)
theorem U0 (s:ByteArray) (d:Nat):∀ {k m:Nat},k<=m->dv s d k<=dv s d m:=by
 intro k m h
 induction h with
 | refl=>exact Nat.le_refl _
 | step _ ih=>rw [dv];omega
def d9 (s:ByteArray) (i:Nat):Nat:=if cB s i=45 then i+1 else i
def eY (s:ByteArray) (i:Nat):Option (Int×Nat) :=
 if dg s (d9 s i)=d9 s i then none
 else if d9 s i+1<dg s (d9 s i)/\cB s (d9 s i)=48 then none
 else if cB s i=45 then (if dv s (d9 s i) (dg s (d9 s i) - d9 s i)<=9223372036854775808 then some (-(dv s (d9 s i) (dg s (d9 s i) - d9 s i):Int),dg s (d9 s i)) else none)
 else (if dv s (d9 s i) (dg s (d9 s i) - d9 s i)<9223372036854775808 then some ((dv s (d9 s i) (dg s (d9 s i) - d9 s i):Int),dg s (d9 s i)) else none)
def ku (s:ByteArray) (i:Nat) (t:ByteArray):Bool:=decide (i+t.size<=s.size)&&decide (s.extract i (i+t.size)=t)
def og (c:Nat):Option Nat:=if iM c=true then some (c - 48) else if 97<=c/\c<=102 then some (c - 87) else if 65<=c/\c<=70 then some (c - 55) else none
theorem MZ {c n:Nat} (h:og c=some n):n<16/\c<256:=by
 unfold og iM at h;split at h
 ·rename_i hh;simp only [Option.some.injEq] at h;simp at hh;omega
 ·split at h
  ·simp only [Option.some.injEq] at h;omega
  ·split at h
   ·simp only [Option.some.injEq] at h;omega
   ·cases h
def pQ (s:ByteArray) (i:Nat):Nat->Option Nat
 | 0=>some 0
 | k+1=>(pQ s i k).bind fun a=>(og (cB s (i+k))).bind fun b=>some (16*a+b)
theorem eZ {s:ByteArray} {i:Nat}:∀ {k n:Nat},pQ s i k=some n->n<16 ^ k/\(0<k->i+k<=s.size)
 | 0,n,h=>by
  simp only [pQ,Option.some.injEq] at h;subst h;exact ⟨by simp,fun h=>by omega⟩
 | k+1,n,h=>by
  rw [pQ] at h;cases h1:pQ s i k with
  | none=>rw [h1] at h;cases h
  | some a =>
   rw [h1] at h;simp only [Option.bind_some] at h;cases h2:og (cB s (i+k)) with
   | none=>rw [h2] at h;cases h
   | some b =>
    rw [h2] at h;simp only [Option.bind_some,Option.some.injEq] at h;have h3:=eZ h1;have h4:=MZ h2;have h5:=aZ h4.2;refine ⟨?_,fun _=>by omega⟩;rw [Nat.pow_succ];omega
def lJ (s:ByteArray) (i:Nat):Option Nat:=pQ s i 4
theorem Ot {s:ByteArray} {i:Nat}:∀ {k m:Nat},k<=m->pQ s i k=none->pQ s i m=none:=by
 intro k m h h0
 induction h with
 | refl=>exact h0
 | step _ ih=>rw [pQ,ih];rfl
def low (s:ByteArray) (i a:Nat):Option (Nat×Nat) :=
 if a<55296\/57343<a then some (a,i)
 else if 56319<a then none
 else if cB s i=92/\cB s (i+1)=117 then (lJ s (i+2)).bind fun b=>if b<56320\/57343<b then none else some (65536+1024*(a - 55296)+(b - 56320),i+6)
 else none
def dw (s:ByteArray) (i:Nat):Option (Nat×Nat) :=
 if cB s i=34\/cB s i=92\/cB s i=47 then some (cB s i,i+1)
 else if cB s i=98 then some (8,i+1)
 else if cB s i=102 then some (12,i+1)
 else if cB s i=110 then some (10,i+1)
 else if cB s i=114 then some (13,i+1)
 else if cB s i=116 then some (9,i+1)
 else if cB s i=117 then (lJ s (i+1)).bind fun a=>low s (i+5) a
 else none
theorem U1 {s:ByteArray} {i a r e:Nat} (ha:a<65536) (hi:i<=s.size) (h:low s i a=some (r,e)):i<=e/\e<=s.size/\r<=1114111:=by
 unfold low at h;split at h
 ·simp only [Option.some.injEq,Prod.mk.injEq] at h;omega
 ·split at h
  ·cases h
  ·split at h
   ·cases hh:lJ s (i+2) with
    | none=>rw [hh] at h;cases h
    | some b =>
     rw [hh] at h;simp only [Option.bind_some] at h;have:=eZ hh;split at h
     ·cases h
     ·simp only [Option.some.injEq,Prod.mk.injEq] at h;omega
   ·cases h
theorem QD {s:ByteArray} {i r e:Nat} (h:dw s i=some (r,e)):i<e/\e<=s.size/\r<=1114111:=by
 have key:∀ (c x:Nat),cB s i=c->c<256->some (x,i+1)=some (r,e)->x<256->i<e/\e<=s.size/\r<=1114111:=by
  intro c x h1 h2 h3 h4;have:=aZ (h1 ▸ h2);simp only [Option.some.injEq,Prod.mk.injEq] at h3;omega
 unfold dw at h;split at h
 ·rename_i hh;exact key _ _ rfl (by omega) h (by omega)
 ·split at h
  ·rename_i hh;exact key _ _ hh (by omega) h (by omega)
  ·split at h
   ·rename_i hh;exact key _ _ hh (by omega) h (by omega)
   ·split at h
    ·rename_i hh;exact key _ _ hh (by omega) h (by omega)
    ·split at h
     ·rename_i hh;exact key _ _ hh (by omega) h (by omega)
     ·split at h
      ·rename_i hh;exact key _ _ hh (by omega) h (by omega)
      ·split at h
       ·cases hx:lJ s (i+1) with
        | none=>rw [hx] at h;cases h
        | some a =>
         rw [hx] at h;simp only [Option.bind_some] at h;have h1:=eZ hx;have:=U1 (by omega) (by omega) h;omega
       ·cases h
def mJ (s:ByteArray):Nat×Nat:=if s.size=0 then (65533,0) else Utf8.decode s 0
def kM (s:ByteArray) (i:Nat):Option (Nat×Nat) :=
 if cB s i=92 then dw s (i+1)
 else if (mJ (nE s i)).1<32\/((mJ (nE s i)).1=65533/\(mJ (nE s i)).2<=1) then none
 else some ((mJ (nE s i)).1,i+(mJ (nE s i)).2)
theorem uS (s:ByteArray) (i:Nat):(nE s i).data.toList=s.data.toList.drop i:=Lib.extract_to_end s i
theorem kN (s:ByteArray) (i n:Nat):(s.extract i (i+n)).data.toList=(s.data.toList.drop i).take n:=by
 rw [ByteArray.data_extract,Array.toList_extract,List.extract_eq_take_drop]
 congr 1
 omega
theorem uT (s:ByteArray) (i:Nat):bt s i=(s.data.toList.getD i 0).toNat:=by
 unfold bt;cases s with
 | mk d =>
  show (d[i]!).toNat=_;simp only [List.getD_eq_getElem?_getD,Array.getElem?_toList];rw [getElem!_def];cases d[i]?<;>rfl
theorem Kg (s:ByteArray) (i k:Nat):bt (nE s i) k=bt s (i+k):=by
 rw [uT,uT,uS];simp [List.getD_eq_getElem?_getD,List.getElem?_drop]
theorem lY (x:ByteArray) (h:0<x.size):1<=(Utf8.decode x 0).2/\(Utf8.decode x 0).2<=x.size/\(Utf8.decode x 0).1<=1114111/\((Utf8.decode x 0).1<32 ↔ bt x 0<32):=by
 have l0:=Dp x 0;have e0:(x.get! 0).toNat=bt x 0:=rfl;rw [Lib.decode_at];simp only [Nat.sub_zero,Nat.zero_add,e0];rcases Lib.decodeN_shape x.size (bt x 0) (x.get! 1).toNat (x.get! 2).toNat (x.get! 3).toNat with ⟨c,e⟩ | ⟨c1,c2,c3,cv,e⟩ | ⟨c1,c2,c3,c4,cv,cs,e⟩ | ⟨c1,c2,c3,c4,c5,cv,cw,e⟩ | e
 ·rw [e];dsimp only;omega
 ·rw [e];dsimp only;omega
 ·rw [e];dsimp only;omega
 ·rw [e];dsimp only;omega
 ·rw [e];dsimp only;refine ⟨by omega,by omega,by omega,?_⟩;by_cases hb:bt x 0<32
  ·exfalso;unfold Lib.decodeN at e;rw [if_pos (by omega)] at e;simp only [Prod.mk.injEq] at e;omega
  ·omega
theorem zu {x:ByteArray} (h:0<x.size):mJ x=Utf8.decode x 0:=by unfold mJ;rw [if_neg (by omega)]
theorem Ah {x:ByteArray} (h:x.size=0):mJ x=(65533,0):=by unfold mJ;rw [if_pos h]
theorem Ai {s:ByteArray} {i r e:Nat} (h:kM s i=some (r,e)):i<e/\e<=s.size/\r<=1114111:=by
 unfold kM at h;split at h
 ·have:=QD h;omega
 ·split at h
  ·cases h
  ·rename_i h2;simp only [Option.some.injEq,Prod.mk.injEq] at h;have hz:=qQ s i;by_cases h0:(nE s i).size=0
   ·rw [Ah h0] at h2;simp at h2
   ·have hd:=lY (nE s i) (by omega);rw [zu (by omega)] at h;omega
theorem Aj {s:ByteArray} {i:Nat} (hi:i<s.size) (GH:cB s i≠92) (h:cB s i<32\/aW (nE s i)=0):kM s i=none:=by
 have hz:=qQ s i;have hd:=lY (nE s i) (by omega);have hb:=Kg s i 0;have hu:=qR (nE s i);unfold kM;rw [if_neg GH,zu (by omega),if_pos];rw [qU hi] at h;rw [hb] at hd;rcases h with h | h
 ·exact .inl (hd.2.2.2.2 h)
 ·rw [h] at hu;split at hu
  ·rename_i hh;exact .inr ⟨hh.1,by omega⟩
  ·omega
theorem GI {s:ByteArray} {i:Nat} (hi:s.size<=i):kM s i=none:=by
 have hz:=qQ s i;unfold kM;rw [nZ hi,if_neg (by omega),Ah (by omega)];rfl
theorem Dr {s:ByteArray} {i:Nat} (hi:i<s.size) (GH:cB s i≠92) (h0:32<=cB s i) (hu0:aW (nE s i)≠0):∃ r,kM s i=some (r,i+aW (nE s i))/\Lib.encodeRune (r:Int)=(s.extract i (i+aW (nE s i))).data.toList/\i+aW (nE s i)<=s.size:=by
 have hz:=qQ s i;have hd:=lY (nE s i) (by omega);have hb:=Kg s i 0;have hu:=qR (nE s i);rw [qU hi] at h0;rw [hb] at hd
 have hne:(nE s i).data.toList≠[]:=by
  intro e;have:=congrArg List.length e;rw [uS,List.length_drop] at this;have hl:s.data.toList.length=s.size:=rfl;simp only [List.length_nil] at this;omega
 by_cases hv:(Utf8.decode (nE s i) 0).1=65533/\(Utf8.decode (nE s i) 0).2=1
 ·rw [if_pos hv] at hu;omega
 ·rw [if_neg hv] at hu;have he:=Lib.encode_decode (nE s i).data.toList hne (by rw [tZ];exact hv);rw [tZ,uS] at he;refine ⟨(Utf8.decode (nE s i) 0).1,?_,?_,by omega⟩
  ·unfold kM;rw [if_neg GH,zu (by omega),if_neg,hu];intro hh;rcases hh with hh | hh
   ·have:=hd.2.2.2.1 hh;simp at this;omega
   ·exact hv ⟨hh.1,by omega⟩
  ·rw [kN,hu];exact he
def kP (s:ByteArray):Nat->Nat->Option (List UInt8×Nat)
 | 0,_=>none
 | n+1,i=>if cB s i=34 then some ([],i+1) else (kM s i).bind fun p=>(kP s n p.2).map fun q=>(Lib.encodeRune (p.1:Int)++q.1,q.2)
def bY (l:List UInt8):ByteArray:=⟨l.toArray⟩
theorem kQ (l:List UInt8):(bY l).data.toList=l:=by simp [bY]
theorem fA (l:List UInt8):(bY l).size=l.length:=by simp [bY,ByteArray.size]
def fF (s:ByteArray) (i:Nat):Option (ByteArray×Nat):=if cB s i=34 then (kP s (s.size+1) (i+1)).map fun p=>(bY p.1,p.2) else none
theorem Ak {s:ByteArray} {n i:Nat} (h:cB s i=34):kP s (n+1) i=some ([],i+1):=by rw [kP,if_pos h]
theorem Al {s:ByteArray} {n i r e:Nat} (acc:List UInt8) (h:cB s i≠34) (hl:kM s i=some (r,e)):(kP s (n+1) i).map (fun p=>(acc++p.1,p.2))=(kP s n e).map fun p=>((acc++Lib.encodeRune (r:Int))++p.1,p.2):=by
 rw [kP,if_neg h,hl];simp only [Option.bind_some,Option.map_map]
 congr 1
 funext p
 simp
theorem oC {s:ByteArray} {n i:Nat} (h:cB s i≠34) (hl:kM s i=none):kP s (n+1) i=none:=by
 rw [kP,if_neg h,hl];rfl
theorem GJ {s:ByteArray}:∀ {n i:Nat} {l:List UInt8} {e:Nat},kP s n i=some (l,e)->i<e/\e<=s.size/\l.length<=4*(e - i)
 | 0,i,l,e,h=>by cases h
 | n+1,i,l,e,h=>by
  rw [kP] at h;split at h
  ·rename_i hc;simp only [Option.some.injEq,Prod.mk.injEq] at h;have:=aZ (s:=s) (i:=i) (by omega);obtain ⟨rfl,rfl⟩:=h;simp;omega
  ·cases hl:kM s i with
   | none=>rw [hl] at h;cases h
   | some p =>
    rw [hl] at h;simp only [Option.bind_some] at h;cases ht:kP s n p.2 with
    | none=>rw [ht] at h;cases h
    | some q =>
     rw [ht] at h;simp only [Option.map_some,Option.some.injEq,Prod.mk.injEq] at h;obtain ⟨rfl,rfl⟩:=h;have h1:=Ai (r:=p.1) (e:=p.2) hl;have h2:=GJ (l:=q.1) (e:=q.2) ht;have h3:=Lib.runeCells_le (p.1:Int);rw [Lib.runeCells_length] at h3;rw [List.length_append];omega
theorem oD {s:ByteArray} {i:Nat} {x:ByteArray} {e:Nat} (h:fF s i=some (x,e)):i+1<e/\e<=s.size/\x.size<=4*s.size:=by
 unfold fF at h;split at h
 ·cases ht:kP s (s.size+1) (i+1) with
  | none=>rw [ht] at h;cases h
  | some q =>
   rw [ht] at h;simp only [Option.map_some,Option.some.injEq,Prod.mk.injEq] at h;obtain ⟨rfl,rfl⟩:=h;have:=GJ (l:=q.1) (e:=q.2) ht;rw [fA];omega
 ·cases h
theorem QE (s:ByteArray) (i:Nat):i<=dg s i:=uR _ s i
theorem QF {s:ByteArray} {i:Nat} (h:i<=s.size):dg s i<=s.size:=MX _ h
theorem Am {s:ByteArray} {i:Nat} {v:Int} {e:Nat} (hi:i<=s.size) (h:eY s i=some (v,e)):i<e/\e<=s.size/\-9223372036854775808<=v/\v<=9223372036854775807:=by
 have hs:d9 s i<=s.size/\i<=d9 s i:=by
  unfold d9;split
  ·rename_i hc;have:=aZ (s:=s) (i:=i) (by omega);omega
  ·omega
 have h1:=QE s (d9 s i);have h2:=QF hs.1;unfold eY at h;split at h
 ·cases h
 ·split at h
  ·cases h
  ·split at h
   ·split at h
    ·simp only [Option.some.injEq,Prod.mk.injEq] at h;omega
    ·cases h
   ·split at h
    ·simp only [Option.some.injEq,Prod.mk.injEq] at h;omega
    ·cases h
def iI (s:ByteArray) (o:Bool) (i:Nat):Option (ByteArray×Nat) :=
 if o=true then (fF s (sk s i)).bind fun p=>if cB s (sk s p.2)=58 then some (p.1,sk s p.2+1) else none else some (ByteArray.empty,i)
def cl (o:Bool):Nat:=if o=true then 125 else 93
def app (o:Bool) (k:ByteArray) (t:T) (r:(List ByteArray×List T)×Nat):(List ByteArray×List T)×Nat:=((if o=true then k::r.1.1 else r.1.1,t::r.1.2),r.2)
def zw (f:Nat->Option (T×Nat)) (s:ByteArray) (o:Bool):Nat->Nat->Option ((List ByteArray×List T)×Nat)
 | 0,_=>none
 | m+1,i=>(iI s o i).bind fun p=>(f p.2).bind fun q =>
   if cB s (sk s q.2)=44 then (zw f s o m (sk s q.2+1)).map (app o p.1 q.1)
   else if cB s (sk s q.2)=cl o then some (app o p.1 q.1 (([],[]),sk s q.2+1)) else none
def fM (f:Nat->Option (T×Nat)) (s:ByteArray) (o:Bool) (j:Nat):Option ((List ByteArray×List T)×Nat) :=
 if cB s (sk s j)=cl o then some (([],[]),sk s j+1) else zw f s o (s.size+1) (sk s j)
def jg:ByteArray:=⟨#[110,117,108,108]⟩
def jP:ByteArray:=⟨#[116,114,117,101]⟩
def iJ:ByteArray:=⟨#[102,97,108,115,101]⟩
def bH (f:Nat->Option (T×Nat)) (s:ByteArray) (j:Nat):Option (T×Nat) :=
 if cB s j=34 then (fF s j).map fun p=>(aR 4 0 p.1,p.2)
 else if cB s j=91 then (fM f s false (j+1)).map fun r=>(dU 5 0 ByteArray.empty r.1.2 r.1.1,r.2)
 else if cB s j=123 then (fM f s true (j+1)).map fun r=>(dU 6 0 ByteArray.empty r.1.2 r.1.1,r.2)
 else if cB s j=45\/iM (cB s j)=true then (eY s j).map fun p=>(aR 3 p.1 ByteArray.empty,p.2)
 else if ku s j jg=true then some (aR 1 0 ByteArray.empty,j+4)
 else if ku s j jP=true then some (aR 2 1 ByteArray.empty,j+4)
 else if ku s j iJ=true then some (aR 2 0 ByteArray.empty,j+5)
 else none
def aS (s:ByteArray):Nat->Nat->Option (T×Nat)
 | 0,_=>none
 | n+1,i=>bH (aS s n) s (sk s i)
theorem EW {s:ByteArray} {i:Nat} {t:ByteArray} (h:ku s i t=true):i+t.size<=s.size:=by
 unfold ku at h;simp only [Bool.and_eq_true,decide_eq_true_eq] at h;exact h.1
theorem kR {s:ByteArray} {o:Bool} {i:Nat} {p:ByteArray×Nat} (hi:i<=s.size) (h:iI s o i=some p):i<=p.2/\p.2<=s.size/\p.1.size<=4*s.size:=by
 unfold iI at h;split at h
 ·cases ht:fF s (sk s i) with
  | none=>rw [ht] at h;cases h
  | some q =>
   rw [ht] at h;simp only [Option.bind_some] at h;have h1:=oD (x:=q.1) (e:=q.2) ht;have h2:=eT s i;have h3:=eT s q.2;split at h
   ·rename_i hc;have:=aZ (s:=s) (i:=sk s q.2) (by omega);simp only [Option.some.injEq] at h;subst h;dsimp only;omega
   ·cases h
 ·simp only [Option.some.injEq] at h;subst h;refine ⟨Nat.le_refl _,hi,?_⟩;show 0<=_;omega
theorem zx {f:Nat->Option (T×Nat)} {s:ByteArray} (hf:∀ i t e,i<=s.size->f i=some (t,e)->i<e/\e<=s.size) (o:Bool):∀ (m i:Nat) (r:(List ByteArray×List T)×Nat),i<=s.size->zw f s o m i=some r->i<r.2/\r.2<=s.size
 | 0,i,r,_,h=>by cases h
 | m+1,i,r,hi,h=>by
  rw [zw] at h;cases hk:iI s o i with
  | none=>rw [hk] at h;cases h
  | some p =>
   rw [hk] at h;simp only [Option.bind_some] at h;have h1:=kR hi hk;cases hq:f p.2 with
   | none=>rw [hq] at h;cases h
   | some q =>
    rw [hq] at h;simp only [Option.bind_some] at h;have h2:=hf p.2 q.1 q.2 h1.2.1 hq;have h3:=eT s q.2;split at h
    ·rename_i hc;have h4:=aZ (s:=s) (i:=sk s q.2) (by omega);cases hr:zw f s o m (sk s q.2+1) with
     | none=>rw [hr] at h;cases h
     | some r' =>
      rw [hr] at h;simp only [Option.map_some,Option.some.injEq] at h;have h5:=zx hf o m _ r' (by omega) hr;subst h;simp only [app];omega
    ·split at h
     ·rename_i hc;have h4:=aZ (s:=s) (i:=sk s q.2) (by unfold cl at hc;split at hc<;>omega);simp only [Option.some.injEq] at h;subst h;simp only [app];omega
     ·cases h
theorem wS {f:Nat->Option (T×Nat)} {s:ByteArray} (hf:∀ i t e,i<=s.size->f i=some (t,e)->i<e/\e<=s.size) {j:Nat} {t:T} {e:Nat} (hj:j<=s.size) (h:bH f s j=some (t,e)):j<e/\e<=s.size:=by
 have kS:∀ (o:Bool) (k:Int),cB s j<256->(fM f s o (j+1)).map (fun r=>(dU k 0 ByteArray.empty r.1.2 r.1.1,r.2))=some (t,e)->j<e/\e<=s.size:=by
  intro o k hc hh;have hj1:=aZ hc;have h3:=eT s (j+1);have h5:=fu (s:=s) (i:=j+1) (by omega);cases hb:fM f s o (j+1) with
  | none=>rw [hb] at hh;cases hh
  | some r =>
   rw [hb] at hh;simp only [Option.map_some,Option.some.injEq,Prod.mk.injEq] at hh;unfold fM at hb;split at hb
   ·rename_i hc;have h4:=aZ (s:=s) (i:=sk s (j+1)) (by unfold cl at hc;split at hc<;>omega);simp only [Option.some.injEq] at hb;subst hb;dsimp only at hh;omega
   ·have:=zx hf o _ _ r h5 hb;omega
 unfold bH at h;split at h
 ·cases ht:fF s j with
  | none=>rw [ht] at h;cases h
  | some q =>
   rw [ht] at h;simp only [Option.map_some,Option.some.injEq,Prod.mk.injEq] at h;have h1:=oD (x:=q.1) (e:=q.2) ht;omega
 ·split at h
  ·exact kS _ _ (by omega) h
  ·split at h
   ·exact kS _ _ (by omega) h
   ·split at h
    ·cases ht:eY s j with
     | none=>rw [ht] at h;cases h
     | some q =>
      rw [ht] at h;simp only [Option.map_some,Option.some.injEq,Prod.mk.injEq] at h;have h1:=Am (v:=q.1) (e:=q.2) hj ht;omega
    ·split at h
     ·rename_i hp;have h4:=EW hp;simp only [Option.some.injEq,Prod.mk.injEq] at h;have:jg.size=4:=rfl;omega
     ·split at h
      ·rename_i hp;have h4:=EW hp;simp only [Option.some.injEq,Prod.mk.injEq] at h;have:jP.size=4:=rfl;omega
      ·split at h
       ·rename_i hp;have h4:=EW hp;simp only [Option.some.injEq,Prod.mk.injEq] at h;have:iJ.size=5:=rfl;omega
       ·cases h
theorem dV {s:ByteArray}:∀ (n i:Nat) (t:T) (e:Nat),i<=s.size->aS s n i=some (t,e)->i<e/\e<=s.size
 | 0,_,_,_,_,h=>by cases h
 | n+1,i,t,e,hi,h=>by
  rw [aS] at h;have:=wS (fun i t e=>dV n i t e) (fu hi) h;have:=eT s i;omega
def Kh (K:List ByteArray) (L:List T) (r:(List ByteArray×List T)×Nat):(List ByteArray×List T)×Nat:=((K++r.1.1,L++r.1.2),r.2)
theorem QH (x:Option ((List ByteArray×List T)×Nat)):x=x.map (Kh [] []):=by cases x<;>rfl
theorem wT {f:Nat->Option (T×Nat)} {s:ByteArray} {o:Bool} {m i:Nat} (hk:iI s o i=none):zw f s o (m+1) i=none:=by rw [zw,hk];rfl
theorem r9 {f:Nat->Option (T×Nat)} {s:ByteArray} {o:Bool} {m i:Nat} {p:ByteArray×Nat} (hk:iI s o i=some p) (hq:f p.2=none):zw f s o (m+1) i=none:=by rw [zw,hk];simp only [Option.bind_some];rw [hq];rfl
theorem uU {f:Nat->Option (T×Nat)} {s:ByteArray} {o:Bool} {m i:Nat} {p:ByteArray×Nat} {q:T×Nat} (K:List ByteArray) (L:List T) (hk:iI s o i=some p) (hq:f p.2=some q) (h:cB s (sk s q.2)=44) :
  (zw f s o (m+1) i).map (Kh K L)=(zw f s o m (sk s q.2+1)).map (Kh (if o=true then K++[p.1] else K) (L++[q.1])):=by
 rw [zw,hk];simp only [Option.bind_some];rw [hq];simp only [Option.bind_some];rw [if_pos h,Option.map_map]
 congr 1
 funext r
 cases o<;>simp [Kh,app]
theorem uV {f:Nat->Option (T×Nat)} {s:ByteArray} {o:Bool} {m i:Nat} {p:ByteArray×Nat} {q:T×Nat} (K:List ByteArray) (L:List T) (hk:iI s o i=some p) (hq:f p.2=some q) (h:cB s (sk s q.2)=cl o) :
  (zw f s o (m+1) i).map (Kh K L)=some (((if o=true then K++[p.1] else K),L++[q.1]),sk s q.2+1):=by
 rw [zw,hk];simp only [Option.bind_some];rw [hq];simp only [Option.bind_some];have sj:cB s (sk s q.2)≠44:=by rw [h];cases o<;>decide
 rw [if_neg sj,if_pos h];cases o<;>simp [Kh,app]
theorem uW {f:Nat->Option (T×Nat)} {s:ByteArray} {o:Bool} {m i:Nat} {p:ByteArray×Nat} {q:T×Nat} (hk:iI s o i=some p) (hq:f p.2=some q) (h:cB s (sk s q.2)≠44) (h2:cB s (sk s q.2)≠cl o) :
  zw f s o (m+1) i=none:=by
 rw [zw,hk];simp only [Option.bind_some];rw [hq];simp only [Option.bind_some];rw [if_neg h,if_neg h2]
def Cv (a:Nat) (l:List UInt8):Nat:=l.foldl (fun n c=>n*10+(c.toNat - 48)) a
theorem oF (a:Nat) (c:UInt8) (r:List UInt8):Cv a (c::r)=Cv (a*10+(c.toNat - 48)) r:=List.foldl_cons ..
theorem qW (a:Nat):Cv a []=a:=List.foldl_nil ..
theorem GK (a:Nat) (x y:List UInt8):Cv a (x++y)=Cv (Cv a x) y:=by
 induction x generalizing a with
 | nil=>rw [qW,List.nil_append]
 | cons c x ih=>rw [List.cons_append,oF,oF];exact ih _
theorem U2 (l:List UInt8):∀ (a:Nat),a<=Cv a l:=by
 induction l with
 | nil=>intro a;rw [qW];exact Nat.le_refl _
 | cons c r ih =>
  intro a;have:=ih (a*10+(c.toNat - 48));rw [oF];omega
def Ki (l:List UInt8):Prop:=∀ c ∈ l,48<=c.toNat/\c.toNat<=57
theorem uX (l:List UInt8):∀ (a:Nat),Ki l->a<18446744073709551616->Lib.parseUint10 a l=if Cv a l<18446744073709551616 then .ok (Cv a l) else .range:=by
 induction l with
 | nil =>
  intro a _ ha;rw [Lib.parseUint10,qW,if_pos ha]
 | cons c r ih =>
  intro a h ha;have hc:=h c (by simp);have hr:Ki r:=fun x hx=>h x (by simp [hx]);have hg:=U2 r (a*10+(c.toNat - 48));rw [Lib.parseUint10,oF,if_pos hc];generalize hd:c.toNat - 48=d at *;by_cases h1:1844674407370955162<=a
  ·rw [if_pos h1,if_neg (by omega)]
  ·rw [if_neg h1];by_cases h2:18446744073709551616<=a*10+d
   ·rw [if_pos h2,if_neg (by omega)]
   ·rw [if_neg h2];exact ih _ hr (by omega)
theorem qX (s:ByteArray) (d k:Nat) (h:d+k<s.size):(s.data.toList.drop d).take (k+1)=(s.data.toList.drop d).take k++[s.data.toList[d+k]'h]:=by
 have hl:k<(s.data.toList.drop d).length:=by
  rw [List.length_drop];have:s.data.toList.length=s.size:=rfl;omega
 rw [List.take_succ_eq_append_getElem hl,List.getElem_drop]
theorem Ao (s:ByteArray) (i:Nat) (h:i<s.size):(s.data.toList[i]'h).toNat=bt s i:=by
 rw [uT];have hl:i<s.data.toList.length:=h;rw [List.getD_eq_getElem?_getD,List.getElem?_eq_getElem hl];rfl
theorem M0 (s:ByteArray) (d:Nat):∀ k,d+k<=s.size->Cv 0 ((s.data.toList.drop d).take k)=dv s d k
 | 0,_=>by rw [List.take_zero,qW,dv]
 | k+1,h=>by
  rw [qX s d k (by omega),GK,M0 s d k (by omega),dv,qU (by omega)];rw [oF,qW,Ao]
theorem xZ {s:ByteArray} {d:Nat}:∀ k,d+k<=s.size->(∀ j,d<=j->j<d+k->iM (cB s j)=true)->Ki ((s.data.toList.drop d).take k)
 | 0,_,_=>by intro c hc;simp at hc
 | k+1,h,hd=>by
  rw [qX s d k (by omega)];intro c hc;rw [List.mem_append] at hc;rcases hc with hc | hc
  ·exact xZ k (by omega) (fun j h1 h2=>hd j h1 (by omega)) c hc
  ·simp only [List.mem_singleton] at hc;subst hc;have h1:=hd (d+k) (by omega) (by omega);rw [qU (by omega)] at h1;rw [Ao];unfold iM at h1;simp at h1;exact h1
theorem Kj {s:ByteArray} {i:Nat} (hi:cB s i=45\/iM (cB s i)=true) (hz:¬ (d9 s i+1<dg s (d9 s i)/\cB s (d9 s i)=48)) :
  (∃ v,Lib.parseIntB 64 (s.extract i (dg s (d9 s i))).data.toList=.ok v/\eY s i=some (v,dg s (d9 s i)))\/((Lib.parseIntB 64 (s.extract i (dg s (d9 s i))).data.toList=.«syntax»\/Lib.parseIntB 64 (s.extract i (dg s (d9 s i))).data.toList=.range)/\eY s i=none):=by
 have hc:cB s i<256:=by
  rcases hi with h | h
  ·omega
  ·unfold iM at h;simp at h;omega
 have hi0:=aZ hc;have hs:d9 s i<=s.size/\i<=d9 s i:=by unfold d9;split<;>omega
 have h1:=QE s (d9 s i);have h2:=QF hs.1;have hall:∀ j,d9 s i<=j->j<dg s (d9 s i)->iM (cB s j)=true:=fun j a b=>GD lX s _ _ j (Nat.le_refl _) a b;rw [Lib.parseIntB_64]
 have hl:(s.extract i (dg s (d9 s i))).data.toList=(s.data.toList.drop i).take (dg s (d9 s i) - i):=by
  have e:dg s (d9 s i)=i+(dg s (d9 s i) - i):=by omega
  rw [e,kN]
  congr 1
  omega
 rw [hl];have hdig:=xZ (s:=s) (d:=d9 s i) (dg s (d9 s i) - d9 s i) (by omega) (fun j a b=>hall j a (by omega));have hdv:=M0 s (d9 s i) (dg s (d9 s i) - d9 s i) (by omega);have hx:(s.data.toList[i]'hi0).toNat=cB s i:=by rw [Ao,qU hi0]
 unfold eY;by_cases h45:cB s i=45
 ·have e1:d9 s i=i+1:=by unfold d9;rw [if_pos h45]
  have QJ:(s.data.toList.drop i).take (dg s (d9 s i) - i)=s.data.toList[i]'hi0::(s.data.toList.drop (d9 s i)).take (dg s (d9 s i) - d9 s i):=by
   have e2:dg s (d9 s i) - i=(dg s (d9 s i) - d9 s i)+1:=by omega
   rw [e2,List.drop_eq_getElem_cons (h:=hi0),List.take_succ_cons,e1]
  rw [QJ];simp only [Lib.atoiAll,hx];rw [if_pos (Or.inr h45)];by_cases h0:dg s (d9 s i)=d9 s i
  ·rw [if_pos h0];have e3:dg s (d9 s i) - d9 s i=0:=by omega
   rw [e3]
   right
   simp [Lib.parseMag]
  ·rw [if_neg h0,if_neg hz,if_pos h45]
   have hne:(s.data.toList.drop (d9 s i)).take (dg s (d9 s i) - d9 s i)≠[]:=by
    intro e;have:=congrArg List.length e;rw [List.length_take,List.length_drop] at this;have hl:s.data.toList.length=s.size:=rfl;simp only [List.length_nil] at this;omega
   simp only [Lib.parseMag];rw [if_neg hne,uX _ _ hdig (by omega),hdv];generalize dv s (d9 s i) (dg s (d9 s i) - d9 s i)=m;by_cases hm:m<18446744073709551616
   ·rw [if_pos hm];simp only [h45,not_true_eq_false,false_and,if_false,true_and,if_true];by_cases hm2:m<=9223372036854775808
    ·rw [if_neg (by omega),if_pos hm2];exact .inl ⟨_,rfl,rfl⟩
    ·rw [if_pos (by omega),if_neg hm2];exact .inr ⟨.inr rfl,rfl⟩
   ·rw [if_neg hm,if_neg (by omega)];exact .inr ⟨.inr rfl,rfl⟩
 ·have hd:iM (cB s i)=true:=by
   rcases hi with h | h
   ·exact absurd h h45
   ·exact h
  have e1:d9 s i=i:=by unfold d9;rw [if_neg h45]
  rw [e1] at hdig hdv hz h1 h2 ⊢
  have h0:dg s i≠i:=by
   unfold dg;rw [dK lX,if_pos hd];have:=uR iM s (i+1);omega
  have hne:(s.data.toList.drop i).take (dg s i - i)≠[]:=by
   intro e;have:=congrArg List.length e;rw [List.length_take,List.length_drop] at this;have hl:s.data.toList.length=s.size:=rfl;simp only [List.length_nil] at this;omega
  obtain ⟨rest,QJ⟩:∃ rest,(s.data.toList.drop i).take (dg s i - i)=s.data.toList[i]'hi0::rest:=by
   obtain ⟨q,hq⟩:∃ q,dg s i - i=q+1:=⟨dg s i - i - 1,by omega⟩;rw [hq,List.drop_eq_getElem_cons (h:=hi0),List.take_succ_cons];exact ⟨_,rfl⟩
  rw [QJ] at hdig hdv hne ⊢;simp only [Lib.atoiAll,hx]
  have hn:¬ (cB s i=43\/cB s i=45):=by
   unfold iM at hd;simp at hd;omega
  rw [if_neg hn,if_neg h0,if_neg hz,if_neg h45];simp only [Lib.parseMag];rw [if_neg hne,uX _ _ hdig (by omega),hdv];generalize dv s i (dg s i - i)=m;by_cases hm:m<18446744073709551616
  ·rw [if_pos hm];simp only [h45,not_false_eq_true,true_and,false_and,if_false];by_cases hm2:m<9223372036854775808
   ·rw [if_neg (by omega),if_pos hm2];exact .inl ⟨_,rfl,rfl⟩
   ·rw [if_pos (by omega),if_neg hm2];exact .inr ⟨.inr rfl,rfl⟩
  ·rw [if_neg hm,if_neg (by omega)];exact .inr ⟨.inr rfl,rfl⟩
theorem EX {a b:ByteArray} (h:a.data.toList=b.data.toList):a=b:=by
 cases a;cases b;simp only [ByteArray.mk.injEq];exact Array.toList_inj.1 h
theorem GL (s:ByteArray) (i:Nat) (t:ByteArray) (hi:i<=s.size):Lib.hasPrefix (nE s i).data.toList t.data.toList=ku s i t:=by
 rw [<- Lib.hasPrefix_of_take,uS];unfold ku;have ht:t.data.toList.length=t.size:=rfl;have hs:(s.data.toList.drop i).length=s.size - i:=by rw [List.length_drop];rfl
 rw [ht,hs]
 have e1:decide (t.size<=s.size - i)=decide (i+t.size<=s.size):=by
  apply decide_eq_decide.2;omega
 rw [e1,<- kN]
 congr 1
 by_cases e:s.extract i (i+t.size)=t
 ·rw [e];simp
 ·have h1:decide (s.extract i (i+t.size)=t)=false:=by simpa using e
  rw [h1];apply beq_false_of_ne;exact fun h=>e (EX h)
theorem su (s:ByteArray) (i:Nat) (c:UInt8):ku s i ⟨#[c]⟩=decide (cB s i=c.toNat):=by
 unfold ku;have hz:(ByteArray.mk #[c]).size=1:=rfl;rw [hz];by_cases h:i<s.size
 ·have e1:decide (i+1<=s.size)=true:=by simp;omega
  rw [e1,Bool.true_and];apply decide_eq_decide.2
  have hl:(s.extract i (i+1)).data.toList=[s.data.toList[i]'h]:=by
   rw [kN,qX s i 0 (by omega)];simp
  rw [qU h,<- Ao s i h];constructor
  ·intro e;rw [e] at hl;simp only [List.cons.injEq,and_true] at hl;rw [<- hl]
  ·intro e;apply EX;rw [hl];simp only [List.cons.injEq,and_true];exact UInt8.toNat_inj.1 e
 ·have e1:decide (i+1<=s.size)=false:=by simp;omega
  rw [e1,Bool.false_and,nZ (by omega)];have:=c.toNat_lt;symm;simp;omega
theorem oG {s:ByteArray} {i:Nat} {t:ByteArray} {c:UInt8} {r:List UInt8} (ht:t.data.toList=c::r) (h:ku s i t=true):cB s i=c.toNat:=by
 unfold ku at h;simp only [Bool.and_eq_true,decide_eq_true_eq] at h
 have hz:t.size=r.length+1:=by
  have:t.data.toList.length=t.size:=rfl;rw [ht] at this;simpa using this.symm
 have hi:i<s.size:=by omega
 have hl:=congrArg (fun x=>x.data.toList) h.2;rw [kN,ht,hz,List.drop_eq_getElem_cons (h:=hi),List.take_succ_cons] at hl;simp only [List.cons.injEq] at hl;rw [qU hi,<- Ao s i hi,hl.1]
theorem Dt:∀ (f m:Nat) (t:T),uP f t->bn m t=min m (bn f t)
 | 0,m,t,h=>h.elim
 | f+1,0,t,_=>by simp [bn]
 | f+1,m+1,t,h=>by
  have key:∀ k,k<=nL t->jv (bn m) t k=min m (jv (bn f) t k):=by
   intro k
   induction k with
   | zero=>intro _;simp [jv]
   | succ k ih =>
    intro hk;rw [jv,jv,ih (by omega),Dt f m (elt t k) (h k (by omega))];omega
  rw [bn,bn];split
  ·rw [key _ (Nat.le_refl _)];omega
  ·omega
def oH (s:ByteArray):Option T:=(aS s (s.size+1) 0).bind fun p=>if sk s p.2=s.size then some p.1 else none
def eJ (s:ByteArray):Int:=if 4000<s.size then 1 else ((oH s).map fun t=>if 12<bn (s.size+1) t then (3:Int) else if bN (s.size+1) t=true then 4 else 0).getD 2
def tJ (s:ByteArray):T:=if eJ s=0 then (oH s).getD (aR 0 0 ByteArray.empty) else aR 0 0 ByteArray.empty
theorem nG (a b:Int) (w:World) :
  Calls Tryz.prog 170 #[.int .i64 a,.int .i64 b] w fun e w'=>e=.returned (.int .i64 (jL a b))/\w'=w:=by
 go_in;go_wp2
 all_goals (go_ret;refine ⟨?_,rfl⟩)
 ·exact aH (zl (by assumption)).symm
 ·exact aH (zm (by assumption)).symm
 ·exact aH (uN (by assumption) (by assumption)).symm
theorem QK (m:Nat):∀ (f:Nat) (v:Value) (t:T) (w:World),At w f v t->m<=100 ->
  Calls Tryz.prog 129 #[v,.int .i64 m] w fun e w'=>e=.returned (.int .i64 (bn m t))/\Below w.heap.size w w':=by
 induction m with
 | zero =>
  intro f v t w h _;obtain ⟨f,La,Ka,Lc,Kc,rfl,rfl,hf,hl,hk⟩:=h.open;go_in;go_wp2_with fail;go_ret;exact ⟨by simp [bn],bG _ _⟩
 | succ m ih =>
  intro f v t w h hm;obtain ⟨f,La,Ka,Lc,Kc,rfl,rfl,hf,hl,hk⟩:=h.open;have hlen:=hf.l1;clear h hf hk;by_cases h5:dJ t=true
  ·have e5:((ah t) != 5)=true/\((ah t != 6))=false\/((ah t) != 5)=false:=by
    simp only [dJ,Bool.or_eq_true,beq_iff_eq] at h5;rcases h5 with h5 | h5<;>simp [h5]
   have Hr:Hid (bn (m+1) t=jv (bn m) t (nL t)+1):=by show bn (m+1) t=_;simp only [bn,h5,if_true]
   have e0:((m:Int)+1==0)=false:=beq_eq_false_iff_ne.2 (by omega);clear h5;rcases e5 with ⟨e5,e6⟩ | e5
   all_goals
    go_in;go_wp2_with fail;go_loopg [5,6] (nL t) (fun g n i wr=>∃ k:Nat,g=nL t - k/\k<=nL t/\i=.int .i64 k/\n=.int .i64 (jv (bn m) t k:Nat)/\Below (w.heap.size+1) (w.alloc (vC t La Lc Ka Kc)) wr)
    case atStart=>exact ⟨0,rfl,Nat.zero_le _,rfl,rfl,Below.refl _ _⟩
    case round =>
     obtain ⟨k,rfl,hk,rfl,rfl,hb⟩:=hrel;obtain ⟨q0,q1,q2,q3,q4,hz,hbw⟩:=aI hb;have Hb:=aj hb;clear hb;have hd0:=zZ (qM m) t k;by_cases hlt:k<nL t
     ·obtain ⟨b,o,c0,c1,c2,c3,c4,rfl,hbl,p0,p1,p2,p3,p4,Ha⟩:=hl.out.keep hbw k hlt;have em:((m:Int)+1 - 1)=(m:Int):=by omega
      have hd1:=qM m (elt t k);have Hs:Hid (jv (bn m) t (k+1)=max (jv (bn m) t k) (bn m (elt t k))):=rfl;go_wp2_with fail;refine (ih _ _ _ _ Ha.out (by omega)).mono ?_;rintro e w2 ⟨rfl,hb2⟩;have hb3:=Hb.out.trans (hb2.mono (by omega));go_wp2_with fail
      all_goals
       go_roundg (nL t - (k+1))
       case rel=>exact ⟨k+1,rfl,by omega,by go_num,by rw [Hs.out];go_num,hb3⟩
       case measure=>omega
     ·go_wp2_with fail;go_ret;have:k=nL t:=by omega
      subst this;exact ⟨aH (by rw [Hr.out];rfl),hbw⟩
  ·have e5:(ah t != 5)=true:=by simp [dJ] at h5;simp;omega
   have e6:(ah t != 6)=true:=by simp [dJ] at h5;simp;omega
   have H:Hid (bn (m+1) t=0):=by show bn (m+1) t=_;simp [bn,h5]
   clear h5;go_in;go_wp2_with fail;go_ret;exact ⟨aH (by rw [H.out];rfl),bG _ _⟩
def nu (p:Nat->Prop) (w:World):Nat->Value->T->Prop
 | 0,_,_=>False
 | f+1,v,t=>∃ (La Ka:Option Addr) (Lc Kc:Nat),
   v=.agg #[.int .i64 (ah t),.int .i64 (aB t),.string (aF t),.slice La (nL t) Lc,.slice Ka (nK t) Kc]/\Cu t /\
   (∀ i,i<nL t->∃ b o c0 c1 c2 c3 c4,La=some ⟨b,o,none⟩/\(b<w.heap.size/\p b)/\w.cell? ⟨b,o+i*5,none⟩=some c0/\w.cell? ⟨b,o+i*5+1,none⟩=some c1/\w.cell? ⟨b,o+i*5+2,none⟩=some c2/\w.cell? ⟨b,o+i*5+3,none⟩=some c3/\w.cell? ⟨b,o+i*5+4,none⟩=some c4/\nu p w f (.agg #[c0,c1,c2,c3,c4]) (elt t i)) /\
   (∀ i,i<nK t->∃ b o,Ka=some ⟨b,o,none⟩/\(b<w.heap.size/\p b)/\(bf t i).size<=140737488355328/\w.cell? ⟨b,o+i,none⟩=some (.string (bf t i)))
theorem aC {w w':World} {b:Nat} (h:w'.heap[b]?=w.heap[b]?) (o:Nat):w'.cell? ⟨b,o,none⟩=w.cell? ⟨b,o,none⟩:=World.cell?_of_block (w:=w) h
theorem nu.move {p q:Nat->Prop} {w w':World} (hs:w.heap.size<=w'.heap.size) (hq:∀ b,b<w.heap.size->p b->q b/\w'.heap[b]?=w.heap[b]?):∀ {f:Nat} {v:Value} {t:T},nu p w f v t->nu q w' f v t:=by
 intro f
 induction f with
 | zero=>intro v t h;exact h
 | succ f ih =>
  rintro v t ⟨La,Ka,Lc,Kc,rfl,hf,hl,hk⟩;refine ⟨La,Ka,Lc,Kc,rfl,hf,fun i hi=>?_,fun i hi=>?_⟩
  ·obtain ⟨b,o,c0,c1,c2,c3,c4,h0,⟨hb,hp⟩,q0,q1,q2,q3,q4,ha⟩:=hl i hi;obtain ⟨hq1,hq2⟩:=hq b hb hp;exact ⟨b,o,c0,c1,c2,c3,c4,h0,⟨Nat.lt_of_lt_of_le hb hs,hq1⟩,(aC hq2 _).trans q0,(aC hq2 _).trans q1,(aC hq2 _).trans q2,(aC hq2 _).trans q3,(aC hq2 _).trans q4,ih ha⟩
  ·obtain ⟨b,o,h0,⟨hb,hp⟩,hz,q0⟩:=hk i hi;obtain ⟨hq1,hq2⟩:=hq b hb hp;exact ⟨b,o,h0,⟨Nat.lt_of_lt_of_le hb hs,hq1⟩,hz,(aC hq2 _).trans q0⟩
theorem nu.at {p:Nat->Prop} {w:World}:∀ {f:Nat} {v:Value} {t:T},nu p w f v t->At w f v t:=by
 intro f
 induction f with
 | zero=>intro v t h;exact h
 | succ f ih =>
  rintro v t ⟨La,Ka,Lc,Kc,rfl,hf,hl,hk⟩;refine ⟨La,Ka,Lc,Kc,rfl,hf,fun i hi=>?_,fun i hi=>?_⟩
  ·obtain ⟨b,o,c0,c1,c2,c3,c4,h0,hb,q0,q1,q2,q3,q4,ha⟩:=hl i hi;exact ⟨b,o,c0,c1,c2,c3,c4,h0,hb.1,q0,q1,q2,q3,q4,ih ha⟩
  ·obtain ⟨b,o,h0,hb,hz,q0⟩:=hk i hi;exact ⟨b,o,h0,hb.1,hz,q0⟩
def Zk:ByteArray:=⟨#[111,119,110]⟩
def fB (t:T) (A:Option Addr) (B:Nat) (C:Option Addr) (D:Nat):Value:=.agg #[.int .i64 (ah t),.int .i64 (aB t),.string (aF t),.slice A (nL t) B,.slice C (nK t) D]
def sZ (w:World) (b n:Nat):Prop:=b<w.heap.size/\∀ o,o<n->(w.cell? ⟨b,o,none⟩).isSome=true/\w.frozen? ⟨b,o,none⟩=false
theorem sZ.move {w w':World} {b n:Nat} (h:sZ w b n) (hs:w.heap.size<=w'.heap.size) (hb:w'.heap[b]?=w.heap[b]?):sZ w' b n :=
 ⟨Nat.lt_of_lt_of_le h.1 hs,fun o ho=>⟨by rw [aC hb];exact (h.2 o ho).1,by rw [World.frozen?_of_block (w:=w) (a:=⟨b,o,none⟩) hb];exact (h.2 o ho).2⟩⟩
theorem sZ.set {w:World} {b n:Nat} (h:sZ w b n) (c o:Nat) (u:Value):sZ (w.setCell ⟨c,o,none⟩ u) b n:=by
 refine ⟨by simp [World.setCell];exact h.1,fun k hk=>⟨?_,by rw [World.frozen?_setCell];exact (h.2 k hk).2⟩⟩;by_cases e:(⟨c,o,none⟩:Addr)=⟨b,k,none⟩
 ·obtain ⟨v,hv⟩:=Option.isSome_iff_exists.1 (h.2 k hk).1;rw [<- e] at hv ⊢;rw [World.cell?_setCell_same _ _ _ hv];rfl
 ·rw [World.cell?_setCell_other _ _ _ _ e];exact (h.2 k hk).1
theorem mK {w:World} {b n o:Nat} (h:sZ w b n) (ho:o<n) (u:Value):(w.setCell ⟨b,o,none⟩ u).cell? ⟨b,o,none⟩=some u:=by
 obtain ⟨v,hv⟩:=Option.isSome_iff_exists.1 (h.2 o ho).1;exact World.cell?_setCell_same _ _ _ hv
theorem aD {w:World} {b c o k:Nat} (h:b≠c\/o≠k) (u:Value):(w.setCell ⟨b,o,none⟩ u).cell? ⟨c,k,none⟩=w.cell? ⟨c,k,none⟩ :=
 World.cell?_setCell_other _ _ _ _ (fun e=>by simp only [Addr.mk.injEq] at e;rcases h with h | h;exact h e.1;exact h e.2.1)
end Go.Proofs.YtknakfpciccoaaaGreatDoor
