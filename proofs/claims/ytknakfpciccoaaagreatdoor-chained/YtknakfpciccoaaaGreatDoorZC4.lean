import Derived.Test.YtknakfpciccoaaaGreatDoorZC3
import Derived.Lib.IndexBytes
import Derived.Lib.ParseIntBTie
import Derived.Lib.Strings
import Derived.Test.YtknakfpciccoaaaGreatDoorZC1
/- Texts as values: texts, lists, objects. -/
namespace Go.Proofs.YtknakfpciccoaaaGreatDoor
open Go.RowKit
theorem wC (s:ByteArray) (i:Nat):(oG s i).data.toList=s.data.toList.drop i:=Lib.extract_to_end s i
theorem kR (s:ByteArray) (i n:Nat):(s.extract i (i+n)).data.toList=(s.data.toList.drop i).take n:=by
 rw [ByteArray.data_extract,Array.toList_extract,List.extract_eq_take_drop]
 congr 1
 omega
theorem tQ (s:ByteArray) (i:Nat):bt s i=(s.data.toList.getD i 0).toNat:=by
 unfold bt;cases s with
 | mk d =>
  show (d[i]!).toNat=_;simp only [List.getD_eq_getElem?_getD,Array.getElem?_toList];rw [getElem!_def];cases d[i]?<;>rfl
theorem Gc (s:ByteArray) (i k:Nat):bt (oG s i) k=bt s (i+k):=by
 rw [tQ,tQ,wC];simp [List.getD_eq_getElem?_getD,List.getElem?_drop]
theorem jK (x:ByteArray) (h:0<x.size):1<=(Utf8.decode x 0).2/\(Utf8.decode x 0).2<=x.size/\(Utf8.decode x 0).1<=1114111/\((Utf8.decode x 0).1<32 ↔ bt x 0<32):=by
 have l0:=Ea x 0;have e0:(x.get! 0).toNat=bt x 0:=rfl;rw [Lib.decode_at];simp only [Nat.sub_zero,Nat.zero_add,e0];rcases Lib.decodeN_shape x.size (bt x 0) (x.get! 1).toNat (x.get! 2).toNat (x.get! 3).toNat with ⟨c,e⟩ | ⟨c1,c2,c3,cv,e⟩ | ⟨c1,c2,c3,c4,cv,cs,e⟩ | ⟨c1,c2,c3,c4,c5,cv,cw,e⟩ | e
 ·rw [e];dsimp only;omega
 ·rw [e];dsimp only;omega
 ·rw [e];dsimp only;omega
 ·rw [e];dsimp only;omega
 ·rw [e];dsimp only;refine ⟨by omega,by omega,by omega,?_⟩;by_cases hb:bt x 0<32
  ·exfalso;unfold Lib.decodeN at e;rw [if_pos (by omega)] at e;simp only [Prod.mk.injEq] at e;omega
  ·omega
theorem Am {x:ByteArray} (h:0<x.size):mG x=Utf8.decode x 0:=by unfold mG;rw [if_neg (by omega)]
theorem AY {x:ByteArray} (h:x.size=0):mG x=(65533,0):=by unfold mG;rw [if_pos h]
theorem Ji {s:ByteArray} {i r e:Nat} (h:jW s i=some (r,e)):i<e/\e<=s.size/\r<=1114111:=by
 unfold jW at h;split at h
 ·have:=Un h;omega
 ·split at h
  ·cases h
  ·rename_i h2;simp only [Option.some.injEq,Prod.mk.injEq] at h;have hz:=pq s i;by_cases h0:(oG s i).size=0
   ·rw [AY h0] at h2;simp at h2
   ·have hd:=jK (oG s i) (by omega);rw [Am (by omega)] at h;omega
theorem Uo {s:ByteArray} {i:Nat} (hi:i<s.size) (PI:cB s i≠92) (h:cB s i<32\/kE (oG s i)=0):jW s i=none:=by
 have hz:=pq s i;have hd:=jK (oG s i) (by omega);have hb:=Gc s i 0;have hu:=nJ (oG s i);unfold jW;rw [if_neg PI,Am (by omega),if_pos];rw [wo hi] at h;rw [hb] at hd;rcases h with h | h
 ·exact .inl (hd.2.2.2.2 h)
 ·rw [h] at hu;split at hu
  ·rename_i hh;exact .inr ⟨hh.1,by omega⟩
  ·omega
theorem Uq {s:ByteArray} {i:Nat} (hi:s.size<=i):jW s i=none:=by
 have hz:=pq s i;unfold jW;rw [vG hi,if_neg (by omega),AY (by omega)];rfl
theorem Eb {s:ByteArray} {i:Nat} (hi:i<s.size) (PI:cB s i≠92) (h0:32<=cB s i) (hu0:kE (oG s i)≠0):∃ r,jW s i=some (r,i+kE (oG s i))/\Lib.encodeRune (r:Int)=(s.extract i (i+kE (oG s i))).data.toList/\i+kE (oG s i)<=s.size:=by
 have hz:=pq s i;have hd:=jK (oG s i) (by omega);have hb:=Gc s i 0;have hu:=nJ (oG s i);rw [wo hi] at h0;rw [hb] at hd
 have hne:(oG s i).data.toList≠[]:=by
  intro e;have:=congrArg List.length e;rw [wC,List.length_drop] at this;have hl:s.data.toList.length=s.size:=rfl;simp only [List.length_nil] at this;omega
 by_cases hv:(Utf8.decode (oG s i) 0).1=65533/\(Utf8.decode (oG s i) 0).2=1
 ·rw [if_pos hv] at hu;omega
 ·rw [if_neg hv] at hu;have he:=Lib.encode_decode (oG s i).data.toList hne (by rw [qh];exact hv);rw [qh,wC] at he;refine ⟨(Utf8.decode (oG s i) 0).1,?_,?_,by omega⟩
  ·unfold jW;rw [if_neg PI,Am (by omega),if_neg,hu];intro hh;rcases hh with hh | hh
   ·have:=hd.2.2.2.1 hh;simp at this;omega
   ·exact hv ⟨hh.1,by omega⟩
  ·rw [kR,hu];exact he
def lJ (s:ByteArray):Nat->Nat->Option (List UInt8×Nat)
 | 0,_=>none
 | n+1,i=>if cB s i=34 then some ([],i+1) else (jW s i).bind fun p=>(lJ s n p.2).map fun q=>(Lib.encodeRune (p.1:Int)++q.1,q.2)
def bP (l:List UInt8):ByteArray:=⟨l.toArray⟩
theorem bK (l:List UInt8):(bP l).data.toList=l:=by simp [bP]
theorem fU (l:List UInt8):(bP l).size=l.length:=by simp [bP,ByteArray.size]
def jL (s:ByteArray) (i:Nat):Option (ByteArray×Nat):=if cB s i=34 then (lJ s (s.size+1) (i+1)).map fun p=>(bP p.1,p.2) else none
theorem AZ {s:ByteArray} {n i:Nat} (h:cB s i=34):lJ s (n+1) i=some ([],i+1):=by rw [lJ,if_pos h]
theorem Ur {s:ByteArray} {n i r e:Nat} (acc:List UInt8) (h:cB s i≠34) (hl:jW s i=some (r,e)):(lJ s (n+1) i).map (fun p=>(acc++p.1,p.2))=(lJ s n e).map fun p=>((acc++Lib.encodeRune (r:Int))++p.1,p.2):=by
 rw [lJ,if_neg h,hl];simp only [Option.bind_some,Option.map_map]
 congr 1
 funext p
 simp
theorem Rb {s:ByteArray} {n i:Nat} (h:cB s i≠34) (hl:jW s i=none):lJ s (n+1) i=none:=by
 rw [lJ,if_neg h,hl];rfl
theorem Jj {s:ByteArray}:∀ {n i:Nat} {l:List UInt8} {e:Nat},lJ s n i=some (l,e)->i<e/\e<=s.size/\l.length<=4*(e - i)
 | 0,i,l,e,h=>by cases h
 | n+1,i,l,e,h=>by
  rw [lJ] at h;split at h
  ·rename_i hc;simp only [Option.some.injEq,Prod.mk.injEq] at h;have:=d9 (s:=s) (i:=i) (by omega);obtain ⟨rfl,rfl⟩:=h;simp;omega
  ·cases hl:jW s i with
   | none=>rw [hl] at h;cases h
   | some p =>
    rw [hl] at h;simp only [Option.bind_some] at h;cases ht:lJ s n p.2 with
    | none=>rw [ht] at h;cases h
    | some q =>
     rw [ht] at h;simp only [Option.map_some,Option.some.injEq,Prod.mk.injEq] at h;obtain ⟨rfl,rfl⟩:=h;have h1:=Ji (r:=p.1) (e:=p.2) hl;have h2:=Jj (l:=q.1) (e:=q.2) ht;have h3:=Lib.runeCells_le (p.1:Int);rw [Lib.runeCells_length] at h3;rw [List.length_append];omega
theorem wD {s:ByteArray} {i:Nat} {x:ByteArray} {e:Nat} (h:jL s i=some (x,e)):i+1<e/\e<=s.size/\x.size<=4*s.size:=by
 unfold jL at h;split at h
 ·cases ht:lJ s (s.size+1) (i+1) with
  | none=>rw [ht] at h;cases h
  | some q =>
   rw [ht] at h;simp only [Option.map_some,Option.some.injEq,Prod.mk.injEq] at h;obtain ⟨rfl,rfl⟩:=h;have:=Jj (l:=q.1) (e:=q.2) ht;rw [fU];omega
 ·cases h
theorem Us (s:ByteArray) (i:Nat):i<=dg s i:=Ga _ s i
theorem Ut {s:ByteArray} {i:Nat} (h:i<=s.size):dg s i<=s.size:=PE _ h
theorem A9 {s:ByteArray} {i:Nat} {v:Int} {e:Nat} (hi:i<=s.size) (h:rz s i=some (v,e)):i<e/\e<=s.size/\-9223372036854775808<=v/\v<=9223372036854775807:=by
 have hs:fQ s i<=s.size/\i<=fQ s i:=by
  unfold fQ;split
  ·rename_i hc;have:=d9 (s:=s) (i:=i) (by omega);omega
  ·omega
 have h1:=Us s (fQ s i);have h2:=Ut hs.1;unfold rz at h;split at h
 ·cases h
 ·split at h
  ·cases h
  ·split at h
   ·split at h
    ·simp only [Option.some.injEq,Prod.mk.injEq] at h;omega
    ·cases h
   ·split at h
    ·simp only [Option.some.injEq,Prod.mk.injEq] at h;omega
    ·cases h
def oI (s:ByteArray) (o:Bool) (i:Nat):Option (ByteArray×Nat) :=
 if o=true then (jL s (sk s i)).bind fun p=>if cB s (sk s p.2)=58 then some (p.1,sk s p.2+1) else none else some (ByteArray.empty,i)
def cl (o:Bool):Nat:=if o=true then 125 else 93
def app (o:Bool) (k:ByteArray) (t:T) (r:(List ByteArray×List T)×Nat):(List ByteArray×List T)×Nat:=((if o=true then k::r.1.1 else r.1.1,t::r.1.2),r.2)
def yX (f:Nat->Option (T×Nat)) (s:ByteArray) (o:Bool):Nat->Nat->Option ((List ByteArray×List T)×Nat)
 | 0,_=>none
 | m+1,i=>(oI s o i).bind fun p=>(f p.2).bind fun q =>
   if cB s (sk s q.2)=44 then (yX f s o m (sk s q.2+1)).map (app o p.1 q.1)
   else if cB s (sk s q.2)=cl o then some (app o p.1 q.1 (([],[]),sk s q.2+1)) else none
def jM (f:Nat->Option (T×Nat)) (s:ByteArray) (o:Bool) (j:Nat):Option ((List ByteArray×List T)×Nat) :=
 if cB s (sk s j)=cl o then some (([],[]),sk s j+1) else yX f s o (s.size+1) (sk s j)
def wE:ByteArray:=⟨#[110,117,108,108]⟩
def wG:ByteArray:=⟨#[116,114,117,101]⟩
def qj:ByteArray:=⟨#[102,97,108,115,101]⟩
def bY (f:Nat->Option (T×Nat)) (s:ByteArray) (j:Nat):Option (T×Nat) :=
 if cB s j=34 then (jL s j).map fun p=>(dh 4 0 p.1,p.2)
 else if cB s j=91 then (jM f s false (j+1)).map fun r=>(aO 5 0 ByteArray.empty r.1.2 r.1.1,r.2)
 else if cB s j=123 then (jM f s true (j+1)).map fun r=>(aO 6 0 ByteArray.empty r.1.2 r.1.1,r.2)
 else if cB s j=45\/oW (cB s j)=true then (rz s j).map fun p=>(dh 3 p.1 ByteArray.empty,p.2)
 else if Al s j wE=true then some (dh 1 0 ByteArray.empty,j+4)
 else if Al s j wG=true then some (dh 2 1 ByteArray.empty,j+4)
 else if Al s j qj=true then some (dh 2 0 ByteArray.empty,j+5)
 else none
def bZ (s:ByteArray):Nat->Nat->Option (T×Nat)
 | 0,_=>none
 | n+1,i=>bY (bZ s n) s (sk s i)
theorem Gd {s:ByteArray} {i:Nat} {t:ByteArray} (h:Al s i t=true):i+t.size<=s.size:=by
 unfold Al at h;simp only [Bool.and_eq_true,decide_eq_true_eq] at h;exact h.1
theorem Ba {s:ByteArray} {o:Bool} {i:Nat} {p:ByteArray×Nat} (hi:i<=s.size) (h:oI s o i=some p):i<=p.2/\p.2<=s.size/\p.1.size<=4*s.size:=by
 unfold oI at h;split at h
 ·cases ht:jL s (sk s i) with
  | none=>rw [ht] at h;cases h
  | some q =>
   rw [ht] at h;simp only [Option.bind_some] at h;have h1:=wD (x:=q.1) (e:=q.2) ht;have h2:=jy s i;have h3:=jy s q.2;split at h
   ·rename_i hc;have:=d9 (s:=s) (i:=sk s q.2) (by omega);simp only [Option.some.injEq] at h;subst h;dsimp only;omega
   ·cases h
 ·simp only [Option.some.injEq] at h;subst h;refine ⟨Nat.le_refl _,hi,?_⟩;show 0<=_;omega
theorem Ao {f:Nat->Option (T×Nat)} {s:ByteArray} (hf:∀ i t e,i<=s.size->f i=some (t,e)->i<e/\e<=s.size) (o:Bool):∀ (m i:Nat) (r:(List ByteArray×List T)×Nat),i<=s.size->yX f s o m i=some r->i<r.2/\r.2<=s.size
 | 0,i,r,_,h=>by cases h
 | m+1,i,r,hi,h=>by
  rw [yX] at h;cases hk:oI s o i with
  | none=>rw [hk] at h;cases h
  | some p =>
   rw [hk] at h;simp only [Option.bind_some] at h;have h1:=Ba hi hk;cases hq:f p.2 with
   | none=>rw [hq] at h;cases h
   | some q =>
    rw [hq] at h;simp only [Option.bind_some] at h;have h2:=hf p.2 q.1 q.2 h1.2.1 hq;have h3:=jy s q.2;split at h
    ·rename_i hc;have h4:=d9 (s:=s) (i:=sk s q.2) (by omega);cases hr:yX f s o m (sk s q.2+1) with
     | none=>rw [hr] at h;cases h
     | some r' =>
      rw [hr] at h;simp only [Option.map_some,Option.some.injEq] at h;have h5:=Ao hf o m _ r' (by omega) hr;subst h;simp only [app];omega
    ·split at h
     ·rename_i hc;have h4:=d9 (s:=s) (i:=sk s q.2) (by unfold cl at hc;split at hc<;>omega);simp only [Option.some.injEq] at h;subst h;simp only [app];omega
     ·cases h
theorem xV {f:Nat->Option (T×Nat)} {s:ByteArray} (hf:∀ i t e,i<=s.size->f i=some (t,e)->i<e/\e<=s.size) {j:Nat} {t:T} {e:Nat} (hj:j<=s.size) (h:bY f s j=some (t,e)):j<e/\e<=s.size:=by
 have Bb:∀ (o:Bool) (k:Int),cB s j<256->(jM f s o (j+1)).map (fun r=>(aO k 0 ByteArray.empty r.1.2 r.1.1,r.2))=some (t,e)->j<e/\e<=s.size:=by
  intro o k hc hh;have hj1:=d9 hc;have h3:=jy s (j+1);have h5:=lU (s:=s) (i:=j+1) (by omega);cases hb:jM f s o (j+1) with
  | none=>rw [hb] at hh;cases hh
  | some r =>
   rw [hb] at hh;simp only [Option.map_some,Option.some.injEq,Prod.mk.injEq] at hh;unfold jM at hb;split at hb
   ·rename_i hc;have h4:=d9 (s:=s) (i:=sk s (j+1)) (by unfold cl at hc;split at hc<;>omega);simp only [Option.some.injEq] at hb;subst hb;dsimp only at hh;omega
   ·have:=Ao hf o _ _ r h5 hb;omega
 unfold bY at h;split at h
 ·cases ht:jL s j with
  | none=>rw [ht] at h;cases h
  | some q =>
   rw [ht] at h;simp only [Option.map_some,Option.some.injEq,Prod.mk.injEq] at h;have h1:=wD (x:=q.1) (e:=q.2) ht;omega
 ·split at h
  ·exact Bb _ _ (by omega) h
  ·split at h
   ·exact Bb _ _ (by omega) h
   ·split at h
    ·cases ht:rz s j with
     | none=>rw [ht] at h;cases h
     | some q =>
      rw [ht] at h;simp only [Option.map_some,Option.some.injEq,Prod.mk.injEq] at h;have h1:=A9 (v:=q.1) (e:=q.2) hj ht;omega
    ·split at h
     ·rename_i hp;have h4:=Gd hp;simp only [Option.some.injEq,Prod.mk.injEq] at h;have:wE.size=4:=rfl;omega
     ·split at h
      ·rename_i hp;have h4:=Gd hp;simp only [Option.some.injEq,Prod.mk.injEq] at h;have:wG.size=4:=rfl;omega
      ·split at h
       ·rename_i hp;have h4:=Gd hp;simp only [Option.some.injEq,Prod.mk.injEq] at h;have:qj.size=5:=rfl;omega
       ·cases h
theorem jc {s:ByteArray}:∀ (n i:Nat) (t:T) (e:Nat),i<=s.size->bZ s n i=some (t,e)->i<e/\e<=s.size
 | 0,_,_,_,_,h=>by cases h
 | n+1,i,t,e,hi,h=>by
  rw [bZ] at h;have:=xV (fun i t e=>jc n i t e) (lU hi) h;have:=jy s i;omega
def MI (K:List ByteArray) (L:List T) (r:(List ByteArray×List T)×Nat):(List ByteArray×List T)×Nat:=((K++r.1.1,L++r.1.2),r.2)
theorem Uu (x:Option ((List ByteArray×List T)×Nat)):x=x.map (MI [] []):=by cases x<;>rfl
theorem Ec {f:Nat->Option (T×Nat)} {s:ByteArray} {o:Bool} {m i:Nat} (hk:oI s o i=none):yX f s o (m+1) i=none:=by rw [yX,hk];rfl
theorem Ed {f:Nat->Option (T×Nat)} {s:ByteArray} {o:Bool} {m i:Nat} {p:ByteArray×Nat} (hk:oI s o i=some p) (hq:f p.2=none):yX f s o (m+1) i=none:=by rw [yX,hk];simp only [Option.bind_some];rw [hq];rfl
theorem Jk {f:Nat->Option (T×Nat)} {s:ByteArray} {o:Bool} {m i:Nat} {p:ByteArray×Nat} {q:T×Nat} (K:List ByteArray) (L:List T) (hk:oI s o i=some p) (hq:f p.2=some q) (h:cB s (sk s q.2)=44) :
  (yX f s o (m+1) i).map (MI K L)=(yX f s o m (sk s q.2+1)).map (MI (if o=true then K++[p.1] else K) (L++[q.1])):=by
 rw [yX,hk];simp only [Option.bind_some];rw [hq];simp only [Option.bind_some];rw [if_pos h,Option.map_map]
 congr 1
 funext r
 cases o<;>simp [MI,app]
theorem Jl {f:Nat->Option (T×Nat)} {s:ByteArray} {o:Bool} {m i:Nat} {p:ByteArray×Nat} {q:T×Nat} (K:List ByteArray) (L:List T) (hk:oI s o i=some p) (hq:f p.2=some q) (h:cB s (sk s q.2)=cl o) :
  (yX f s o (m+1) i).map (MI K L)=some (((if o=true then K++[p.1] else K),L++[q.1]),sk s q.2+1):=by
 rw [yX,hk];simp only [Option.bind_some];rw [hq];simp only [Option.bind_some];have IV:cB s (sk s q.2)≠44:=by rw [h];cases o<;>decide
 rw [if_neg IV,if_pos h];cases o<;>simp [MI,app]
theorem Jm {f:Nat->Option (T×Nat)} {s:ByteArray} {o:Bool} {m i:Nat} {p:ByteArray×Nat} {q:T×Nat} (hk:oI s o i=some p) (hq:f p.2=some q) (h:cB s (sk s q.2)≠44) (h2:cB s (sk s q.2)≠cl o) :
  yX f s o (m+1) i=none:=by
 rw [yX,hk];simp only [Option.bind_some];rw [hq];simp only [Option.bind_some];rw [if_neg h,if_neg h2]
def Bd (a:Nat) (l:List UInt8):Nat:=l.foldl (fun n c=>n*10+(c.toNat - 48)) a
theorem kF (a:Nat) (c:UInt8) (r:List UInt8):Bd a (c::r)=Bd (a*10+(c.toNat - 48)) r:=List.foldl_cons ..
theorem mH (a:Nat):Bd a []=a:=List.foldl_nil ..
theorem yY (a:Nat) (x y:List UInt8):Bd a (x++y)=Bd (Bd a x) y:=by
 induction x generalizing a with
 | nil=>rw [mH,List.nil_append]
 | cons c x ih=>rw [List.cons_append,kF,kF];exact ih _
theorem YI (l:List UInt8):∀ (a:Nat),a<=Bd a l:=by
 induction l with
 | nil=>intro a;rw [mH];exact Nat.le_refl _
 | cons c r ih =>
  intro a;have:=ih (a*10+(c.toNat - 48));rw [kF];omega
def Gf (l:List UInt8):Prop:=∀ c ∈ l,48<=c.toNat/\c.toNat<=57
theorem wH (l:List UInt8):∀ (a:Nat),Gf l->a<18446744073709551616->Lib.parseUint10 a l=if Bd a l<18446744073709551616 then .ok (Bd a l) else .range:=by
 induction l with
 | nil =>
  intro a _ ha;rw [Lib.parseUint10,mH,if_pos ha]
 | cons c r ih =>
  intro a h ha;have hc:=h c (by simp);have hr:Gf r:=fun x hx=>h x (by simp [hx]);have hg:=YI r (a*10+(c.toNat - 48));rw [Lib.parseUint10,kF,if_pos hc];generalize hd:c.toNat - 48=d at *;by_cases h1:1844674407370955162<=a
  ·rw [if_pos h1,if_neg (by omega)]
  ·rw [if_neg h1];by_cases h2:18446744073709551616<=a*10+d
   ·rw [if_pos h2,if_neg (by omega)]
   ·rw [if_neg h2];exact ih _ hr (by omega)
theorem Jo (s:ByteArray) (d k:Nat) (h:d+k<s.size):(s.data.toList.drop d).take (k+1)=(s.data.toList.drop d).take k++[s.data.toList[d+k]'h]:=by
 have hl:k<(s.data.toList.drop d).length:=by
  rw [List.length_drop];have:s.data.toList.length=s.size:=rfl;omega
 rw [List.take_succ_eq_append_getElem hl,List.getElem_drop]
theorem PK (s:ByteArray) (i:Nat) (h:i<s.size):(s.data.toList[i]'h).toNat=bt s i:=by
 rw [tQ];have hl:i<s.data.toList.length:=h;rw [List.getD_eq_getElem?_getD,List.getElem?_eq_getElem hl];rfl
theorem Gg (s:ByteArray) (d:Nat):∀ k,d+k<=s.size->Bd 0 ((s.data.toList.drop d).take k)=dv s d k
 | 0,_=>by rw [List.take_zero,mH,dv]
 | k+1,h=>by
  rw [Jo s d k (by omega),yY,Gg s d k (by omega),dv,wo (by omega)];rw [kF,mH,PK]
theorem yZ {s:ByteArray} {d:Nat}:∀ k,d+k<=s.size->(∀ j,d<=j->j<d+k->oW (cB s j)=true)->Gf ((s.data.toList.drop d).take k)
 | 0,_,_=>by intro c hc;simp at hc
 | k+1,h,hd=>by
  rw [Jo s d k (by omega)];intro c hc;rw [List.mem_append] at hc;rcases hc with hc | hc
  ·exact yZ k (by omega) (fun j h1 h2=>hd j h1 (by omega)) c hc
  ·simp only [List.mem_singleton] at hc;subst hc;have h1:=hd (d+k) (by omega) (by omega);rw [wo (by omega)] at h1;rw [PK];unfold oW at h1;simp at h1;exact h1
theorem MJ {s:ByteArray} {i:Nat} (hi:cB s i=45\/oW (cB s i)=true) (hz:¬ (fQ s i+1<dg s (fQ s i)/\cB s (fQ s i)=48)) :
  (∃ v,Lib.parseIntB 64 (s.extract i (dg s (fQ s i))).data.toList=.ok v/\rz s i=some (v,dg s (fQ s i)))\/((Lib.parseIntB 64 (s.extract i (dg s (fQ s i))).data.toList=.«syntax»\/Lib.parseIntB 64 (s.extract i (dg s (fQ s i))).data.toList=.range)/\rz s i=none):=by
 have hc:cB s i<256:=by
  rcases hi with h | h
  ·omega
  ·unfold oW at h;simp at h;omega
 have hi0:=d9 hc;have hs:fQ s i<=s.size/\i<=fQ s i:=by unfold fQ;split<;>omega
 have h1:=Us s (fQ s i);have h2:=Ut hs.1;have hall:∀ j,fQ s i<=j->j<dg s (fQ s i)->oW (cB s j)=true:=fun j a b=>Jh wz s _ _ j (Nat.le_refl _) a b;rw [Lib.parseIntB_64]
 have hl:(s.extract i (dg s (fQ s i))).data.toList=(s.data.toList.drop i).take (dg s (fQ s i) - i):=by
  have e:dg s (fQ s i)=i+(dg s (fQ s i) - i):=by omega
  rw [e,kR]
  congr 1
  omega
 rw [hl];have hdig:=yZ (s:=s) (d:=fQ s i) (dg s (fQ s i) - fQ s i) (by omega) (fun j a b=>hall j a (by omega));have hdv:=Gg s (fQ s i) (dg s (fQ s i) - fQ s i) (by omega);have hx:(s.data.toList[i]'hi0).toNat=cB s i:=by rw [PK,wo hi0]
 unfold rz;by_cases h45:cB s i=45
 ·have e1:fQ s i=i+1:=by unfold fQ;rw [if_pos h45]
  have Uv:(s.data.toList.drop i).take (dg s (fQ s i) - i)=s.data.toList[i]'hi0::(s.data.toList.drop (fQ s i)).take (dg s (fQ s i) - fQ s i):=by
   have e2:dg s (fQ s i) - i=(dg s (fQ s i) - fQ s i)+1:=by omega
   rw [e2,List.drop_eq_getElem_cons (h:=hi0),List.take_succ_cons,e1]
  rw [Uv];simp only [Lib.atoiAll,hx];rw [if_pos (Or.inr h45)];by_cases h0:dg s (fQ s i)=fQ s i
  ·rw [if_pos h0];have e3:dg s (fQ s i) - fQ s i=0:=by omega
   rw [e3]
   right
   simp [Lib.parseMag]
  ·rw [if_neg h0,if_neg hz,if_pos h45]
   have hne:(s.data.toList.drop (fQ s i)).take (dg s (fQ s i) - fQ s i)≠[]:=by
    intro e;have:=congrArg List.length e;rw [List.length_take,List.length_drop] at this;have hl:s.data.toList.length=s.size:=rfl;simp only [List.length_nil] at this;omega
   simp only [Lib.parseMag];rw [if_neg hne,wH _ _ hdig (by omega),hdv];generalize dv s (fQ s i) (dg s (fQ s i) - fQ s i)=m;by_cases hm:m<18446744073709551616
   ·rw [if_pos hm];simp only [h45,not_true_eq_false,false_and,if_false,true_and,if_true];by_cases hm2:m<=9223372036854775808
    ·rw [if_neg (by omega),if_pos hm2];exact .inl ⟨_,rfl,rfl⟩
    ·rw [if_pos (by omega),if_neg hm2];exact .inr ⟨.inr rfl,rfl⟩
   ·rw [if_neg hm,if_neg (by omega)];exact .inr ⟨.inr rfl,rfl⟩
 ·have hd:oW (cB s i)=true:=by
   rcases hi with h | h
   ·exact absurd h h45
   ·exact h
  have e1:fQ s i=i:=by unfold fQ;rw [if_neg h45]
  rw [e1] at hdig hdv hz h1 h2 ⊢
  have h0:dg s i≠i:=by
   unfold dg;rw [jw wz,if_pos hd];have:=Ga oW s (i+1);omega
  have hne:(s.data.toList.drop i).take (dg s i - i)≠[]:=by
   intro e;have:=congrArg List.length e;rw [List.length_take,List.length_drop] at this;have hl:s.data.toList.length=s.size:=rfl;simp only [List.length_nil] at this;omega
  obtain ⟨rest,Uv⟩:∃ rest,(s.data.toList.drop i).take (dg s i - i)=s.data.toList[i]'hi0::rest:=by
   obtain ⟨q,hq⟩:∃ q,dg s i - i=q+1:=⟨dg s i - i - 1,by omega⟩;rw [hq,List.drop_eq_getElem_cons (h:=hi0),List.take_succ_cons];exact ⟨_,rfl⟩
  rw [Uv] at hdig hdv hne ⊢;simp only [Lib.atoiAll,hx]
  have hn:¬ (cB s i=43\/cB s i=45):=by
   unfold oW at hd;simp at hd;omega
  rw [if_neg hn,if_neg h0,if_neg hz,if_neg h45];simp only [Lib.parseMag];rw [if_neg hne,wH _ _ hdig (by omega),hdv];generalize dv s i (dg s i - i)=m;by_cases hm:m<18446744073709551616
  ·rw [if_pos hm];simp only [h45,not_false_eq_true,true_and,false_and,if_false];by_cases hm2:m<9223372036854775808
   ·rw [if_neg (by omega),if_pos hm2];exact .inl ⟨_,rfl,rfl⟩
   ·rw [if_pos (by omega),if_neg hm2];exact .inr ⟨.inr rfl,rfl⟩
  ·rw [if_neg hm,if_neg (by omega)];exact .inr ⟨.inr rfl,rfl⟩
theorem abt {a b:ByteArray} (h:a.data.toList=b.data.toList):a=b:=by
 cases a;cases b;simp only [ByteArray.mk.injEq];exact Array.toList_inj.1 h
theorem Jp (s:ByteArray) (i:Nat) (t:ByteArray) (hi:i<=s.size):Lib.hasPrefix (oG s i).data.toList t.data.toList=Al s i t:=by
 rw [<- Lib.hasPrefix_of_take,wC];unfold Al;have ht:t.data.toList.length=t.size:=rfl;have hs:(s.data.toList.drop i).length=s.size - i:=by rw [List.length_drop];rfl
 rw [ht,hs]
 have e1:decide (t.size<=s.size - i)=decide (i+t.size<=s.size):=by
  apply decide_eq_decide.2;omega
 rw [e1,<- kR]
 congr 1
 by_cases e:s.extract i (i+t.size)=t
 ·rw [e];simp
 ·have h1:decide (s.extract i (i+t.size)=t)=false:=by simpa using e
  rw [h1];apply beq_false_of_ne;exact fun h=>e (abt h)
theorem Uw {s:ByteArray} {i:Nat} {t:ByteArray} {c:UInt8} {r:List UInt8} (ht:t.data.toList=c::r) (h:Al s i t=true):cB s i=c.toNat:=by
 unfold Al at h;simp only [Bool.and_eq_true,decide_eq_true_eq] at h
 have hz:t.size=r.length+1:=by
  have:t.data.toList.length=t.size:=rfl;rw [ht] at this;simpa using this.symm
 have hi:i<s.size:=by omega
 have hl:=congrArg (fun x=>x.data.toList) h.2;rw [kR,ht,hz,List.drop_eq_getElem_cons (h:=hi),List.take_succ_cons] at hl;simp only [List.cons.injEq] at hl;rw [wo hi,<- PK s i hi,hl.1]
def nO (s:ByteArray):Option T:=(bZ s (s.size+1) 0).bind fun p=>if sk s p.2=s.size then some p.1 else none
def eJ (s:ByteArray):Int:=if 4000<s.size then 1 else ((nO s).map fun t=>if 12<dY (s.size+1) t then (3:Int) else if dU (s.size+1) t=true then 4 else 0).getD 2
def tJ (s:ByteArray):T:=if eJ s=0 then (nO s).getD (dh 0 0 ByteArray.empty) else dh 0 0 ByteArray.empty
def qc (p:Nat->Prop) (w:World):Nat->Value->T->Prop
 | 0,_,_=>False
 | f+1,v,t=>∃ (La Ka:Option Addr) (Lc Kc:Nat),
   v=.agg #[.int .i64 (aj t),.int .i64 (av t),.string (ay t),.slice La (nL t) Lc,.slice Ka (nK t) Kc]/\zI t /\
   (∀ i,i<nL t->∃ b o c0 c1 c2 c3 c4,La=some ⟨b,o,none⟩/\(b<w.heap.size/\p b)/\w.cell? ⟨b,o+i*5,none⟩=some c0/\w.cell? ⟨b,o+i*5+1,none⟩=some c1/\w.cell? ⟨b,o+i*5+2,none⟩=some c2/\w.cell? ⟨b,o+i*5+3,none⟩=some c3/\w.cell? ⟨b,o+i*5+4,none⟩=some c4/\qc p w f (.agg #[c0,c1,c2,c3,c4]) (elt t i)) /\
   (∀ i,i<nK t->∃ b o,Ka=some ⟨b,o,none⟩/\(b<w.heap.size/\p b)/\(bO t i).size<=140737488355328/\w.cell? ⟨b,o+i,none⟩=some (.string (bO t i)))
theorem aC {w w':World} {b:Nat} (h:w'.heap[b]?=w.heap[b]?) (o:Nat):w'.cell? ⟨b,o,none⟩=w.cell? ⟨b,o,none⟩:=World.cell?_of_block (w:=w) h
theorem qc.move {p q:Nat->Prop} {w w':World} (hs:w.heap.size<=w'.heap.size) (hq:∀ b,b<w.heap.size->p b->q b/\w'.heap[b]?=w.heap[b]?):∀ {f:Nat} {v:Value} {t:T},qc p w f v t->qc q w' f v t:=by
 intro f
 induction f with
 | zero=>intro v t h;exact h
 | succ f ih =>
  rintro v t ⟨La,Ka,Lc,Kc,rfl,hf,hl,hk⟩;refine ⟨La,Ka,Lc,Kc,rfl,hf,fun i hi=>?_,fun i hi=>?_⟩
  ·obtain ⟨b,o,c0,c1,c2,c3,c4,h0,⟨hb,hp⟩,q0,q1,q2,q3,q4,ha⟩:=hl i hi;obtain ⟨hq1,hq2⟩:=hq b hb hp;exact ⟨b,o,c0,c1,c2,c3,c4,h0,⟨Nat.lt_of_lt_of_le hb hs,hq1⟩,(aC hq2 _).trans q0,(aC hq2 _).trans q1,(aC hq2 _).trans q2,(aC hq2 _).trans q3,(aC hq2 _).trans q4,ih ha⟩
  ·obtain ⟨b,o,h0,⟨hb,hp⟩,hz,q0⟩:=hk i hi;obtain ⟨hq1,hq2⟩:=hq b hb hp;exact ⟨b,o,h0,⟨Nat.lt_of_lt_of_le hb hs,hq1⟩,hz,(aC hq2 _).trans q0⟩
theorem qc.at {p:Nat->Prop} {w:World}:∀ {f:Nat} {v:Value} {t:T},qc p w f v t->At w f v t:=by
 intro f
 induction f with
 | zero=>intro v t h;exact h
 | succ f ih =>
  rintro v t ⟨La,Ka,Lc,Kc,rfl,hf,hl,hk⟩;refine ⟨La,Ka,Lc,Kc,rfl,hf,fun i hi=>?_,fun i hi=>?_⟩
  ·obtain ⟨b,o,c0,c1,c2,c3,c4,h0,hb,q0,q1,q2,q3,q4,ha⟩:=hl i hi;exact ⟨b,o,c0,c1,c2,c3,c4,h0,hb.1,q0,q1,q2,q3,q4,ih ha⟩
  ·obtain ⟨b,o,h0,hb,hz,q0⟩:=hk i hi;exact ⟨b,o,h0,hb.1,hz,q0⟩
theorem At.atP {w:World}:∀ {f:Nat} {v:Value} {t:T},At w f v t->qc (fun b=>b<w.heap.size) w f v t:=by
 intro f
 induction f with
 | zero=>intro v t h;exact h
 | succ f ih =>
  rintro v t ⟨La,Ka,Lc,Kc,rfl,hf,hl,hk⟩;refine ⟨La,Ka,Lc,Kc,rfl,hf,fun i hi=>?_,fun i hi=>?_⟩
  ·obtain ⟨b,o,c0,c1,c2,c3,c4,h0,hb,q0,q1,q2,q3,q4,ha⟩:=hl i hi;exact ⟨b,o,c0,c1,c2,c3,c4,h0,⟨hb,hb⟩,q0,q1,q2,q3,q4,ih ha⟩
  ·obtain ⟨b,o,h0,hb,hz,q0⟩:=hk i hi;exact ⟨b,o,h0,⟨hb,hb⟩,hz,q0⟩
def iR (t:T) (A:Option Addr) (B:Nat) (C:Option Addr) (D:Nat):Value:=.agg #[.int .i64 (aj t),.int .i64 (av t),.string (ay t),.slice A (nL t) B,.slice C (nK t) D]
def uR (w:World) (b n:Nat):Prop:=b<w.heap.size/\∀ o,o<n->(w.cell? ⟨b,o,none⟩).isSome=true/\w.frozen? ⟨b,o,none⟩=false
theorem uR.move {w w':World} {b n:Nat} (h:uR w b n) (hs:w.heap.size<=w'.heap.size) (hb:w'.heap[b]?=w.heap[b]?):uR w' b n :=
 ⟨Nat.lt_of_lt_of_le h.1 hs,fun o ho=>⟨by rw [aC hb];exact (h.2 o ho).1,by rw [World.frozen?_of_block (w:=w) (a:=⟨b,o,none⟩) hb];exact (h.2 o ho).2⟩⟩
theorem uR.set {w:World} {b n:Nat} (h:uR w b n) (c o:Nat) (u:Value):uR (w.setCell ⟨c,o,none⟩ u) b n:=by
 refine ⟨by simp [World.setCell];exact h.1,fun k hk=>⟨?_,by rw [World.frozen?_setCell];exact (h.2 k hk).2⟩⟩;by_cases e:(⟨c,o,none⟩:Addr)=⟨b,k,none⟩
 ·obtain ⟨v,hv⟩:=Option.isSome_iff_exists.1 (h.2 k hk).1;rw [<- e] at hv ⊢;rw [World.cell?_setCell_same _ _ _ hv];rfl
 ·rw [World.cell?_setCell_other _ _ _ _ e];exact (h.2 k hk).1
theorem mI {w:World} {b n o:Nat} (h:uR w b n) (ho:o<n) (u:Value):(w.setCell ⟨b,o,none⟩ u).cell? ⟨b,o,none⟩=some u:=by
 obtain ⟨v,hv⟩:=Option.isSome_iff_exists.1 (h.2 o ho).1;exact World.cell?_setCell_same _ _ _ hv
theorem aH {w:World} {b c o k:Nat} (h:b≠c\/o≠k) (u:Value):(w.setCell ⟨b,o,none⟩ u).cell? ⟨c,k,none⟩=w.cell? ⟨c,k,none⟩ :=
 World.cell?_setCell_other _ _ _ _ (fun e=>by simp only [Addr.mk.injEq] at e;rcases h with h | h;exact h e.1;exact h e.2.1)
end Go.Proofs.YtknakfpciccoaaaGreatDoor
