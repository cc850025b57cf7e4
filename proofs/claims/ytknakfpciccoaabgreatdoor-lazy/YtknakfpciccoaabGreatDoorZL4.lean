import Derived.Test.YtknakfpciccoaabGreatDoorZL3
import Derived.Lib.IndexBytes
import Derived.Lib.ParseIntBTie
import Derived.Lib.Strings
import Derived.Test.YtknakfpciccoaabGreatDoorZL1
/- Texts as values: texts, lists, objects. -/
namespace Go.Proofs.YtknakfpciccoaabGreatDoor
open Go.RowKit
theorem vV (s:ByteArray) (i:Nat):(oK s i).data.toList=s.data.toList.drop i:=Lib.extract_to_end s i
theorem kU (s:ByteArray) (i n:Nat):(s.extract i (i+n)).data.toList=(s.data.toList.drop i).take n:=by
 rw [ByteArray.data_extract,Array.toList_extract,List.extract_eq_take_drop]
 congr 1
 omega
theorem sZ (s:ByteArray) (i:Nat):bt s i=(s.data.toList.getD i 0).toNat:=by
 unfold bt;cases s with
 | mk d =>
  show (d[i]!).toNat=_;simp only [List.getD_eq_getElem?_getD,Array.getElem?_toList];rw [getElem!_def];cases d[i]?<;>rfl
theorem FT (s:ByteArray) (i k:Nat):bt (oK s i) k=bt s (i+k):=by
 rw [sZ,sZ,vV];simp [List.getD_eq_getElem?_getD,List.getElem?_drop]
theorem jJ (x:ByteArray) (h:0<x.size):1<=(Utf8.decode x 0).2/\(Utf8.decode x 0).2<=x.size/\(Utf8.decode x 0).1<=1114111/\((Utf8.decode x 0).1<32 ↔ bt x 0<32):=by
 have l0:=DF x 0;have e0:(x.get! 0).toNat=bt x 0:=rfl;rw [Lib.decode_at];simp only [Nat.sub_zero,Nat.zero_add,e0];rcases Lib.decodeN_shape x.size (bt x 0) (x.get! 1).toNat (x.get! 2).toNat (x.get! 3).toNat with ⟨c,e⟩ | ⟨c1,c2,c3,cv,e⟩ | ⟨c1,c2,c3,c4,cv,cs,e⟩ | ⟨c1,c2,c3,c4,c5,cv,cw,e⟩ | e
 ·rw [e];dsimp only;omega
 ·rw [e];dsimp only;omega
 ·rw [e];dsimp only;omega
 ·rw [e];dsimp only;omega
 ·rw [e];dsimp only;refine ⟨by omega,by omega,by omega,?_⟩;by_cases hb:bt x 0<32
  ·exfalso;unfold Lib.decodeN at e;rw [if_pos (by omega)] at e;simp only [Prod.mk.injEq] at e;omega
  ·omega
theorem zW {x:ByteArray} (h:0<x.size):mO x=Utf8.decode x 0:=by unfold mO;rw [if_neg (by omega)]
theorem Al {x:ByteArray} (h:x.size=0):mO x=(65533,0):=by unfold mO;rw [if_pos h]
theorem IZ {s:ByteArray} {i r e:Nat} (h:jV s i=some (r,e)):i<e/\e<=s.size/\r<=1114111:=by
 unfold jV at h;split at h
 ·have:=TP h;omega
 ·split at h
  ·cases h
  ·rename_i h2;simp only [Option.some.injEq,Prod.mk.injEq] at h;have hz:=pI s i;by_cases h0:(oK s i).size=0
   ·rw [Al h0] at h2;simp at h2
   ·have hd:=jJ (oK s i) (by omega);rw [zW (by omega)] at h;omega
theorem TQ {s:ByteArray} {i:Nat} (hi:i<s.size) (O7:cB s i≠92) (h:cB s i<32\/kr (oK s i)=0):jV s i=none:=by
 have hz:=pI s i;have hd:=jJ (oK s i) (by omega);have hb:=FT s i 0;have hu:=nU (oK s i);unfold jV;rw [if_neg O7,zW (by omega),if_pos];rw [vS hi] at h;rw [hb] at hd;rcases h with h | h
 ·exact .inl (hd.2.2.2.2 h)
 ·rw [h] at hu;split at hu
  ·rename_i hh;exact .inr ⟨hh.1,by omega⟩
  ·omega
theorem TR {s:ByteArray} {i:Nat} (hi:s.size<=i):jV s i=none:=by
 have hz:=pI s i;unfold jV;rw [uW hi,if_neg (by omega),Al (by omega)];rfl
theorem DI {s:ByteArray} {i:Nat} (hi:i<s.size) (O7:cB s i≠92) (h0:32<=cB s i) (hu0:kr (oK s i)≠0):∃ r,jV s i=some (r,i+kr (oK s i))/\Lib.encodeRune (r:Int)=(s.extract i (i+kr (oK s i))).data.toList/\i+kr (oK s i)<=s.size:=by
 have hz:=pI s i;have hd:=jJ (oK s i) (by omega);have hb:=FT s i 0;have hu:=nU (oK s i);rw [vS hi] at h0;rw [hb] at hd
 have hne:(oK s i).data.toList≠[]:=by
  intro e;have:=congrArg List.length e;rw [vV,List.length_drop] at this;have hl:s.data.toList.length=s.size:=rfl;simp only [List.length_nil] at this;omega
 by_cases hv:(Utf8.decode (oK s i) 0).1=65533/\(Utf8.decode (oK s i) 0).2=1
 ·rw [if_pos hv] at hu;omega
 ·rw [if_neg hv] at hu;have he:=Lib.encode_decode (oK s i).data.toList hne (by rw [qj];exact hv);rw [qj,vV] at he;refine ⟨(Utf8.decode (oK s i) 0).1,?_,?_,by omega⟩
  ·unfold jV;rw [if_neg O7,zW (by omega),if_neg,hu];intro hh;rcases hh with hh | hh
   ·have:=hd.2.2.2.1 hh;simp at this;omega
   ·exact hv ⟨hh.1,by omega⟩
  ·rw [kU,hu];exact he
def lS (s:ByteArray):Nat->Nat->Option (List UInt8×Nat)
 | 0,_=>none
 | n+1,i=>if cB s i=34 then some ([],i+1) else (jV s i).bind fun p=>(lS s n p.2).map fun q=>(Lib.encodeRune (p.1:Int)++q.1,q.2)
def aY (l:List UInt8):ByteArray:=⟨l.toArray⟩
theorem aN (l:List UInt8):(aY l).data.toList=l:=by simp [aY]
theorem gN (l:List UInt8):(aY l).size=l.length:=by simp [aY,ByteArray.size]
def jK (s:ByteArray) (i:Nat):Option (ByteArray×Nat):=if cB s i=34 then (lS s (s.size+1) (i+1)).map fun p=>(aY p.1,p.2) else none
theorem Am {s:ByteArray} {n i:Nat} (h:cB s i=34):lS s (n+1) i=some ([],i+1):=by rw [lS,if_pos h]
theorem TS {s:ByteArray} {n i r e:Nat} (acc:List UInt8) (h:cB s i≠34) (hl:jV s i=some (r,e)):(lS s (n+1) i).map (fun p=>(acc++p.1,p.2))=(lS s n e).map fun p=>((acc++Lib.encodeRune (r:Int))++p.1,p.2):=by
 rw [lS,if_neg h,hl];simp only [Option.bind_some,Option.map_map]
 congr 1
 funext p
 simp
theorem QH {s:ByteArray} {n i:Nat} (h:cB s i≠34) (hl:jV s i=none):lS s (n+1) i=none:=by
 rw [lS,if_neg h,hl];rfl
theorem I4 {s:ByteArray}:∀ {n i:Nat} {l:List UInt8} {e:Nat},lS s n i=some (l,e)->i<e/\e<=s.size/\l.length<=4*(e - i)
 | 0,i,l,e,h=>by cases h
 | n+1,i,l,e,h=>by
  rw [lS] at h;split at h
  ·rename_i hc;simp only [Option.some.injEq,Prod.mk.injEq] at h;have:=eH (s:=s) (i:=i) (by omega);obtain ⟨rfl,rfl⟩:=h;simp;omega
  ·cases hl:jV s i with
   | none=>rw [hl] at h;cases h
   | some p =>
    rw [hl] at h;simp only [Option.bind_some] at h;cases ht:lS s n p.2 with
    | none=>rw [ht] at h;cases h
    | some q =>
     rw [ht] at h;simp only [Option.map_some,Option.some.injEq,Prod.mk.injEq] at h;obtain ⟨rfl,rfl⟩:=h;have h1:=IZ (r:=p.1) (e:=p.2) hl;have h2:=I4 (l:=q.1) (e:=q.2) ht;have h3:=Lib.runeCells_le (p.1:Int);rw [Lib.runeCells_length] at h3;rw [List.length_append];omega
theorem vW {s:ByteArray} {i:Nat} {x:ByteArray} {e:Nat} (h:jK s i=some (x,e)):i+1<e/\e<=s.size/\x.size<=4*s.size:=by
 unfold jK at h;split at h
 ·cases ht:lS s (s.size+1) (i+1) with
  | none=>rw [ht] at h;cases h
  | some q =>
   rw [ht] at h;simp only [Option.map_some,Option.some.injEq,Prod.mk.injEq] at h;obtain ⟨rfl,rfl⟩:=h;have:=I4 (l:=q.1) (e:=q.2) ht;rw [gN];omega
 ·cases h
theorem TT (s:ByteArray) (i:Nat):i<=dg s i:=FQ _ s i
theorem TU {s:ByteArray} {i:Nat} (h:i<=s.size):dg s i<=s.size:=O5 _ h
theorem Ao {s:ByteArray} {i:Nat} {v:Int} {e:Nat} (hi:i<=s.size) (h:qY s i=some (v,e)):i<e/\e<=s.size/\-9223372036854775808<=v/\v<=9223372036854775807:=by
 have hs:gq s i<=s.size/\i<=gq s i:=by
  unfold gq;split
  ·rename_i hc;have:=eH (s:=s) (i:=i) (by omega);omega
  ·omega
 have h1:=TT s (gq s i);have h2:=TU hs.1;unfold qY at h;split at h
 ·cases h
 ·split at h
  ·cases h
  ·split at h
   ·split at h
    ·simp only [Option.some.injEq,Prod.mk.injEq] at h;omega
    ·cases h
   ·split at h
    ·simp only [Option.some.injEq,Prod.mk.injEq] at h;omega
    ·cases h
def oM (s:ByteArray) (o:Bool) (i:Nat):Option (ByteArray×Nat) :=
 if o=true then (jK s (sk s i)).bind fun p=>if cB s (sk s p.2)=58 then some (p.1,sk s p.2+1) else none else some (ByteArray.empty,i)
def cl (o:Bool):Nat:=if o=true then 125 else 93
def app (o:Bool) (k:ByteArray) (t:T) (r:(List ByteArray×List T)×Nat):(List ByteArray×List T)×Nat:=((if o=true then k::r.1.1 else r.1.1,t::r.1.2),r.2)
def yL (f:Nat->Option (T×Nat)) (s:ByteArray) (o:Bool):Nat->Nat->Option ((List ByteArray×List T)×Nat)
 | 0,_=>none
 | m+1,i=>(oM s o i).bind fun p=>(f p.2).bind fun q =>
   if cB s (sk s q.2)=44 then (yL f s o m (sk s q.2+1)).map (app o p.1 q.1)
   else if cB s (sk s q.2)=cl o then some (app o p.1 q.1 (([],[]),sk s q.2+1)) else none
def jL (f:Nat->Option (T×Nat)) (s:ByteArray) (o:Bool) (j:Nat):Option ((List ByteArray×List T)×Nat) :=
 if cB s (sk s j)=cl o then some (([],[]),sk s j+1) else yL f s o (s.size+1) (sk s j)
def vX:ByteArray:=⟨#[110,117,108,108]⟩
def vY:ByteArray:=⟨#[116,114,117,101]⟩
def ql:ByteArray:=⟨#[102,97,108,115,101]⟩
def cO (f:Nat->Option (T×Nat)) (s:ByteArray) (j:Nat):Option (T×Nat) :=
 if cB s j=34 then (jK s j).map fun p=>(cK 4 0 p.1,p.2)
 else if cB s j=91 then (jL f s false (j+1)).map fun r=>(aX 5 0 ByteArray.empty r.1.2 r.1.1,r.2)
 else if cB s j=123 then (jL f s true (j+1)).map fun r=>(aX 6 0 ByteArray.empty r.1.2 r.1.1,r.2)
 else if cB s j=45\/pz (cB s j)=true then (qY s j).map fun p=>(cK 3 p.1 ByteArray.empty,p.2)
 else if zV s j vX=true then some (cK 1 0 ByteArray.empty,j+4)
 else if zV s j vY=true then some (cK 2 1 ByteArray.empty,j+4)
 else if zV s j ql=true then some (cK 2 0 ByteArray.empty,j+5)
 else none
def dh (s:ByteArray):Nat->Nat->Option (T×Nat)
 | 0,_=>none
 | n+1,i=>cO (dh s n) s (sk s i)
theorem FU {s:ByteArray} {i:Nat} {t:ByteArray} (h:zV s i t=true):i+t.size<=s.size:=by
 unfold zV at h;simp only [Bool.and_eq_true,decide_eq_true_eq] at h;exact h.1
theorem Ap {s:ByteArray} {o:Bool} {i:Nat} {p:ByteArray×Nat} (hi:i<=s.size) (h:oM s o i=some p):i<=p.2/\p.2<=s.size/\p.1.size<=4*s.size:=by
 unfold oM at h;split at h
 ·cases ht:jK s (sk s i) with
  | none=>rw [ht] at h;cases h
  | some q =>
   rw [ht] at h;simp only [Option.bind_some] at h;have h1:=vW (x:=q.1) (e:=q.2) ht;have h2:=jy s i;have h3:=jy s q.2;split at h
   ·rename_i hc;have:=eH (s:=s) (i:=sk s q.2) (by omega);simp only [Option.some.injEq] at h;subst h;dsimp only;omega
   ·cases h
 ·simp only [Option.some.injEq] at h;subst h;refine ⟨Nat.le_refl _,hi,?_⟩;show 0<=_;omega
theorem zX {f:Nat->Option (T×Nat)} {s:ByteArray} (hf:∀ i t e,i<=s.size->f i=some (t,e)->i<e/\e<=s.size) (o:Bool):∀ (m i:Nat) (r:(List ByteArray×List T)×Nat),i<=s.size->yL f s o m i=some r->i<r.2/\r.2<=s.size
 | 0,i,r,_,h=>by cases h
 | m+1,i,r,hi,h=>by
  rw [yL] at h;cases hk:oM s o i with
  | none=>rw [hk] at h;cases h
  | some p =>
   rw [hk] at h;simp only [Option.bind_some] at h;have h1:=Ap hi hk;cases hq:f p.2 with
   | none=>rw [hq] at h;cases h
   | some q =>
    rw [hq] at h;simp only [Option.bind_some] at h;have h2:=hf p.2 q.1 q.2 h1.2.1 hq;have h3:=jy s q.2;split at h
    ·rename_i hc;have h4:=eH (s:=s) (i:=sk s q.2) (by omega);cases hr:yL f s o m (sk s q.2+1) with
     | none=>rw [hr] at h;cases h
     | some r' =>
      rw [hr] at h;simp only [Option.map_some,Option.some.injEq] at h;have h5:=zX hf o m _ r' (by omega) hr;subst h;simp only [app];omega
    ·split at h
     ·rename_i hc;have h4:=eH (s:=s) (i:=sk s q.2) (by unfold cl at hc;split at hc<;>omega);simp only [Option.some.injEq] at h;subst h;simp only [app];omega
     ·cases h
theorem xH {f:Nat->Option (T×Nat)} {s:ByteArray} (hf:∀ i t e,i<=s.size->f i=some (t,e)->i<e/\e<=s.size) {j:Nat} {t:T} {e:Nat} (hj:j<=s.size) (h:cO f s j=some (t,e)):j<e/\e<=s.size:=by
 have Aq:∀ (o:Bool) (k:Int),cB s j<256->(jL f s o (j+1)).map (fun r=>(aX k 0 ByteArray.empty r.1.2 r.1.1,r.2))=some (t,e)->j<e/\e<=s.size:=by
  intro o k hc hh;have hj1:=eH hc;have h3:=jy s (j+1);have h5:=lX (s:=s) (i:=j+1) (by omega);cases hb:jL f s o (j+1) with
  | none=>rw [hb] at hh;cases hh
  | some r =>
   rw [hb] at hh;simp only [Option.map_some,Option.some.injEq,Prod.mk.injEq] at hh;unfold jL at hb;split at hb
   ·rename_i hc;have h4:=eH (s:=s) (i:=sk s (j+1)) (by unfold cl at hc;split at hc<;>omega);simp only [Option.some.injEq] at hb;subst hb;dsimp only at hh;omega
   ·have:=zX hf o _ _ r h5 hb;omega
 unfold cO at h;split at h
 ·cases ht:jK s j with
  | none=>rw [ht] at h;cases h
  | some q =>
   rw [ht] at h;simp only [Option.map_some,Option.some.injEq,Prod.mk.injEq] at h;have h1:=vW (x:=q.1) (e:=q.2) ht;omega
 ·split at h
  ·exact Aq _ _ (by omega) h
  ·split at h
   ·exact Aq _ _ (by omega) h
   ·split at h
    ·cases ht:qY s j with
     | none=>rw [ht] at h;cases h
     | some q =>
      rw [ht] at h;simp only [Option.map_some,Option.some.injEq,Prod.mk.injEq] at h;have h1:=Ao (v:=q.1) (e:=q.2) hj ht;omega
    ·split at h
     ·rename_i hp;have h4:=FU hp;simp only [Option.some.injEq,Prod.mk.injEq] at h;have:vX.size=4:=rfl;omega
     ·split at h
      ·rename_i hp;have h4:=FU hp;simp only [Option.some.injEq,Prod.mk.injEq] at h;have:vY.size=4:=rfl;omega
      ·split at h
       ·rename_i hp;have h4:=FU hp;simp only [Option.some.injEq,Prod.mk.injEq] at h;have:ql.size=5:=rfl;omega
       ·cases h
theorem iZ {s:ByteArray}:∀ (n i:Nat) (t:T) (e:Nat),i<=s.size->dh s n i=some (t,e)->i<e/\e<=s.size
 | 0,_,_,_,_,h=>by cases h
 | n+1,i,t,e,hi,h=>by
  rw [dh] at h;have:=xH (fun i t e=>iZ n i t e) (lX hi) h;have:=jy s i;omega
def L6 (K:List ByteArray) (L:List T) (r:(List ByteArray×List T)×Nat):(List ByteArray×List T)×Nat:=((K++r.1.1,L++r.1.2),r.2)
theorem TV (x:Option ((List ByteArray×List T)×Nat)):x=x.map (L6 [] []):=by cases x<;>rfl
theorem DJ {f:Nat->Option (T×Nat)} {s:ByteArray} {o:Bool} {m i:Nat} (hk:oM s o i=none):yL f s o (m+1) i=none:=by rw [yL,hk];rfl
theorem DK {f:Nat->Option (T×Nat)} {s:ByteArray} {o:Bool} {m i:Nat} {p:ByteArray×Nat} (hk:oM s o i=some p) (hq:f p.2=none):yL f s o (m+1) i=none:=by rw [yL,hk];simp only [Option.bind_some];rw [hq];rfl
theorem I5 {f:Nat->Option (T×Nat)} {s:ByteArray} {o:Bool} {m i:Nat} {p:ByteArray×Nat} {q:T×Nat} (K:List ByteArray) (L:List T) (hk:oM s o i=some p) (hq:f p.2=some q) (h:cB s (sk s q.2)=44) :
  (yL f s o (m+1) i).map (L6 K L)=(yL f s o m (sk s q.2+1)).map (L6 (if o=true then K++[p.1] else K) (L++[q.1])):=by
 rw [yL,hk];simp only [Option.bind_some];rw [hq];simp only [Option.bind_some];rw [if_pos h,Option.map_map]
 congr 1
 funext r
 cases o<;>simp [L6,app]
theorem I6 {f:Nat->Option (T×Nat)} {s:ByteArray} {o:Bool} {m i:Nat} {p:ByteArray×Nat} {q:T×Nat} (K:List ByteArray) (L:List T) (hk:oM s o i=some p) (hq:f p.2=some q) (h:cB s (sk s q.2)=cl o) :
  (yL f s o (m+1) i).map (L6 K L)=some (((if o=true then K++[p.1] else K),L++[q.1]),sk s q.2+1):=by
 rw [yL,hk];simp only [Option.bind_some];rw [hq];simp only [Option.bind_some];have Iu:cB s (sk s q.2)≠44:=by rw [h];cases o<;>decide
 rw [if_neg Iu,if_pos h];cases o<;>simp [L6,app]
theorem I7 {f:Nat->Option (T×Nat)} {s:ByteArray} {o:Bool} {m i:Nat} {p:ByteArray×Nat} {q:T×Nat} (hk:oM s o i=some p) (hq:f p.2=some q) (h:cB s (sk s q.2)≠44) (h2:cB s (sk s q.2)≠cl o) :
  yL f s o (m+1) i=none:=by
 rw [yL,hk];simp only [Option.bind_some];rw [hq];simp only [Option.bind_some];rw [if_neg h,if_neg h2]
def Ar (a:Nat) (l:List UInt8):Nat:=l.foldl (fun n c=>n*10+(c.toNat - 48)) a
theorem ku (a:Nat) (c:UInt8) (r:List UInt8):Ar a (c::r)=Ar (a*10+(c.toNat - 48)) r:=List.foldl_cons ..
theorem mP (a:Nat):Ar a []=a:=List.foldl_nil ..
theorem yM (a:Nat) (x y:List UInt8):Ar a (x++y)=Ar (Ar a x) y:=by
 induction x generalizing a with
 | nil=>rw [mP,List.nil_append]
 | cons c x ih=>rw [List.cons_append,ku,ku];exact ih _
theorem YJ (l:List UInt8):∀ (a:Nat),a<=Ar a l:=by
 induction l with
 | nil=>intro a;rw [mP];exact Nat.le_refl _
 | cons c r ih =>
  intro a;have:=ih (a*10+(c.toNat - 48));rw [ku];omega
def FV (l:List UInt8):Prop:=∀ c ∈ l,48<=c.toNat/\c.toNat<=57
theorem vZ (l:List UInt8):∀ (a:Nat),FV l->a<18446744073709551616->Lib.parseUint10 a l=if Ar a l<18446744073709551616 then .ok (Ar a l) else .range:=by
 induction l with
 | nil =>
  intro a _ ha;rw [Lib.parseUint10,mP,if_pos ha]
 | cons c r ih =>
  intro a h ha;have hc:=h c (by simp);have hr:FV r:=fun x hx=>h x (by simp [hx]);have hg:=YJ r (a*10+(c.toNat - 48));rw [Lib.parseUint10,ku,if_pos hc];generalize hd:c.toNat - 48=d at *;by_cases h1:1844674407370955162<=a
  ·rw [if_pos h1,if_neg (by omega)]
  ·rw [if_neg h1];by_cases h2:18446744073709551616<=a*10+d
   ·rw [if_pos h2,if_neg (by omega)]
   ·rw [if_neg h2];exact ih _ hr (by omega)
theorem I8 (s:ByteArray) (d k:Nat) (h:d+k<s.size):(s.data.toList.drop d).take (k+1)=(s.data.toList.drop d).take k++[s.data.toList[d+k]'h]:=by
 have hl:k<(s.data.toList.drop d).length:=by
  rw [List.length_drop];have:s.data.toList.length=s.size:=rfl;omega
 rw [List.take_succ_eq_append_getElem hl,List.getElem_drop]
theorem O8 (s:ByteArray) (i:Nat) (h:i<s.size):(s.data.toList[i]'h).toNat=bt s i:=by
 rw [sZ];have hl:i<s.data.toList.length:=h;rw [List.getD_eq_getElem?_getD,List.getElem?_eq_getElem hl];rfl
theorem FW (s:ByteArray) (d:Nat):∀ k,d+k<=s.size->Ar 0 ((s.data.toList.drop d).take k)=dv s d k
 | 0,_=>by rw [List.take_zero,mP,dv]
 | k+1,h=>by
  rw [I8 s d k (by omega),yM,FW s d k (by omega),dv,vS (by omega)];rw [ku,mP,O8]
theorem yN {s:ByteArray} {d:Nat}:∀ k,d+k<=s.size->(∀ j,d<=j->j<d+k->pz (cB s j)=true)->FV ((s.data.toList.drop d).take k)
 | 0,_,_=>by intro c hc;simp at hc
 | k+1,h,hd=>by
  rw [I8 s d k (by omega)];intro c hc;rw [List.mem_append] at hc;rcases hc with hc | hc
  ·exact yN k (by omega) (fun j h1 h2=>hd j h1 (by omega)) c hc
  ·simp only [List.mem_singleton] at hc;subst hc;have h1:=hd (d+k) (by omega) (by omega);rw [vS (by omega)] at h1;rw [O8];unfold pz at h1;simp at h1;exact h1
theorem L8 {s:ByteArray} {i:Nat} (hi:cB s i=45\/pz (cB s i)=true) (hz:¬ (gq s i+1<dg s (gq s i)/\cB s (gq s i)=48)) :
  (∃ v,Lib.parseIntB 64 (s.extract i (dg s (gq s i))).data.toList=.ok v/\qY s i=some (v,dg s (gq s i)))\/((Lib.parseIntB 64 (s.extract i (dg s (gq s i))).data.toList=.«syntax»\/Lib.parseIntB 64 (s.extract i (dg s (gq s i))).data.toList=.range)/\qY s i=none):=by
 have hc:cB s i<256:=by
  rcases hi with h | h
  ·omega
  ·unfold pz at h;simp at h;omega
 have hi0:=eH hc;have hs:gq s i<=s.size/\i<=gq s i:=by unfold gq;split<;>omega
 have h1:=TT s (gq s i);have h2:=TU hs.1;have hall:∀ j,gq s i<=j->j<dg s (gq s i)->pz (cB s j)=true:=fun j a b=>IY vU s _ _ j (Nat.le_refl _) a b;rw [Lib.parseIntB_64]
 have hl:(s.extract i (dg s (gq s i))).data.toList=(s.data.toList.drop i).take (dg s (gq s i) - i):=by
  have e:dg s (gq s i)=i+(dg s (gq s i) - i):=by omega
  rw [e,kU]
  congr 1
  omega
 rw [hl];have hdig:=yN (s:=s) (d:=gq s i) (dg s (gq s i) - gq s i) (by omega) (fun j a b=>hall j a (by omega));have hdv:=FW s (gq s i) (dg s (gq s i) - gq s i) (by omega);have hx:(s.data.toList[i]'hi0).toNat=cB s i:=by rw [O8,vS hi0]
 unfold qY;by_cases h45:cB s i=45
 ·have e1:gq s i=i+1:=by unfold gq;rw [if_pos h45]
  have TW:(s.data.toList.drop i).take (dg s (gq s i) - i)=s.data.toList[i]'hi0::(s.data.toList.drop (gq s i)).take (dg s (gq s i) - gq s i):=by
   have e2:dg s (gq s i) - i=(dg s (gq s i) - gq s i)+1:=by omega
   rw [e2,List.drop_eq_getElem_cons (h:=hi0),List.take_succ_cons,e1]
  rw [TW];simp only [Lib.atoiAll,hx];rw [if_pos (Or.inr h45)];by_cases h0:dg s (gq s i)=gq s i
  ·rw [if_pos h0];have e3:dg s (gq s i) - gq s i=0:=by omega
   rw [e3]
   right
   simp [Lib.parseMag]
  ·rw [if_neg h0,if_neg hz,if_pos h45]
   have hne:(s.data.toList.drop (gq s i)).take (dg s (gq s i) - gq s i)≠[]:=by
    intro e;have:=congrArg List.length e;rw [List.length_take,List.length_drop] at this;have hl:s.data.toList.length=s.size:=rfl;simp only [List.length_nil] at this;omega
   simp only [Lib.parseMag];rw [if_neg hne,vZ _ _ hdig (by omega),hdv];generalize dv s (gq s i) (dg s (gq s i) - gq s i)=m;by_cases hm:m<18446744073709551616
   ·rw [if_pos hm];simp only [h45,not_true_eq_false,false_and,if_false,true_and,if_true];by_cases hm2:m<=9223372036854775808
    ·rw [if_neg (by omega),if_pos hm2];exact .inl ⟨_,rfl,rfl⟩
    ·rw [if_pos (by omega),if_neg hm2];exact .inr ⟨.inr rfl,rfl⟩
   ·rw [if_neg hm,if_neg (by omega)];exact .inr ⟨.inr rfl,rfl⟩
 ·have hd:pz (cB s i)=true:=by
   rcases hi with h | h
   ·exact absurd h h45
   ·exact h
  have e1:gq s i=i:=by unfold gq;rw [if_neg h45]
  rw [e1] at hdig hdv hz h1 h2 ⊢
  have h0:dg s i≠i:=by
   unfold dg;rw [jw vU,if_pos hd];have:=FQ pz s (i+1);omega
  have hne:(s.data.toList.drop i).take (dg s i - i)≠[]:=by
   intro e;have:=congrArg List.length e;rw [List.length_take,List.length_drop] at this;have hl:s.data.toList.length=s.size:=rfl;simp only [List.length_nil] at this;omega
  obtain ⟨rest,TW⟩:∃ rest,(s.data.toList.drop i).take (dg s i - i)=s.data.toList[i]'hi0::rest:=by
   obtain ⟨q,hq⟩:∃ q,dg s i - i=q+1:=⟨dg s i - i - 1,by omega⟩;rw [hq,List.drop_eq_getElem_cons (h:=hi0),List.take_succ_cons];exact ⟨_,rfl⟩
  rw [TW] at hdig hdv hne ⊢;simp only [Lib.atoiAll,hx]
  have hn:¬ (cB s i=43\/cB s i=45):=by
   unfold pz at hd;simp at hd;omega
  rw [if_neg hn,if_neg h0,if_neg hz,if_neg h45];simp only [Lib.parseMag];rw [if_neg hne,vZ _ _ hdig (by omega),hdv];generalize dv s i (dg s i - i)=m;by_cases hm:m<18446744073709551616
  ·rw [if_pos hm];simp only [h45,not_false_eq_true,true_and,false_and,if_false];by_cases hm2:m<9223372036854775808
   ·rw [if_neg (by omega),if_pos hm2];exact .inl ⟨_,rfl,rfl⟩
   ·rw [if_pos (by omega),if_neg hm2];exact .inr ⟨.inr rfl,rfl⟩
  ·rw [if_neg hm,if_neg (by omega)];exact .inr ⟨.inr rfl,rfl⟩
theorem abz {a b:ByteArray} (h:a.data.toList=b.data.toList):a=b:=by
 cases a;cases b;simp only [ByteArray.mk.injEq];exact Array.toList_inj.1 h
theorem I9 (s:ByteArray) (i:Nat) (t:ByteArray) (hi:i<=s.size):Lib.hasPrefix (oK s i).data.toList t.data.toList=zV s i t:=by
 rw [<- Lib.hasPrefix_of_take,vV];unfold zV;have ht:t.data.toList.length=t.size:=rfl;have hs:(s.data.toList.drop i).length=s.size - i:=by rw [List.length_drop];rfl
 rw [ht,hs]
 have e1:decide (t.size<=s.size - i)=decide (i+t.size<=s.size):=by
  apply decide_eq_decide.2;omega
 rw [e1,<- kU]
 congr 1
 by_cases e:s.extract i (i+t.size)=t
 ·rw [e];simp
 ·have h1:decide (s.extract i (i+t.size)=t)=false:=by simpa using e
  rw [h1];apply beq_false_of_ne;exact fun h=>e (abz h)
theorem TY {s:ByteArray} {i:Nat} {t:ByteArray} {c:UInt8} {r:List UInt8} (ht:t.data.toList=c::r) (h:zV s i t=true):cB s i=c.toNat:=by
 unfold zV at h;simp only [Bool.and_eq_true,decide_eq_true_eq] at h
 have hz:t.size=r.length+1:=by
  have:t.data.toList.length=t.size:=rfl;rw [ht] at this;simpa using this.symm
 have hi:i<s.size:=by omega
 have hl:=congrArg (fun x=>x.data.toList) h.2;rw [kU,ht,hz,List.drop_eq_getElem_cons (h:=hi),List.take_succ_cons] at hl;simp only [List.cons.injEq] at hl;rw [vS hi,<- O8 s i hi,hl.1]
def nZ (s:ByteArray):Option T:=(dh s (s.size+1) 0).bind fun p=>if sk s p.2=s.size then some p.1 else none
def eJ (s:ByteArray):Int:=if 4000<s.size then 1 else ((nZ s).map fun t=>if 12<eF (s.size+1) t then (3:Int) else if dZ (s.size+1) t=true then 4 else 0).getD 2
def tJ (s:ByteArray):T:=if eJ s=0 then (nZ s).getD (cK 0 0 ByteArray.empty) else cK 0 0 ByteArray.empty
def qg (p:Nat->Prop) (w:World):Nat->Value->T->Prop
 | 0,_,_=>False
 | f+1,v,t=>∃ (La Ka:Option Addr) (Lc Kc:Nat),
   v=.agg #[.int .i64 (ah t),.int .i64 (au t),.string (ay t),.slice La (nL t) Lc,.slice Ka (nK t) Kc]/\zk t /\
   (∀ i,i<nL t->∃ b o c0 c1 c2 c3 c4,La=some ⟨b,o,none⟩/\(b<w.heap.size/\p b)/\w.cell? ⟨b,o+i*5,none⟩=some c0/\w.cell? ⟨b,o+i*5+1,none⟩=some c1/\w.cell? ⟨b,o+i*5+2,none⟩=some c2/\w.cell? ⟨b,o+i*5+3,none⟩=some c3/\w.cell? ⟨b,o+i*5+4,none⟩=some c4/\qg p w f (.agg #[c0,c1,c2,c3,c4]) (elt t i)) /\
   (∀ i,i<nK t->∃ b o,Ka=some ⟨b,o,none⟩/\(b<w.heap.size/\p b)/\(bR t i).size<=140737488355328/\w.cell? ⟨b,o+i,none⟩=some (.string (bR t i)))
theorem aC {w w':World} {b:Nat} (h:w'.heap[b]?=w.heap[b]?) (o:Nat):w'.cell? ⟨b,o,none⟩=w.cell? ⟨b,o,none⟩:=World.cell?_of_block (w:=w) h
theorem qg.move {p q:Nat->Prop} {w w':World} (hs:w.heap.size<=w'.heap.size) (hq:∀ b,b<w.heap.size->p b->q b/\w'.heap[b]?=w.heap[b]?):∀ {f:Nat} {v:Value} {t:T},qg p w f v t->qg q w' f v t:=by
 intro f
 induction f with
 | zero=>intro v t h;exact h
 | succ f ih =>
  rintro v t ⟨La,Ka,Lc,Kc,rfl,hf,hl,hk⟩;refine ⟨La,Ka,Lc,Kc,rfl,hf,fun i hi=>?_,fun i hi=>?_⟩
  ·obtain ⟨b,o,c0,c1,c2,c3,c4,h0,⟨hb,hp⟩,q0,q1,q2,q3,q4,ha⟩:=hl i hi;obtain ⟨hq1,hq2⟩:=hq b hb hp;exact ⟨b,o,c0,c1,c2,c3,c4,h0,⟨Nat.lt_of_lt_of_le hb hs,hq1⟩,(aC hq2 _).trans q0,(aC hq2 _).trans q1,(aC hq2 _).trans q2,(aC hq2 _).trans q3,(aC hq2 _).trans q4,ih ha⟩
  ·obtain ⟨b,o,h0,⟨hb,hp⟩,hz,q0⟩:=hk i hi;obtain ⟨hq1,hq2⟩:=hq b hb hp;exact ⟨b,o,h0,⟨Nat.lt_of_lt_of_le hb hs,hq1⟩,hz,(aC hq2 _).trans q0⟩
theorem qg.at {p:Nat->Prop} {w:World}:∀ {f:Nat} {v:Value} {t:T},qg p w f v t->At w f v t:=by
 intro f
 induction f with
 | zero=>intro v t h;exact h
 | succ f ih =>
  rintro v t ⟨La,Ka,Lc,Kc,rfl,hf,hl,hk⟩;refine ⟨La,Ka,Lc,Kc,rfl,hf,fun i hi=>?_,fun i hi=>?_⟩
  ·obtain ⟨b,o,c0,c1,c2,c3,c4,h0,hb,q0,q1,q2,q3,q4,ha⟩:=hl i hi;exact ⟨b,o,c0,c1,c2,c3,c4,h0,hb.1,q0,q1,q2,q3,q4,ih ha⟩
  ·obtain ⟨b,o,h0,hb,hz,q0⟩:=hk i hi;exact ⟨b,o,h0,hb.1,hz,q0⟩
theorem At.atP {w:World}:∀ {f:Nat} {v:Value} {t:T},At w f v t->qg (fun b=>b<w.heap.size) w f v t:=by
 intro f
 induction f with
 | zero=>intro v t h;exact h
 | succ f ih =>
  rintro v t ⟨La,Ka,Lc,Kc,rfl,hf,hl,hk⟩;refine ⟨La,Ka,Lc,Kc,rfl,hf,fun i hi=>?_,fun i hi=>?_⟩
  ·obtain ⟨b,o,c0,c1,c2,c3,c4,h0,hb,q0,q1,q2,q3,q4,ha⟩:=hl i hi;exact ⟨b,o,c0,c1,c2,c3,c4,h0,⟨hb,hb⟩,q0,q1,q2,q3,q4,ih ha⟩
  ·obtain ⟨b,o,h0,hb,hz,q0⟩:=hk i hi;exact ⟨b,o,h0,⟨hb,hb⟩,hz,q0⟩
def iU (t:T) (A:Option Addr) (B:Nat) (C:Option Addr) (D:Nat):Value:=.agg #[.int .i64 (ah t),.int .i64 (au t),.string (ay t),.slice A (nL t) B,.slice C (nK t) D]
def uE (w:World) (b n:Nat):Prop:=b<w.heap.size/\∀ o,o<n->(w.cell? ⟨b,o,none⟩).isSome=true/\w.frozen? ⟨b,o,none⟩=false
theorem uE.move {w w':World} {b n:Nat} (h:uE w b n) (hs:w.heap.size<=w'.heap.size) (hb:w'.heap[b]?=w.heap[b]?):uE w' b n :=
 ⟨Nat.lt_of_lt_of_le h.1 hs,fun o ho=>⟨by rw [aC hb];exact (h.2 o ho).1,by rw [World.frozen?_of_block (w:=w) (a:=⟨b,o,none⟩) hb];exact (h.2 o ho).2⟩⟩
theorem uE.set {w:World} {b n:Nat} (h:uE w b n) (c o:Nat) (u:Value):uE (w.setCell ⟨c,o,none⟩ u) b n:=by
 refine ⟨by simp [World.setCell];exact h.1,fun k hk=>⟨?_,by rw [World.frozen?_setCell];exact (h.2 k hk).2⟩⟩;by_cases e:(⟨c,o,none⟩:Addr)=⟨b,k,none⟩
 ·obtain ⟨v,hv⟩:=Option.isSome_iff_exists.1 (h.2 k hk).1;rw [<- e] at hv ⊢;rw [World.cell?_setCell_same _ _ _ hv];rfl
 ·rw [World.cell?_setCell_other _ _ _ _ e];exact (h.2 k hk).1
theorem mQ {w:World} {b n o:Nat} (h:uE w b n) (ho:o<n) (u:Value):(w.setCell ⟨b,o,none⟩ u).cell? ⟨b,o,none⟩=some u:=by
 obtain ⟨v,hv⟩:=Option.isSome_iff_exists.1 (h.2 o ho).1;exact World.cell?_setCell_same _ _ _ hv
theorem aG {w:World} {b c o k:Nat} (h:b≠c\/o≠k) (u:Value):(w.setCell ⟨b,o,none⟩ u).cell? ⟨c,k,none⟩=w.cell? ⟨c,k,none⟩ :=
 World.cell?_setCell_other _ _ _ _ (fun e=>by simp only [Addr.mk.injEq] at e;rcases h with h | h;exact h e.1;exact h e.2.1)
end Go.Proofs.YtknakfpciccoaabGreatDoor
